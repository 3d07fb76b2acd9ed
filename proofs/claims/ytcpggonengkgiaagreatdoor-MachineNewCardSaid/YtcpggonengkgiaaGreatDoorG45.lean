/- Words and walks: McNw. -/
import Derived.Test.YtcpggonengkgiaaGreatDoorG44
/- MachineNew. -/
namespace Go.Proofs.YtcpggonengkgiaaGreatDoor
open Go Go.RowKit Go.Deep
set_option maxRecDepth 8000
theorem refMay_ok (w : World) (p c : Int) (h1 : 1 ≤ p) (h2 : p ≤ 5) (h3 : 1 ≤ c) (h4 : c ≤ 1048576) :
    Calls Tryz.prog 23 #[.int .i64 p, .int .i64 c] w fun e w' => e = .returned (.int .i64 0) ∧ w = w' := by
  go_enter Tryz.func23, Tryz.ntmps23
  go_wp2
  go_ret
  exact ⟨rfl, rfl⟩
theorem refMay_policy (w : World) (p c : Int) (h : p < 1 ∨ 5 < p) :
    Calls Tryz.prog 23 #[.int .i64 p, .int .i64 c] w fun e w' => e = .returned (.int .i64 1) ∧ w = w' := by
  by_cases h1 : p < 1
  · go_enter Tryz.func23, Tryz.ntmps23
    go_wp2
    go_ret
    exact ⟨rfl, rfl⟩
  · have h2 : 5 < p := by omega
    go_enter Tryz.func23, Tryz.ntmps23
    go_wp2
    go_ret
    exact ⟨rfl, rfl⟩
theorem refMay_capacity (w : World) (p c : Int) (h1 : 1 ≤ p) (h2 : p ≤ 5) (h : c < 1 ∨ 1048576 < c) :
    Calls Tryz.prog 23 #[.int .i64 p, .int .i64 c] w fun e w' => e = .returned (.int .i64 2) ∧ w = w' := by
  by_cases h3 : c < 1
  · go_enter Tryz.func23, Tryz.ntmps23
    go_wp2
    go_ret
    exact ⟨rfl, rfl⟩
  · have h4 : 1048576 < c := by omega
    go_enter Tryz.func23, Tryz.ntmps23
    go_wp2
    go_ret
    exact ⟨rfl, rfl⟩
theorem new_of (t : Nat) (n : Int) (h1 : 1 ≤ t) (h5 : t ≤ 5) (hn1 : 1 ≤ n) (hn2 : n ≤ 1048576) : (PS.new t n).tag = t ∧ (PS.new t n).ghosts = 0 ∧ (PS.new t n).keys = [] ∧ ((PS.new t n).cap : Int) = n := by
  have hc : ((capI n : Nat) : Int) = n := by
    unfold capI
    rw [if_neg (by omega), if_neg (by omega)]
    omega
  rcases (by omega : t = 1 ∨ t = 2 ∨ t = 3 ∨ t = 4 ∨ t = 5) with rfl | rfl | rfl | rfl | rfl <;> exact ⟨rfl, rfl, rfl, hc⟩
set_option maxHeartbeats 3000000 in
theorem machineNew_good (A : AllOk) {w : World} (hE : ErrT w) (q : Nat) (n : Int) (h1 : 1 ≤ q) (h5 : q ≤ 5) (hn1 : 1 ≤ n) (hn2 : n ≤ 1048576) : Calls Tryz.prog 4 #[.int .i64 (q : Nat), .int .i64 n] w (RetB w true) := by
  obtain ⟨e1, e2, e3, e4⟩ := new_of q n h1 h5 hn1 hn2
  have HA := Lib.hid A
  have K0 := Lib.hid (awake13 A hE)
  clear hE
  go_enter Tryz.func4, Tryz.ntmps4
  go_wp2_with fail
  refine K0.out.mono ?_
  rintro e w0 ⟨rfl, hb0⟩
  have HL0 := Lib.hid hb0
  have K1 := Lib.hid (new13_walk (w := w0) A q n h1 h5 hn1 hn2)
  clear hb0 K0
  go_wp2_with fail
  refine K1.out.mono ?_
  rintro e w1 ⟨x1, rfl, hb1, hs1⟩
  have t1 := st1 w1 x1
  have HL1 := Lib.hid ((HL0.out.trans (hb1.mono HL0.out.size)).trans (t1.low.mono (Nat.le_trans HL0.out.size hb1.size)))
  have HS1 := Lib.hid (hs1.below t1.low)
  have HB1 := Lib.hid t1.box
  obtain ⟨V1, hV1⟩ : ∃ V, ((w1.alloc (.cells z13 PT13)).setCells w1.heap.size 0 x1.C.toList) = V := ⟨_, rfl⟩
  rw [hV1] at HL1 HS1 HB1
  have K2 := Lib.hid (refMay_ok V1 (q : Nat) n (by omega) (by omega) hn1 hn2)
  have KC := capacity13_walk A HS1.out (M13.ok_new q n)
  have l1 := load24 HB1.out
  have e5 : x1.p = (q : Nat) := by
    have := HS1.out.pol.is.1
    rw [this]
    exact congrArg Nat.cast e1
  obtain ⟨y0, -⟩ := box_cells HB1.out
  rw [e5] at y0
  obtain ⟨c1, hc1⟩ : ∃ c, x1.C = c := ⟨_, rfl⟩
  rw [show ((M13.new q n).ps.cap : Int) = n from e4, hc1] at KC
  rw [hc1] at t1 hV1 l1
  have T1 := Lib.hid t1
  have R1 := Lib.hid l1
  have HC1 := Lib.hid hc1
  have KC := Lib.hid KC
  clear K1 hb1 hs1 t1 l1 hc1 HL0
  go_upto_region 3 with (refine wpList_store_mid rfl PT13 (.tmp 6) (.tmp 13) rfl w1.heap.size 0 c1 rfl (congrArg Value.agg HC1.out) T1.out.th T1.out.inf T1.out.one ?_)
  try rw [hV1]
  clear hV1 T1 A
  go_wp2_with fail
  refine K2.out.mono ?_
  rintro e w2 ⟨rfl, rfl⟩
  go_wp2_with (refine wpList_load_mid_g (by rfl) PT13 (.tmp 6) rfl w1.heap.size 0 rfl c1.toList _ R1.out.1 Tryz.underlying42 rfl R1.out.2 ?_)
  refine KC.out.mono ?_
  rintro e w3 ⟨rfl, hb3⟩
  have HB3 := Lib.hid ((hb3.block _ (head_row HB1.out).lt).trans HB1.out)
  have HS3 := Lib.hid (HS1.out.below hb3)
  have HL3 := Lib.hid (HL1.out.trans (hb3.mono HL1.out.size))
  have KK := keys13_walk HA.out HS3.out (M13.ok_new q n)
  have l3 := load24 HB3.out
  rw [HC1.out] at KK l3
  rw [show (M13.new q n).ps.keys = [] from e3] at KK
  have R3 := Lib.hid l3
  have KK := Lib.hid KK
  clear hb3 l3 KC K2 R1 HB1 HS1 HL1 y0
  go_wp2_with (refine wpList_load_mid_g (by rfl) PT13 (.tmp 6) rfl w1.heap.size 0 rfl c1.toList _ R3.out.1 Tryz.underlying42 rfl R3.out.2 ?_)
  refine KK.out.mono ?_
  rintro e w4 ⟨v4, rfl, hb4, hk4⟩
  obtain ⟨F4, d4, rfl⟩ : ∃ F d, v4 = .slice F 0 d := by
    obtain ⟨F, d, e, -⟩ := hk4.mem
    exact ⟨F, d, e⟩
  have HB4 := Lib.hid ((hb4.block _ (head_row HB3.out).lt).trans HB3.out)
  have HS4 := Lib.hid (HS3.out.below hb4)
  have HL4 := Lib.hid (HL3.out.trans (hb4.mono HL3.out.size))
  have KG := ghosts13_walk HA.out HS4.out (M13.ok_new q n)
  have l4 := load24 HB4.out
  rw [HC1.out] at KG l4
  rw [show (M13.new q n).ps.ghosts = 0 from e2] at KG
  have R4 := Lib.hid l4
  have KG := Lib.hid KG
  clear hb4 hk4 l4 KK R3 HB3 HS3 HL3
  go_wp2_with (refine wpList_load_mid_g (by rfl) PT13 (.tmp 6) rfl w1.heap.size 0 rfl c1.toList _ R4.out.1 Tryz.underlying42 rfl R4.out.2 ?_)
  refine KG.out.mono ?_
  rintro e w5 ⟨rfl, hb5⟩
  have HB5 := Lib.hid ((hb5.block _ (head_row HB4.out).lt).trans HB4.out)
  have HL5 := Lib.hid (HL4.out.trans (hb5.mono HL4.out.size))
  obtain ⟨-, -, -, -, -, -, -, -, -, -, -, -, -, -, -, -, -, -, -, -, -, y21, y22, y23⟩ := box_cells HB5.out
  rw [show x1.hi = ((0 : Nat) : Int) from HS4.out.hi] at y21
  rw [show x1.mi = ((0 : Nat) : Int) from HS4.out.mi] at y22
  rw [show x1.ev = ((0 : Nat) : Int) from HS4.out.ev] at y23
  clear hb5 KG R4 HB4 HS4 HL4
  go_wp2_with fail
  exact bodyPost_ret (v := .bool true) (by simp [results, Tryz.results4]) rfl ⟨rfl, HL5.out⟩
set_option maxHeartbeats 3000000 in
theorem machineNew_bad (A : AllOk) {w : World} (hE : ErrT w) (p n : Int) (f : ByteArray) (k : Int) (d : Int) (hd : d ≠ 0) (KB : ∀ w, Calls Tryz.prog 46 #[.int .i64 p, .int .i64 n] w (MayBad w f k)) (KR : ∀ w : World, Calls Tryz.prog 23 #[.int .i64 p, .int .i64 n] w fun e w' => e = .returned (.int .i64 d) ∧ w = w') : Calls Tryz.prog 4 #[.int .i64 p, .int .i64 n] w (RetB w true) := by
  have K0 := Lib.hid (awake13 A hE)
  have KB := Lib.hid KB
  have KR := Lib.hid KR
  obtain ⟨c1, hc1⟩ : ∃ c, (x13 0).C = c := ⟨_, rfl⟩
  have HC1 := Lib.hid hc1
  clear hE hc1
  go_enter Tryz.func4, Tryz.ntmps4
  go_wp2_with fail
  refine K0.out.mono ?_
  rintro e w0 ⟨rfl, hb0⟩
  have HL0 := Lib.hid hb0
  have K1 := Lib.hid (new13_bad (w := w0) p n f k (KB.out _))
  clear hb0 K0
  go_wp2_with fail
  refine K1.out.mono ?_
  rintro e w1 ⟨ba, rfl, hbad, hb1⟩
  have t1 := st1 w1 (x13 0)
  have HL1 := Lib.hid ((HL0.out.trans (hb1.mono HL0.out.size)).trans (t1.low.mono (Nat.le_trans HL0.out.size hb1.size)))
  have HB1 := t1.box
  have gbad := hbad.below t1.low hbad.lt
  obtain ⟨V1, hV1⟩ : ∃ V, ((w1.alloc (.cells z13 PT13)).setCells w1.heap.size 0 (x13 0).C.toList) = V := ⟨_, rfl⟩
  rw [hV1] at HL1 HB1 gbad
  have KI := Lib.hid (is_chain V1 1 (.iface 212 (.pointer (some ⟨ba, 0, none⟩))) 1 1 ⟨_, _, _, _, rfl, gbad, rfl⟩ true rfl)
  obtain ⟨y0, -, -, -, -, -, -, -, -, -, -, -, -, -, -, -, -, -, -, -, y20, -⟩ := zero_cells (show V1.heap[w1.heap.size]? = some (.cells z13 PT13 (0, 0)) from HB1)
  rw [HC1.out] at t1 hV1
  have T1 := Lib.hid t1
  have K2 := Lib.hid (KR.out V1)
  clear K1 hb1 t1 HL0 HB1 gbad hbad KB KR
  go_upto_region 3 with (refine wpList_store_mid rfl PT13 (.tmp 6) (.tmp 13) rfl w1.heap.size 0 c1 rfl (congrArg Value.agg HC1.out) T1.out.th T1.out.inf T1.out.one ?_)
  try rw [hV1]
  clear hV1 T1
  go_wp2_with fail
  refine K2.out.mono ?_
  rintro e w2 ⟨rfl, rfl⟩
  go_wp2_with fail
  refine KI.out.mono ?_
  rintro e w3 ⟨rfl, rfl⟩
  go_wp2_with fail
  exact bodyPost_ret (v := .bool true) (by simp [results, Tryz.results4]) rfl ⟨rfl, HL1.out⟩
theorem machineNew_walk (A : AllOk) {w : World} (hE : ErrT w) (p n : Int) : Calls Tryz.prog 4 #[.int .i64 p, .int .i64 n] w (RetB w true) := by
  by_cases hp : 1 ≤ p ∧ p ≤ 5
  · by_cases hn : 1 ≤ n ∧ n ≤ 1048576
    · obtain ⟨q, rfl⟩ : ∃ q : Nat, p = q := ⟨p.toNat, by omega⟩
      exact machineNew_good A hE q n (by omega) (by omega) hn.1 hn.2
    · exact machineNew_bad A hE p n sCapacity n 2 (by decide) (fun w => may_capacity w p n hp.1 hp.2 (by omega)) (fun w => refMay_capacity w p n hp.1 hp.2 (by omega))
  · exact machineNew_bad A hE p n sPolicy p 1 (by decide) (fun w => may_policy w p n (by omega)) (fun w => refMay_policy w p n (by omega))
end Go.Proofs.YtcpggonengkgiaaGreatDoor
