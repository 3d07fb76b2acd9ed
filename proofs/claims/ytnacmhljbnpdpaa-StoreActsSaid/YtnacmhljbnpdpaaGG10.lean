/- Words and walks for layer 6: SsR. -/
import Derived.Test.YtnacmhljbnpdpaaGG9
/- StoreActs, StoreFinds, walked. -/
namespace Go.Proofs.Ytnacmhljbnpdpaa
open Go Go.RowKit Go.Deep

set_option maxHeartbeats 2000000 in
theorem acts6_short (w : World) (q : Nat) (hq : q < 256) (A : Option Addr) (n c : Nat) (l : Nat → Act6) (hn : n ≤ 50) (ha : Acts6 w A n l) :
    Calls Try.prog 3 #[.int .u8 (q : Nat), .slice A n c] w fun e w' => e = .returned (.bool true) ∧ Below w.heap.size w w' := by
  have HA := Lib.hid ha
  clear ha
  go_enter Try.func3, Try.ntmps3
  go_wp2_with fail
  refine (awake_walk _).mono ?_
  rintro e w1 ⟨rfl, h⟩
  have B1 := Lib.hid h; clear h
  go_wp2_with fail
  refine (run_walk B1.out q hq A n c l hn HA.out).mono ?_
  rintro e w2 ⟨sp, Q, m, U, most, o, oc, gu, cu, Kd, rfl, hs, hr, hm⟩
  have ba := (Below.refl w2.heap.size w2).alloc (Nat.le_refl _) (.cells (refSC o (1 + q % 4) oc m gu U.n cu) 30)
  have HSM := Lib.hid (same_walk (hs.still ba).1 (hr.below ba) (by omega))
  have HB := Lib.hid ((hs.still ba).1.below)
  have h3 := hs.ok.eight
  clear hs hr ba
  generalize 1 + q % 4 = nq at HSM HB h3 ⊢
  go_wp2_with fail
  refine HSM.out.mono ?_
  rintro e w3 ⟨rfl, hb⟩
  have HZ := Lib.hid (HB.out.trans (hb.mono HB.out.size))
  clear hb
  go_wp2
  go_ret
  exact ⟨rfl, HZ.out⟩
theorem acts6_long (w : World) (q : Nat) (A : Option Addr) (n c : Nat) (hn : 50 < n) :
    Calls Try.prog 3 #[.int .u8 (q : Nat), .slice A n c] w fun e w' => e = .returned (.bool true) ∧ Below w.heap.size w w' := by
  have h1 : (50 : Int) < (n : Int) := by omega
  go_enter Try.func3, Try.ntmps3
  go_wp2_with fail
  refine (awake_walk _).mono ?_
  rintro e w1 ⟨rfl, h⟩
  have B1 := Lib.hid h
  clear h
  go_wp2
  go_ret
  exact ⟨rfl, B1.out⟩
theorem storeActs_walk (w : World) (q : Nat) (hq : q < 256) (A : Option Addr) (n c : Nat) (l : Nat → Act6) (ha : Acts6 w A n l) :
    Calls Try.prog 3 #[.int .u8 (q : Nat), .slice A n c] w fun e w' => e = .returned (.bool true) ∧ Below w.heap.size w w' := by
  by_cases hn : n ≤ 50
  · exact acts6_short w q hq A n c l hn ha
  · exact acts6_long w q A n c (by omega)

section
variable {w0 w : World} {sp n m most o oc g c : Nat} {Q : Nat → List Ent} {U : Tb} {K : List Nat}
theorem finds_any (hs : SI w0 w sp n Q m U most K) (hr : RSA w o n oc m g c Q U K) (hm : most ≤ 1000) (k : Nat) (hk : k < 18446744073709551616) : ∃ (tq : Int) (ok : Bool) (x : Ent), ∀ W, Below w.heap.size w W →
    (Calls Try.prog 11 #[ptr sp, .int .u64 (k : Nat)] W fun e w' => e = .returned (.tuple #[.int .i64 tq, .bool ok]) ∧ Below W.heap.size W w') ∧
    (Calls Try.prog 12 #[.agg (refSC o n oc m g U.n c), .int .u64 (k : Nat)] W fun e w' => e = .returned (.tuple #[.int .i64 tq, .bool ok]) ∧ Below W.heap.size W w') ∧
    (Calls Try.prog 13 #[.agg (refSC o n oc m g U.n c), .int .u64 (k : Nat)] W fun e w' => e = .returned (entV x) ∧ Below W.heap.size W w') ∧
    (Calls Try.prog 14 #[ptr sp, .int .u64 (k : Nat)] W fun e w' => e = .returned (.int .u64 (x.val : Nat)) ∧ Below W.heap.size W w') ∧
    (Calls Try.prog 15 #[ptr sp, .int .u64 (k : Nat)] W fun e w' => e = .returned (.int .i64 x.flag) ∧ Below W.heap.size W w') := by
  by_cases hkk : NoKey n Q k
  · refine ⟨0, false, ⟨0, 0, 0⟩, fun W hb => ?_⟩
    have hs' := (hs.still hb).1
    have hr' := hr.below hb
    exact ⟨si_find_out hs' (by omega) k hk hkk, sfind_out hr' k hkk, sget_out hr' k hkk, (si_val_out hs' (by omega) k hk hkk).1, (si_val_out hs' (by omega) k hk hkk).2⟩
  · obtain ⟨t, i, ht, hi, e⟩ := key_at k hkk
    refine ⟨(t : Nat), true, (Q t)[i], fun W hb => ?_⟩
    have hs' := (hs.still hb).1
    have hr' := hr.below hb
    have hu := hs.ok.uq
    have h1 := sfind_in hr' hu t i ht hi
    have h2 := sget_in hr' hu t i ht hi
    rw [e] at h1 h2
    exact ⟨si_find_in hs' (by omega) t i ht hi k e, h1, h2, (si_val_in hs' (by omega) t i ht hi k e).1, (si_val_in hs' (by omega) t i ht hi k e).2⟩
end
set_option maxHeartbeats 4000000 in
set_option maxRecDepth 4000 in
theorem finds6_short (w : World) (q : Nat) (hq : q < 256) (A : Option Addr) (n c : Nat) (l : Nat → Act6) (k : Nat) (hk : k < 18446744073709551616) (hn : n ≤ 50) (ha : Acts6 w A n l) :
    Calls Try.prog 4 #[.int .u8 (q : Nat), .slice A n c, .int .u64 (k : Nat)] w fun e w' => e = .returned (.bool true) ∧ Below w.heap.size w w' := by
  have HA := Lib.hid ha
  clear ha
  go_enter Try.func4, Try.ntmps4
  go_wp2_with fail
  refine (awake_walk _).mono ?_
  rintro e w1 ⟨rfl, h⟩
  have B1 := Lib.hid h; clear h
  go_wp2_with fail
  refine (run_walk B1.out q hq A n c l hn HA.out).mono ?_
  rintro e w2 ⟨sp, Q, m, U, most, o, oc, gu, cu, Kd, rfl, hs, hr, hm⟩
  obtain ⟨tq, ok, x, hall⟩ := finds_any hs hr (by omega) k hk
  have HALL := Lib.hid hall
  have ba := (Below.refl w2.heap.size w2).alloc (Nat.le_refl _) (.cells (refSC o (1 + q % 4) oc m gu U.n cu) 30)
  have HBA := Lib.hid ba
  have HB0 := Lib.hid hs.below
  have HC := Lib.hid (heap_alloc_new w2 (.cells (refSC o (1 + q % 4) oc m gu U.n cu) 30))
  clear hs hr ba hall
  generalize 1 + q % 4 = nq at HALL HBA HC ⊢
  go_wp2_with fail
  refine (HALL.out _ HBA.out).1.mono ?_
  rintro e w3 ⟨rfl, hb⟩
  have H3 := Lib.hid (HBA.out.trans (hb.mono HBA.out.size))
  have HC3 := Lib.hid ((hb.block w2.heap.size (by simp)).trans HC.out)
  obtain ⟨⟨c0, c1, c2⟩, _⟩ := three_at HC3.out
  have hz3 : w2.heap.size < w3.heap.size := by have := hb.size; simp at this; omega
  clear hb
  go_wp2_with fail
  refine (HALL.out _ H3.out).2.1.mono ?_
  rintro e w4 ⟨rfl, hb⟩
  have H4 := Lib.hid (H3.out.trans (hb.mono H3.out.size))
  have HC4 := Lib.hid ((hb.block w2.heap.size hz3).trans HC3.out)
  clear c0 c1 c2
  obtain ⟨⟨c0, c1, c2⟩, _⟩ := three_at HC4.out
  clear hb
  go_wp2_with fail
  refine (HALL.out _ H4.out).2.2.1.mono ?_
  rintro e w5 ⟨rfl, hb⟩
  have H5 := Lib.hid ((H4.out.trans (hb.mono H4.out.size)).alloc (H4.out.trans (hb.mono H4.out.size)).size (.cells #[.int .u64 (x.key : Nat), .int .u64 (x.val : Nat), .int .i64 x.flag] 40))
  have HE := Lib.hid (heap_alloc_new w5 (.cells #[.int .u64 (x.key : Nat), .int .u64 (x.val : Nat), .int .i64 x.flag] 40))
  clear hb c0 c1 c2
  go_upto_region 8 with fail
  generalize hX : w5.alloc (.cells #[.int .u64 (x.key : Nat), .int .u64 (x.val : Nat), .int .i64 x.flag] 40) = X at H5 HE ⊢
  have hX5 : w5.heap.size < X.heap.size := by rw [← hX]; simp
  clear hX
  obtain ⟨⟨x0, x1, x2⟩, _⟩ := three_at HE.out
  have HSS : Hid (∀ w', Below X.drew.heap.size X.drew w' → w'.cell? ⟨w5.heap.size, 1, none⟩ = some (.int .u64 (x.val : Nat)) ∧ w'.cell? ⟨w5.heap.size, 2, none⟩ = some (.int .i64 x.flag)) := Lib.hid (fun w' hb => (three_at ((hb.block w5.heap.size (by exact hX5)).trans HE.out)).1.2)
  have HV := Lib.hid (HALL.out _ H5.out.drew).2.2.2.1
  have HF := Lib.hid (fun (W : World) (hb : Below X.drew.heap.size X.drew W) => (HALL.out W (H5.out.drew.trans (hb.mono H5.out.drew.size))).2.2.2.2)
  clear x0
  go_region_held3 (fun w' => w'.cell? ⟨w5.heap.size, 1, none⟩ = some (.int .u64 (x.val : Nat)) ∧ w'.cell? ⟨w5.heap.size, 2, none⟩ = some (.int .i64 x.flag)) (first | with_reducible exact kk6 | with_reducible exact kk7 | go_keep)
    (first
      | (go_at_call 14; refine HV.out.mono ?_; rintro e w6 ⟨rfl, b6⟩; have kk6 := HSS.out w6 b6)
      | (go_at_call 15; refine (HF.out w6 b6).mono ?_; rintro e w7 ⟨rfl, b7⟩; have bb7 := b6.trans (b7.mono b6.size); have kk7 := HSS.out w7 bb7))
  all_goals
    have HZ := Lib.hid (HB0.out.trans ((H5.out.drew.trans (bb7.mono H5.out.drew.size)).mono HB0.out.size))
    clear kk6 kk7
    go_wp2
    go_ret
    exact ⟨rfl, HZ.out⟩
theorem finds6_long (w : World) (q : Nat) (A : Option Addr) (n c : Nat) (k : Nat) (hn : 50 < n) :
    Calls Try.prog 4 #[.int .u8 (q : Nat), .slice A n c, .int .u64 (k : Nat)] w fun e w' => e = .returned (.bool true) ∧ Below w.heap.size w w' := by
  have h1 : (50 : Int) < (n : Int) := by omega
  go_enter Try.func4, Try.ntmps4
  go_wp2_with fail
  refine (awake_walk _).mono ?_
  rintro e w1 ⟨rfl, h⟩
  have B1 := Lib.hid h
  clear h
  go_wp2
  go_ret
  exact ⟨rfl, B1.out⟩
theorem storeFinds_walk (w : World) (q : Nat) (hq : q < 256) (A : Option Addr) (n c : Nat) (l : Nat → Act6) (k : Nat) (hk : k < 18446744073709551616) (ha : Acts6 w A n l) :
    Calls Try.prog 4 #[.int .u8 (q : Nat), .slice A n c, .int .u64 (k : Nat)] w fun e w' => e = .returned (.bool true) ∧ Below w.heap.size w w' := by
  by_cases hn : n ≤ 50
  · exact finds6_short w q hq A n c l k hk hn ha
  · exact finds6_long w q A n c k (by omega)
end Go.Proofs.Ytnacmhljbnpdpaa
