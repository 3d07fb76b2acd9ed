/- The program's table: Delete. -/
import Derived.Test.YtdolljjfikfhpaaHxZ
import Derived.StillTailTactics
namespace Go.Proofs.Ytdolljjfikfhpaa
open Go Go.RowKit Go.Deep

structure DelInv (w wr : World) (p g : Nat) (T : Tb) (k a m : Nat) : Prop where
  ix : IxT wr p ⟨T.n, (T.back (T.look k) m).2⟩ g T.cnt
  only : Only [p, g] w wr
  beh : BehAt wr p a (a + 1) ((T.look k + (m + 1)) % T.n)
/- All that a step of the shift asks, told ahead of the walk. -/
structure DelStep (T : Tb) (k r m : Nat) : Prop where
  gap : (T.back (T.look k) m).1 < T.n
  at_ : (T.look k + (m + 1)) % T.n < T.n
  full : ((T.back (T.look k) m).2 ((T.look k + (m + 1)) % T.n)).full = decide (m < r)
theorem Tb.Good.del_steps {T : Tb} (gd : T.Good) (k : Nat) (hf : T.there k = true) : ∀ m, m ≤ T.run (T.look k) → DelStep T k (T.run (T.look k)) m := fun _ hm =>
  have hr := gd.ok.run_at (gd.ok.look_lt k) hf
  ⟨hr.back_lt gd.ok hm, Nat.mod_lt _ gd.ok.pos, hr.back_next gd.ok hm⟩
theorem Tb.Good.del_is {T : Tb} (gd : T.Good) (k : Nat) (hf : T.there k = true) :
    T.del k = ⟨T.n, fun i => if i = (T.back (T.look k) (T.run (T.look k))).1 then Sl.no else (T.back (T.look k) (T.run (T.look k))).2 i⟩ ∧ (T.del k).cnt + 1 = T.cnt := by
  have h1 := (gd.del_all k).2.1
  rw [if_pos hf] at h1
  refine ⟨?_, h1⟩
  unfold Tb.del
  rw [if_pos hf]
  exact ((gd.ok.run_at (gd.ok.look_lt k) hf).back_end gd.ok).1

/- To go on behind a step. -/
theorem del_behind {w w5 : World} {p g : Nat} {T : Tb} {k a m r : Nat} (hn : T.n ≤ 100000) (h : IxT w5 p ⟨T.n, (T.back (T.look k) (m + 1)).2⟩ g T.cnt) (hb : BehAt w5 p a (a + 1) ((T.look k + (m + 1)) % T.n)) (ho : Only [p, g] w w5)
    (hlow : w.heap.size ≤ a) (hp : p < w.heap.size) (hg : g < w.heap.size) (st : DelStep T k r m) (st' : DelStep T k r (m + 1)) :
    Calls Try.prog 41 #[ptr a, ptr (a + 1)] w5 fun e w' => e = .returned (.tuple #[.int .i64 ((T.look k + (m + 1 + 1)) % T.n : Nat), .bool (decide (m + 1 < r))]) ∧ DelInv w w' p g T k a (m + 1) := by
  have e1 : ((T.look k + (m + 1)) % T.n + 1) % T.n = (T.look k + (m + 1 + 1)) % T.n := by rw [Nat.mod_add_mod, Nat.add_assoc]
  refine (behind1_walk h (show T.n ≤ _ by omega) st.at_ hb).mono ?_
  rintro e w' ⟨rfl, hb', ho'⟩
  have hb'' : BehAt w' p a (a + 1) (((T.look k + (m + 1)) % T.n + 1) % T.n) := hb'
  rw [e1] at hb''
  refine ⟨?_, h.only ho' (by simp; omega) (by simp; omega), ho.trans ho' (by simp; omega), hb''⟩
  show Ending.returned (.tuple #[.int .i64 (((T.look k + (m + 1)) % T.n + 1) % T.n : Nat), .bool ((T.back (T.look k) (m + 1)).2 (((T.look k + (m + 1)) % T.n + 1) % T.n)).full]) = _
  rw [e1, st'.full]

set_option maxHeartbeats 1000000 in
theorem delete_walk {w : World} {p : Nat} {T : Tb} {g : Nat} (h : IxT w p T g T.cnt) (gd : T.Good) (hn : T.n ≤ 100000) (k : Nat) (hk : k < 18446744073709551616) :
    Calls Try.prog 21 #[ptr p, .int .u64 (k : Nat)] w fun e w' => e = .returned (.bool (T.there k)) ∧ PutTo w w' p g (T.del k) := by
  obtain ⟨e, he⟩ := gd.pow
  have hs : isSz T.n = true := good_sz ⟨e, he⟩ (by omega)
  have hlk := gd.ok.look_lt k
  have HL := Lib.hid (look_walk h gd.ok hs k hk)
  have HX := Lib.hid h
  have hcle : T.cnt ≤ T.n := cntB_le _ _
  obtain ⟨th, hth⟩ : ∃ th, T.there k = th := ⟨_, rfl⟩
  rw [hth] at HL ⊢
  cases th
  · have HD : Hid (T.del k = T) := Lib.hid (by unfold Tb.del; rw [hth]; rfl)
    clear h gd hs he hth
    go_enter Try.func21, Try.ntmps21
    go_wp2_with fail
    refine HL.out.mono ?_
    rintro e w1 ⟨rfl, hb⟩
    have HB := Lib.hid hb
    clear hb HL
    go_wp2_with fail
    go_ret
    exact ⟨rfl, Only.of_below HB.out, g, .inl rfl, by rw [HD.out]; exact HX.out.below HB.out⟩
  · have HST := Lib.hid (gd.del_steps k hth)
    obtain ⟨d1, d2⟩ := gd.del_is k hth
    have HD := Lib.hid d1
    have HS := Lib.hid hs
    have hplt := Lib.hid (And.intro h.plt h.lt)
    have HB0 : Hid (∀ m, T.back (T.look k) (m + 1) = if away (T.back (T.look k) m).1 ((T.look k + (m + 1)) % T.n) T.n ≤ away (hm ((T.back (T.look k) m).2 ((T.look k + (m + 1)) % T.n)).key T.n) ((T.look k + (m + 1)) % T.n) T.n then
      ((T.look k + (m + 1)) % T.n, fun i => if i = (T.back (T.look k) m).1 then (T.back (T.look k) m).2 ((T.look k + (m + 1)) % T.n) else (T.back (T.look k) m).2 i) else T.back (T.look k) m) := Lib.hid (fun _ => rfl)
    clear h gd hs he hth d1
    go_enter Try.func21, Try.ntmps21
    go_wp2_with fail
    refine HL.out.mono ?_
    rintro e w1 ⟨rfl, hb⟩
    have H1 := Lib.hid (HX.out.below hb)
    have HB1 := Lib.hid hb
    clear hb HL HX
    go_wp2_with fail
    refine (behind_walk _ p (T.look k)).mono ?_
    rintro e w2 ⟨rfl, rfl⟩
    have ho2 := ((Only.refl [] w1).alloc (.cells #[ptr p] 24)).alloc (.cells #[.int .i64 (T.look k : Nat)] 3)
    have k1 : (w1.alloc (.cells #[ptr p] 24)).heap[w1.heap.size]? = _ := heap_alloc_new w1 (.cells #[ptr p] 24)
    have k2 : ((w1.alloc (.cells #[ptr p] 24)).alloc (.cells #[.int .i64 (T.look k : Nat)] 3)).heap[w1.heap.size]? = _ := (((Only.refl [] _).alloc (.cells #[.int .i64 (T.look k : Nat)] 3)).block w1.heap.size (by simp) (by simp)).trans k1
    have k3 := heap_alloc_new (w1.alloc (.cells #[ptr p] 24)) (.cells #[.int .i64 (T.look k : Nat)] 3)
    have e3 : (w1.alloc (.cells #[ptr p] 24)).heap.size = w1.heap.size + 1 := by simp
    rw [e3] at k3
    have HBE : Hid (BehAt _ p w1.heap.size (w1.heap.size + 1) (T.look k)) := Lib.hid ⟨k2, k3⟩
    have HX2 := Lib.hid (H1.out.only ho2 (by simp) (by simp))
    have HO2 := Lib.hid ((Only.of_below (S := [p, g]) HB1.out).trans ho2 (by simp))
    have hlow := HB1.out.size
    clear ho2 k1 k2 k3 e3 H1 HB1
    generalize (w1.alloc (.cells #[ptr p] 24)).alloc (.cells #[.int .i64 (T.look k : Nat)] 3) = w2 at HBE HX2 HO2 ⊢
    generalize w1.heap.size = a at HBE hlow ⊢
    go_wp2_with fail
    refine (behind1_walk HX2.out (by omega) hlk HBE.out).mono ?_
    rintro e w3 ⟨rfl, hbe, ho⟩
    have hp := hplt.out
    have HI0 : Hid (DelInv w w3 p g T k a 0) := Lib.hid ⟨HX2.out.only ho (by simp; omega) (by simp; omega), HO2.out.trans ho (by simp; omega), hbe⟩
    have hf0 : (T.sl ((T.look k + 1) % T.n)).full = decide (0 < T.run (T.look k)) := (HST.out 0 (Nat.zero_le _)).full
    rw [hf0]
    obtain ⟨r, hr⟩ : ∃ r, T.run (T.look k) = r := ⟨_, rfl⟩
    rw [hr] at HST HD ⊢
    clear hf0 hr HX2 HO2 HBE hbe ho hp
    go_wp2_with fail
    go_loopg [5, 8, 9] r (fun gg s5 s8 s9 wr => ∃ m : Nat, m + gg = r ∧ s5 = .int .i64 ((T.back (T.look k) m).1 : Nat) ∧ s8 = .int .i64 ((T.look k + (m + 1)) % T.n : Nat) ∧ s9 = .bool (decide (m < r)) ∧ Hid (DelInv w wr p g T k a m))
    case atStart => exact ⟨0, by omega, rfl, rfl, rfl, HI0⟩
    case round =>
      obtain ⟨m, hmm, rfl, rfl, rfl, HI⟩ := hrel
      by_cases hmr : m < r
      · rw [decide_eq_true hmr]
        have hst := HST.out m (by omega)
        have HST1 := Lib.hid (HST.out (m + 1) (by omega))
        have HSTM := Lib.hid hst
        have HB1 := Lib.hid (HB0.out m)
        have hpw := passes_walk HI.out.ix HS.out hst.gap hst.at_
        simp only at hpw
        obtain ⟨G, hG⟩ : ∃ G, (T.back (T.look k) m).1 = G := ⟨_, rfl⟩
        obtain ⟨x, hx⟩ : ∃ x, (T.look k + (m + 1)) % T.n = x := ⟨_, rfl⟩
        have hgl := hst.gap
        have hxl := hst.at_
        rw [hG] at hpw hgl HB1 ⊢
        rw [hx] at hpw hxl HB1 ⊢
        have HXX := Lib.hid hx
        have HG := Lib.hid hG
        clear hG hx hst
        by_cases hc : away G x T.n ≤ away (hm ((T.back (T.look k) m).2 x).key T.n) x T.n
        · rw [decide_eq_true hc] at hpw
          rw [if_pos hc] at HB1
          have HP := Lib.hid hpw
          clear hpw hc
          go_wp2_with fail
          refine HP.out.mono ?_
          rintro e w4 ⟨rfl, hb⟩
          have hx4 := HI.out.ix.below hb
          have HB4 := Lib.hid (HI.out.beh.only (Only.of_below (S := []) hb) (by simp) (by simp))
          have HO4 := Lib.hid (HI.out.only.trans (Only.of_below (S := []) hb) (by simp))
          obtain ⟨c0, _⟩ := hx4.cells
          obtain ⟨q0, q1, q2⟩ := hx4.sl x hxl
          obtain ⟨r0, r1, r2⟩ := hx4.sl G hgl
          obtain ⟨f0, f1, f2⟩ := hx4.row.free G hgl
          obtain ⟨i5, o5⟩ := hx4.put G ((T.back (T.look k) m).2 x)
          have HI5 := Lib.hid i5
          have HO5 := Lib.hid o5
          simp only at c0 q0 q1 q2 r0 r1 r2
          have hxI : (x : Int) < (T.n : Int) := by omega
          have hGI : (G : Int) < (T.n : Int) := by omega
          clear hb hx4 i5 o5 HP
          generalize (T.back (T.look k) m).2 x = s at q0 q1 q2 HI5 HO5 HB1 ⊢
          generalize (T.back (T.look k) m).2 G = s' at r0 r1 r2 ⊢
          go_wp2_with fail
          go_region
          have hp1 := HI5.out
          have hp2 := HO5.out
          clear HI5 HO5 q0 q1 q2 r0 r1 r2 f0 f1 f2 c0
          generalize (((w4.setCell ⟨g, G * 3, none⟩ (.int .u64 (s.key : Nat))).setCell ⟨g, G * 3 + 1, none⟩ (.int .i32 s.n)).setCell ⟨g, G * 3 + 2, none⟩ (.bool s.full)) = V at hp1 hp2 ⊢
          have hpp := hplt.out
          have h1 : IxT V.drew p ⟨T.n, (T.back (T.look k) (m + 1)).2⟩ g T.cnt := by rw [HB1.out]; exact hp1.only (Only.refl [] V).drew (by simp) (by simp)
          have h2 := HB4.out.only hp2.drew (by simp; omega) (by simp; omega)
          have h3 := HO4.out.trans hp2.drew (by simp)
          have HBH := Lib.hid (del_behind hn h1 h2 h3 hlow hplt.out.1 hplt.out.2 HSTM.out HST1.out)
          have HGE := Lib.hid (congrArg Prod.fst HB1.out)
          clear h1 h2 h3 hp1 hp2 hpp
          go_wp2_with fail
          refine HBH.out.mono ?_
          rintro e w5 ⟨rfl, hi⟩
          have HI5 := Lib.hid hi
          clear hi HBH
          go_wp2
          go_roundg (gk - 1)
          case measure => omega
          case rel => exact ⟨m + 1, by omega, by rw [HGE.out], rfl, rfl, HI5⟩
        · rw [decide_eq_false hc] at hpw
          rw [if_neg hc] at HB1
          have HP := Lib.hid hpw
          clear hpw hc
          go_wp2_with fail
          refine HP.out.mono ?_
          rintro e w4 ⟨rfl, hb⟩
          have h1 : IxT w4 p ⟨T.n, (T.back (T.look k) (m + 1)).2⟩ g T.cnt := by rw [HB1.out]; exact HI.out.ix.below hb
          have h2 := HI.out.beh.only (Only.of_below (S := []) hb) (by simp) (by simp)
          have h3 := HI.out.only.trans (Only.of_below (S := []) hb) (by simp)
          have HBH := Lib.hid (del_behind hn h1 h2 h3 hlow hplt.out.1 hplt.out.2 HSTM.out HST1.out)
          clear h1 h2 h3 hb HP
          go_wp2_with fail
          refine HBH.out.mono ?_
          rintro e w5 ⟨rfl, hi⟩
          have HI5 := Lib.hid hi
          have HGE := Lib.hid (congrArg Prod.fst HB1.out)
          clear hi HBH
          go_wp2
          go_roundg (gk - 1)
          case measure => omega
          case rel => exact ⟨m + 1, by omega, by rw [HGE.out, HG.out], rfl, rfl, HI5⟩
      · obtain rfl : m = r := by omega
        rw [decide_eq_false hmr]
        have hst := HST.out m (by omega)
        have hgl := hst.gap
        obtain ⟨G, hG⟩ : ∃ G, (T.back (T.look k) m).1 = G := ⟨_, rfl⟩
        rw [hG] at hgl HD ⊢
        have hx4 := HI.out.ix
        obtain ⟨c0, c1⟩ := hx4.cells
        obtain ⟨r0, r1, r2⟩ := hx4.sl G hgl
        obtain ⟨f0, f1, f2⟩ := hx4.row.free G hgl
        obtain ⟨z0, z1⟩ := hx4.free
        obtain ⟨i5, o5⟩ := hx4.put G Sl.no
        have i5 : IxT (((wr.setCell ⟨g, G * 3, none⟩ (.int .u64 0)).setCell ⟨g, G * 3 + 1, none⟩ (.int .i32 0)).setCell ⟨g, G * 3 + 2, none⟩ (.bool false)) p _ g T.cnt := i5
        have o5 : Only [p, g] w (((wr.setCell ⟨g, G * 3, none⟩ (.int .u64 0)).setCell ⟨g, G * 3 + 1, none⟩ (.int .i32 0)).setCell ⟨g, G * 3 + 2, none⟩ (.bool false)) := HI.out.only.trans o5 (by simp)
        have HI5 := Lib.hid i5
        have HO5 := Lib.hid o5
        simp only at c0 r0 r1 r2
        have hGI : (G : Int) < (T.n : Int) := by omega
        clear hx4 i5 o5 hst hG HI HB0 HST
        generalize (T.back (T.look k) m).2 G = s' at r0 r1 r2 ⊢
        go_upto_region 14 with fail
        have hp1 := HI5.out
        have hp2 := HO5.out
        clear HI5 HO5 r0 r1 r2 f0 f1 f2 c0 c1 z0 z1
        generalize (((wr.setCell ⟨g, G * 3, none⟩ (.int .u64 0)).setCell ⟨g, G * 3 + 1, none⟩ (.int .i32 0)).setCell ⟨g, G * 3 + 2, none⟩ (.bool false)) = V at hp1 hp2 ⊢
        obtain ⟨_, c1⟩ := hp1.cells
        obtain ⟨_, z1⟩ := hp1.free
        obtain ⟨i6, o6⟩ := hp1.keys (T.del k).cnt ((T.cnt : Int) - 1) (by omega)
        have HI6 := Lib.hid i6
        have HO6 := Lib.hid (hp2.trans o6 (by simp))
        have hcI : (T.cnt : Int) ≤ 100000 := by omega
        have hc0 : 1 ≤ (T.cnt : Int) := by omega
        have HD2 : Hid (T.del k = ⟨T.n, fun j => if j = G then Sl.no else (T.back (T.look k) m).2 j⟩) := HD
        clear hp1 hp2 i6 o6 HD
        have e6 : IxT (V.setCell ⟨p, 1, none⟩ (.int .i64 ((T.cnt : Int) - 1))) p ⟨T.n, fun j => if j = G then Sl.no else (T.back (T.look k) m).2 j⟩ g (T.del k).cnt := HI6.out
        rw [← HD2.out] at e6
        have HE6 := Lib.hid e6
        clear e6 HI6 HD2
        go_wp2
        go_ret
        exact ⟨rfl, HO6.out, g, .inl rfl, HE6.out⟩
end Go.Proofs.Ytdolljjfikfhpaa
