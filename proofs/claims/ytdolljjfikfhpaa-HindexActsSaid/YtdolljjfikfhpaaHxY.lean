/- The program's table: Put. -/
import Derived.Test.YtdolljjfikfhpaaHxX
namespace Go.Proofs.Ytdolljjfikfhpaa
open Go Go.RowKit Go.Deep

theorem put_sz {T : Tb} (gd : T.Good) (hn : T.n ≤ 100000) : isSz T.n = true ∧ isSz T.grow.n = true := by
  obtain ⟨e, he⟩ := gd.pow
  have q := gd.ok.grown.2.1
  exact ⟨good_sz ⟨e, he⟩ (by omega), good_sz ⟨e + 1, by rw [q, he, Nat.pow_succ, Nat.mul_comm]⟩ (by rw [q]; omega)⟩
/- How many keys it says, said anew. -/
theorem IxT.keys {w : World} {p : Nat} {T : Tb} {g c : Nat} (h : IxT w p T g c) (c' : Nat) (z : Int) (hz : z = (c' : Nat)) :
    IxT (w.setCell ⟨p, 1, none⟩ (.int .i64 z)) p T g c' ∧ Only [p] w (w.setCell ⟨p, 1, none⟩ (.int .i64 z)) := by
  subst hz
  obtain ⟨_, t1, _, o1⟩ := two_heap h.tab (.int .i64 (c' : Nat))
  exact ⟨⟨t1, h.row.only o1 (by simpa using h.ne.symm)⟩, o1⟩

/- What a call that writes leaves of the table at p, whose slots lay in block g. -/
structure PutTo (w w' : World) (p g : Nat) (U : Tb) : Prop where
  only : Only [p, g] w w'
  ix : ∃ g', (g' = g ∨ w.heap.size ≤ g') ∧ IxT w' p U g' U.cnt

set_option maxHeartbeats 1000000 in
theorem put_walk {w : World} {p : Nat} {T : Tb} {g : Nat} (h : IxT w p T g T.cnt) (gd : T.Good) (hn : T.n ≤ 100000) (hkeys : T.Keys) (k : Nat) (hk : k < 18446744073709551616) (v : Int) :
    Calls Try.prog 20 #[ptr p, .int .u64 (k : Nat), .int .i32 v] w fun e w' => e = .returned (.tuple #[]) ∧ PutTo w w' p g (T.put k v) := by
  obtain ⟨hs, hs2⟩ := put_sz gd hn
  obtain ⟨gk1, gk2, gk3, _⟩ := gd.ok.grown
  have hlk := gd.ok.look_lt k
  have hcle : T.cnt ≤ T.n := cntB_le _ _
  have hcI : (T.cnt : Int) ≤ 100000 := by omega
  have hnI : (T.n : Int) ≤ 100000 := by omega
  have HL := Lib.hid (look_walk h gd.ok hs k hk)
  have hpc := (gd.put_all k v).2.1
  have HX := Lib.hid h
  have HW := Lib.hid (fun w' (q : IxT w' p T g T.cnt) => widen_walk q gd hn hkeys)
  have HL2 := Lib.hid (fun w' g' (q : IxT w' p T.grow g' T.cnt) => look_walk q gk1 hs2 k hk)
  have hlk2 := gk1.look_lt k
  rw [gk2] at hlk2
  have HGN := Lib.hid gk2
  obtain ⟨th, hth⟩ : ∃ th, T.there k = th := ⟨_, rfl⟩
  rw [hth] at HL hpc
  have HTH := Lib.hid hth
  have HLAY : Hid (∀ (U : Tb) lk, U.look k = lk → U.lay ⟨k, v, true⟩ = ⟨U.n, fun j => if j = lk then ⟨k, v, true⟩ else U.sl j⟩) := Lib.hid (by rintro U lk rfl; rfl)
  have HPC := Lib.hid hpc
  clear h gd hkeys hth hpc gk1 gk2 gk3 hs hs2
  cases th
  · have hpc : Hid ((T.put k v).cnt = T.cnt + 1) := HPC
    clear HPC
    by_cases hcr : 3 * T.n < 4 * T.cnt + 4
    · obtain ⟨lk, hlkE⟩ : ∃ lk, T.grow.look k = lk := ⟨_, rfl⟩
      have HPUT : Hid (T.put k v = ⟨T.grow.n, fun j => if j = lk then ⟨k, v, true⟩ else T.grow.sl j⟩) := Lib.hid (by
        unfold Tb.put
        rw [if_pos ⟨HTH.out, hcr⟩, HLAY.out _ _ hlkE])
      rw [hlkE] at hlk2 HL2
      clear hlkE HLAY HTH hlk
      generalize T.look k = lk0 at HL ⊢
      obtain ⟨th2, hth2⟩ : ∃ th2, T.grow.there k = th2 := ⟨_, rfl⟩
      rw [hth2] at HL2
      clear hth2
      have HCW := Lib.hid (fun w' (q : IxT w' p T g T.cnt) => crowded_walk q (by omega) (by omega))
      rw [decide_eq_true hcr] at HCW
      go_enter Try.func20, Try.ntmps20
      go_wp2_with fail
      refine HL.out.mono ?_
      rintro e w1 ⟨rfl, hb⟩
      have H1 := Lib.hid (HX.out.below hb)
      have HB1 := Lib.hid hb
      clear hb
      go_wp2_with fail
      refine (HCW.out _ H1.out).mono ?_
      rintro e w2 ⟨rfl, hb⟩
      have H2 := Lib.hid (H1.out.below hb)
      have HB2 := Lib.hid (HB1.out.trans (hb.mono HB1.out.size))
      clear hb
      go_wp2_with fail
      refine (HW.out _ H2.out).mono ?_
      rintro e w3 ⟨rfl, i3, o3⟩
      have HI3 := Lib.hid i3
      have HO3 := Lib.hid ((Only.of_below (S := [p, g]) HB2.out).trans o3 (by simp))
      clear i3 o3
      go_wp2_with fail
      refine (HL2.out _ _ HI3.out).mono ?_
      rintro e w4 ⟨rfl, hb⟩
      have hx := HI3.out.below hb
      have ho4 := HO3.out.trans (Only.of_below (S := []) hb) (by simp)
      obtain ⟨c0, c1⟩ := hx.cells
      obtain ⟨z0, z1⟩ := hx.free
      obtain ⟨k5, o5⟩ := hx.keys (T.cnt + 1) ((T.cnt : Int) + 1) rfl
      have HK5 := Lib.hid k5
      have HO5 := Lib.hid (ho4.trans o5 (by simp))
      clear hx ho4 k5 o5 hb HL HX H1 H2 HL2 HW HCW HI3 HO3
      rw [HGN.out] at c0
      go_upto_region 7 with fail
      have i5 := HK5.out
      generalize w4.setCell ⟨p, 1, none⟩ (.int .i64 ((T.cnt : Int) + 1)) = w5 at i5 HO5 ⊢
      clear c0 c1 z0 z1 HK5
      obtain ⟨c0, c1⟩ := i5.cells
      rw [HGN.out] at c0
      obtain ⟨q0, q1, q2⟩ := i5.row.sl lk (by rw [HGN.out]; exact hlk2)
      obtain ⟨f0, f1, f2⟩ := i5.row.free lk (by rw [HGN.out]; exact hlk2)
      obtain ⟨i6, o6⟩ := i5.put lk ⟨k, v, true⟩
      have HI := Lib.hid i6
      have HO := Lib.hid (HO5.out.trans o6 (fun x hx => by have := HB2.out.size; simp at hx; omega))
      have hlkI : (lk : Int) < 2 * (T.n : Int) := by omega
      clear i5 i6 o6 HO5
      go_wp2_with fail
      exact bodyPost_end (results_none rfl _ _ _) rfl ⟨rfl, HO.out, _, .inr HB2.out.size, by rw [hpc.out, HPUT.out]; exact HI.out⟩
    · obtain ⟨lk, hlkE⟩ : ∃ lk, T.look k = lk := ⟨_, rfl⟩
      have HPUT : Hid (T.put k v = ⟨T.n, fun j => if j = lk then ⟨k, v, true⟩ else T.sl j⟩) := Lib.hid (by
        unfold Tb.put
        rw [if_neg (fun q => hcr q.2), HLAY.out _ _ hlkE])
      rw [hlkE] at hlk HL
      clear hlkE HLAY HTH HL2 hlk2 HW HGN
      have HCW := Lib.hid (fun w' (q : IxT w' p T g T.cnt) => crowded_walk q (by omega) (by omega))
      rw [decide_eq_false hcr] at HCW
      go_enter Try.func20, Try.ntmps20
      go_wp2_with fail
      refine HL.out.mono ?_
      rintro e w1 ⟨rfl, hb⟩
      have H1 := Lib.hid (HX.out.below hb)
      have HB1 := Lib.hid hb
      clear hb
      go_wp2_with fail
      refine (HCW.out _ H1.out).mono ?_
      rintro e w2 ⟨rfl, hb⟩
      have hx := H1.out.below hb
      have ho4 := Only.of_below (S := [p, g]) (HB1.out.trans (hb.mono HB1.out.size))
      obtain ⟨c0, c1⟩ := hx.cells
      obtain ⟨z0, z1⟩ := hx.free
      obtain ⟨k5, o5⟩ := hx.keys (T.cnt + 1) ((T.cnt : Int) + 1) rfl
      have HK5 := Lib.hid k5
      have HO5 := Lib.hid (ho4.trans o5 (by simp))
      clear hx ho4 k5 o5 hb HL HX H1 HCW
      go_upto_region 7 with fail
      have i5 := HK5.out
      generalize w2.setCell ⟨p, 1, none⟩ (.int .i64 ((T.cnt : Int) + 1)) = w5 at i5 HO5 ⊢
      clear c0 c1 z0 z1 HK5
      obtain ⟨c0, c1⟩ := i5.cells
      obtain ⟨q0, q1, q2⟩ := i5.row.sl lk hlk
      obtain ⟨f0, f1, f2⟩ := i5.row.free lk hlk
      obtain ⟨i6, o6⟩ := i5.put lk ⟨k, v, true⟩
      have HI := Lib.hid i6
      have HO := Lib.hid (HO5.out.trans o6 (by simp))
      clear i5 i6 o6 HO5
      go_wp2_with fail
      exact bodyPost_end (results_none rfl _ _ _) rfl ⟨rfl, HO.out, _, .inl rfl, by rw [hpc.out, HPUT.out]; exact HI.out⟩
  · obtain ⟨lk, hlkE⟩ : ∃ lk, T.look k = lk := ⟨_, rfl⟩
    have hpc : Hid ((T.put k v).cnt = T.cnt) := HPC
    have HPUT : Hid (T.put k v = ⟨T.n, fun j => if j = lk then ⟨k, v, true⟩ else T.sl j⟩) := Lib.hid (by
      unfold Tb.put
      rw [if_neg (fun q => absurd (HTH.out.symm.trans q.1) (by decide)), HLAY.out _ _ hlkE])
    rw [hlkE] at hlk HL
    clear hlkE HLAY HTH HL2 hlk2 HW HGN HPC
    go_enter Try.func20, Try.ntmps20
    go_wp2_with fail
    refine HL.out.mono ?_
    rintro e w1 ⟨rfl, hb⟩
    have hx := HX.out.below hb
    obtain ⟨c0, c1⟩ := hx.cells
    obtain ⟨q0, q1, q2⟩ := hx.row.sl lk hlk
    obtain ⟨f0, f1, f2⟩ := hx.row.free lk hlk
    obtain ⟨i1, i2⟩ := hx.put lk ⟨k, v, true⟩
    have HI := Lib.hid i1
    have HO := Lib.hid ((Only.of_below (S := [p, g]) hb).trans i2 (by simp))
    clear hx i1 i2 hb HL HX
    go_wp2_with fail
    exact bodyPost_end (results_none rfl _ _ _) rfl ⟨rfl, HO.out, _, .inl rfl, by rw [hpc.out, HPUT.out]; exact HI.out⟩
end Go.Proofs.Ytdolljjfikfhpaa
