/- HindexMap: a key's number is the one that was put last, if it wasn't taken out since. -/
import Derived.Test.YtdolljjfikfhpaaHxA
namespace Go.Proofs.Ytdolljjfikfhpaa
open Go Go.RowKit Go.Deep

/- What the law keeps of one key. -/
structure MapInv (T : Tb) (key : Nat) (th : Bool) (n : Int) : Prop where
  there : T.there key = th
  has : th = true → T.has key n
theorem MapInv.other {T : Tb} {key : Nat} {th : Bool} {n : Int} (gd : T.Good) (h : MapInv T key th n) (x : Actx) (hx : x.key ≠ key) : MapInv (actT T x) key th n := by
  have key1 : ∀ U : Tb, U.Ok → (∀ v, U.has key v ↔ T.has key v) → MapInv U key th n := by
    intro U ok hh
    refine ⟨?_, fun e => (hh n).2 (h.has e)⟩
    cases e : th
    · refine there_no ok (fun v q => ?_)
      have := there_yes gd.ok ((hh v).1 q)
      rw [h.there, e] at this
      exact absurd this (by decide)
    · exact there_yes ok ((hh n).2 (h.has e))
  unfold actT
  split
  · obtain ⟨g, _, _, hh⟩ := gd.del_all x.key
    exact key1 _ g.ok (fun v => by rw [hh]; exact ⟨fun q => q.2, fun q => ⟨fun e => hx e.symm, q⟩⟩)
  · obtain ⟨g, _, _, hh⟩ := gd.put_all x.key x.n
    exact key1 _ g.ok (fun v => by rw [hh]; exact ⟨fun q => q.elim (fun q => absurd q.1.symm hx) (fun q => q.2), fun q => .inr ⟨fun e => hx e.symm, q⟩⟩)
theorem MapInv.same {T : Tb} {key : Nat} (gd : T.Good) (x : Actx) (hx : x.key = key) : MapInv (actT T x) key (!decide (x.kind % 3 = 2)) x.n := by
  subst hx
  unfold actT
  by_cases hc : x.kind % 3 = 2
  · rw [if_pos hc, decide_eq_true hc]
    obtain ⟨g, _, _, hh⟩ := gd.del_all x.key
    exact ⟨there_no g.ok (fun v q => ((hh x.key v).1 q).1 rfl), fun e => absurd e (by decide)⟩
  · rw [if_neg hc, decide_eq_false hc]
    obtain ⟨g, _, _, hh⟩ := gd.put_all x.key x.n
    have := (hh x.key x.n).2 (.inl ⟨rfl, rfl⟩)
    exact ⟨there_yes g.ok this, fun _ => this⟩
theorem HX.act_good {w0 w : World} {p : Nat} {T : Tb} {K : List Nat} (h : HX w0 w p T K) : T.Good := h.good

set_option maxHeartbeats 1000000 in
theorem map_short (w : World) (A : Option Addr) (n c : Nat) (l : Nat → Actx) (hn : n ≤ 50) (ha : ActsX w A n l) (k : Nat) (hk : k < 18446744073709551616) :
    Calls Try.prog 5 #[.slice A n c, .int .u64 (k : Nat)] w fun e w' => e = .returned (.bool true) ∧ Below w.heap.size w w' := by
  have HA := Lib.hid ha
  clear ha
  go_enter Try.func5, Try.ntmps5
  go_wp2_with fail
  refine (awake_walk _).mono ?_
  rintro e w1 ⟨rfl, h⟩
  have B1 := Lib.hid h; clear h
  go_wp2_with fail
  refine (hx_new B1.out [] (by simp)).mono ?_
  rintro e w2 ⟨p, rfl, h, _⟩
  have H2 := Lib.hid h
  clear h
  go_wp2_with fail
  go_loopg [7, 8, 9] n (fun g s7 s8 s9 wr => ∃ (j : Nat) (T : Tb) (m : Int) (th : Bool), j + g = n ∧ s7 = .int .i32 m ∧ s8 = .bool th ∧ s9 = .int .i64 j ∧ Hid (HX w wr p T [] ∧ RunX T j ∧ MapInv T k th m))
  case atStart => exact ⟨0, _, 0, false, by omega, rfl, rfl, rfl, Lib.hid ⟨H2.out, run_new, there_no new_good.ok (fun v => none_has 8 k v), fun e => absurd e (by decide)⟩⟩
  case round =>
    obtain ⟨j, T, m, th, hj, rfl, rfl, rfl, HI⟩ := hrel
    obtain ⟨hx, hr, hmi⟩ := HI.out
    have hTn : T.n ≤ 100000 := by have := hr.n; omega
    by_cases hlt : j < n
    · obtain ⟨wf, g, off, hA, hg, c0, c1, c2⟩ := (HA.out.below hx.below) j hlt
      have HD := Lib.hid (do_walk hx hTn (l j) wf)
      have HG := Lib.hid (hr.act hx.good (l j))
      have HO := Lib.hid (fun e => hmi.other hx.good (l j) e)
      have HS := Lib.hid (fun e => MapInv.same (key := k) hx.good (l j) e)
      have hkd := wf.kind
      have hky := wf.key
      have HTH := Lib.hid hmi.there
      have HDT : Hid (doneT T (l j) = if (l j).kind % 3 = 2 then T.there (l j).key else false) := Lib.hid rfl
      have HCB := Lib.hid (fun (w' : World) (b : Below w.heap.size w w') => (HA.out.below b) j hlt)
      clear hx hr hmi HI wf
      subst hA
      go_wp2_with fail
      refine HD.out.mono ?_
      rintro e w3 ⟨rfl, h, _⟩
      obtain ⟨_, g', off', hA, hg', c0, c1, c2⟩ := HCB.out _ h.below
      injection hA with hA
      injection hA with hA1 hA2
      subst hA1 hA2
      have H3 := Lib.hid h
      clear h hg' HD HCB
      have hjI : (j : Int) < (n : Int) := by omega
      generalize l j = x at c0 c1 c2 HG HO HS H3 HDT hkd hky ⊢
      obtain ⟨kd, ky, v⟩ := x
      simp only at c0 c1 c2 hkd hky HDT HO HS
      generalize doneT T ⟨kd, ky, v⟩ = dn at HDT ⊢
      by_cases hkey : ky = k
      · subst hkey
        have HS1 := Lib.hid (HS.out rfl)
        rw [HTH.out] at HDT
        by_cases hc : kd % 3 = 2
        · rw [if_pos hc] at HDT
          obtain rfl : dn = th := HDT.out
          have e1 : (kd : Int) % 3 = 2 := by omega
          have e2 : (kd : Int).tmod 3 = 2 := by rw [Int.tmod_eq_emod_of_nonneg (by omega)]; exact e1
          rw [decide_eq_true hc] at HS1
          clear HO HS HTH HDT
          go_wp2_with fail
          go_roundg (gk - 1)
          case measure => omega
          case rel => exact ⟨j + 1, _, v, false, by omega, rfl, rfl, by go_num, Lib.hid ⟨H3.out, HG.out, HS1.out⟩⟩
        · have e1 : ((kd : Int) % 3 == 2) = false := by rw [beq_eq_false_iff_ne]; omega
          have e2 : ((kd : Int).tmod 3 == 2) = false := by rw [Int.tmod_eq_emod_of_nonneg (by omega)]; exact e1
          rw [decide_eq_false hc] at HS1
          clear HO HS HTH HDT
          go_wp2_with fail
          go_roundg (gk - 1)
          case measure => omega
          case rel => exact ⟨j + 1, _, v, true, by omega, rfl, by rw [bne, e1]; rfl, by go_num, Lib.hid ⟨H3.out, HG.out, HS1.out⟩⟩
      · have hkI : ((ky : Int) == (k : Int)) = false := by rw [beq_eq_false_iff_ne]; omega
        have HO1 := Lib.hid (HO.out hkey)
        clear HO HS HTH HDT
        go_wp2_with fail
        go_roundg (gk - 1)
        case measure => omega
        case rel => exact ⟨j + 1, _, m, th, by omega, rfl, rfl, by go_num, Lib.hid ⟨H3.out, HG.out, HO1.out⟩⟩
    · have hge : ¬ (j : Int) < (n : Int) := by omega
      have HGET := Lib.hid (hx_get hx hTn k hk)
      have HFIN : Hid ((T.get k).2 = th ∧ (th = true → (T.get k).1 = m)) := Lib.hid ⟨hmi.there, fun e => by rw [get_yes hx.good.ok (hmi.has e)]⟩
      obtain ⟨gt, hgt⟩ : ∃ gt, T.get k = gt := ⟨_, rfl⟩
      obtain ⟨g1, g2⟩ := gt
      rw [hgt] at HGET HFIN
      obtain ⟨f1, f2⟩ := HFIN.out
      simp only at f1 f2
      subst f1
      have HB := Lib.hid hx.below
      clear hgt HFIN hx hr hmi HI
      go_wp2_with fail
      refine HGET.out.mono ?_
      rintro e w3 ⟨rfl, hb⟩
      have HB3 := Lib.hid (HB.out.trans (hb.mono HB.out.size))
      clear hb HGET
      cases g2
      · go_wp2
        go_ret
        exact ⟨rfl, HB3.out⟩
      · obtain rfl := f2 rfl
        go_wp2
        go_ret
        exact ⟨rfl, HB3.out⟩
theorem map_long (w : World) (A : Option Addr) (n c : Nat) (k : Int) (hn : 50 < n) :
    Calls Try.prog 5 #[.slice A n c, .int .u64 k] w fun e w' => e = .returned (.bool true) ∧ Below w.heap.size w w' := by
  have h1 : (50 : Int) < (n : Int) := by omega
  go_enter Try.func5, Try.ntmps5
  go_wp2_with fail
  refine (awake_walk _).mono ?_
  rintro e w1 ⟨rfl, h⟩
  have B1 := Lib.hid h
  clear h
  go_wp2
  go_ret
  exact ⟨rfl, B1.out⟩
theorem hindexMap_walk (w : World) (A : Option Addr) (n c : Nat) (l : Nat → Actx) (ha : ActsX w A n l) (k : Int) (hk : (Lit.int .u64 k).wf = true) :
    Calls Try.prog 5 #[.slice A n c, .int .u64 k] w fun e w' => e = .returned (.bool true) ∧ Below w.heap.size w w' := by
  by_cases hn : n ≤ 50
  · simp only [Lit.wf, Bool.and_eq_true, decide_eq_true_eq] at hk
    have m1 : IntKind.u64.min = 0 := rfl
    have m2 : IntKind.u64.max = 18446744073709551615 := rfl
    obtain ⟨j, rfl⟩ : ∃ j : Nat, k = j := ⟨k.toNat, by omega⟩
    exact map_short w A n c l hn ha j (by omega)
  · exact map_long w A n c k (by omega)
end Go.Proofs.Ytdolljjfikfhpaa
