/- Words and walks: EaR EaC. -/
import Derived.Test.YtgkblelgcikafaaGreatG0
import Derived.Test.YtgkblelgcikafaaGreatG15
import Derived.Test.YtgkblelgcikafaaGreatG25
import Derived.Test.YtgkblelgcikafaaGreatG26
import Derived.IntWalk
namespace Go.Proofs.YtgkblelgcikafaaGreat
open Go Go.RowKit Go.Deep
section
variable {w0 w W w' : World} {xp sp top : Nat} {s : L11}
theorem upd3' (s : L11) (xs : List Nat) : ∀ t, t < 4 → upd (q11 s) 3 xs t = quad s.t1 s.t2 s.b1 xs t := by
  intro t ht
  rcases four ht with rfl | rfl | rfl | rfl <;> rfl
theorem upd2' (s : L11) (xs : List Nat) : ∀ t, t < 4 → upd (q11 s) 2 xs t = quad s.t1 s.t2 xs s.b2 t := by
  intro t ht
  rcases four ht with rfl | rfl | rfl | rfl <;> rfl
theorem upd0' (s : L11) (xs : List Nat) : ∀ t, t < 4 → upd (q11 s) 0 xs t = quad xs s.t2 s.b1 s.b2 t := by
  intro t ht
  rcases four ht with rfl | rfl | rfl | rfl <;> rfl
def QP (w0 w : World) (xp sp top : Nat) (s : L11) (out : List Nat) (e : Ending) (w' : World) : Prop := ∃ o, e = .returned o ∧ CP w0 w xp sp s.c s.p (q11 s) top w' ∧ KF w0.heap.size w w' o out
theorem QP.from_ {w1 : World} {out : List Nat} {e : Ending} (h : QP w0 w1 xp sp top s out e w') (hk : Kn w w1) : ∃ o, e = .returned o ∧ CP w0 w xp sp s.c s.p (q11 s) top w' ∧ KV w' o out := by
  obtain ⟨o, h1, h2, h3⟩ := h
  exact ⟨o, h1, ⟨h2.1, hk.trans h2.2⟩, h3.kv⟩
theorem cut2_walk (h : CX w0 w xp sp s.c s.p (q11 s) top) (hm : top ≤ 10000) (n : Int) (N : Nat) (hN : n < 0 ∧ N = 0 ∨ n = 0 ∧ N = 0 ∨ 0 < n ∧ n = (N : Int)) (hn1 : -1048576 ≤ n) (hn2 : n ≤ 1048576) :
    Calls Tryz.prog 57 #[ptr xp, .int .i64 2, .int .i64 n] w (QP w0 w xp sp top ⟨s.c, s.p, s.t1, s.t2, s.b1.take N, s.b2⟩ (s.b1.drop N).reverse) := by
  refine (cut_walk h (t := 2) (by decide) hm n N hN hn1 hn2).mono ?_
  rintro e w' ⟨o, rfl, g1, g2⟩
  exact ⟨o, rfl, ⟨g1.1.congr (upd2' s _), g1.2⟩, g2⟩
theorem cut3_walk (h : CX w0 w xp sp s.c s.p (q11 s) top) (hm : top ≤ 10000) (n : Int) (N : Nat) (hN : n < 0 ∧ N = 0 ∨ n = 0 ∧ N = 0 ∨ 0 < n ∧ n = (N : Int)) (hn1 : -1048576 ≤ n) (hn2 : n ≤ 1048576) :
    Calls Tryz.prog 57 #[ptr xp, .int .i64 3, .int .i64 n] w (QP w0 w xp sp top ⟨s.c, s.p, s.t1, s.t2, s.b1, s.b2.take N⟩ (s.b2.drop N).reverse) := by
  refine (cut_walk h (t := 3) (by decide) hm n N hN hn1 hn2).mono ?_
  rintro e w' ⟨o, rfl, g1, g2⟩
  exact ⟨o, rfl, ⟨g1.1.congr (upd3' s _), g1.2⟩, g2⟩
theorem cut0_walk (h : CX w0 w xp sp s.c s.p (q11 s) top) (hm : top ≤ 10000) (n : Int) (N : Nat) (hN : n < 0 ∧ N = 0 ∨ n = 0 ∧ N = 0 ∨ 0 < n ∧ n = (N : Int)) (hn1 : -1048576 ≤ n) (hn2 : n ≤ 1048576) :
    Calls Tryz.prog 57 #[ptr xp, .int .i64 0, .int .i64 n] w (QP w0 w xp sp top ⟨s.c, s.p, s.t1.take N, s.t2, s.b1, s.b2⟩ (s.t1.drop N).reverse) := by
  refine (cut_walk h (t := 0) (by decide) hm n N hN hn1 hn2).mono ?_
  rintro e w' ⟨o, rfl, g1, g2⟩
  exact ⟨o, rfl, ⟨g1.1.congr (upd0' s _), g1.2⟩, g2⟩
theorem evict1_walk {g : Bool} (h : CX w0 w xp sp s.c s.p (q11 s) top) (hf : s.Fine) (hm : top ≤ 10000) (hp : s.p ≤ 1048576) (h1 : 1 ≤ s.c) (hc : s.c ≤ 1048576) :
    Calls Tryz.prog 46 #[ptr xp, .int .i64 ((s.c : Int) - 1), .bool g] w (QP w0 w xp sp top (s.cut (s.c - 1) g) (s.cutOut (s.c - 1) g)) := by
  have := evictAll_walk (g := g) h hf hm hp (s.c - 1) (by omega)
  rw [show ((s.c - 1 : Nat) : Int) = (s.c : Int) - 1 from by omega] at this
  exact this
def RmP (w0 w : World) (xp sp top : Nat) (s : L11) (e : Ending) (w' : World) : Prop := ∃ o, e = .returned o ∧ CP w0 w xp sp s.c s.p (q11 s.room) top w' ∧ KV w' o s.roomOut
theorem room_1 (h1 : s.t1.length + s.b1.length < s.c) (h2 : 2 * s.c ≤ s.all) : s.room = s.less2.cut (s.c - 1) false ∧ s.roomOut = s.less2.cutOut (s.c - 1) false := by
  unfold L11.room L11.roomOut
  rw [if_pos h1, if_pos h1, if_pos h2]
  exact ⟨rfl, rfl⟩
theorem room_2 (h1 : s.t1.length + s.b1.length < s.c) (h2 : ¬ 2 * s.c ≤ s.all) : s.room = s.cut (s.c - 1) false ∧ s.roomOut = s.cutOut (s.c - 1) false := by
  unfold L11.room L11.roomOut
  rw [if_pos h1, if_pos h1, if_neg h2]
  exact ⟨rfl, rfl⟩
theorem room_3 (h1 : ¬ s.t1.length + s.b1.length < s.c) (h2 : s.t1.length < s.c) : s.room = s.less1.cut (s.c - 1) false ∧ s.roomOut = s.less1.cutOut (s.c - 1) false := by
  unfold L11.room L11.roomOut
  rw [if_neg h1, if_neg h1, if_pos h2, if_pos h2]
  exact ⟨rfl, rfl⟩
theorem room_4 (h1 : ¬ s.t1.length + s.b1.length < s.c) (h2 : ¬ s.t1.length < s.c) : s.room = s.lost ∧ s.roomOut = [s.t1.getD (s.t1.length - 1) 0] := by
  unfold L11.room L11.roomOut
  rw [if_neg h1, if_neg h1, if_neg h2, if_neg h2]
  exact ⟨rfl, rfl⟩
theorem last_one {l : List Nat} (h : 0 < l.length) : (l.drop (l.length - 1)).reverse = [l.getD (l.length - 1) 0] := by
  rw [drop_last h (Nat.le_refl _), List.drop_length]
  rfl
set_option maxHeartbeats 8000000 in
set_option maxRecDepth 4000 in
theorem emakeRoom_walk (h : CX w0 w xp sp s.c s.p (q11 s) top) (ok : s.Ok) (hm : top ≤ 10000) :
    Calls Tryz.prog 44 #[ptr xp] w (RmP w0 w xp sp top s) := by
  have hpos := ok.pos
  have hcap := ok.cap
  have hpc := ok.pc
  have hsum := CX.sum (show CX w0 w xp sp s.c s.p (quad s.t1 s.t2 s.b1 s.b2) top from h)
  obtain ⟨c, hc⟩ : ∃ c, s.c = c := ⟨_, rfl⟩
  obtain ⟨p, hp⟩ : ∃ p, s.p = p := ⟨_, rfl⟩
  obtain ⟨n0, hn0⟩ : ∃ n0, s.t1.length = n0 := ⟨_, rfl⟩
  obtain ⟨n2, hn2⟩ : ∃ n2, s.b1.length = n2 := ⟨_, rfl⟩
  obtain ⟨n3, hn3⟩ : ∃ n3, s.b2.length = n3 := ⟨_, rfl⟩
  obtain ⟨a, ha⟩ : ∃ a, s.all = a := ⟨_, rfl⟩
  have ha2 : a = s.t1.length + s.t2.length + s.b1.length + s.b2.length := by rw [← ha]; rfl
  have HL0 : Hid (∀ W, Below w.heap.size w W → Calls Tryz.prog 41 #[ptr sp, .int .i64 0] W fun e w' => e = .returned (.int .i64 (n0 : Nat)) ∧ Below w.heap.size w w') := Lib.hid (fun W hb => x_len h hb (t := 0) (by decide) hn0)
  have HL2 : Hid (∀ W, Below w.heap.size w W → Calls Tryz.prog 41 #[ptr sp, .int .i64 2] W fun e w' => e = .returned (.int .i64 (n2 : Nat)) ∧ Below w.heap.size w w') := Lib.hid (fun W hb => x_len h hb (t := 2) (by decide) hn2)
  have HL3 : Hid (∀ W, Below w.heap.size w W → Calls Tryz.prog 41 #[ptr sp, .int .i64 3] W fun e w' => e = .returned (.int .i64 (n3 : Nat)) ∧ Below w.heap.size w w') := Lib.hid (fun W hb => x_len h hb (t := 3) (by decide) hn3)
  have HTO : Hid (∀ W, Below w.heap.size w W → Calls Tryz.prog 65 #[ptr sp] W fun e w' => e = .returned (.int .i64 (a : Nat)) ∧ Below w.heap.size w w') := Lib.hid (fun W hb => (m_total (h.still hb).sk).mono (fun e w' ⟨he, hb'⟩ => ⟨by rw [he, show sumE (Qm (q11 s)) 4 = s.t1.length + s.t2.length + s.b1.length + s.b2.length from quad_sum, ha2], hb.trans (hb'.mono hb.size)⟩))
  have HKC : Hid (∀ W, Below w.heap.size w W → C3 xp sp c p W) := Lib.hid (fun W hb => by have := (h.still hb).cells; rw [hc, hp] at this; exact this)
  have HKQ : Hid (∀ (t : L11) W, t.c = s.c → t.p = s.p → CP w0 w xp sp t.c t.p (q11 t) top W → C3 xp sp c p W) := Lib.hid (fun t W e1 e2 hW => by have := hW.1.cells; rw [e1, e2, hc, hp] at this; exact this)
  have HC3 : Hid (∀ W, Below w.heap.size w W → Calls Tryz.prog 57 #[ptr xp, .int .i64 3, .int .i64 ((n3 : Int) - 1)] W fun e w' => ∃ o, e = .returned o ∧ CP w0 w xp sp s.less2.c s.less2.p (q11 s.less2) top w') := Lib.hid (fun W hb => by
    rw [← hn3]
    refine (cut3_walk (h.still hb) hm ((s.b2.length : Int) - 1) (s.b2.length - 1) (by omega) (by omega) (by omega)).mono ?_
    intro e w' hq
    obtain ⟨o, he, g1, g2⟩ := hq.from_ (Kn.below hb)
    exact ⟨o, he, g1⟩)
  have HC2 : Hid (∀ W, Below w.heap.size w W → Calls Tryz.prog 57 #[ptr xp, .int .i64 2, .int .i64 ((n2 : Int) - 1)] W fun e w' => ∃ o, e = .returned o ∧ CP w0 w xp sp s.less1.c s.less1.p (q11 s.less1) top w') := Lib.hid (fun W hb => by
    rw [← hn2]
    refine (cut2_walk (h.still hb) hm ((s.b1.length : Int) - 1) (s.b1.length - 1) (by omega) (by omega) (by omega)).mono ?_
    intro e w' hq
    obtain ⟨o, he, g1, g2⟩ := hq.from_ (Kn.below hb)
    exact ⟨o, he, g1⟩)
  have HC0 : Hid (∀ W, Below w.heap.size w W → Calls Tryz.prog 57 #[ptr xp, .int .i64 0, .int .i64 ((n0 : Int) - 1)] W fun e w' => ∃ o, e = .returned o ∧ CP w0 w xp sp s.c s.p (q11 s.lost) top w' ∧ (0 < s.t1.length → KV w' o [s.t1.getD (s.t1.length - 1) 0])) := Lib.hid (fun W hb => by
    rw [← hn0]
    refine (cut0_walk (h.still hb) hm ((s.t1.length : Int) - 1) (s.t1.length - 1) (by omega) (by omega) (by omega)).mono ?_
    intro e w' hq
    obtain ⟨o, he, g1, g2⟩ := hq.from_ (Kn.below hb)
    exact ⟨o, he, g1, fun q => by rw [last_one q] at g2; exact g2⟩)
  have HEV : Hid (∀ (t : L11) W, t.c = s.c → t.p = s.p → t.Fine → CP w0 w xp sp t.c t.p (q11 t) top W → Calls Tryz.prog 46 #[ptr xp, .int .i64 ((c : Int) - 1), .bool false] W fun e w' => ∃ o, e = .returned o ∧ CP w0 w xp sp s.c s.p (q11 (t.cut (s.c - 1) false)) top w' ∧ KV w' o (t.cutOut (s.c - 1) false)) := Lib.hid (fun t W e1 e2 hf hW => by
    have := evict1_walk (g := false) hW.1 hf hm (by omega) (by omega) (by omega)
    rw [show ((t.c : Int) - 1) = (c : Int) - 1 from by rw [e1, hc]] at this
    refine this.mono ?_
    intro e w' hq
    obtain ⟨o, he, g1, g2⟩ := hq.from_ hW.2
    rw [show (t.cut (t.c - 1) false).c = s.c from e1, show (t.cut (t.c - 1) false).p = s.p from e2, e1] at g1
    rw [e1] at g2
    exact ⟨o, he, g1, g2⟩)
  obtain ⟨x0, x1, x2⟩ := h.cells
  rw [hc] at x1
  rw [hp] at x2
  have hn0I : (n0 : Int) ≤ 10000 := by omega
  have hn2I : (n2 : Int) ≤ 10000 := by omega
  have hn3I : (n3 : Int) ≤ 10000 := by omega
  have haI : (a : Int) ≤ 10000 := by omega
  have hcI : (c : Int) ≤ 1048576 := by omega
  have hn00 : (0 : Int) ≤ (n0 : Int) := by omega
  have hn20 : (0 : Int) ≤ (n2 : Int) := by omega
  have hn30 : (0 : Int) ≤ (n3 : Int) := by omega
  have ha0 : (0 : Int) ≤ (a : Int) := by omega
  have hc1 : (1 : Int) ≤ (c : Int) := by omega
  have hw2 : IntKind.i64.wrap (2 * (c : Int)) = 2 * (c : Int) := IntWalk.i64_in _ (by omega)
  have HW : Hid (∀ W, Below w.heap.size w W → CP w0 w xp sp s.c s.p (q11 s) top W) := Lib.hid (fun W hb => ⟨h.still hb, Kn.below hb⟩)
  have hcase : ((n0 : Int) + (n2 : Int) < (c : Int) ∧ (2 * (c : Int) ≤ (a : Int)) ∧ Hid (s.room = s.less2.cut (s.c - 1) false ∧ s.roomOut = s.less2.cutOut (s.c - 1) false)) ∨ ((n0 : Int) + (n2 : Int) < (c : Int) ∧ ¬ (2 * (c : Int) ≤ (a : Int)) ∧ Hid (s.room = s.cut (s.c - 1) false ∧ s.roomOut = s.cutOut (s.c - 1) false)) ∨ (¬ (n0 : Int) + (n2 : Int) < (c : Int) ∧ (n0 : Int) < (c : Int) ∧ Hid (s.room = s.less1.cut (s.c - 1) false ∧ s.roomOut = s.less1.cutOut (s.c - 1) false)) ∨ (¬ (n0 : Int) + (n2 : Int) < (c : Int) ∧ ¬ (n0 : Int) < (c : Int) ∧ Hid (s.room = s.lost ∧ s.roomOut = [s.t1.getD (s.t1.length - 1) 0] ∧ 0 < s.t1.length)) := by
    by_cases q1 : s.t1.length + s.b1.length < s.c
    · by_cases q2 : 2 * s.c ≤ s.all
      · exact .inl ⟨by omega, by omega, Lib.hid (room_1 q1 q2)⟩
      · exact .inr (.inl ⟨by omega, by omega, Lib.hid (room_2 q1 q2)⟩)
    · by_cases q2 : s.t1.length < s.c
      · exact .inr (.inr (.inl ⟨by omega, by omega, Lib.hid (room_3 q1 q2)⟩))
      · exact .inr (.inr (.inr ⟨by omega, by omega, Lib.hid ⟨(room_4 q1 q2).1, (room_4 q1 q2).2, by omega⟩⟩))
  have HOK := Lib.hid ok
  have HN := Lib.hid (And.intro hn0 (And.intro hn2 (And.intro hn3 hm)))
  clear h hc hp hn0 hn2 hn3 ha ha2 hsum ok hpos hcap hpc hm
  go_enter Tryz.func44, Tryz.ntmps44
  go_upto_region 1 with fail
  go_region_held3 (fun w' => w'.cell? ⟨xp, 0, none⟩ = some (ptr sp) ∧ w'.cell? ⟨xp, 1, none⟩ = some (.int .i64 (c : Nat)) ∧ w'.cell? ⟨xp, 2, none⟩ = some (.int .i64 (p : Nat))) (first | with_reducible exact kk5 | with_reducible exact kk6 | go_keep)
    (first
      | (go_at_call 41; refine (HL2.out _ hb5).mono ?_; rintro e w6 ⟨rfl, hb6⟩; have kk6 := HKC.out w6 hb6)
      | (go_at_call 41; refine (HL0.out _ (below_drewn (Below.refl _ _) _)).mono ?_; rintro e w5 ⟨rfl, hb5⟩; have kk5 := HKC.out w5 hb5))
  have HB6 := Lib.hid hb6
  obtain ⟨y0, y1, y2⟩ := kk6
  clear hb5 hb6 kk5 HL0 HL2 x0 x1 x2
  rcases hcase with ⟨c1, c2, HE⟩ | ⟨c1, c2, HE⟩ | ⟨c1, c2, HE⟩ | ⟨c1, c2, HE⟩
  · go_upto_region 4 with fail
    go_region_held3 (fun w' => w'.cell? ⟨xp, 0, none⟩ = some (ptr sp) ∧ w'.cell? ⟨xp, 1, none⟩ = some (.int .i64 (c : Nat)) ∧ w'.cell? ⟨xp, 2, none⟩ = some (.int .i64 (p : Nat))) (first | with_reducible exact kk7 | go_keep)
      (first
        | (go_at_call 65; refine (HTO.out _ (below_drewn HB6.out _)).mono ?_; rintro e w7 ⟨rfl, hb7⟩; have kk7 := HKC.out w7 hb7))
    have HB7 := Lib.hid hb7
    obtain ⟨z0, z1, z2⟩ := kk7
    clear hb7 y0 y1 y2 HTO
    go_wp2_with fail
    refine (HL3.out w7 HB7.out).mono ?_
    rintro e w8 ⟨rfl, hb8⟩
    have HC8 := Lib.hid (HC3.out w8 hb8)
    obtain ⟨x0, x1, x2⟩ := HKC.out w8 hb8
    clear hb8 HL3 HC3 z0 z1 z2
    go_wp2_with fail
    refine HC8.out.mono ?_
    rintro e w9 ⟨o9, rfl, h9⟩
    have H9 := Lib.hid h9
    obtain ⟨u0, u1, u2⟩ := HKQ.out s.less2 w9 rfl rfl H9.out
    clear h9 HC8 x0 x1 x2
    go_wp2_with fail
    refine (HEV.out s.less2 w9 rfl rfl HOK.out.fine.less2 H9.out).mono ?_
    rintro e wa ⟨o, rfl, ha, hka⟩
    have HF : Hid (RmP w0 w xp sp top s (.returned o) wa) := Lib.hid ⟨o, rfl, by rw [HE.out.1]; exact ha, by rw [HE.out.2]; exact hka⟩
    clear ha hka HEV H9
    go_wp2
    go_ret
    exact HF.out
  · go_upto_region 4 with fail
    go_region_held3 (fun w' => w'.cell? ⟨xp, 0, none⟩ = some (ptr sp) ∧ w'.cell? ⟨xp, 1, none⟩ = some (.int .i64 (c : Nat)) ∧ w'.cell? ⟨xp, 2, none⟩ = some (.int .i64 (p : Nat))) (first | with_reducible exact kk7 | go_keep)
      (first
        | (go_at_call 65; refine (HTO.out _ (below_drewn HB6.out _)).mono ?_; rintro e w7 ⟨rfl, hb7⟩; have kk7 := HKC.out w7 hb7))
    have HB7 := Lib.hid hb7
    obtain ⟨z0, z1, z2⟩ := kk7
    clear hb7 y0 y1 y2 HTO
    have H9 := Lib.hid (HW.out w7 HB7.out)
    go_wp2_with fail
    refine (HEV.out s w7 rfl rfl HOK.out.fine H9.out).mono ?_
    rintro e wa ⟨o, rfl, ha, hka⟩
    have HF : Hid (RmP w0 w xp sp top s (.returned o) wa) := Lib.hid ⟨o, rfl, by rw [HE.out.1]; exact ha, by rw [HE.out.2]; exact hka⟩
    clear ha hka HEV H9
    go_wp2
    go_ret
    exact HF.out
  · go_wp2_with fail
    refine (HC2.out w6 HB6.out).mono ?_
    rintro e w9 ⟨o9, rfl, h9⟩
    have H9 := Lib.hid h9
    obtain ⟨u0, u1, u2⟩ := HKQ.out s.less1 w9 rfl rfl H9.out
    clear h9 y0 y1 y2
    go_wp2_with fail
    refine (HEV.out s.less1 w9 rfl rfl HOK.out.fine.less1 H9.out).mono ?_
    rintro e wa ⟨o, rfl, ha, hka⟩
    have HF : Hid (RmP w0 w xp sp top s (.returned o) wa) := Lib.hid ⟨o, rfl, by rw [HE.out.1]; exact ha, by rw [HE.out.2]; exact hka⟩
    clear ha hka HEV H9
    go_wp2
    go_ret
    exact HF.out
  · go_wp2_with fail
    refine (HC0.out w6 HB6.out).mono ?_
    rintro e wa ⟨o, rfl, ha, hka⟩
    have HF : Hid (RmP w0 w xp sp top s (.returned o) wa) := Lib.hid ⟨o, rfl, by rw [HE.out.1]; exact ha, by rw [HE.out.2.1]; exact hka HE.out.2.2⟩
    clear ha hka HEV y0 y1 y2
    go_wp2
    go_ret
    exact HF.out
end
section
variable {w0 w w' : World} {xp top : Nat} {s : L11}
set_option maxHeartbeats 1000000 in
theorem enew_walk (hb : Below w0.heap.size w0 w) (n : Int) (hn1 : -9223372036854775808 ≤ n) (hn2 : n ≤ 9223372036854775807) :
    Calls Tryz.prog 5 #[.int .i64 n] w fun e w' => ∃ xp, e = .returned (ptr xp) ∧ EP w0 w xp (L11.new n) 0 w' := by
  have HN : Hid (Calls Tryz.prog 24 #[.int .i64 4] w (SINew w0 w 4 (allN w))) := Lib.hid (si_new hb (K := allN w) (fun k hk => (allN_mem.1 hk).lt) 4)
  have HB := Lib.hid (fun (W : World) => ebounded_walk (w := W) n hn1 hn2)
  have HOK := Lib.hid (L11.ok_new n)
  have hsz := hb.size
  obtain ⟨c, hc⟩ : ∃ c, capI n = c := ⟨_, rfl⟩
  have HE : Hid (L11.new n = ⟨c, 0, [], [], [], []⟩) := Lib.hid (by rw [← hc]; rfl)
  rw [hc] at HB
  rw [HE.out] at HOK ⊢
  clear hc HE hb
  go_enter Tryz.func5, Tryz.ntmps5
  go_wp2_with fail
  refine HN.out.mono ?_
  rintro e w2 ⟨sp, rfl, h, hk⟩
  have H2 := Lib.hid h
  have HK := Lib.hid hk
  clear h hk
  go_wp2_with fail
  refine (HB.out w2).mono ?_
  rintro e w3 ⟨rfl, rfl⟩
  have hz2 := H2.out.below.size
  have hlow := low_one w2 (.cells (cacheC sp c 0) CaT)
  have HF : Hid (EP w0 w w2.heap.size ⟨c, 0, [], [], [], []⟩ 0 (w2.alloc (.cells (cacheC sp c 0) CaT))) := Lib.hid ⟨⟨HOK.out, by decide, hz2, sp, heap_alloc_new w2 _, 8, Tb.new, ((H2.out.less (K' := []) (by simp)).other hlow (fun k hk => by
    simp only [List.mem_singleton] at hk
    subst hk
    exact ⟨.inr (Nat.le_refl _), by simp⟩)).congr (fun t ht => by rcases four ht with rfl | rfl | rfl | rfl <;> rfl), R8.start⟩, fun g hg => (hlow.block g (by
      have := HK.out g (allN_mem.2 hg)
      exact (hg.keep this).lt)).trans (HK.out g (allN_mem.2 hg))⟩
  clear hlow
  go_wp2
  go_ret
  exact ⟨_, rfl, HF.out⟩
theorem x_find {sp c p : Nat} {a b g d : List Nat} {tp k : Nat} (h : CX w0 w xp sp c p (quad a b g d) tp) (hm : tp ≤ 10000) (h64 : k < 18446744073709551616) :
    (k ∈ a → Calls Tryz.prog 43 #[ptr sp, .int .u64 (k : Nat)] w fun e w' => e = .returned (.tuple #[.int .i64 0, .bool true]) ∧ Below w.heap.size w w') ∧
    (k ∈ b → Calls Tryz.prog 43 #[ptr sp, .int .u64 (k : Nat)] w fun e w' => e = .returned (.tuple #[.int .i64 1, .bool true]) ∧ Below w.heap.size w w') ∧
    (k ∈ g → Calls Tryz.prog 43 #[ptr sp, .int .u64 (k : Nat)] w fun e w' => e = .returned (.tuple #[.int .i64 2, .bool true]) ∧ Below w.heap.size w w') ∧
    (k ∈ d → Calls Tryz.prog 43 #[ptr sp, .int .u64 (k : Nat)] w fun e w' => e = .returned (.tuple #[.int .i64 3, .bool true]) ∧ Below w.heap.size w w') ∧
    (k ∉ a ∧ k ∉ b ∧ k ∉ g ∧ k ∉ d → Calls Tryz.prog 43 #[ptr sp, .int .u64 (k : Nat)] w fun e w' => e = .returned (.tuple #[.int .i64 0, .bool false]) ∧ Below w.heap.size w w') :=
  ⟨fun q => m_find_in (t := 0) h.sk hm (by decide) q, fun q => m_find_in (t := 1) h.sk hm (by decide) q, fun q => m_find_in (t := 2) h.sk hm (by decide) q, fun q => m_find_in (t := 3) h.sk hm (by decide) q, fun q => m_find_out h.sk hm k h64 (quad_not.2 q)⟩
inductive Pl (s : L11) (k : Nat) : Int → Bool → Prop
  | t1 (h : k ∈ s.t1) : Pl s k 0 true
  | t2 (h : k ∈ s.t2) : Pl s k 1 true
  | b1 (h : k ∈ s.b1) : Pl s k 2 true
  | b2 (h : k ∈ s.b2) : Pl s k 3 true
  | no (h : k ∉ s.t1 ∧ k ∉ s.t2 ∧ k ∉ s.b1 ∧ k ∉ s.b2) : Pl s k 0 false
theorem pl_any (s : L11) (k : Nat) : ∃ q b, Pl s k q b := by
  by_cases q1 : k ∈ s.t1
  · exact ⟨_, _, .t1 q1⟩
  · by_cases q2 : k ∈ s.t2
    · exact ⟨_, _, .t2 q2⟩
    · by_cases q3 : k ∈ s.b1
      · exact ⟨_, _, .b1 q3⟩
      · by_cases q4 : k ∈ s.b2
        · exact ⟨_, _, .b2 q4⟩
        · exact ⟨_, _, .no ⟨q1, q2, q3, q4⟩⟩
theorem Pl.find {sp tp k : Nat} {q : Int} {b : Bool} (h : Pl s k q b) (hx : CX w0 w xp sp s.c s.p (q11 s) tp) (hm : tp ≤ 10000) (h64 : k < 18446744073709551616) :
    Calls Tryz.prog 43 #[ptr sp, .int .u64 (k : Nat)] w fun e w' => e = .returned (.tuple #[.int .i64 q, .bool b]) ∧ Below w.heap.size w w' := by
  obtain ⟨f1, f2, f3, f4, f5⟩ := x_find (show CX w0 w xp sp s.c s.p (quad s.t1 s.t2 s.b1 s.b2) tp from hx) hm h64
  cases h with
  | t1 h => exact f1 h
  | t2 h => exact f2 h
  | b1 h => exact f3 h
  | b2 h => exact f4 h
  | no h => exact f5 h
theorem Pl.has {k : Nat} {q : Int} {b : Bool} (h : Pl s k q b) (hf : s.Fine) : decide (k ∈ s.keys) = (b && (q == 0 || q == 1)) := by
  have hk : k ∈ s.keys ↔ k ∈ s.t1 ∨ k ∈ s.t2 := by unfold L11.keys; simp
  obtain ⟨p1, p2, p3⟩ := hf.where_ (k := k)
  cases h with
  | t1 h => rw [decide_eq_true (hk.2 (.inl h))]; rfl
  | t2 h => rw [decide_eq_true (hk.2 (.inr h))]; rfl
  | b1 h => rw [decide_eq_false (fun q => (hk.1 q).elim (fun q => (p1 q).2.1 h) (fun q => (p2 q).1 h))]; rfl
  | b2 h => rw [decide_eq_false (fun q => (hk.1 q).elim (fun q => (p1 q).2.2 h) (fun q => (p2 q).2 h))]; rfl
  | no h => rw [decide_eq_false (fun q => (hk.1 q).elim h.1 h.2.1)]; rfl
theorem Pl.cases {k : Nat} {q : Int} {b : Bool} (h : Pl s k q b) : q = 0 ∧ b = true ∨ q = 1 ∧ b = true ∨ q = 2 ∧ b = true ∨ q = 3 ∧ b = true ∨ q = 0 ∧ b = false := by
  cases h with
  | t1 h => exact .inl ⟨rfl, rfl⟩
  | t2 h => exact .inr (.inl ⟨rfl, rfl⟩)
  | b1 h => exact .inr (.inr (.inl ⟨rfl, rfl⟩))
  | b2 h => exact .inr (.inr (.inr (.inl ⟨rfl, rfl⟩)))
  | no h => exact .inr (.inr (.inr (.inr ⟨rfl, rfl⟩)))
theorem ehas_walk (h : EC w0 w xp s top) (k : Nat) (h64 : k < 18446744073709551616) :
    Calls Tryz.prog 23 #[ptr xp, .int .u64 (k : Nat)] w (RetB w (decide (k ∈ s.keys))) := by
  obtain ⟨sp, hx⟩ := h.mem
  have hm : 2 * top ≤ 10000 := by have := h.small; omega
  have hE := Lib.hid (fun (W : World) => eopen_walk (w := W) xp)
  obtain ⟨x0, x1, x2⟩ := hx.cells
  obtain ⟨q, b, hp⟩ := pl_any s k
  have HF := Lib.hid (hp.find hx hm h64)
  rw [hp.has h.ok.fine]
  have hqb := hp.cases
  clear h hx hp
  rcases hqb with ⟨rfl, rfl⟩ | ⟨rfl, rfl⟩ | ⟨rfl, rfl⟩ | ⟨rfl, rfl⟩ | ⟨rfl, rfl⟩
  all_goals
    go_enter Tryz.func23, Tryz.ntmps23
    go_wp2_with fail
    refine (hE.out w).mono ?_
    rintro e w1 ⟨rfl, rfl⟩
    go_wp2_with fail
    refine HF.out.mono ?_
    rintro e w2 ⟨rfl, hb⟩
    have HP := Lib.hid hb
    clear hb x0 x1 x2
    go_wp2
    go_ret
    exact ⟨rfl, HP.out⟩
theorem etouch_walk (h : EC w0 w xp s top) (k : Nat) (h64 : k < 18446744073709551616) :
    Calls Tryz.prog 21 #[ptr xp, .int .u64 (k : Nat)] w fun e w' => e = .returned (.tuple #[]) ∧ EP w0 w xp (s.touch k) top w' := by
  obtain ⟨sp, hx⟩ := h.mem
  have hm : 2 * top ≤ 10000 := by have := h.small; omega
  have hE := Lib.hid (fun (W : World) => eopen_walk (w := W) xp)
  have HH := Lib.hid (ehas_walk h k h64)
  by_cases hk : k ∈ s.keys
  · rw [decide_eq_true hk] at HH
    have HKC : Hid (∀ W, Below w.heap.size w W → C3 xp sp s.c s.p W) := Lib.hid (fun W hb => (hx.still hb).cells)
    have HM : Hid (∀ W, Below w.heap.size w W → Calls Tryz.prog 47 #[ptr sp, .int .i64 1, .int .u64 (k : Nat)] W fun e w' => e = .returned (.bool true) ∧ EP w0 w xp (s.touch k) top w') := Lib.hid (fun W hb => by
      have hin : ∃ t, t < 4 ∧ k ∈ q11 s t := by
        unfold L11.keys at hk
        rcases List.mem_append.1 hk with q | q
        · exact ⟨0, by decide, q⟩
        · exact ⟨1, by decide, q⟩
      obtain ⟨t, ht, hq⟩ := hin
      refine (x_mv1 (hx.still hb) hm ht hq).mono ?_
      rintro e w' ⟨rfl, g1, g2⟩
      refine ⟨rfl, EC.make (h.ok.touch k) h.small h.ge (sp := sp) ?_, (Kn.below hb).trans g2⟩
      have e1 : (s.touch k).p = s.p := by unfold L11.touch; rw [if_pos hk]
      rw [L11.touch_c, e1]
      exact g1.congr (L11.touch_q h.ok.fine hk))
    clear h hx hk
    go_enter Tryz.func21, Tryz.ntmps21
    go_wp2_with fail
    refine (hE.out w).mono ?_
    rintro e w1 ⟨rfl, rfl⟩
    go_wp2_with fail
    refine HH.out.mono ?_
    rintro e w2 ⟨rfl, hb⟩
    obtain ⟨y0, y1, y2⟩ := HKC.out w2 hb
    have HMM := Lib.hid (HM.out w2 hb)
    clear hb HM HKC
    go_wp2_with fail
    refine HMM.out.mono ?_
    rintro e w3 ⟨rfl, hp⟩
    have HP := Lib.hid hp
    clear hp
    go_wp2
    exact bodyPost_end (v := .tuple #[]) (by simp [results, Tryz.results21, go_sem]) rfl ⟨rfl, HP.out⟩
  · rw [decide_eq_false hk] at HH
    have e1 : s.touch k = s := by unfold L11.touch; rw [if_neg hk]
    rw [e1]
    have H := Lib.hid h
    clear h hx hk e1
    go_enter Tryz.func21, Tryz.ntmps21
    go_wp2_with fail
    refine (hE.out w).mono ?_
    rintro e w1 ⟨rfl, rfl⟩
    go_wp2_with fail
    refine HH.out.mono ?_
    rintro e w2 ⟨rfl, hb⟩
    have HP : Hid (EP w0 w xp s top w2) := Lib.hid ⟨H.out.still hb, Kn.below hb⟩
    clear hb
    go_wp2
    exact bodyPost_end (v := .tuple #[]) (by simp [results, Tryz.results21, go_sem]) rfl ⟨rfl, HP.out⟩
theorem edrop_walk (h : EC w0 w xp s top) (k : Nat) (h64 : k < 18446744073709551616) :
    Calls Tryz.prog 36 #[ptr xp, .int .u64 (k : Nat)] w fun e w' => e = .returned (.tuple #[]) ∧ EP w0 w xp (s.drop k) top w' := by
  obtain ⟨sp, hx⟩ := h.mem
  have hm : 2 * top ≤ 10000 := by have := h.small; omega
  have hE := Lib.hid (fun (W : World) => eopen_walk (w := W) xp)
  obtain ⟨x0, x1, x2⟩ := hx.cells
  have HM : Hid (Calls Tryz.prog 56 #[ptr sp, .int .u64 (k : Nat)] w fun e w' => ∃ b, e = .returned (.bool b) ∧ EP w0 w xp (s.drop k) top w') := Lib.hid (by
    refine (x_rem hx hm h64).mono ?_
    rintro e w' ⟨b, rfl, g1, g2⟩
    exact ⟨_, rfl, EC.make (h.ok.drop k) h.small h.ge (sp := sp) (g1.congr (fun t ht => quad_rm ht)), g2⟩)
  clear h hx
  go_enter Tryz.func36, Tryz.ntmps36
  go_wp2_with fail
  refine (hE.out w).mono ?_
  rintro e w1 ⟨rfl, rfl⟩
  go_wp2_with fail
  refine HM.out.mono ?_
  rintro e w2 ⟨b, rfl, hp⟩
  have HP := Lib.hid hp
  clear hp x0 x1 x2
  go_wp2
  exact bodyPost_end (v := .tuple #[]) (by simp [results, Tryz.results36, go_sem]) rfl ⟨rfl, HP.out⟩
theorem eghosts_walk (h : EC w0 w xp s top) :
    Calls Tryz.prog 18 #[ptr xp] w fun e w' => e = .returned (.int .i64 (s.ghosts : Nat)) ∧ Below w.heap.size w w' := by
  obtain ⟨sp, hx⟩ := h.mem
  have hm : 2 * top ≤ 10000 := by have := h.small; omega
  have hsum := CX.sum (show CX w0 w xp sp s.c s.p (quad s.t1 s.t2 s.b1 s.b2) (2 * top) from hx)
  obtain ⟨n2, hn2⟩ : ∃ n2, s.b1.length = n2 := ⟨_, rfl⟩
  obtain ⟨n3, hn3⟩ : ∃ n3, s.b2.length = n3 := ⟨_, rfl⟩
  have hE := Lib.hid (fun (W : World) => eopen_walk (w := W) xp)
  obtain ⟨x0, x1, x2⟩ := hx.cells
  have HKC : Hid (∀ W, Below w.heap.size w W → C3 xp sp s.c s.p W) := Lib.hid (fun W hb => (hx.still hb).cells)
  have HL2 : Hid (∀ W, Below w.heap.size w W → Calls Tryz.prog 41 #[ptr sp, .int .i64 2] W fun e w' => e = .returned (.int .i64 (n2 : Nat)) ∧ Below w.heap.size w w') := Lib.hid (fun W hb => x_len hx hb (t := 2) (by decide) hn2)
  have HL3 : Hid (∀ W, Below w.heap.size w W → Calls Tryz.prog 41 #[ptr sp, .int .i64 3] W fun e w' => e = .returned (.int .i64 (n3 : Nat)) ∧ Below w.heap.size w w') := Lib.hid (fun W hb => x_len hx hb (t := 3) (by decide) hn3)
  have eg : s.ghosts = n2 + n3 := by unfold L11.ghosts; rw [hn2, hn3]
  rw [eg]
  have h2I : (n2 : Int) ≤ 10000 := by omega
  have h3I : (n3 : Int) ≤ 10000 := by omega
  have h20 : (0 : Int) ≤ (n2 : Int) := by omega
  have h30 : (0 : Int) ≤ (n3 : Int) := by omega
  have hw : IntKind.i64.wrap ((n2 : Int) + (n3 : Int)) = (n2 : Int) + (n3 : Int) := IntWalk.i64_in _ (by omega)
  clear h hx hsum hm hn2 hn3 eg
  go_enter Tryz.func18, Tryz.ntmps18
  go_wp2_with fail
  refine (hE.out w).mono ?_
  rintro e w1 ⟨rfl, rfl⟩
  go_upto_region 2 with fail
  go_region_held3 (fun w' => w'.cell? ⟨xp, 0, none⟩ = some (ptr sp) ∧ w'.cell? ⟨xp, 1, none⟩ = some (.int .i64 (s.c : Nat)) ∧ w'.cell? ⟨xp, 2, none⟩ = some (.int .i64 (s.p : Nat))) (first | with_reducible exact kk5 | with_reducible exact kk6 | go_keep)
    (first
      | (go_at_call 41; refine (HL3.out _ hb5).mono ?_; rintro e w6 ⟨rfl, hb6⟩; have kk6 := HKC.out w6 hb6)
      | (go_at_call 41; refine (HL2.out _ (below_drewn (Below.refl _ _) _)).mono ?_; rintro e w5 ⟨rfl, hb5⟩; have kk5 := HKC.out w5 hb5))
  have HP := Lib.hid hb6
  clear hb5 hb6 kk5 kk6 x0 x1 x2
  go_wp2
  go_ret
  exact ⟨by simp, HP.out⟩
end
end Go.Proofs.YtgkblelgcikafaaGreat
