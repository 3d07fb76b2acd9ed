/- Words and walks: EaE EaQ. -/
import Derived.Test.YtgkblelgcikafaaG25
import Derived.IntWalk
import Derived.Deep.CutRange
import Derived.Deep.DeepCutAuto
namespace Go.Proofs.Ytgkblelgcikafaa
open Go Go.RowKit Go.Deep
section
variable {w0 w W w' : World} {xp sp top i m : Nat} {s : L11} {g : Bool}
def Mi (w0 w : World) (xp sp : Nat) (s : L11) (top i m : Nat) (w' : World) : Prop := CP w0 w xp sp s.c s.p (s.mid i m) top w'
theorem mem_last {l : List Nat} {i : Nat} (h0 : 0 < i) (hi : i ≤ l.length) : l.getD (i - 1) 0 ∈ l.take i := by
  rw [List.getD_eq_getElem?_getD, List.getElem?_eq_getElem (by omega)]
  exact List.mem_iff_getElem.2 ⟨i - 1, by rw [List.length_take]; omega, by rw [List.getElem_take]; rfl⟩
theorem last_take {l : List Nat} {i : Nat} (h0 : 0 < i) (hi : i ≤ l.length) : (l.take i).getLastD 0 = l.getD (i - 1) 0 := by
  rw [(take_last l i h0 hi).1, List.getD_eq_getElem?_getD, List.getElem?_eq_getElem (by omega)]
  rfl
theorem less_take {l : List Nat} (hn : l.Nodup) {i : Nat} (h0 : 0 < i) (hi : i ≤ l.length) : wo (l.getD (i - 1) 0) (l.take i) = l.take (i - 1) := by
  have e : l.getD (i - 1) 0 = l[i - 1] := by
    rw [List.getD_eq_getElem?_getD, List.getElem?_eq_getElem (by omega)]
    rfl
  rw [e]
  exact take_less l hn i h0 hi
theorem drop_last {l : List Nat} {i : Nat} (h0 : 0 < i) (hi : i ≤ l.length) : l.drop (i - 1) = l.getD (i - 1) 0 :: l.drop i := by
  have := List.drop_eq_getElem_cons (l := l) (i := i - 1) (by omega)
  rw [this, Nat.sub_add_cancel h0, List.getD_eq_getElem?_getD, List.getElem?_eq_getElem (by omega)]
  rfl
theorem Mi.still (h : Mi w0 w xp sp s top i m W) (hb : Below W.heap.size W w') : Mi w0 w xp sp s top i m w' := CP.still h hb
theorem mi_back0 (h : Mi w0 w xp sp s top i m W) (hm : top ≤ 10000) (h0 : 0 < i) (hi : i ≤ s.t1.length) :
    Calls Try.prog 75 #[ptr sp, .int .i64 0] W fun e w' => ∃ b', e = .returned (.tuple #[.int .u64 (s.t1.getD (i - 1) 0 : Nat), .bool b']) ∧ Below W.heap.size W w' := by
  refine (m_back (t := 0) h.1.sk hm (by decide)).mono ?_
  rintro e w' ⟨rfl, hb⟩
  rw [show s.mid i m 0 = s.t1.take i from rfl, last_take h0 hi]
  exact ⟨_, rfl, hb⟩
theorem mi_back1 (h : Mi w0 w xp sp s top i m W) (hm : top ≤ 10000) (h0 : 0 < m) (hi : m ≤ s.t2.length) :
    Calls Try.prog 75 #[ptr sp, .int .i64 1] W fun e w' => ∃ b', e = .returned (.tuple #[.int .u64 (s.t2.getD (m - 1) 0 : Nat), .bool b']) ∧ Below W.heap.size W w' := by
  refine (m_back (t := 1) h.1.sk hm (by decide)).mono ?_
  rintro e w' ⟨rfl, hb⟩
  rw [show s.mid i m 1 = s.t2.take m from rfl, last_take h0 hi]
  exact ⟨_, rfl, hb⟩
theorem mi_move0 (h : Mi w0 w xp sp s top i m W) (hf : s.Fine) (hm : top ≤ 10000) (h0 : 0 < i) (hi : i ≤ s.t1.length) :
    Calls Try.prog 43 #[ptr sp, .int .i64 2, .int .u64 (s.t1.getD (i - 1) 0 : Nat)] W fun e w' => e = .returned (.bool true) ∧ Mi w0 w xp sp s top (i - 1) m w' ∧ Kn W w' := by
  refine (x_mv02 h.1 hm (mem_last h0 hi)).mono ?_
  rintro e w' ⟨rfl, g1, g2⟩
  rw [less_take hf.t1Nd h0 hi, ← List.cons_append, ← drop_last h0 hi] at g1
  exact ⟨rfl, ⟨g1, h.2.trans g2⟩, g2⟩
theorem mi_move1 (h : Mi w0 w xp sp s top i m W) (hf : s.Fine) (hm : top ≤ 10000) (h0 : 0 < m) (hi : m ≤ s.t2.length) :
    Calls Try.prog 43 #[ptr sp, .int .i64 3, .int .u64 (s.t2.getD (m - 1) 0 : Nat)] W fun e w' => e = .returned (.bool true) ∧ Mi w0 w xp sp s top i (m - 1) w' ∧ Kn W w' := by
  refine (x_mv13 h.1 hm (mem_last h0 hi)).mono ?_
  rintro e w' ⟨rfl, g1, g2⟩
  rw [less_take hf.t2Nd h0 hi, ← List.cons_append, ← drop_last h0 hi] at g1
  exact ⟨rfl, ⟨g1, h.2.trans g2⟩, g2⟩
def EvP (w0 w : World) (xp sp : Nat) (s : L11) (top N : Nat) (g : Bool) (e : Ending) (w' : World) : Prop := ∃ o, e = .returned o ∧ CP w0 w xp sp s.c s.p (q11 (s.cut N g)) top w' ∧ KF w0.heap.size w w' o (s.cutOut N g)
structure EvL (w0 w wr : World) (xp sp : Nat) (s : L11) (top N : Nat) (g : Bool) (f i m : Nat) (v : Value) : Prop where
  t : Mi w0 w xp sp s top i m wr
  hi : i ≤ s.t1.length
  hm : m ≤ s.t2.length
  hf : f ≤ i + m
  li : cuI s.p g f i m = s.li N g
  lm : cuM s.p g f i m = s.lm N g
  own : ∃ out, KF w0.heap.size w wr v out ∧ out ++ cuO s.p g s.t1 s.t2 f i m = s.cutOut N g ∧ out.length + f = s.many N
theorem EvL.done {N : Nat} {v : Value} (h : EvL w0 w W xp sp s top N g 0 i m v) : EvP w0 w xp sp s top N g (.returned v) W := by
  obtain ⟨out, h1, h2, h3⟩ := h.own
  have e1 := h.li
  have e2 := h.lm
  rw [cuI] at e1
  rw [cuM] at e2
  rw [cuO, List.append_nil] at h2
  rw [h2] at h1
  refine ⟨v, rfl, ?_, h1⟩
  rw [← L11.mid_cut, ← e1, ← e2]
  exact h.t
theorem EvL.next {N f i' m' kx B : Nat} {v v6 : Value} {W1 w6 : World} (h : EvL w0 w W1 xp sp s top N g (f + 1) i m v)
    (hcase : fst1 s.p g i m ∧ i' = i - 1 ∧ m' = m ∧ s.t1.getD (i - 1) 0 = kx ∨ ¬ fst1 s.p g i m ∧ i' = i ∧ m' = m - 1 ∧ s.t2.getD (m - 1) 0 = kx)
    (ht : Mi w0 w xp sp s top i' m' W) {out : List Nat} (ho : out ++ cuO s.p g s.t1 s.t2 (f + 1) i m = s.cutOut N g) (hn : out.length + (f + 1) = s.many N)
    (hB : w0.heap.size ≤ B) (hBw : ∀ g, NP w g → g < B) (hBz : B ≤ W.heap.size) (hk : Kt 31 W w6) (hown : KO B W w6 v6 (out ++ [kx])) : EvL w0 w w6 xp sp s top N g f i' m' v6 := by
  have hl := hown.low
  have hkn : Kn w w6 := fun g hg => (hl.block g (hBw g hg)).trans (ht.2 g hg)
  have hT : Mi w0 w xp sp s top i' m' w6 := ⟨ht.1.sty (ht.1.sk.below.trans (hl.mono hB)) hk.sty hl.size, hkn⟩
  have hKF : KF w0.heap.size w w6 v6 (out ++ [kx]) := ⟨B, ⟨Below.refl _ _, hown.own⟩, hB, Nat.le_trans hBz hl.size, hBw⟩
  have hi := h.hi
  have hm := h.hm
  have hf := h.hf
  have e1 := h.li
  have e2 := h.lm
  rcases hcase with ⟨q, rfl, rfl, hx⟩ | ⟨q, rfl, rfl, hx⟩
  · rw [cuI_in q] at e1
    rw [cuM_in q] at e2
    rw [cuO_in q, hx] at ho
    have := fst1_pos q (by omega)
    exact ⟨hT, by omega, hm, by omega, e1, e2, _, hKF, by rw [List.append_assoc]; exact ho, by rw [List.length_append]; simp only [List.length_cons, List.length_nil]; omega⟩
  · rw [cuI_out q] at e1
    rw [cuM_out q] at e2
    rw [cuO_out q, hx] at ho
    have := fst1_neg q
    exact ⟨hT, hi, by omega, by omega, e1, e2, _, hKF, by rw [List.append_assoc]; exact ho, by rw [List.length_append]; simp only [List.length_cons, List.length_nil]; omega⟩
set_option maxHeartbeats 8000000 in
set_option maxRecDepth 4000 in
theorem evictAll_walk (h : CX w0 w xp sp s.c s.p (q11 s) top) (hf : s.Fine) (hm : top ≤ 10000) (hp : s.p ≤ 1048576) (N : Nat) (hN : N ≤ 1048576) :
    Calls Try.prog 47 #[ptr xp, .int .i64 (N : Nat), .bool g] w (EvP w0 w xp sp s top N g) := by
  have hsum := CX.sum (show CX w0 w xp sp s.c s.p (quad s.t1 s.t2 s.b1 s.b2) top from h)
  have hsz := h.sk.below.size
  have HC := Lib.hid (And.intro hm (And.intro hp hf))
  obtain ⟨n0, hn0⟩ : ∃ n0, s.t1.length = n0 := ⟨_, rfl⟩
  obtain ⟨m0, hm0⟩ : ∃ m0, s.t2.length = m0 := ⟨_, rfl⟩
  have HL0 : Hid (∀ W, Below w.heap.size w W → Calls Try.prog 41 #[ptr sp, .int .i64 0] W fun e w' => e = .returned (.int .i64 (n0 : Nat)) ∧ Below w.heap.size w w') := Lib.hid (fun W hb => x_len h hb (t := 0) (by decide) hn0)
  have HL1 : Hid (∀ W, Below w.heap.size w W → Calls Try.prog 41 #[ptr sp, .int .i64 1] W fun e w' => e = .returned (.int .i64 (m0 : Nat)) ∧ Below w.heap.size w w') := Lib.hid (fun W hb => x_len h hb (t := 1) (by decide) hm0)
  have HKC : Hid (∀ W, Below w.heap.size w W → C3 xp sp s.c s.p W) := Lib.hid (fun W hb => (h.still hb).cells)
  have HI0 : Hid (∀ W, Below w.heap.size w W → EvL w0 w W xp sp s top N g (s.many N) s.t1.length s.t2.length (.slice none 0 0)) := Lib.hid (fun W hb => ⟨⟨by rw [L11.mid_all]; exact h.still hb, Kn.below hb⟩, Nat.le_refl _, Nat.le_refl _, s.many_le N, rfl, rfl, [], KF.nil (Kn.below hb) (Nat.le_trans hsz hb.size), rfl, by simp⟩)
  obtain ⟨x0, x1, x2⟩ := h.cells
  obtain ⟨M, hM⟩ : ∃ M, s.many N = M := ⟨_, rfl⟩
  have hMI : n0 + m0 - N = M := by rw [← hM, ← hn0, ← hm0]; rfl
  have HMM := Lib.hid hM
  rw [hM] at HI0
  have hM10 : (M : Int) ≤ 10000 := by omega
  have hn0I : (n0 : Int) ≤ 10000 := by omega
  have hm0I : (m0 : Int) ≤ 10000 := by omega
  have hn00 : (0 : Int) ≤ (n0 : Int) := by omega
  have hm00 : (0 : Int) ≤ (m0 : Int) := by omega
  have hNI : (N : Int) ≤ 1048576 := by omega
  have hN0 : (0 : Int) ≤ (N : Int) := by omega
  clear h hsum hn0 hm0 hM hf hm hp hsz hN
  go_enter Try.func47, Try.ntmps47
  go_wp2_with fail
  go_upto_region 2 with fail
  go_cut [23, 24] (fun s23 s24 wx => s23 = .int .i64 ((n0 : Int) + (m0 : Int) - (N : Int)) ∧ s24 = .int .i64 0 ∧ Hid (∃ i m, EvL w0 w wx xp sp s top N g M i m (.slice none 0 0)))
  case first =>
    go_region_held3 (fun w' => w'.cell? ⟨xp, 0, none⟩ = some (ptr sp) ∧ w'.cell? ⟨xp, 1, none⟩ = some (.int .i64 (s.c : Nat)) ∧ w'.cell? ⟨xp, 2, none⟩ = some (.int .i64 (s.p : Nat))) (first | with_reducible exact kk5 | with_reducible exact kk6 | go_keep)
      (first
        | (go_at_call 41; refine (HL1.out _ hb5).mono ?_; rintro e w6 ⟨rfl, hb6⟩; have kk6 := HKC.out w6 hb6)
        | (go_at_call 41; refine (HL0.out _ (below_drewn (Below.refl _ _) _)).mono ?_; rintro e w5 ⟨rfl, hb5⟩; have kk5 := HKC.out w5 hb5))
    all_goals
      have HI : Hid (∃ i m, EvL w0 w w6 xp sp s top N g M i m (.slice none 0 0)) := Lib.hid ⟨_, _, HI0.out w6 hb6⟩
      clear hb5 hb6 kk5 kk6
      go_wp2_with fail
      go_meet
      exact ⟨by rw [IntWalk.i64_in ((n0 : Int) + (m0 : Int)) (by omega), IntWalk.i64_in _ (by omega)]; all_goals go_num, rfl, HI⟩
  case rest =>
    obtain ⟨rfl, rfl, HI⟩ := hcut
    clear x0 x1 x2 HL0 HL1 HKC HI0
    go_wp2_with fail
    go_loopg [7, 24] M (fun gg s7 s24 wr => ∃ (j i m : Nat) (v7 : Value), j + gg = M ∧ v7 = s7 ∧ s24 = .int .i64 (j : Nat) ∧ Hid (EvL w0 w wr xp sp s top N g gg i m v7))
    case atStart =>
      obtain ⟨i, m, HI⟩ := HI.out
      exact ⟨0, i, m, _, by omega, rfl, rfl, Lib.hid HI⟩
    case round =>
      obtain ⟨j, i, m, v7, hj, rfl, rfl, HI⟩ := hrel
      by_cases hlt : j < M
      · have hltI : (j : Int) < (n0 : Int) + (m0 : Int) - (N : Int) := by omega
        obtain ⟨f, rfl⟩ : ∃ f, gk = f + 1 := ⟨gk - 1, by omega⟩
        obtain ⟨x0, x1, x2⟩ := HI.out.t.1.cells
        obtain ⟨out, g1, g2, g3⟩ := HI.out.own
        have HG1 := Lib.hid g1
        have HG2 := Lib.hid g2
        have HG3 := Lib.hid g3
        have HOL : Hid (out.length ≤ 10000) := Lib.hid (by have := HMM.out; omega)
        have hil := HI.out.hi
        have hml := HI.out.hm
        have hff := HI.out.hf
        have hC := HC.out
        have hm10 := hC.1
        have hsl := CX.sum (show CX w0 wr xp sp s.c s.p (quad (s.t1.take i) (s.t2.take m) (s.t1.drop i ++ s.b1) (s.t2.drop m ++ s.b2)) top from HI.out.t.1)
        rw [List.length_take, List.length_take, Nat.min_eq_left hil, Nat.min_eq_left hml] at hsl
        have hi10 : i ≤ 10000 := by omega
        have hm11 : m ≤ 10000 := by omega
        clear g1 g2 g3 hsl
        by_cases q : fst1 s.p g i m
        · have hpos : 0 < i := fst1_pos q (by omega)
          obtain ⟨kx, hkx⟩ : ∃ kx, s.t1.getD (i - 1) 0 = kx := ⟨_, rfl⟩
          have HCS : Hid (fst1 s.p g i m ∧ s.t1.getD (i - 1) 0 = kx) := Lib.hid ⟨q, hkx⟩
          have HDM : Hid (Calls Try.prog 74 #[ptr xp, .bool g] wr fun e w' => e = .returned (.agg #[.int .i64 0, .int .i64 2]) ∧ Below wr.heap.size wr w') := Lib.hid (by
            have := demotion_walk (g := g) (p := s.p) HI.out.t.1 hC.2.1 (i := i) (m := m) (by rw [show s.mid i m 0 = s.t1.take i from rfl, List.length_take]; omega) (by rw [show s.mid i m 1 = s.t2.take m from rfl, List.length_take]; omega) (by omega) (by omega)
            rw [decide_eq_true q] at this
            exact this)
          have HBK : Hid (∀ W, Mi w0 w xp sp s top i m W → Calls Try.prog 75 #[ptr sp, .int .i64 0] W fun e w' => ∃ b', e = .returned (.tuple #[.int .u64 (kx : Nat), .bool b']) ∧ Below W.heap.size W w') := Lib.hid (fun W hW => by rw [← hkx]; exact mi_back0 hW hm10 hpos hil)
          have HMV : Hid (∀ W, Mi w0 w xp sp s top i m W → Calls Try.prog 43 #[ptr sp, .int .i64 2, .int .u64 (kx : Nat)] W fun e w' => e = .returned (.bool true) ∧ Mi w0 w xp sp s top (i - 1) m w' ∧ Kn W w') := Lib.hid (fun W hW => by rw [← hkx]; exact mi_move0 hW hC.2.2 hm10 hpos hil)
          clear hkx q hpos hil hml hff hC hm10
          go_wp2_with fail
          refine HDM.out.mono ?_
          rintro e w7 ⟨rfl, hb7⟩
          have hA := heap_alloc_new w7 (.cells #[.int .i64 0, .int .i64 2] 104)
          have hlow := low_one w7 (.cells #[.int .i64 0, .int .i64 2] 104)
          have hT7 := (HI.out.t.still hb7).still hlow
          have hr7 := hb7.trans (hlow.mono hb7.size)
          obtain ⟨X, hX⟩ : ∃ X, w7.alloc (.cells #[.int .i64 0, .int .i64 2] 104) = X := ⟨_, rfl⟩
          rw [hX] at hA hlow hT7 hr7
          obtain ⟨bx, hbx⟩ : ∃ bx, w7.heap.size = bx := ⟨_, rfl⟩
          rw [hbx] at hA
          have hbX := (head_row hA).lt
          have HR7 := Lib.hid (Kn.below hr7)
          have HKC : Hid (∀ W, Below X.heap.size X W → W.cell? ⟨xp, 0, none⟩ = some (ptr sp) ∧ W.cell? ⟨xp, 1, none⟩ = some (.int .i64 (s.c : Nat)) ∧ W.cell? ⟨xp, 2, none⟩ = some (.int .i64 (s.p : Nat)) ∧ W.cell? ⟨bx, 0, none⟩ = some (.int .i64 0) ∧ W.cell? ⟨bx, 1, none⟩ = some (.int .i64 2)) := Lib.hid (fun W hb => by
            have h1 := (hT7.still hb).1.cells
            have h2 := (c2_at ((hb.block bx hbX).trans hA)).1
            exact ⟨h1.1, h1.2.1, h1.2.2, h2.1, h2.2⟩)
          have HKM : Hid (∀ W W', Below X.heap.size X W → Mi w0 w xp sp s top (i - 1) m W' → Kn W W' → W'.cell? ⟨xp, 0, none⟩ = some (ptr sp) ∧ W'.cell? ⟨xp, 1, none⟩ = some (.int .i64 (s.c : Nat)) ∧ W'.cell? ⟨xp, 2, none⟩ = some (.int .i64 (s.p : Nat)) ∧ W'.cell? ⟨bx, 0, none⟩ = some (.int .i64 0) ∧ W'.cell? ⟨bx, 1, none⟩ = some (.int .i64 2)) := Lib.hid (fun W W' hb hM hk => by
            have hn := (NP.cells hA (by decide)).keep (hb.block bx hbX)
            have h1 := hM.1.cells
            have h2 := (c2_at ((hk bx hn).trans ((hb.block bx hbX).trans hA))).1
            exact ⟨h1.1, h1.2.1, h1.2.2, h2.1, h2.2⟩)
          have HBX : Hid (∀ W, Below X.heap.size X W → Calls Try.prog 75 #[ptr sp, .int .i64 0] W fun e w' => ∃ b', e = .returned (.tuple #[.int .u64 (kx : Nat), .bool b']) ∧ Below X.heap.size X w') := Lib.hid (fun W hb => (HBK.out W (hT7.still hb)).mono (fun e w' ⟨b', he, hb'⟩ => ⟨b', he, hb.trans (hb'.mono hb.size)⟩))
          have HMX : Hid (∀ W, Below X.heap.size X W → Calls Try.prog 43 #[ptr sp, .int .i64 2, .int .u64 (kx : Nat)] W fun e w' => e = .returned (.bool true) ∧ Mi w0 w xp sp s top (i - 1) m w' ∧ Kn wr w' ∧ w'.cell? ⟨xp, 0, none⟩ = some (ptr sp) ∧ w'.cell? ⟨xp, 1, none⟩ = some (.int .i64 (s.c : Nat)) ∧ w'.cell? ⟨xp, 2, none⟩ = some (.int .i64 (s.p : Nat)) ∧ w'.cell? ⟨bx, 0, none⟩ = some (.int .i64 0) ∧ w'.cell? ⟨bx, 1, none⟩ = some (.int .i64 2)) := Lib.hid (fun W hb => (HMV.out W (hT7.still hb)).mono (fun e w' ⟨he, h1, h2⟩ => ⟨he, h1, HR7.out.trans ((Kn.below hb).trans h2), HKM.out W w' hb h1 h2⟩))
          obtain ⟨y0, y1, y2, y3, y4⟩ := HKC.out X (Below.refl _ _)
          clear hA hlow hT7 hr7 hbX HDM HBK HMV HKM hb7
          go_upto_region 5 with fail
          clear hX hbx
          go_region_held3 (fun w' => w'.cell? ⟨xp, 0, none⟩ = some (ptr sp) ∧ w'.cell? ⟨xp, 1, none⟩ = some (.int .i64 (s.c : Nat)) ∧ w'.cell? ⟨xp, 2, none⟩ = some (.int .i64 (s.p : Nat)) ∧ w'.cell? ⟨bx, 0, none⟩ = some (.int .i64 0) ∧ w'.cell? ⟨bx, 1, none⟩ = some (.int .i64 2)) (first | with_reducible exact kk8 | go_keep)
            (first
              | (go_at_call 75; refine (HBX.out _ (below_drewn (Below.refl _ _) _)).mono ?_; rintro e w8 ⟨b8, rfl, hb8⟩; have kk8 := HKC.out w8 hb8))
          obtain ⟨z0, z1, z2, z3, z4⟩ := kk8
          have HM8 : Hid (∀ W, Below w8.heap.size w8 W → Calls Try.prog 43 #[ptr sp, .int .i64 2, .int .u64 (kx : Nat)] W fun e w' => e = .returned (.bool true) ∧ Mi w0 w xp sp s top (i - 1) m w' ∧ Kn wr w' ∧ w'.cell? ⟨xp, 0, none⟩ = some (ptr sp) ∧ w'.cell? ⟨xp, 1, none⟩ = some (.int .i64 (s.c : Nat)) ∧ w'.cell? ⟨xp, 2, none⟩ = some (.int .i64 (s.p : Nat)) ∧ w'.cell? ⟨bx, 0, none⟩ = some (.int .i64 0) ∧ w'.cell? ⟨bx, 1, none⟩ = some (.int .i64 2)) := Lib.hid (fun W hb => HMX.out W (hb8.trans (hb.mono hb8.size)))
          clear hb8 HBX HMX HKC y0 y1 y2 y3 y4
          go_upto_region 6 with fail
          go_region_held3 (fun w' => w'.cell? ⟨xp, 0, none⟩ = some (ptr sp) ∧ w'.cell? ⟨xp, 1, none⟩ = some (.int .i64 (s.c : Nat)) ∧ w'.cell? ⟨xp, 2, none⟩ = some (.int .i64 (s.p : Nat)) ∧ w'.cell? ⟨bx, 0, none⟩ = some (.int .i64 0) ∧ w'.cell? ⟨bx, 1, none⟩ = some (.int .i64 2)) (first | with_reducible exact kk9 | go_keep)
            (first
              | (go_at_call 43; refine (HM8.out _ (below_drewn (Below.refl _ _) _)).mono ?_; rintro e w9 ⟨rfl, h9, hk9, kk9⟩))
          have H9 := Lib.hid h9
          have HK9 := Lib.hid hk9
          clear h9 hk9 kk9 HM8 z0 z1 z2 z3 z4 x0 x1 x2
          have hlow9 := low_one w9 (.cells #[.int .u64 (kx : Nat)] 31)
          have HTA : Hid (Mi w0 w xp sp s top (i - 1) m (w9.alloc (.cells #[.int .u64 (kx : Nat)] 31))) := Lib.hid (H9.out.still hlow9)
          have HKF : Hid (KF w0.heap.size w (w9.alloc (.cells #[.int .u64 (kx : Nat)] 31)) v7 out) := Lib.hid (HG1.out.kn HI.out.t.2 (HK9.out.trans (Kn.below hlow9)) HTA.out.1.sk.below.size)
          have HKV := Lib.hid (KV.one w9 kx)
          obtain ⟨B, hB1, hB2, hB3, hB4⟩ := HKF.out
          have HO9 := Lib.hid hB1
          have HB4 := Lib.hid hB4
          clear hlow9 hB1 hB4 HKF HG1 HK9 H9 HR7
          go_wp2_with (at_builtin; refine wpList_append_kv rfl (.tmp 47) (.tmp 49) rfl B (by kernel_rfl) (by kernel_rfl) _ _ rfl HO9.out _ [kx] rfl HKV.out (by have := HOL.out; simp; omega) hB3 ?_)
          intro v6 wa hown6 hkp6 hkt6
          have HN : Hid (EvL w0 w wa xp sp s top N g f (i - 1) m v6) := Lib.hid (HI.out.next (.inl ⟨HCS.out.1, rfl, rfl, HCS.out.2⟩) HTA.out HG2.out HG3.out hB2 HB4.out hB3 hkt6 hown6)
          clear hown6 hkp6 hkt6 HTA HO9 HKV HB4 HI
          go_wp2
          go_roundg f
          case measure => omega
          case rel => exact ⟨j + 1, _, _, _, by omega, rfl, by go_num, HN⟩
        · have hpos : 0 < m := fst1_neg q
          obtain ⟨kx, hkx⟩ : ∃ kx, s.t2.getD (m - 1) 0 = kx := ⟨_, rfl⟩
          have HCS : Hid (¬ fst1 s.p g i m ∧ s.t2.getD (m - 1) 0 = kx) := Lib.hid ⟨q, hkx⟩
          have HDM : Hid (Calls Try.prog 74 #[ptr xp, .bool g] wr fun e w' => e = .returned (.agg #[.int .i64 1, .int .i64 3]) ∧ Below wr.heap.size wr w') := Lib.hid (by
            have := demotion_walk (g := g) (p := s.p) HI.out.t.1 hC.2.1 (i := i) (m := m) (by rw [show s.mid i m 0 = s.t1.take i from rfl, List.length_take]; omega) (by rw [show s.mid i m 1 = s.t2.take m from rfl, List.length_take]; omega) (by omega) (by omega)
            rw [decide_eq_false q] at this
            exact this)
          have HBK : Hid (∀ W, Mi w0 w xp sp s top i m W → Calls Try.prog 75 #[ptr sp, .int .i64 1] W fun e w' => ∃ b', e = .returned (.tuple #[.int .u64 (kx : Nat), .bool b']) ∧ Below W.heap.size W w') := Lib.hid (fun W hW => by rw [← hkx]; exact mi_back1 hW hm10 hpos hml)
          have HMV : Hid (∀ W, Mi w0 w xp sp s top i m W → Calls Try.prog 43 #[ptr sp, .int .i64 3, .int .u64 (kx : Nat)] W fun e w' => e = .returned (.bool true) ∧ Mi w0 w xp sp s top i (m - 1) w' ∧ Kn W w') := Lib.hid (fun W hW => by rw [← hkx]; exact mi_move1 hW hC.2.2 hm10 hpos hml)
          clear hkx q hpos hil hml hff hC hm10
          go_wp2_with fail
          refine HDM.out.mono ?_
          rintro e w7 ⟨rfl, hb7⟩
          have hA := heap_alloc_new w7 (.cells #[.int .i64 1, .int .i64 3] 104)
          have hlow := low_one w7 (.cells #[.int .i64 1, .int .i64 3] 104)
          have hT7 := (HI.out.t.still hb7).still hlow
          have hr7 := hb7.trans (hlow.mono hb7.size)
          obtain ⟨X, hX⟩ : ∃ X, w7.alloc (.cells #[.int .i64 1, .int .i64 3] 104) = X := ⟨_, rfl⟩
          rw [hX] at hA hlow hT7 hr7
          obtain ⟨bx, hbx⟩ : ∃ bx, w7.heap.size = bx := ⟨_, rfl⟩
          rw [hbx] at hA
          have hbX := (head_row hA).lt
          have HR7 := Lib.hid (Kn.below hr7)
          have HKC : Hid (∀ W, Below X.heap.size X W → W.cell? ⟨xp, 0, none⟩ = some (ptr sp) ∧ W.cell? ⟨xp, 1, none⟩ = some (.int .i64 (s.c : Nat)) ∧ W.cell? ⟨xp, 2, none⟩ = some (.int .i64 (s.p : Nat)) ∧ W.cell? ⟨bx, 0, none⟩ = some (.int .i64 1) ∧ W.cell? ⟨bx, 1, none⟩ = some (.int .i64 3)) := Lib.hid (fun W hb => by
            have h1 := (hT7.still hb).1.cells
            have h2 := (c2_at ((hb.block bx hbX).trans hA)).1
            exact ⟨h1.1, h1.2.1, h1.2.2, h2.1, h2.2⟩)
          have HKM : Hid (∀ W W', Below X.heap.size X W → Mi w0 w xp sp s top i (m - 1) W' → Kn W W' → W'.cell? ⟨xp, 0, none⟩ = some (ptr sp) ∧ W'.cell? ⟨xp, 1, none⟩ = some (.int .i64 (s.c : Nat)) ∧ W'.cell? ⟨xp, 2, none⟩ = some (.int .i64 (s.p : Nat)) ∧ W'.cell? ⟨bx, 0, none⟩ = some (.int .i64 1) ∧ W'.cell? ⟨bx, 1, none⟩ = some (.int .i64 3)) := Lib.hid (fun W W' hb hM hk => by
            have hn := (NP.cells hA (by decide)).keep (hb.block bx hbX)
            have h1 := hM.1.cells
            have h2 := (c2_at ((hk bx hn).trans ((hb.block bx hbX).trans hA))).1
            exact ⟨h1.1, h1.2.1, h1.2.2, h2.1, h2.2⟩)
          have HBX : Hid (∀ W, Below X.heap.size X W → Calls Try.prog 75 #[ptr sp, .int .i64 1] W fun e w' => ∃ b', e = .returned (.tuple #[.int .u64 (kx : Nat), .bool b']) ∧ Below X.heap.size X w') := Lib.hid (fun W hb => (HBK.out W (hT7.still hb)).mono (fun e w' ⟨b', he, hb'⟩ => ⟨b', he, hb.trans (hb'.mono hb.size)⟩))
          have HMX : Hid (∀ W, Below X.heap.size X W → Calls Try.prog 43 #[ptr sp, .int .i64 3, .int .u64 (kx : Nat)] W fun e w' => e = .returned (.bool true) ∧ Mi w0 w xp sp s top i (m - 1) w' ∧ Kn wr w' ∧ w'.cell? ⟨xp, 0, none⟩ = some (ptr sp) ∧ w'.cell? ⟨xp, 1, none⟩ = some (.int .i64 (s.c : Nat)) ∧ w'.cell? ⟨xp, 2, none⟩ = some (.int .i64 (s.p : Nat)) ∧ w'.cell? ⟨bx, 0, none⟩ = some (.int .i64 1) ∧ w'.cell? ⟨bx, 1, none⟩ = some (.int .i64 3)) := Lib.hid (fun W hb => (HMV.out W (hT7.still hb)).mono (fun e w' ⟨he, h1, h2⟩ => ⟨he, h1, HR7.out.trans ((Kn.below hb).trans h2), HKM.out W w' hb h1 h2⟩))
          obtain ⟨y0, y1, y2, y3, y4⟩ := HKC.out X (Below.refl _ _)
          clear hA hlow hT7 hr7 hbX HDM HBK HMV HKM hb7
          go_upto_region 5 with fail
          clear hX hbx
          go_region_held3 (fun w' => w'.cell? ⟨xp, 0, none⟩ = some (ptr sp) ∧ w'.cell? ⟨xp, 1, none⟩ = some (.int .i64 (s.c : Nat)) ∧ w'.cell? ⟨xp, 2, none⟩ = some (.int .i64 (s.p : Nat)) ∧ w'.cell? ⟨bx, 0, none⟩ = some (.int .i64 1) ∧ w'.cell? ⟨bx, 1, none⟩ = some (.int .i64 3)) (first | with_reducible exact kk8 | go_keep)
            (first
              | (go_at_call 75; refine (HBX.out _ (below_drewn (Below.refl _ _) _)).mono ?_; rintro e w8 ⟨b8, rfl, hb8⟩; have kk8 := HKC.out w8 hb8))
          obtain ⟨z0, z1, z2, z3, z4⟩ := kk8
          have HM8 : Hid (∀ W, Below w8.heap.size w8 W → Calls Try.prog 43 #[ptr sp, .int .i64 3, .int .u64 (kx : Nat)] W fun e w' => e = .returned (.bool true) ∧ Mi w0 w xp sp s top i (m - 1) w' ∧ Kn wr w' ∧ w'.cell? ⟨xp, 0, none⟩ = some (ptr sp) ∧ w'.cell? ⟨xp, 1, none⟩ = some (.int .i64 (s.c : Nat)) ∧ w'.cell? ⟨xp, 2, none⟩ = some (.int .i64 (s.p : Nat)) ∧ w'.cell? ⟨bx, 0, none⟩ = some (.int .i64 1) ∧ w'.cell? ⟨bx, 1, none⟩ = some (.int .i64 3)) := Lib.hid (fun W hb => HMX.out W (hb8.trans (hb.mono hb8.size)))
          clear hb8 HBX HMX HKC y0 y1 y2 y3 y4
          go_upto_region 6 with fail
          go_region_held3 (fun w' => w'.cell? ⟨xp, 0, none⟩ = some (ptr sp) ∧ w'.cell? ⟨xp, 1, none⟩ = some (.int .i64 (s.c : Nat)) ∧ w'.cell? ⟨xp, 2, none⟩ = some (.int .i64 (s.p : Nat)) ∧ w'.cell? ⟨bx, 0, none⟩ = some (.int .i64 1) ∧ w'.cell? ⟨bx, 1, none⟩ = some (.int .i64 3)) (first | with_reducible exact kk9 | go_keep)
            (first
              | (go_at_call 43; refine (HM8.out _ (below_drewn (Below.refl _ _) _)).mono ?_; rintro e w9 ⟨rfl, h9, hk9, kk9⟩))
          have H9 := Lib.hid h9
          have HK9 := Lib.hid hk9
          clear h9 hk9 kk9 HM8 z0 z1 z2 z3 z4 x0 x1 x2
          have hlow9 := low_one w9 (.cells #[.int .u64 (kx : Nat)] 31)
          have HTA : Hid (Mi w0 w xp sp s top i (m - 1) (w9.alloc (.cells #[.int .u64 (kx : Nat)] 31))) := Lib.hid (H9.out.still hlow9)
          have HKF : Hid (KF w0.heap.size w (w9.alloc (.cells #[.int .u64 (kx : Nat)] 31)) v7 out) := Lib.hid (HG1.out.kn HI.out.t.2 (HK9.out.trans (Kn.below hlow9)) HTA.out.1.sk.below.size)
          have HKV := Lib.hid (KV.one w9 kx)
          obtain ⟨B, hB1, hB2, hB3, hB4⟩ := HKF.out
          have HO9 := Lib.hid hB1
          have HB4 := Lib.hid hB4
          clear hlow9 hB1 hB4 HKF HG1 HK9 H9 HR7
          go_wp2_with (at_builtin; refine wpList_append_kv rfl (.tmp 47) (.tmp 49) rfl B (by kernel_rfl) (by kernel_rfl) _ _ rfl HO9.out _ [kx] rfl HKV.out (by have := HOL.out; simp; omega) hB3 ?_)
          intro v6 wa hown6 hkp6 hkt6
          have HN : Hid (EvL w0 w wa xp sp s top N g f i (m - 1) v6) := Lib.hid (HI.out.next (.inr ⟨HCS.out.1, rfl, rfl, HCS.out.2⟩) HTA.out HG2.out HG3.out hB2 HB4.out hB3 hkt6 hown6)
          clear hown6 hkp6 hkt6 HTA HO9 HKV HB4 HI
          go_wp2
          go_roundg f
          case measure => omega
          case rel => exact ⟨j + 1, _, _, _, by omega, rfl, by go_num, HN⟩
      · have hltI : ¬ ((j : Int) < (n0 : Int) + (m0 : Int) - (N : Int)) := by omega
        obtain rfl : gk = 0 := by omega
        have HE := Lib.hid HI.out.done
        clear HI
        go_wp2
        go_ret
        exact HE.out
end
section
variable {w0 w W w' : World} {xp sp c p top t : Nat} {l : Nat → List Nat}
theorem upd_at (l : Nat → List Nat) (t : Nat) (xs : List Nat) : upd l t xs t = xs := by simp [upd]
theorem upd_upd (l : Nat → List Nat) (t : Nat) (xs ys : List Nat) : upd (upd l t xs) t ys = upd l t ys := by
  funext j
  unfold upd
  split <;> rfl
theorem upd_self (l : Nat → List Nat) (t : Nat) : upd l t (l t) = l := by
  funext j
  unfold upd
  split
  · rename_i e
    rw [e]
  · rfl
def Ci (w0 w : World) (xp sp c p : Nat) (l : Nat → List Nat) (t top i : Nat) (w' : World) : Prop := CP w0 w xp sp c p (upd l t ((l t).take i)) top w'
theorem ci_back {i : Nat} (h : Ci w0 w xp sp c p l t top i W) (ht : t < 4) (hm : top ≤ 10000) (h0 : 0 < i) (hi : i ≤ (l t).length) :
    Calls Try.prog 75 #[ptr sp, .int .i64 (t : Nat)] W fun e w' => ∃ b', e = .returned (.tuple #[.int .u64 ((l t).getD (i - 1) 0 : Nat), .bool b']) ∧ Ci w0 w xp sp c p l t top i w' ∧ Kn W w' := by
  refine (m_back (t := t) h.1.sk hm ht).mono ?_
  rintro e w' ⟨rfl, hb⟩
  rw [upd_at, last_take h0 hi]
  exact ⟨_, rfl, CP.still h hb, Kn.below hb⟩
theorem ci_rem {i : Nat} (h : Ci w0 w xp sp c p l t top i W) (hn : (l t).Nodup) (ht : t < 4) (hm : top ≤ 10000) (h0 : 0 < i) (hi : i ≤ (l t).length) :
    Calls Try.prog 44 #[ptr sp, .int .u64 ((l t).getD (i - 1) 0 : Nat)] W fun e w' => e = .returned (.bool true) ∧ Ci w0 w xp sp c p l t top (i - 1) w' ∧ Kn W w' := by
  refine (m_rem (t := t) h.1.sk hm ht (by rw [upd_at]; exact mem_last h0 hi)).mono ?_
  rintro e w' ⟨rfl, g1, g2, g3⟩
  unfold rmQ at g1
  rw [upd_at, less_take hn h0 hi, upd_upd] at g1
  exact ⟨rfl, ⟨h.1.kept g2 g1, h.2.trans g3⟩, g3⟩
def CuP (w0 w : World) (xp sp c p : Nat) (l : Nat → List Nat) (t top M : Nat) (e : Ending) (w' : World) : Prop := ∃ o, e = .returned o ∧ CP w0 w xp sp c p (upd l t ((l t).take M)) top w' ∧ KF w0.heap.size w w' o ((l t).drop M).reverse
structure CuL (w0 w wr : World) (xp sp c p : Nat) (l : Nat → List Nat) (t top i : Nat) (v : Value) : Prop where
  st : Ci w0 w xp sp c p l t top i wr
  own : KF w0.heap.size w wr v ((l t).drop i).reverse
theorem CuL.next {i kx B : Nat} {v6 : Value} {w6 : World} (h0 : 0 < i) (hi : i ≤ (l t).length) (hx : (l t).getD (i - 1) 0 = kx)
    (ht : Ci w0 w xp sp c p l t top (i - 1) W)
    (hB : w0.heap.size ≤ B) (hBw : ∀ g, NP w g → g < B) (hBz : B ≤ W.heap.size) (hk : Kt 31 W w6) (hown : KO B W w6 v6 (((l t).drop i).reverse ++ [kx])) : CuL w0 w w6 xp sp c p l t top (i - 1) v6 := by
  have hl := hown.low
  have hkn : Kn w w6 := fun g hg => (hl.block g (hBw g hg)).trans (ht.2 g hg)
  refine ⟨⟨ht.1.sty (ht.1.sk.below.trans (hl.mono hB)) hk.sty hl.size, hkn⟩, B, ⟨Below.refl _ _, ?_⟩, hB, Nat.le_trans hBz hl.size, hBw⟩
  have e : ((l t).drop (i - 1)).reverse = ((l t).drop i).reverse ++ [kx] := by
    rw [drop_last h0 hi, hx, List.reverse_cons]
  rw [e]
  exact hown.own
set_option maxHeartbeats 8000000 in
set_option maxRecDepth 4000 in
theorem cut_walk (h : CX w0 w xp sp c p l top) (ht : t < 4) (hm : top ≤ 10000) (n : Int) (N : Nat) (hN : n < 0 ∧ N = 0 ∨ n = 0 ∧ N = 0 ∨ 0 < n ∧ n = (N : Int)) (hn1 : -1048576 ≤ n) (hn2 : n ≤ 1048576) :
    Calls Try.prog 48 #[ptr xp, .int .i64 (t : Nat), .int .i64 n] w (CuP w0 w xp sp c p l t top N) := by
  have hsz := h.sk.below.size
  have hnd := h.sk.nodup ht
  have hlen : (l t).length ≤ top := by
    have h1 := h.sk.sum
    have h2 : sumE (Qm l) 4 = (l 0).length + (l 1).length + (l 2).length + (l 3).length := by simp [sumE, qm_len]
    rcases four ht with rfl | rfl | rfl | rfl <;> omega
  have HC := Lib.hid (And.intro hm (And.intro ht hnd))
  obtain ⟨n0, hn0⟩ : ∃ n0, (l t).length = n0 := ⟨_, rfl⟩
  have HN0 := Lib.hid hn0
  have HL0 : Hid (Calls Try.prog 41 #[ptr sp, .int .i64 (t : Nat)] w fun e w' => e = .returned (.int .i64 (n0 : Nat)) ∧ Below w.heap.size w w') := Lib.hid (x_len h (Below.refl _ _) ht hn0)
  have HI0 : Hid (∀ W, Below w.heap.size w W → CuL w0 w W xp sp c p l t top n0 (.slice none 0 0)) := Lib.hid (fun W hb => ⟨⟨by rw [← hn0, List.take_length, upd_self]; exact h.still hb, Kn.below hb⟩, by rw [← hn0, List.drop_length]; exact KF.nil (Kn.below hb) (Nat.le_trans hsz hb.size)⟩)
  obtain ⟨x0, x1, x2⟩ := h.cells
  have hn0I : (n0 : Int) ≤ 10000 := by omega
  have hn00 : (0 : Int) ≤ (n0 : Int) := by omega
  have hNI : (N : Int) ≤ 1048576 := by omega
  have hN0 : (0 : Int) ≤ (N : Int) := by omega
  clear h hnd hlen hn0 hm hsz ht
  go_enter Try.func48, Try.ntmps48
  go_upto_region 2 with fail
  go_cut [18, 19] (fun s18 s19 wx => s18 = .int .i64 ((n0 : Int) - (N : Int)) ∧ s19 = .int .i64 0 ∧ Hid (CuL w0 w wx xp sp c p l t top n0 (.slice none 0 0)))
  case first =>
    rcases hN with ⟨h1, rfl⟩ | ⟨rfl, rfl⟩ | ⟨h1, rfl⟩
    all_goals
      go_wp2_with fail
      refine HL0.out.mono ?_
      rintro e w5 ⟨rfl, hb5⟩
      have HI := Lib.hid (HI0.out w5 hb5)
      clear hb5
      go_wp2_with fail
      go_meet
      exact ⟨by simp, rfl, HI⟩
  case rest =>
    obtain ⟨rfl, rfl, HI⟩ := hcut
    clear x0 x1 x2 hN hn1 hn2 HI0 HL0
    go_wp2_with fail
    go_loopg [7, 19] (n0 - N) (fun gg s7 s19 wr => ∃ (j : Nat) (v7 : Value), j + gg = n0 - N ∧ v7 = s7 ∧ s19 = .int .i64 (j : Nat) ∧ Hid (CuL w0 w wr xp sp c p l t top (n0 - j) v7))
    case atStart => exact ⟨0, _, by omega, rfl, rfl, HI⟩
    case round =>
      obtain ⟨j, v7, hj, rfl, rfl, HI⟩ := hrel
      by_cases hlt : j < n0 - N
      · have hltI : (j : Int) < (n0 : Int) - (N : Int) := by omega
        obtain ⟨f, rfl⟩ : ∃ f, gk = f + 1 := ⟨gk - 1, by omega⟩
        obtain ⟨x0, x1, x2⟩ := HI.out.st.1.cells
        have hC := HC.out
        have hln := HN0.out
        have hpos : 0 < n0 - j := by omega
        have hle : n0 - j ≤ (l t).length := by omega
        obtain ⟨kx, hkx⟩ : ∃ kx, (l t).getD (n0 - j - 1) 0 = kx := ⟨_, rfl⟩
        have HKX := Lib.hid (And.intro hkx (And.intro hpos hle))
        have HBK : Hid (Calls Try.prog 75 #[ptr sp, .int .i64 (t : Nat)] wr fun e w' => ∃ b', e = .returned (.tuple #[.int .u64 (kx : Nat), .bool b']) ∧ Ci w0 w xp sp c p l t top (n0 - j) w' ∧ Kn wr w') := Lib.hid (by rw [← hkx]; exact ci_back HI.out.st hC.2.1 hC.1 hpos hle)
        have HRM : Hid (∀ W, Ci w0 w xp sp c p l t top (n0 - j) W → Kn wr W → Calls Try.prog 44 #[ptr sp, .int .u64 (kx : Nat)] W fun e w' => e = .returned (.bool true) ∧ Ci w0 w xp sp c p l t top (n0 - j - 1) w' ∧ Kn wr w') := Lib.hid (fun W hW hk => by
          rw [← hkx]
          exact (ci_rem hW hC.2.2 hC.2.1 hC.1 hpos hle).mono (fun e w' ⟨he, h1, h2⟩ => ⟨he, h1, hk.trans h2⟩))
        have HG1 := Lib.hid HI.out.own
        have HK1 := Lib.hid HI.out.st.2
        have HOL : Hid (((l t).drop (n0 - j)).reverse.length ≤ 10000) := Lib.hid (by rw [List.length_reverse, List.length_drop]; omega)
        clear hkx hpos hle hC hln
        go_wp2_with fail
        refine HBK.out.mono ?_
        rintro e w7 ⟨b7, rfl, h7, hk7⟩
        obtain ⟨y0, y1, y2⟩ := h7.1.cells
        have H7 := Lib.hid (And.intro h7 hk7)
        clear h7 hk7 HBK x0 x1 x2
        go_wp2_with fail
        refine (HRM.out w7 H7.out.1 H7.out.2).mono ?_
        rintro e w9 ⟨rfl, h9, hk9⟩
        have H9 := Lib.hid h9
        have HK9 := Lib.hid hk9
        clear h9 hk9 HRM H7 y0 y1 y2
        have hlow9 := low_one w9 (.cells #[.int .u64 (kx : Nat)] 31)
        have HTA : Hid (Ci w0 w xp sp c p l t top (n0 - j - 1) (w9.alloc (.cells #[.int .u64 (kx : Nat)] 31))) := Lib.hid (CP.still H9.out hlow9)
        have HKF : Hid (KF w0.heap.size w (w9.alloc (.cells #[.int .u64 (kx : Nat)] 31)) v7 ((l t).drop (n0 - j)).reverse) := Lib.hid (HG1.out.kn HK1.out (HK9.out.trans (Kn.below hlow9)) HTA.out.1.sk.below.size)
        have HKV := Lib.hid (KV.one w9 kx)
        obtain ⟨B, hB1, hB2, hB3, hB4⟩ := HKF.out
        have HO9 := Lib.hid hB1
        have HB4 := Lib.hid hB4
        clear hlow9 hB1 hB4 HKF HG1 HK9 H9 HK1 HI
        go_wp2_with (at_builtin; refine wpList_append_kv rfl (.tmp 36) (.tmp 38) rfl B (by kernel_rfl) (by kernel_rfl) _ _ rfl HO9.out _ [kx] rfl HKV.out (by have := HOL.out; simp only [List.length_cons, List.length_nil]; omega) hB3 ?_)
        intro v6 wa hown6 hkp6 hkt6
        have HN : Hid (CuL w0 w wa xp sp c p l t top (n0 - (j + 1)) v6) := Lib.hid (CuL.next HKX.out.2.1 HKX.out.2.2 HKX.out.1 HTA.out hB2 HB4.out hB3 hkt6 hown6)
        clear hown6 hkp6 hkt6 HTA HO9 HKV HB4 HKX HOL
        go_wp2
        go_roundg f
        case measure => omega
        case rel => exact ⟨j + 1, _, by omega, rfl, by go_num, HN⟩
      · have hltI : ¬ ((j : Int) < (n0 : Int) - (N : Int)) := by omega
        obtain rfl : gk = 0 := by omega
        have HE : Hid (CuP w0 w xp sp c p l t top N (.returned v7) wr) := Lib.hid (by
          have h0 := HI.out
          have hln := HN0.out
          rcases (by omega : n0 - j = N ∨ n0 ≤ N ∧ n0 - j = n0) with e | ⟨e1, e2⟩
          · rw [e] at h0
            exact ⟨_, rfl, h0.st, h0.own⟩
          · have h1 := h0.st
            have h2 := h0.own
            unfold Ci at h1
            rw [e2, ← hln, List.take_length] at h1
            rw [e2, ← hln, List.drop_length] at h2
            refine ⟨_, rfl, ?_, ?_⟩
            · rw [List.take_of_length_le (by omega)]
              exact h1
            · rw [List.drop_of_length_le (by omega)]
              exact h2)
        clear HI
        go_wp2
        go_ret
        exact HE.out
end
end Go.Proofs.Ytgkblelgcikafaa
