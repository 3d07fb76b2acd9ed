/- Words and walks: EaP EaB. -/
import Derived.Test.YtgkblelgcikafaaGreatG17
import Derived.Test.YtgkblelgcikafaaGreatG18
import Derived.Test.YtgkblelgcikafaaGreatG19
import Derived.Deep.RegionHeld3
namespace Go.Proofs.YtgkblelgcikafaaGreat
open Go Go.RowKit Go.Deep
def quad (a b c d : List Nat) : Nat → List Nat := fun t => if t = 0 then a else if t = 1 then b else if t = 2 then c else d
def mvA (l : Nat → List Nat) (u k : Nat) : Nat → List Nat := fun t => if t = u then k :: wo k (l u) else wo k (l t)
def rmA (l : Nat → List Nat) (k : Nat) : Nat → List Nat := fun t => wo k (l t)
theorem wo_app (k : Nat) (a b : List Nat) : wo k (a ++ b) = wo k a ++ wo k b := by simp [wo]
theorem four {t : Nat} (h : t < 4) : t = 0 ∨ t = 1 ∨ t = 2 ∨ t = 3 := by omega
section
variable {w0 w : World} {sp top n : Nat} {l : Nat → List Nat} {K : List Nat}
theorem SK.one (h : SK w0 w sp n l top K) {t u k : Nat} (ht : t < n) (hu : u < n) (h1 : k ∈ l t) (h2 : k ∈ l u) : t = u := by
  obtain ⟨m, U, h, h8⟩ := h
  obtain ⟨i, hi, rfl⟩ := List.getElem_of_mem h1
  obtain ⟨j, hj, e⟩ := List.getElem_of_mem h2
  exact (h.ok.uq t u i j ht hu (by rw [qm_len]; exact hi) (by rw [qm_len]; exact hj) (by rw [qm_key, qm_key]; exact e.symm)).1
theorem mv_any (h : SK w0 w sp n l top K) {t u k : Nat} (ht : t < n) (hk : k ∈ l t) (hu : u < n) : ∀ i, i < n → mvQ l t u k i = mvA l u k i := by
  intro i hi
  have h0 : ∀ j, j < n → j ≠ t → wo k (l j) = l j := fun j hj hne => wo_none8 (fun q => hne (h.one hj ht q hk))
  unfold mvQ mvA upd
  by_cases e1 : i = u
  · subst e1
    by_cases e2 : i = t
    · subst e2
      simp
    · simp [e2, h0 i hi e2]
  · by_cases e2 : i = t
    · subst e2
      simp [e1]
    · simp [e1, e2, h0 i hi e2]
theorem rm_any (h : SK w0 w sp n l top K) {t k : Nat} (ht : t < n) (hk : k ∈ l t) : ∀ i, i < n → rmQ l t k i = rmA l k i := by
  intro i hi
  have h0 : ∀ j, j < n → j ≠ t → wo k (l j) = l j := fun j hj hne => wo_none8 (fun q => hne (h.one hj ht q hk))
  unfold rmQ rmA upd
  by_cases e2 : i = t
  · subst e2
    simp
  · simp [e2, h0 i hi e2]
theorem m_move_any (h : SK w0 w sp n l top K) (hm : top ≤ 10000) {t k u : Nat} (ht : t < n) (hk : k ∈ l t) (hu : u < n) :
    Calls Tryz.prog 47 #[ptr sp, .int .i64 (u : Nat), .int .u64 (k : Nat)] w (SKP w0 w sp n (mvA l u k) top K true) := by
  refine (m_move h hm ht hk hu).mono ?_
  rintro e w' ⟨rfl, g1, g2, g3⟩
  exact ⟨rfl, g1.congr (mv_any h ht hk hu), g2, g3⟩
theorem m_rem_any (h : SK w0 w sp n l top K) (hm : top ≤ 10000) {k : Nat} (h64 : k < 18446744073709551616) :
    Calls Tryz.prog 56 #[ptr sp, .int .u64 (k : Nat)] w fun e w' => ∃ b, e = .returned (.bool b) ∧ SK w0 w' sp n (rmA l k) top K ∧ Kept K w w' ∧ Kn w w' := by
  by_cases q : ∃ t, t < n ∧ k ∈ l t
  · obtain ⟨t, ht, hk⟩ := q
    refine (m_rem h hm ht hk).mono ?_
    rintro e w' ⟨rfl, g1, g2, g3⟩
    exact ⟨_, rfl, g1.congr (rm_any h ht hk), g2, g3⟩
  · have q' : ∀ t, t < n → k ∉ l t := fun t ht hk => q ⟨t, ht, hk⟩
    refine (m_rem_no h hm h64 q').mono ?_
    rintro e w' ⟨rfl, g1, g2, g3⟩
    exact ⟨_, rfl, g1.congr (fun t ht => (wo_none8 (q' t ht)).symm), g2, g3⟩
theorem m_total (h : SK w0 w sp n l top K) :
    Calls Tryz.prog 65 #[ptr sp] w fun e w' => e = .returned (.int .i64 (sumE (Qm l) n : Nat)) ∧ Below w.heap.size w w' := by
  obtain ⟨m, U, h, h8⟩ := h
  exact si_total h
end
section
variable {a b c d : List Nat} {k : Nat}
theorem quad_sum : sumE (Qm (quad a b c d)) 4 = a.length + b.length + c.length + d.length := by
  simp [sumE, qm_len, quad]
theorem quad_not : (∀ t, t < 4 → k ∉ quad a b c d t) ↔ k ∉ a ∧ k ∉ b ∧ k ∉ c ∧ k ∉ d := by
  constructor
  · intro h
    exact ⟨h 0 (by decide), h 1 (by decide), h 2 (by decide), h 3 (by decide)⟩
  · rintro ⟨h1, h2, h3, h4⟩ t ht
    rcases four ht with rfl | rfl | rfl | rfl
    · exact h1
    · exact h2
    · exact h3
    · exact h4
theorem quad_mv1 {t : Nat} (ht : t < 4) : mvA (quad a b c d) 1 k t = quad (wo k a) (fr k b) (wo k c) (wo k d) t := by
  rcases four ht with rfl | rfl | rfl | rfl <;> rfl
theorem quad_mv02 {t : Nat} (ht : t < 4) : mvQ (quad a b c d) 0 2 k t = quad (wo k a) b (k :: c) d t := by
  rcases four ht with rfl | rfl | rfl | rfl <;> rfl
theorem quad_mv13 {t : Nat} (ht : t < 4) : mvQ (quad a b c d) 1 3 k t = quad a (wo k b) c (k :: d) t := by
  rcases four ht with rfl | rfl | rfl | rfl <;> rfl
theorem quad_rm {t : Nat} (ht : t < 4) : rmA (quad a b c d) k t = quad (wo k a) (wo k b) (wo k c) (wo k d) t := by
  rcases four ht with rfl | rfl | rfl | rfl <;> rfl
theorem quad_pu0 {t : Nat} (ht : t < 4) : puQ (quad a b c d) 0 k t = quad (k :: a) b c d t := by
  rcases four ht with rfl | rfl | rfl | rfl <;> rfl
end
def q11 (s : L11) : Nat → List Nat := quad s.t1 s.t2 s.b1 s.b2
namespace L11
variable {s : L11} {k : Nat}
theorem touch_c (s : L11) (k : Nat) : (s.touch k).c = s.c := by unfold L11.touch; split <;> rfl
theorem adm_c (s : L11) (k : Nat) : (s.adm k).c = s.c := by
  unfold L11.adm
  split
  · rfl
  · split
    · rfl
    · split
      · rfl
      · unfold L11.came L11.room
        show (if _ then _ else _ : L11).c = s.c
        split
        · split <;> rfl
        · split <;> rfl
theorem drop_c (s : L11) (k : Nat) : (s.drop k).c = s.c := rfl
theorem resize_c (s : L11) (n : Int) : (s.resize n).c = capI n := rfl
theorem new_c0 (n : Int) : (L11.new n).c = capI n := rfl
def aim (s : L11) (p : Nat) : L11 := ⟨s.c, p, s.t1, s.t2, s.b1, s.b2⟩
theorem Fine.aim (h : s.Fine) (p : Nat) : (s.aim p).Fine := h.of (fun _ => Nat.le_refl _)
def mid (s : L11) (i m : Nat) : Nat → List Nat := quad (s.t1.take i) (s.t2.take m) (s.t1.drop i ++ s.b1) (s.t2.drop m ++ s.b2)
theorem mid_all (s : L11) : s.mid s.t1.length s.t2.length = q11 s := by
  unfold mid q11
  rw [List.take_length, List.take_length, List.drop_length, List.drop_length]
  rfl
theorem mid_cut (s : L11) (n : Nat) (g : Bool) : s.mid (s.li n g) (s.lm n g) = q11 (s.cut n g) := rfl
theorem up_hit (h : s.Fine) (hk : k ∈ s.b1) (n : Nat) : ∀ t, t < 4 → mvA (q11 ((s.aim (s.up k).p).cut n false)) 1 k t = q11 (((s.up k).cut n false).hit k) t := by
  intro t ht
  have h1 := h.one k
  have h2 := count_in.1 hk
  unfold cnt at h1
  have n1 : k ∉ s.t1 := fun q => by have := count_in.1 q; omega
  have n2 : k ∉ s.t2 := fun q => by have := count_in.1 q; omega
  have n4 : k ∉ s.b2 := fun q => by have := count_in.1 q; omega
  show mvA (quad (s.t1.take (s.aim (s.up k).p |>.li n false)) (s.t2.take (s.aim (s.up k).p |>.lm n false)) (s.t1.drop (s.aim (s.up k).p |>.li n false) ++ s.b1) (s.t2.drop (s.aim (s.up k).p |>.lm n false) ++ s.b2)) 1 k t = quad (s.t1.take ((s.up k).li n false)) (fr k (s.t2.take ((s.up k).lm n false))) (s.t1.drop ((s.up k).li n false) ++ wo k s.b1) (s.t2.drop ((s.up k).lm n false) ++ s.b2) t
  have e1 : (s.aim (s.up k).p).li n false = (s.up k).li n false := rfl
  have e2 : (s.aim (s.up k).p).lm n false = (s.up k).lm n false := rfl
  rw [quad_mv1 ht, e1, e2, wo_none8 (fun q => n1 (List.mem_of_mem_take q)), wo_app, wo_app, wo_none8 (fun q => n1 (List.mem_of_mem_drop q)), wo_none8 (fun q => n2 (List.mem_of_mem_drop q)), wo_none8 n4]
theorem dn_hit (h : s.Fine) (hk : k ∈ s.b2) (n : Nat) : ∀ t, t < 4 → mvA (q11 ((s.aim (s.dn k).p).cut n true)) 1 k t = q11 (((s.dn k).cut n true).hit k) t := by
  intro t ht
  have h1 := h.one k
  have h2 := count_in.1 hk
  unfold cnt at h1
  have n1 : k ∉ s.t1 := fun q => by have := count_in.1 q; omega
  have n2 : k ∉ s.t2 := fun q => by have := count_in.1 q; omega
  have n3 : k ∉ s.b1 := fun q => by have := count_in.1 q; omega
  show mvA (quad (s.t1.take (s.aim (s.dn k).p |>.li n true)) (s.t2.take (s.aim (s.dn k).p |>.lm n true)) (s.t1.drop (s.aim (s.dn k).p |>.li n true) ++ s.b1) (s.t2.drop (s.aim (s.dn k).p |>.lm n true) ++ s.b2)) 1 k t = quad (s.t1.take ((s.dn k).li n true)) (fr k (s.t2.take ((s.dn k).lm n true))) (s.t1.drop ((s.dn k).li n true) ++ s.b1) (s.t2.drop ((s.dn k).lm n true) ++ wo k s.b2) t
  have e1 : (s.aim (s.dn k).p).li n true = (s.dn k).li n true := rfl
  have e2 : (s.aim (s.dn k).p).lm n true = (s.dn k).lm n true := rfl
  rw [quad_mv1 ht, e1, e2, wo_none8 (fun q => n1 (List.mem_of_mem_take q)), wo_app, wo_app, wo_none8 (fun q => n1 (List.mem_of_mem_drop q)), wo_none8 (fun q => n2 (List.mem_of_mem_drop q)), wo_none8 n3]
theorem touch_q (h : s.Fine) (hk : k ∈ s.keys) : ∀ t, t < 4 → mvA (q11 s) 1 k t = q11 (s.touch k) t := by
  intro t ht
  have h1 := h.one k
  have h2 := (keys_in s k).1 hk
  unfold cnt at h1
  have n3 : k ∉ s.b1 := fun q => by have := count_in.1 q; omega
  have n4 : k ∉ s.b2 := fun q => by have := count_in.1 q; omega
  unfold q11
  rw [quad_mv1 ht, wo_none8 n3, wo_none8 n4]
  unfold L11.touch
  rw [if_pos hk]
theorem Fine.where_ (h : s.Fine) : (k ∈ s.t1 → k ∉ s.t2 ∧ k ∉ s.b1 ∧ k ∉ s.b2) ∧ (k ∈ s.t2 → k ∉ s.b1 ∧ k ∉ s.b2) ∧ (k ∈ s.b1 → k ∉ s.b2) := by
  have h1 := h.one k
  unfold cnt at h1
  refine ⟨fun p => ⟨fun q => ?_, fun q => ?_, fun q => ?_⟩, fun p => ⟨fun q => ?_, fun q => ?_⟩, fun p q => ?_⟩ <;>
  · have h2 := count_in.1 p
    have h3 := count_in.1 q
    omega
theorem Ok.all (h : s.Ok) : s.all ≤ 2 * s.c := by
  have h1 := h.len
  have h2 := h.gone
  unfold L11.all
  omega
end L11
abbrev CaT : TypeId := 56
abbrev cacheC (sp c p : Nat) : Array Value := #[ptr sp, .int .i64 (c : Nat), .int .i64 (p : Nat)]
abbrev nilC : Array Value := #[.pointer none, .int .i64 0, .int .i64 0]
structure CX (w0 w : World) (xp sp c p : Nat) (l : Nat → List Nat) (top : Nat) : Prop where
  box : w.heap[xp]? = some (.cells (cacheC sp c p) CaT (0, 0))
  sk : SK w0 w sp 4 l top [xp]
section
variable {w0 w w' : World} {xp sp c p top : Nat} {l l' : Nat → List Nat} {s : L11}
theorem CX.lt (h : CX w0 w xp sp c p l top) : xp < w.heap.size := (head_row h.box).lt
theorem CX.styB (h : CX w0 w xp sp c p l top) : StyB w xp := ⟨_, _, _, h.box, by decide⟩
theorem CX.sty (h : CX w0 w xp sp c p l top) (hb : Below w0.heap.size w0 w') (hs : Sty w w') (hz : w.heap.size ≤ w'.heap.size) : CX w0 w' xp sp c p l top :=
  ⟨(hs xp h.styB).trans h.box, h.sk.sty hb hs hz⟩
theorem CX.still (h : CX w0 w xp sp c p l top) (hb : Below w.heap.size w w') : CX w0 w' xp sp c p l top :=
  ⟨(hb.block xp h.lt).trans h.box, h.sk.still hb⟩
theorem CX.congr (h : CX w0 w xp sp c p l top) (hl : ∀ t, t < 4 → l t = l' t) : CX w0 w xp sp c p l' top := ⟨h.box, h.sk.congr hl⟩
theorem CX.kept (h : CX w0 w xp sp c p l top) (hk : Kept [xp] w w') (hs : SK w0 w' sp 4 l' top [xp]) : CX w0 w' xp sp c p l' top := ⟨(hk xp (by simp)).trans h.box, hs⟩
abbrev C3 (xp sp : Nat) (c p : Nat) (W : World) : Prop := W.cell? ⟨xp, 0, none⟩ = some (ptr sp) ∧ W.cell? ⟨xp, 1, none⟩ = some (.int .i64 (c : Nat)) ∧ W.cell? ⟨xp, 2, none⟩ = some (.int .i64 (p : Nat))
theorem CX.cells (h : CX w0 w xp sp c p l top) : C3 xp sp c p w := (c3_at h.box).1
def CP (w0 w : World) (xp sp c p : Nat) (l : Nat → List Nat) (top : Nat) (w' : World) : Prop := CX w0 w' xp sp c p l top ∧ Kn w w'
theorem CP.still {W W' : World} (h : CP w0 w xp sp c p l top W) (hb : Below W.heap.size W W') : CP w0 w xp sp c p l top W' := ⟨h.1.still hb, h.2.trans (Kn.below hb)⟩
theorem CX.sum {a b g d : List Nat} (h : CX w0 w xp sp c p (quad a b g d) top) : a.length + b.length + g.length + d.length ≤ top := by
  have := h.sk.sum
  rw [quad_sum] at this
  exact this
theorem x_mv1 {k : Nat} (h : CX w0 w xp sp c p l top) (hm : top ≤ 10000) {t : Nat} (ht : t < 4) (hk : k ∈ l t) :
    Calls Tryz.prog 47 #[ptr sp, .int .i64 1, .int .u64 (k : Nat)] w fun e w' => e = .returned (.bool true) ∧ CP w0 w xp sp c p (mvA l 1 k) top w' := by
  refine (m_move_any h.sk hm (u := 1) ht hk (by decide)).mono ?_
  rintro e w' ⟨rfl, g1, g2, g3⟩
  exact ⟨rfl, h.kept g2 g1, g3⟩
theorem x_mv02 {a b g d : List Nat} {k : Nat} (h : CX w0 w xp sp c p (quad a b g d) top) (hm : top ≤ 10000) (hk : k ∈ a) :
    Calls Tryz.prog 47 #[ptr sp, .int .i64 2, .int .u64 (k : Nat)] w fun e w' => e = .returned (.bool true) ∧ CP w0 w xp sp c p (quad (wo k a) b (k :: g) d) top w' := by
  refine (m_move h.sk hm (t := 0) (u := 2) (by decide) (show k ∈ quad a b g d 0 from hk) (by decide)).mono ?_
  rintro e w' ⟨rfl, g1, g2, g3⟩
  exact ⟨rfl, h.kept g2 (g1.congr (fun t ht => quad_mv02 ht)), g3⟩
theorem x_mv13 {a b g d : List Nat} {k : Nat} (h : CX w0 w xp sp c p (quad a b g d) top) (hm : top ≤ 10000) (hk : k ∈ b) :
    Calls Tryz.prog 47 #[ptr sp, .int .i64 3, .int .u64 (k : Nat)] w fun e w' => e = .returned (.bool true) ∧ CP w0 w xp sp c p (quad a (wo k b) g (k :: d)) top w' := by
  refine (m_move h.sk hm (t := 1) (u := 3) (by decide) (show k ∈ quad a b g d 1 from hk) (by decide)).mono ?_
  rintro e w' ⟨rfl, g1, g2, g3⟩
  exact ⟨rfl, h.kept g2 (g1.congr (fun t ht => quad_mv13 ht)), g3⟩
theorem x_rem {k : Nat} (h : CX w0 w xp sp c p l top) (hm : top ≤ 10000) (h64 : k < 18446744073709551616) :
    Calls Tryz.prog 56 #[ptr sp, .int .u64 (k : Nat)] w fun e w' => ∃ b, e = .returned (.bool b) ∧ CP w0 w xp sp c p (rmA l k) top w' := by
  refine (m_rem_any h.sk hm h64).mono ?_
  rintro e w' ⟨b, rfl, g1, g2, g3⟩
  exact ⟨b, rfl, h.kept g2 g1, g3⟩
theorem x_push0 {a b g d : List Nat} {k : Nat} (h : CX w0 w xp sp c p (quad a b g d) top) (hm : top ≤ 10000) (h64 : k < 18446744073709551616) (hn : k ∉ a ∧ k ∉ b ∧ k ∉ g ∧ k ∉ d) (hl : a.length + b.length + g.length + d.length + 1 ≤ top) :
    Calls Tryz.prog 45 #[ptr sp, .int .i64 0, .int .u64 (k : Nat)] w fun e w' => e = .returned (.bool true) ∧ CP w0 w xp sp c p (quad (k :: a) b g d) top w' := by
  refine (m_push h.sk hm (u := 0) h64 (quad_not.2 hn) (by decide) (Nat.le_refl top) (by rw [quad_sum]; exact hl)).mono ?_
  rintro e w' ⟨rfl, g1, g2, g3⟩
  exact ⟨rfl, h.kept g2 (g1.congr (fun t ht => quad_pu0 ht)), g3⟩
theorem CX.capS (h : CX w0 w xp sp c p l top) (hge : w0.heap.size ≤ xp) (c' : Nat) : CP w0 w xp sp c' p l top (w.setCell ⟨xp, 1, none⟩ (.int .i64 (c' : Nat))) := by
  have hset := set_one (i := 1) (v := .int .i64 (c' : Nat)) h.box
  have ho : Only [xp] w (w.setCell ⟨xp, 1, none⟩ (.int .i64 (c' : Nat))) := (Only.refl _ _).setCell (by simp) _
  exact ⟨⟨hset, h.sk.styK (h.sk.below.trans (ho.below (by simp; exact hge) h.sk.below.size)) (fun g hg hn => ho.block g hg.lt hn) ho.size⟩, fun g hg => ho.block g hg.lt (fun q => by
    simp only [List.mem_singleton] at q
    subst q
    exact h.styB.not hg)⟩
theorem CX.aimS (h : CX w0 w xp sp c p l top) (hge : w0.heap.size ≤ xp) (p' : Nat) : CP w0 w xp sp c p' l top (w.setCell ⟨xp, 2, none⟩ (.int .i64 (p' : Nat))) := by
  have hset := set_one (i := 2) (v := .int .i64 (p' : Nat)) h.box
  have ho : Only [xp] w (w.setCell ⟨xp, 2, none⟩ (.int .i64 (p' : Nat))) := (Only.refl _ _).setCell (by simp) _
  exact ⟨⟨hset, h.sk.styK (h.sk.below.trans (ho.below (by simp; exact hge) h.sk.below.size)) (fun g hg hn => ho.block g hg.lt hn) ho.size⟩, fun g hg => ho.block g hg.lt (fun q => by
    simp only [List.mem_singleton] at q
    subst q
    exact h.styB.not hg)⟩
structure EC (w0 w : World) (xp : Nat) (s : L11) (top : Nat) : Prop where
  ok : s.Ok
  small : top ≤ 5000
  ge : w0.heap.size ≤ xp
  mem : ∃ sp, CX w0 w xp sp s.c s.p (q11 s) (2 * top)
theorem EC.below (h : EC w0 w xp s top) : Below w0.heap.size w0 w := by
  obtain ⟨sp, h1⟩ := h.mem
  exact h1.sk.below
theorem EC.lt (h : EC w0 w xp s top) : xp < w.heap.size := by
  obtain ⟨sp, h1⟩ := h.mem
  exact h1.lt
theorem EC.styB (h : EC w0 w xp s top) : StyB w xp := by
  obtain ⟨sp, h1⟩ := h.mem
  exact h1.styB
theorem EC.sty (h : EC w0 w xp s top) (hb : Below w0.heap.size w0 w') (hs : Sty w w') (hz : w.heap.size ≤ w'.heap.size) : EC w0 w' xp s top := by
  obtain ⟨sp, h1⟩ := h.mem
  exact ⟨h.ok, h.small, h.ge, sp, h1.sty hb hs hz⟩
theorem EC.still (h : EC w0 w xp s top) (hb : Below w.heap.size w w') : EC w0 w' xp s top := h.sty (h.below.trans (hb.mono h.below.size)) (Sty.below hb) hb.size
theorem EC.only {S : List Nat} (h : EC w0 w xp s top) (ho : Only S w w') (hS : ∀ g ∈ S, w0.heap.size ≤ g ∧ ¬ StyB w g) : EC w0 w' xp s top :=
  h.sty (h.below.trans (ho.below (fun g hg => (hS g hg).1) h.below.size)) (fun g hg => ho.block g hg.lt (fun q => (hS g q).2 hg)) ho.size
theorem EC.more (h : EC w0 w xp s top) {top' : Nat} (ht : top ≤ top') (h2 : top' ≤ 5000) : EC w0 w xp s top' := by
  obtain ⟨sp, h1, m, U, h3, h8⟩ := h.mem
  exact ⟨h.ok, h2, h.ge, sp, h1, m, U, h3.more (by omega), h8⟩
theorem EC.make {sp : Nat} (ok : s.Ok) (small : top ≤ 5000) (ge : w0.heap.size ≤ xp) (h : CX w0 w xp sp s.c s.p (q11 s) (2 * top)) : EC w0 w xp s top := ⟨ok, small, ge, sp, h⟩
def EP (w0 w : World) (xp : Nat) (s : L11) (top : Nat) (w' : World) : Prop := EC w0 w' xp s top ∧ Kn w w'
def EPo (w0 w : World) (xp : Nat) (s : L11) (top : Nat) (out : List Nat) (e : Ending) (w' : World) : Prop := ∃ o, e = .returned o ∧ EP w0 w xp s top w' ∧ KV w' o out
end
section
variable {w : World}
theorem ebounded_walk (n : Int) (hn1 : -9223372036854775808 ≤ n) (hn2 : n ≤ 9223372036854775807) :
    Calls Tryz.prog 25 #[.int .i64 n] w fun e w' => e = .returned (.int .i64 (capI n : Nat)) ∧ w = w' := by
  obtain ⟨c, hc⟩ : ∃ c, capI n = c := ⟨_, rfl⟩
  have HC := Lib.hid hc
  rw [hc]
  clear hc
  by_cases h1 : n < 1
  · have H : Hid ((1 : Int) = (c : Int)) := Lib.hid (by rw [← HC.out, capI, if_pos h1]; rfl)
    go_enter Tryz.func25, Tryz.ntmps25
    go_wp2
    go_ret
    exact ⟨by rw [H.out]; rfl, rfl⟩
  · by_cases h1e : n = 1
    · subst h1e
      have H : Hid ((1 : Int) = (c : Int)) := Lib.hid (by rw [← HC.out]; rfl)
      go_enter Tryz.func25, Tryz.ntmps25
      go_wp2
      go_ret
      exact ⟨by rw [H.out]; rfl, rfl⟩
    · have h1g : 1 < n := by omega
      by_cases h2 : 1048576 < n
      · have H : Hid ((1048576 : Int) = (c : Int)) := Lib.hid (by rw [← HC.out, capI, if_neg h1, if_pos h2]; rfl)
        clear h1 h1e
        go_enter Tryz.func25, Tryz.ntmps25
        go_wp2
        go_ret
        exact ⟨by rw [H.out]; rfl, rfl⟩
      · have H : Hid (n = (c : Int)) := Lib.hid (by rw [← HC.out, capI, if_neg h1, if_neg h2]; omega)
        clear h1 h1e
        by_cases h2e : n = 1048576
        · subst h2e
          go_enter Tryz.func25, Tryz.ntmps25
          go_wp2
          go_ret
          exact ⟨by rw [← H.out]; rfl, rfl⟩
        · have h2l : n < 1048576 := by omega
          clear h2e h2
          go_enter Tryz.func25, Tryz.ntmps25
          go_wp2
          go_ret
          exact ⟨by rw [← H.out]; rfl, rfl⟩
end
section
variable {w : World}
theorem eopen_walk (xp : Nat) :
    Calls Tryz.prog 38 #[ptr xp] w fun e w' => e = .returned (ptr xp) ∧ w = w' := by
  go_enter Tryz.func38, Tryz.ntmps38
  go_wp2
  go_ret
  exact ⟨rfl, rfl⟩
end
section
variable {w0 w W : World} {xp sp c p top : Nat} {l : Nat → List Nat}
theorem x_len (h : CX w0 w xp sp c p l top) (hb : Below w.heap.size w W) {t n : Nat} (ht : t < 4) (hn : (l t).length = n) :
    Calls Tryz.prog 41 #[ptr sp, .int .i64 (t : Nat)] W fun e w' => e = .returned (.int .i64 (n : Nat)) ∧ Below w.heap.size w w' :=
  (m_len (h.still hb).sk ht).mono (fun e w' ⟨he, hb'⟩ => ⟨by rw [he, hn], hb.trans (hb'.mono hb.size)⟩)
def wayC (b : Bool) : Array Value := if b then #[.int .i64 0, .int .i64 2] else #[.int .i64 1, .int .i64 3]
set_option maxHeartbeats 4000000 in
theorem demotion_walk (h : CX w0 w xp sp c p l top) (hp : p ≤ 1048576) (g : Bool) {i m : Nat} (hi : (l 0).length = i) (hl : (l 1).length = m) (hi1 : i ≤ 10000) (hm1 : m ≤ 10000) :
    Calls Tryz.prog 68 #[ptr xp, .bool g] w fun e w' => e = .returned (.agg (wayC (decide (fst1 p g i m)))) ∧ Below w.heap.size w w' := by
  have hA := heap_alloc_new w (.cells #[.int .i64 0, .int .i64 0] 101)
  have hlow := low_one w (.cells #[.int .i64 0, .int .i64 0] 101)
  have hX := h.still hlow
  have hltx := h.lt
  clear h
  obtain ⟨X, hXe⟩ : ∃ X, w.alloc (.cells #[.int .i64 0, .int .i64 0] 101) = X := ⟨_, rfl⟩
  have HXE := Lib.hid hXe
  rw [hXe] at hA hlow hX
  obtain ⟨bx, hbx⟩ : ∃ bx, w.heap.size = bx := ⟨_, rfl⟩
  have HBX := Lib.hid hbx
  rw [hbx] at hA hltx
  have hbX := (head_row hA).lt
  have HA := Lib.hid hA
  have HLW := Lib.hid hlow
  have HKC : Hid (∀ W, Below X.heap.size X W → C3 xp sp c p W ∧ W.heap[bx]? = some (.cells #[.int .i64 0, .int .i64 0] 101 (0, 0))) := Lib.hid (fun W hb => ⟨(hX.still hb).cells, (hb.block bx hbX).trans HA.out⟩)
  have HL0 : Hid (∀ W, Below X.heap.size X W → Calls Tryz.prog 41 #[ptr sp, .int .i64 0] W fun e w' => e = .returned (.int .i64 (i : Nat)) ∧ Below X.heap.size X w') := Lib.hid (fun W hb => x_len hX hb (t := 0) (by decide) hi)
  have HL1 : Hid (∀ W, Below X.heap.size X W → Calls Tryz.prog 41 #[ptr sp, .int .i64 1] W fun e w' => e = .returned (.int .i64 (m : Nat)) ∧ Below X.heap.size X w') := Lib.hid (fun W hb => x_len hX hb (t := 1) (by decide) hl)
  obtain ⟨x0, x1, x2⟩ := hX.cells
  have hcase : ∃ b, decide (fst1 p g i m) = b ∧ ((m : Int) = 0 ∧ b = true ∨ ¬ (m : Int) = 0 ∧ ¬ (0 : Int) < (i : Int) ∧ b = false ∨ ¬ (m : Int) = 0 ∧ (0 : Int) < (i : Int) ∧ (p : Int) < (i : Int) ∧ b = true ∨ ¬ (m : Int) = 0 ∧ (0 : Int) < (i : Int) ∧ ¬ (p : Int) < (i : Int) ∧ (i : Int) = (p : Int) ∧ g = true ∧ b = true ∨ ¬ (m : Int) = 0 ∧ (0 : Int) < (i : Int) ∧ ¬ (p : Int) < (i : Int) ∧ (i : Int) = (p : Int) ∧ g = false ∧ b = false ∨ ¬ (m : Int) = 0 ∧ (0 : Int) < (i : Int) ∧ ¬ (p : Int) < (i : Int) ∧ ¬ (i : Int) = (p : Int) ∧ b = false) := by
    refine ⟨_, rfl, ?_⟩
    unfold fst1
    by_cases q1 : m = 0
    · exact .inl ⟨by omega, decide_eq_true (.inl q1)⟩
    · by_cases q2 : 0 < i
      · by_cases q3 : p < i
        · exact .inr (.inr (.inl ⟨by omega, by omega, by omega, decide_eq_true (.inr ⟨q2, .inl q3⟩)⟩))
        · by_cases q4 : i = p
          · cases g
            · exact .inr (.inr (.inr (.inr (.inl ⟨by omega, by omega, by omega, by omega, rfl, decide_eq_false (by rintro (q | ⟨_, q | ⟨_, q⟩⟩) <;> first | omega | cases q)⟩))))
            · exact .inr (.inr (.inr (.inl ⟨by omega, by omega, by omega, by omega, rfl, decide_eq_true (.inr ⟨q2, .inr ⟨q4, rfl⟩⟩)⟩)))
          · exact .inr (.inr (.inr (.inr (.inr ⟨by omega, by omega, by omega, by omega, decide_eq_false (by omega)⟩))))
      · exact .inr (.inl ⟨by omega, by omega, decide_eq_false (by omega)⟩)
  obtain ⟨b, hb, hcase⟩ := hcase
  rw [hb]
  have hiI : (i : Int) ≤ 10000 := by omega
  have hmI : (m : Int) ≤ 10000 := by omega
  have hpI : (p : Int) ≤ 1048576 := by omega
  have hi0 : (0 : Int) ≤ (i : Int) := by omega
  have hm0 : (0 : Int) ≤ (m : Int) := by omega
  have hp0 : (0 : Int) ≤ (p : Int) := by omega
  clear hX hi hl hp hi1 hm1 hb hlow hA hbX hltx
  go_enter Tryz.func68, Tryz.ntmps68
  go_upto_region 1 with fail
  clear hXe hbx
  go_region_held3 (fun w' => w'.cell? ⟨xp, 0, none⟩ = some (ptr sp) ∧ w'.cell? ⟨xp, 1, none⟩ = some (.int .i64 (c : Nat)) ∧ w'.cell? ⟨xp, 2, none⟩ = some (.int .i64 (p : Nat))) (first | with_reducible exact kk5.1 | with_reducible exact kk6.1 | go_keep)
    (first
      | (go_at_call 41; refine (HL1.out _ hb5).mono ?_; rintro e w6 ⟨rfl, hb6⟩; have kk6 := HKC.out w6 hb6)
      | (go_at_call 41; refine (HL0.out _ (below_drewn (Below.refl _ _) _)).mono ?_; rintro e w5 ⟨rfl, hb5⟩; have kk5 := HKC.out w5 hb5))
  obtain ⟨⟨y0, y1, y2⟩, hr6⟩ := kk6
  obtain ⟨⟨r0, r1⟩, rf0, rf1⟩ := c2_at hr6
  have HR6 := Lib.hid hr6
  have HB6 := Lib.hid hb6
  clear kk5 hb5 hb6 hr6 HL0 HL1 HKC x0 x1 x2
  have HF : Hid (∀ v0 v1, Below w.heap.size w ((w6.setCell ⟨bx, 0, none⟩ v0).setCell ⟨bx, 1, none⟩ v1)) := Lib.hid (fun v0 v1 => by
    have h1 : Below w.heap.size w w6 := HLW.out.trans (HB6.out.mono HLW.out.size)
    have ho : Only [bx] w6 ((w6.setCell ⟨bx, 0, none⟩ v0).setCell ⟨bx, 1, none⟩ v1) := ((Only.refl _ _).setCell (by simp) _).setCell (by simp) _
    exact h1.trans (ho.below (by have := HBX.out; simp; omega) h1.size))
  have hmb : ¬ (m : Int) = 0 → ((m : Int) == 0) = false := fun q => by simpa using q
  rcases hcase with ⟨c1, rfl⟩ | ⟨c1, c2, rfl⟩ | ⟨c1, c2, c3, rfl⟩ | ⟨c1, c2, c3, c4, rfl, rfl⟩ | ⟨c1, c2, c3, c4, rfl, rfl⟩ | ⟨c1, c2, c3, c4, rfl⟩
  all_goals
    try (have hmf := hmb c1)
    try (have hlt : (i : Int) < (p : Int) := by omega)
    try (have hgt : ¬ (p : Int) < (i : Int) := by omega)
    clear hmb
    go_wp2
    exact bodyPost_ret (v := .agg (wayC _)) (by simp [results, Tryz.results68, go_sem, wayC, r0, r1]) rfl ⟨rfl, HF.out _ _⟩
end
end Go.Proofs.YtgkblelgcikafaaGreat
