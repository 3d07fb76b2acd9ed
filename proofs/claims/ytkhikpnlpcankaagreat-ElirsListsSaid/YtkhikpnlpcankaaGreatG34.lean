/- Words and walks: ElP ElQ. -/
import Derived.Test.YtkhikpnlpcankaaGreatG14
import Derived.Test.YtkhikpnlpcankaaGreatG18
import Derived.Test.YtkhikpnlpcankaaGreatG20
import Derived.Test.YtkhikpnlpcankaaGreatG33
namespace Go.Proofs.YtkhikpnlpcankaaGreat
open Go Go.RowKit Go.Deep
def mvA (l : Nat → List Nat) (u k : Nat) : Nat → List Nat := fun t => if t = u then k :: wo k (l u) else wo k (l t)
def rmA (l : Nat → List Nat) (k : Nat) : Nat → List Nat := fun t => wo k (l t)
theorem three {t : Nat} (h : t < 3) : t = 0 ∨ t = 1 ∨ t = 2 := by omega
section
variable {w0 w : World} {sp top n : Nat} {l : Nat → List Nat} {K : List Nat}
theorem SK.one (h : SK w0 w sp n l top K) {t u k : Nat} (ht : t < n) (hu : u < n) (h1 : k ∈ l t) (h2 : k ∈ l u) : t = u := by
  obtain ⟨m, U, h, h8⟩ := h
  obtain ⟨i, hi, rfl⟩ := List.getElem_of_mem h1
  obtain ⟨j, hj, e⟩ := List.getElem_of_mem h2
  exact (h.ok.uq t u i j ht hu (by rw [qm_len]; exact hi) (by rw [qm_len]; exact hj) (by rw [qm_key, qm_key]; exact e.symm)).1
theorem mv_any (h : SK w0 w sp n l top K) {t u k : Nat} (ht : t < n) (hk : k ∈ l t) : ∀ i, i < n → mvQ l t u k i = mvA l u k i := by
  intro i hi
  have h0 : ∀ j, j < n → j ≠ t → wo k (l j) = l j := fun j hj hne => wo_none8 (fun q => hne (h.one hj ht q hk))
  unfold mvQ mvA upd
  by_cases e1 : i = u
  · subst e1
    by_cases e2 : i = t
    · subst e2
      simp
    · simp [e2, h0 i hi e2]
  · by_cases e2 : i = t
    · subst e2
      simp [e1]
    · simp [e1, e2, h0 i hi e2]
theorem rm_any (h : SK w0 w sp n l top K) {t k : Nat} (ht : t < n) (hk : k ∈ l t) : ∀ i, i < n → rmQ l t k i = rmA l k i := by
  intro i hi
  have h0 : ∀ j, j < n → j ≠ t → wo k (l j) = l j := fun j hj hne => wo_none8 (fun q => hne (h.one hj ht q hk))
  unfold rmQ rmA upd
  by_cases e2 : i = t
  · subst e2
    simp
  · simp [e2, h0 i hi e2]
theorem pu_any {u k : Nat} (hn : ∀ t, t < n → k ∉ l t) (hu : u < n) : ∀ i, i < n → puQ l u k i = mvA l u k i := by
  intro i hi
  unfold puQ mvA upd
  by_cases e : i = u
  · subst e
    simp [wo_none8 (hn i hi)]
  · simp [e, wo_none8 (hn i hi)]
theorem m_move_any (h : SK w0 w sp n l top K) (hm : top ≤ 10000) {t k u : Nat} (ht : t < n) (hk : k ∈ l t) (hu : u < n) :
    Calls Tryz.prog 109 #[ptr sp, .int .i64 (u : Nat), .int .u64 (k : Nat)] w (SKP w0 w sp n (mvA l u k) top K true) := by
  refine (m_move h hm ht hk hu).mono ?_
  rintro e w' ⟨rfl, g1, g2, g3⟩
  exact ⟨rfl, g1.congr (mv_any h ht hk), g2, g3⟩
theorem m_push_any (h : SK w0 w sp n l top K) (hm : top ≤ 10000) {k u : Nat} (h64 : k < 18446744073709551616) (hk : ∀ t, t < n → k ∉ l t) (hu : u < n) (hl : sumE (Qm l) n + 1 ≤ top) :
    Calls Tryz.prog 130 #[ptr sp, .int .i64 (u : Nat), .int .u64 (k : Nat)] w (SKP w0 w sp n (mvA l u k) top K true) := by
  refine (m_push h hm h64 hk hu (Nat.le_refl top) hl).mono ?_
  rintro e w' ⟨rfl, g1, g2, g3⟩
  exact ⟨rfl, g1.congr (pu_any hk hu), g2, g3⟩
theorem m_rem_any (h : SK w0 w sp n l top K) (hm : top ≤ 10000) {k : Nat} (h64 : k < 18446744073709551616) (b : Bool) (hb : b = true ↔ ∃ t, t < n ∧ k ∈ l t) :
    Calls Tryz.prog 107 #[ptr sp, .int .u64 (k : Nat)] w (SKP w0 w sp n (rmA l k) top K b) := by
  by_cases q : ∃ t, t < n ∧ k ∈ l t
  · obtain rfl := hb.2 q
    obtain ⟨t, ht, hk⟩ := q
    refine (m_rem h hm ht hk).mono ?_
    rintro e w' ⟨rfl, g1, g2, g3⟩
    exact ⟨rfl, g1.congr (rm_any h ht hk), g2, g3⟩
  · have q' : ∀ t, t < n → k ∉ l t := fun t ht hk => q ⟨t, ht, hk⟩
    obtain rfl : b = false := by
      cases b with
      | true => exact absurd (hb.1 rfl) q
      | false => rfl
    refine (m_rem_no h hm h64 q').mono ?_
    rintro e w' ⟨rfl, g1, g2, g3⟩
    exact ⟨rfl, g1.congr (fun t ht => (wo_none8 (q' t ht)).symm), g2, g3⟩
end
structure Ft (w0 w : World) (P : World → List Nat → Prop) (F : List Nat) : Prop where
  old : ∀ k ∈ F, w0.heap.size ≤ k
  sty : ∀ k ∈ F, StyB w k
  keep : ∀ w' K', Below w0.heap.size w0 w' → (∀ k ∈ F, w'.heap[k]? = w.heap[k]?) → (∀ k ∈ K', k < w'.heap.size ∧ k ∉ F) → P w' K'
theorem StyB.keep {w w' : World} {g : Nat} (h : StyB w g) (e : w'.heap[g]? = w.heap[g]?) : StyB w' g := by
  obtain ⟨cs, t, f, h1, h2⟩ := h
  exact ⟨cs, t, f, e.trans h1, h2⟩
section
variable {w0 w w' : World} {K : List Nat}
theorem Ft.move {P : World → List Nat → Prop} {F : List Nat} (h : Ft w0 w P F) (hk : ∀ k ∈ F, w'.heap[k]? = w.heap[k]?) : Ft w0 w' P F :=
  ⟨h.old, fun k q => (h.sty k q).keep (hk k q), fun w2 K' hb h2 hK => h.keep w2 K' hb (fun k q => (h2 k q).trans (hk k q)) hK⟩
theorem SQ.foot {p b ix n : Nat} {l : Nat → List Nat} {A : St} {T : Tb} (h : SQ w0 w p b ix n l A T K) : ∃ F, Ft w0 w (fun w K => SQ w0 w p b ix n l A T K) F ∧ ∀ k ∈ F, k ∉ K := by
  obtain ⟨x, F, G, h⟩ := h
  obtain ⟨F1, f1, f2, f3⟩ := h.heldl.footT
  have h2 : HX w0 w ix T (F1 ++ K) := h.fx.held w h.below (fun k hk => ⟨rfl, (h.fx.old k hk).2⟩) _ (fun k hk => by
    rcases List.mem_append.1 hk with q | q
    · exact ⟨(f1.old k q).2, fun q2 => f2 k q (by simp [q2])⟩
    · exact ⟨h.dK k q, fun q2 => h.dG k q2 q⟩)
  obtain ⟨G1, g1, g2, g3⟩ := h2.footT
  refine ⟨F1 ++ G1, ⟨fun k hk => ?_, fun k hk => ?_, fun w' K' hb hk hK => ?_⟩, fun k hk q => ?_⟩
  · rcases List.mem_append.1 hk with q | q
    · exact (f1.old k q).1
    · exact (g1.old k q).1
  · rcases List.mem_append.1 hk with q | q
    · exact f3 k q
    · exact g3 k q
  · refine ⟨x, F1, G1, hb, f1.keep (fun k hk' => ?_), h.lok, h.xn, h.al, g1.keep (fun k hk' => ?_), fun k hk' => ⟨fun q => g2 k q (by simp [hk']), fun q => (hK k q).2 (by simp [hk'])⟩, fun k hk' q => (hK k q).2 (by simp [hk']), fun k hk' => (hK k hk').1⟩
    · have e := hk k (by simp [hk'])
      exact ⟨e, ((f3 k hk').keep e).lt⟩
    · have e := hk k (by simp [hk'])
      exact ⟨e, ((g3 k hk').keep e).lt⟩
  · rcases List.mem_append.1 hk with q2 | q2
    · exact f2 k q2 (by simp [q])
    · exact g2 k q2 (by simp [q])
theorem SM.foot {sp n : Nat} {l : Nat → List Nat} {A : St} {T : Tb} (h : SM w0 w sp n l A T K) : ∃ F, Ft w0 w (fun w K => SM w0 w sp n l A T K) F ∧ ∀ k ∈ F, k ∉ K := by
  obtain ⟨p, b, ix, h1, h2, h3, h4⟩ := h
  obtain ⟨F, g1, g2⟩ := h2.foot
  have hsp : StyB w sp := ⟨_, _, _, h1, by decide⟩
  refine ⟨sp :: F, ⟨fun k hk => ?_, fun k hk => ?_, fun w' K' hb hk hK => ?_⟩, fun k hk q => ?_⟩
  · rcases List.mem_cons.1 hk with rfl | q
    · exact h3
    · exact g1.old k q
  · rcases List.mem_cons.1 hk with rfl | q
    · exact hsp
    · exact g1.sty k q
  · have e := hk sp (by simp)
    refine ⟨p, b, ix, e.trans h1, g1.keep w' _ hb (fun k q => hk k (by simp [q])) (fun k q => ?_), h3, fun q => (hK sp q).2 (by simp)⟩
    rcases List.mem_cons.1 q with rfl | q
    · exact ⟨(hsp.keep e).lt, fun q2 => g2 k q2 (by simp)⟩
    · exact ⟨(hK k q).1, fun q2 => (hK k q).2 (by simp [q2])⟩
  · rcases List.mem_cons.1 hk with rfl | q2
    · exact h4 q
    · exact g2 k q2 (by simp [q])
theorem SK.foot {sp n top : Nat} {l : Nat → List Nat} (h : SK w0 w sp n l top K) : ∃ F, Ft w0 w (fun w K => SK w0 w sp n l top K) F ∧ ∀ k ∈ F, k ∉ K := by
  obtain ⟨m, U, ⟨l', A, T, E, h1, h2⟩, h8⟩ := h
  obtain ⟨F, g1, g2⟩ := h1.foot
  exact ⟨F, ⟨g1.old, g1.sty, fun w' K' hb hk hK => ⟨m, U, ⟨l', A, T, E, g1.keep w' K' hb hk hK, h2⟩, h8⟩⟩, g2⟩
def Tw (w0 w : World) (P P2 : World → List Nat → Prop) (K : List Nat) : Prop := ∃ F G, Ft w0 w P F ∧ Ft w0 w P2 G ∧ (∀ k ∈ F, k ∉ G) ∧ (∀ k ∈ F, k ∉ K) ∧ (∀ k ∈ G, k ∉ K) ∧ Below w0.heap.size w0 w ∧ ∀ k ∈ K, k < w.heap.size
section
variable {P P' P2 : World → List Nat → Prop}
theorem Tw.swap (h : Tw w0 w P P2 K) : Tw w0 w P2 P K := by
  obtain ⟨F, G, h1, h2, h3, h4, h5, h6, h7⟩ := h
  exact ⟨G, F, h2, h1, fun k a b => h3 k b a, h5, h4, h6, h7⟩
theorem Tw.one (h : Tw w0 w P P2 K) : P w K := by
  obtain ⟨F, G, h1, h2, h3, h4, h5, h6, h7⟩ := h
  exact h1.keep w K h6 (fun _ _ => rfl) (fun k hk => ⟨h7 k hk, fun q => h4 k q hk⟩)
theorem Tw.below (h : Tw w0 w P P2 K) : Below w0.heap.size w0 w := by
  obtain ⟨F, G, h1, h2, h3, h4, h5, h6, h7⟩ := h
  exact h6
theorem Tw.keep (h : Tw w0 w P P2 K) (hb : Below w0.heap.size w0 w') (hk : ∀ g, StyB w g → g ∉ K → w'.heap[g]? = w.heap[g]?) (hK : ∀ k ∈ K, k < w'.heap.size) : Tw w0 w' P P2 K := by
  obtain ⟨F, G, h1, h2, h3, h4, h5, h6, h7⟩ := h
  exact ⟨F, G, h1.move (fun k q => hk k (h1.sty k q) (h4 k q)), h2.move (fun k q => hk k (h2.sty k q) (h5 k q)), h3, h4, h5, hb, hK⟩
theorem Tw.mono (h : Tw w0 w P P2 K) (hp : ∀ w K, P w K → P' w K) : Tw w0 w P' P2 K := by
  obtain ⟨F, G, h1, h2, h3⟩ := h
  exact ⟨F, G, ⟨h1.old, h1.sty, fun w' K' a b c => hp _ _ (h1.keep w' K' a b c)⟩, h2, h3⟩
theorem tw_one {sp n l top l' top'} {f : FuncId} {args : Array Value} {E : Ending → Prop} (h : Tw w0 w (fun w K => SK w0 w sp n l top K) P2 K)
    (hc : ∀ K', SK w0 w sp n l top K' → Calls Tryz.prog f args w fun e w' => E e ∧ SK w0 w' sp n l' top' K' ∧ Kept K' w w') :
    Calls Tryz.prog f args w fun e w' => E e ∧ Tw w0 w' (fun w K => SK w0 w sp n l' top' K) P2 K ∧ Kept K w w' ∧ Kn w w' := by
  obtain ⟨F, G, h1, h2, h3, h4, h5, h6, h7⟩ := h
  have hs : SK w0 w sp n l top (G ++ K ++ allN w) := h1.keep w _ h6 (fun _ _ => rfl) (fun k hk => by
    rcases List.mem_append.1 hk with hk | hk
    · rcases List.mem_append.1 hk with hk | hk
      · exact ⟨(h2.sty k hk).lt, fun q => h3 k q hk⟩
      · exact ⟨h7 k hk, fun q => h4 k q hk⟩
    · exact ⟨(allN_mem.1 hk).lt, fun q => (h1.sty k q).not (allN_mem.1 hk)⟩)
  refine (hc _ hs).mono ?_
  rintro e w' ⟨he, g1, g2⟩
  obtain ⟨F', f1, f2⟩ := g1.foot
  have kG : ∀ k ∈ G, w'.heap[k]? = w.heap[k]? := fun k hk => g2 k (by simp [hk])
  have kK : Kept K w w' := fun k hk => g2 k (by simp [hk])
  refine ⟨he, ⟨F', G, f1, h2.move kG, fun k q q2 => f2 k q (by simp [q2]), fun k q q2 => f2 k q (by simp [q2]), h5, g1.below, fun k hk => ?_⟩, kK, fun g hg => g2 g (by simp [allN_mem.2 hg])⟩
  have e1 := kK k hk
  have e2 := h7 k hk
  rw [Array.getElem?_eq_getElem e2] at e1
  exact (Array.getElem?_eq_some_iff.1 e1).1
end
end
abbrev pt (o : Option Nat) : Value := .pointer (o.map (fun p => ⟨p, 0, none⟩))
def T2 (w0 w : World) (o1 o2 : Option Addr) (S : List Nat) (l : Nat → List Nat) (top : Nat) (K : List Nat) : Prop :=
  (∃ sp kp, o1 = some ⟨sp, 0, none⟩ ∧ o2 = some ⟨kp, 0, none⟩ ∧ Tw w0 w (fun w K => SK w0 w sp 1 (fun _ => S) top K) (fun w K => SK w0 w kp 3 l top K) K) ∨
  (o1 = none ∧ o2 = none ∧ S = [] ∧ (∀ t, t < 3 → l t = []) ∧ Below w0.heap.size w0 w ∧ ∀ k ∈ K, k < w.heap.size)
section
variable {w0 w w' : World} {o1 o2 : Option Addr} {S S' : List Nat} {l l' : Nat → List Nat} {top : Nat} {K : List Nat}
theorem T2.below (h : T2 w0 w o1 o2 S l top K) : Below w0.heap.size w0 w := by
  rcases h with ⟨sp, kp, _, _, h⟩ | ⟨_, _, _, _, h, _⟩
  · exact h.below
  · exact h
theorem T2.keep (h : T2 w0 w o1 o2 S l top K) (hb : Below w0.heap.size w0 w') (hk : ∀ g, StyB w g → g ∉ K → w'.heap[g]? = w.heap[g]?) (hK : ∀ k ∈ K, k < w'.heap.size) : T2 w0 w' o1 o2 S l top K := by
  rcases h with ⟨sp, kp, e1, e2, h⟩ | ⟨e1, e2, e3, e4, _, _⟩
  · exact .inl ⟨sp, kp, e1, e2, h.keep hb hk hK⟩
  · exact .inr ⟨e1, e2, e3, e4, hb, hK⟩
theorem T2.old (h : T2 w0 w o1 o2 S l top K) : ∀ k ∈ K, k < w.heap.size := by
  rcases h with ⟨sp, kp, _, _, F, G, h1, h2, h3, h4, h5, h6, h7⟩ | ⟨_, _, _, _, _, h⟩
  · exact h7
  · exact h
theorem T2.still (h : T2 w0 w o1 o2 S l top K) (hb : Below w.heap.size w w') : T2 w0 w' o1 o2 S l top K :=
  h.keep (h.below.trans (hb.mono h.below.size)) (fun g hg _ => hb.block g hg.lt) (fun k hk => Nat.lt_of_lt_of_le (h.old k hk) hb.size)
theorem T2.congr (h : T2 w0 w o1 o2 S l top K) (hl : ∀ t, t < 3 → l t = l' t) : T2 w0 w o1 o2 S l' top K := by
  rcases h with ⟨sp, kp, e1, e2, h⟩ | ⟨e1, e2, e3, e4, h⟩
  · exact .inl ⟨sp, kp, e1, e2, (h.swap.mono (fun w K q => q.congr hl)).swap⟩
  · exact .inr ⟨e1, e2, e3, fun t ht => (hl t ht).symm.trans (e4 t ht), h⟩
theorem T2.nd (h : T2 w0 w o1 o2 S l top K) : S.Nodup ∧ ∀ t, t < 3 → (l t).Nodup := by
  rcases h with ⟨sp, kp, e1, e2, h⟩ | ⟨e1, e2, e3, e4, h⟩
  · exact ⟨h.one.nodup (t := 0) (by decide), fun t ht => h.swap.one.nodup ht⟩
  · exact ⟨by rw [e3]; exact List.nodup_nil, fun t ht => by rw [e4 t ht]; exact List.nodup_nil⟩
theorem T2.sum (h : T2 w0 w o1 o2 S l top K) : S.length ≤ top ∧ (l 0).length + (l 1).length + (l 2).length ≤ top := by
  rcases h with ⟨sp, kp, e1, e2, h⟩ | ⟨e1, e2, e3, e4, h⟩
  · have h1 := h.one.sum
    have h2 := h.swap.one.sum
    simp only [sumE, qm_len] at h1 h2
    omega
  · rw [e3, e4 0 (by decide), e4 1 (by decide), e4 2 (by decide)]
    simp
theorem T2.key64 (h : T2 w0 w o1 o2 S l top K) {t k : Nat} (ht : t < 3) (hk : k ∈ l t) : k < 18446744073709551616 := by
  rcases h with ⟨sp, kp, e1, e2, h⟩ | ⟨e1, e2, e3, e4, h⟩
  · exact h.swap.one.key64 ht hk
  · rw [e4 t ht] at hk
    cases hk
theorem t_len1 (h : T2 w0 w o1 o2 S l top K) : Calls Tryz.prog 47 #[.pointer o1, .int .i64 0] w fun e w' => e = .returned (.int .i64 (S.length : Nat)) ∧ Below w.heap.size w w' := by
  rcases h with ⟨sp, kp, rfl, rfl, h⟩ | ⟨rfl, rfl, rfl, e4, h⟩
  · exact m_len h.one (t := 0) (by decide)
  · exact nLen w 0
theorem t_len2 (h : T2 w0 w o1 o2 S l top K) {t n : Nat} (ht : t < 3) (hn : (l t).length = n) : Calls Tryz.prog 47 #[.pointer o2, .int .i64 (t : Nat)] w fun e w' => e = .returned (.int .i64 (n : Nat)) ∧ Below w.heap.size w w' := by
  subst hn
  rcases h with ⟨sp, kp, rfl, rfl, h⟩ | ⟨rfl, rfl, rfl, e4, h⟩
  · exact m_len h.swap.one ht
  · rw [e4 t ht]
    exact nLen w t
theorem t_find1 (h : T2 w0 w o1 o2 S l top K) (hm : top ≤ 10000) (k : Nat) (h64 : k < 18446744073709551616) : Calls Tryz.prog 46 #[.pointer o1, .int .u64 (k : Nat)] w fun e w' => e = .returned (.tuple #[.int .i64 0, .bool (decide (k ∈ S))]) ∧ Below w.heap.size w w' := by
  rcases h with ⟨sp, kp, rfl, rfl, h⟩ | ⟨rfl, rfl, rfl, e4, h⟩
  · by_cases q : k ∈ S
    · rw [decide_eq_true q]
      exact m_find_in h.one hm (t := 0) (by decide) q
    · rw [decide_eq_false q]
      exact m_find_out h.one hm k h64 (fun _ _ => q)
  · exact nFind w _
theorem t_find2 (h : T2 w0 w o1 o2 S l top K) (hm : top ≤ 10000) {t k : Nat} (ht : t < 3) (hk : k ∈ l t) : Calls Tryz.prog 46 #[.pointer o2, .int .u64 (k : Nat)] w fun e w' => e = .returned (.tuple #[.int .i64 (t : Nat), .bool true]) ∧ Below w.heap.size w w' := by
  rcases h with ⟨sp, kp, rfl, rfl, h⟩ | ⟨rfl, rfl, rfl, e4, h⟩
  · exact m_find_in h.swap.one hm ht hk
  · rw [e4 t ht] at hk
    cases hk
theorem t_find2_no (h : T2 w0 w o1 o2 S l top K) (hm : top ≤ 10000) (k : Nat) (h64 : k < 18446744073709551616) (hk : ∀ t, t < 3 → k ∉ l t) : Calls Tryz.prog 46 #[.pointer o2, .int .u64 (k : Nat)] w fun e w' => e = .returned (.tuple #[.int .i64 0, .bool false]) ∧ Below w.heap.size w w' := by
  rcases h with ⟨sp, kp, rfl, rfl, h⟩ | ⟨rfl, rfl, rfl, e4, h⟩
  · exact m_find_out h.swap.one hm k h64 hk
  · exact nFind w _
theorem t_back1 (h : T2 w0 w o1 o2 S l top K) (hm : top ≤ 10000) : Calls Tryz.prog 108 #[.pointer o1, .int .i64 0] w fun e w' => ∃ b, e = .returned (.tuple #[.int .u64 (S.getLastD 0 : Nat), .bool b]) ∧ Below w.heap.size w w' := by
  rcases h with ⟨sp, kp, rfl, rfl, h⟩ | ⟨rfl, rfl, rfl, e4, h⟩
  · exact (m_back h.one hm (t := 0) (by decide)).mono (fun e w' ⟨he, hb⟩ => ⟨_, he, hb⟩)
  · exact (nBack w 0).mono (fun e w' ⟨he, hb⟩ => ⟨_, he, hb⟩)
theorem t_back2 (h : T2 w0 w o1 o2 S l top K) (hm : top ≤ 10000) {t : Nat} (ht : t < 3) : Calls Tryz.prog 108 #[.pointer o2, .int .i64 (t : Nat)] w fun e w' => ∃ b, e = .returned (.tuple #[.int .u64 ((l t).getLastD 0 : Nat), .bool b]) ∧ Below w.heap.size w w' := by
  rcases h with ⟨sp, kp, rfl, rfl, h⟩ | ⟨rfl, rfl, rfl, e4, h⟩
  · exact (m_back h.swap.one hm ht).mono (fun e w' ⟨he, hb⟩ => ⟨_, he, hb⟩)
  · rw [e4 t ht]
    exact (nBack w t).mono (fun e w' ⟨he, hb⟩ => ⟨_, he, hb⟩)
def T2P (w0 w : World) (o1 o2 : Option Addr) (S : List Nat) (l : Nat → List Nat) (top : Nat) (K : List Nat) (b : Bool) (e : Ending) (w' : World) : Prop :=
  e = .returned (.bool b) ∧ T2 w0 w' o1 o2 S l top K ∧ Kept K w w' ∧ Kn w w'
theorem t_rem1 (h : T2 w0 w o1 o2 S l top K) (hm : top ≤ 10000) (k : Nat) (h64 : k < 18446744073709551616) :
    Calls Tryz.prog 107 #[.pointer o1, .int .u64 (k : Nat)] w (T2P w0 w o1 o2 (wo k S) l top K (decide (k ∈ S))) := by
  rcases h with ⟨sp, kp, rfl, rfl, h⟩ | ⟨rfl, rfl, rfl, e4, h⟩
  · refine (tw_one (E := fun e => e = .returned (.bool (decide (k ∈ S)))) (l' := fun _ => wo k S) (top' := top) h (fun K' h' => (m_rem_any h' hm h64 (decide (k ∈ S)) ⟨fun q => ⟨0, by decide, by simpa using q⟩, fun ⟨_, _, q⟩ => by simpa using q⟩).mono (fun e w' ⟨g1, g2, g3, _⟩ => ⟨g1, g2, g3⟩))).mono ?_
    rintro e w' ⟨rfl, g1, g2, g3⟩
    exact ⟨rfl, .inl ⟨sp, kp, rfl, rfl, g1⟩, g2, g3⟩
  · refine (nRemove w _).mono ?_
    rintro e w' ⟨rfl, hb⟩
    exact ⟨rfl, (T2.still (.inr ⟨rfl, rfl, rfl, e4, h⟩) hb), fun k hk => hb.block k (h.2 k hk), Kn.below hb⟩
theorem t_rem2 (h : T2 w0 w o1 o2 S l top K) (hm : top ≤ 10000) (k : Nat) (h64 : k < 18446744073709551616) :
    Calls Tryz.prog 107 #[.pointer o2, .int .u64 (k : Nat)] w fun e w' => ∃ b, T2P w0 w o1 o2 S (rmA l k) top K b e w' := by
  rcases h with ⟨sp, kp, rfl, rfl, h⟩ | ⟨rfl, rfl, rfl, e4, h⟩
  · obtain ⟨b, hb⟩ : ∃ b : Bool, b = true ↔ ∃ t, t < 3 ∧ k ∈ l t := by
      by_cases q : ∃ t, t < 3 ∧ k ∈ l t
      · exact ⟨true, ⟨fun _ => q, fun _ => rfl⟩⟩
      · exact ⟨false, ⟨fun h => (by cases h), fun h => absurd h q⟩⟩
    refine (tw_one (E := fun e => e = .returned (.bool b)) (l' := rmA l k) (top' := top) h.swap (fun K' h' => (m_rem_any h' hm h64 b hb).mono (fun e w' ⟨g1, g2, g3, _⟩ => ⟨g1, g2, g3⟩))).mono ?_
    rintro e w' ⟨rfl, g1, g2, g3⟩
    exact ⟨b, rfl, .inl ⟨sp, kp, rfl, rfl, g1.swap⟩, g2, g3⟩
  · refine (nRemove w _).mono ?_
    rintro e w' ⟨rfl, hb⟩
    exact ⟨false, rfl, (T2.still (.inr ⟨rfl, rfl, rfl, fun t ht => by unfold rmA; rw [e4 t ht]; rfl, h⟩) hb), fun k hk => hb.block k (h.2 k hk), Kn.below hb⟩
theorem t_move2 (h : T2 w0 w o1 o2 S l top K) (hm : top ≤ 10000) {t u k : Nat} (ht : t < 3) (hk : k ∈ l t) (hu : u < 3) :
    Calls Tryz.prog 109 #[.pointer o2, .int .i64 (u : Nat), .int .u64 (k : Nat)] w (T2P w0 w o1 o2 S (mvA l u k) top K true) := by
  rcases h with ⟨sp, kp, rfl, rfl, h⟩ | ⟨rfl, rfl, rfl, e4, h⟩
  · refine (tw_one (E := fun e => e = .returned (.bool true)) (l' := mvA l u k) (top' := top) h.swap (fun K' h' => (m_move_any h' hm ht hk hu).mono (fun e w' ⟨g1, g2, g3, _⟩ => ⟨g1, g2, g3⟩))).mono ?_
    rintro e w' ⟨rfl, g1, g2, g3⟩
    exact ⟨rfl, .inl ⟨sp, kp, rfl, rfl, g1.swap⟩, g2, g3⟩
  · rw [e4 t ht] at hk
    cases hk
theorem t_keys1 (h : T2 w0 w o1 o2 S l top K) (hm : top ≤ 10000) : Calls Tryz.prog 45 #[.pointer o1, .int .i64 0] w fun e w' => ∃ v, e = .returned v ∧ Below w.heap.size w w' ∧ KO w.heap.size w w' v S := by
  rcases h with ⟨sp, kp, rfl, rfl, h⟩ | ⟨rfl, rfl, rfl, e4, h⟩
  · exact m_keys h.one hm (t := 0) (by decide)
  · refine (nKeys w 0).mono ?_
    rintro e w' ⟨rfl, hb⟩
    exact ⟨_, rfl, hb, KO.nil hb⟩
theorem t_keys2 (h : T2 w0 w o1 o2 S l top K) (hm : top ≤ 10000) {t : Nat} (ht : t < 3) : Calls Tryz.prog 45 #[.pointer o2, .int .i64 (t : Nat)] w fun e w' => ∃ v, e = .returned v ∧ Below w.heap.size w w' ∧ KO w.heap.size w w' v (l t) := by
  rcases h with ⟨sp, kp, rfl, rfl, h⟩ | ⟨rfl, rfl, rfl, e4, h⟩
  · exact m_keys h.swap.one hm ht
  · refine (nKeys w t).mono ?_
    rintro e w' ⟨rfl, hb⟩
    rw [e4 t ht]
    exact ⟨_, rfl, hb, KO.nil hb⟩
end
def qK (s : L12) : Nat → List Nat := fun t => if t = 0 then kk 0 s.s else if t = 1 then s.q.reverse else kk 2 s.s
namespace L12
variable {s : L12} {k : Nat}
def bit (b : Bool) : Nat := if b then 2 else 1
def upTo (s : L12) (t : List It) : L12 := ⟨s.c, t, s.q⟩
theorem qK_gone (s : L12) (k : Nat) {t : Nat} (ht : t < 3) : rmA (qK s) k t = qK (s.gone k) t := by
  rcases three ht with rfl | rfl | rfl
  · exact kk_wi.symm
  · exact wo_rev _ _
  · exact kk_wi.symm
theorem lay_keys (s : L12) (k : Nat) (b : Bool) : keysI (s.lay k b).s = k :: wo k (keysI s.s) := by
  cases b <;> (show k :: keysI (wi k s.s) = _; rw [keysI_wi])
theorem qK_lay (s : L12) (k : Nat) (b : Bool) {t : Nat} (ht : t < 3) : mvA (qK s) (bit b) k t = qK (s.lay k b) t := by
  cases b
  · rcases three ht with rfl | rfl | rfl
    · show wo k (kk 0 s.s) = kk 0 (⟨k, 1⟩ :: wi k s.s)
      rw [kk_cons, if_neg (by simp), kk_wi, List.nil_append]
    · show k :: wo k s.q.reverse = (wo k s.q ++ [k]).reverse
      rw [List.reverse_append, wo_rev]
      rfl
    · show wo k (kk 2 s.s) = kk 2 (⟨k, 1⟩ :: wi k s.s)
      rw [kk_cons, if_neg (by simp), kk_wi, List.nil_append]
  · rcases three ht with rfl | rfl | rfl
    · show wo k (kk 0 s.s) = kk 0 (⟨k, 2⟩ :: wi k s.s)
      rw [kk_cons, if_neg (by simp), kk_wi, List.nil_append]
    · show wo k s.q.reverse = (wo k s.q).reverse
      rw [wo_rev]
    · show k :: wo k (kk 2 s.s) = kk 2 (⟨k, 2⟩ :: wi k s.s)
      rw [kk_cons, if_pos rfl, kk_wi]
      rfl
def chill (s : L12) : L12 := ⟨s.c, setI (lastF 2 s.s) 1 s.s, s.q ++ [lastF 2 s.s]⟩
theorem chill_is (hf : s.Fine) (hm : 0 < nk 2 s.s) : s.chill.Fine ∧ s.chill.prune = s.cool1 ∧ keysI s.chill.s = keysI s.s ∧ (∀ t, t < 3 → mvA (qK s) 1 (lastF 2 s.s) t = qK s.chill t) ∧ lastF 2 s.s ∈ kk 2 s.s := by
  obtain ⟨k, hk⟩ : ∃ k, lastF 2 s.s = k := ⟨_, rfl⟩
  have hl := lastF_in hm
  unfold chill
  rw [hk] at hl ⊢
  have h0 := hf.at_ k
  have ht := tot_ct (a := k) hf.kinds
  have htl := hf.tot_le k
  unfold okA at h0
  have hq : k ∉ s.q := fun h => by have := q_in.1 h; omega
  refine ⟨⟨setI_f (by omega) hf.kinds, fun a => ?_⟩, by unfold L12.cool1 L12.prune; rw [hk], setI_keys, fun t ht => ?_, kk_in.2 hl⟩
  · have h1 := hf.at_ a
    unfold okA at *
    simp only [ct_setI, cs]
    by_cases e : a = k
    · subst e
      have : tot a s.s = 1 := by omega
      simp only [if_true, this]
      simp
      exact ⟨by omega, fun _ => h0.2.2.2 (by omega)⟩
    · simp only [if_neg e, Nat.add_zero]
      exact h1
  · rcases three ht with rfl | rfl | rfl
    · exact (kk_setI (by decide)).symm
    · show k :: wo k s.q.reverse = (s.q ++ [k]).reverse
      rw [List.reverse_append, wo_rev, wo_none8 hq]
      rfl
    · exact (kk_setI (by decide)).symm
theorem ev_move (hf : s.Fine) (ho : s.Ord) {k : Nat} {q : List Nat} (hq : s.q = k :: q) : (0 < tot k s.s → ∀ t, t < 3 → mvA (qK s) 0 k t = qK s.ev1 t) ∧ (tot k s.s = 0 → ∀ t, t < 3 → rmA (qK s) k t = qK (⟨s.c, s.s, q⟩ : L12) t) ∧ keysI s.ev1.s = keysI s.s ∧ k ∈ qK s 1 ∧ qK s 1 = q.reverse ++ [k] := by
  obtain ⟨o1, o2, o3, o4, o5, n2, n0⟩ := ev1_is hf ho hq
  have hnd := hf.qNd
  rw [hq] at hnd
  have hkq := (List.nodup_cons.1 hnd).1
  have e1 : wo k s.q.reverse = q.reverse := by
    rw [hq, List.reverse_cons, wo_app2]
    have e1 : wo k [k] = [] := by simp [wo]
    rw [e1, wo_none8 (by simpa using hkq), List.append_nil]
  refine ⟨fun hp t ht => ?_, fun hp t ht => ?_, ?_, ?_, ?_⟩
  · rcases three ht with rfl | rfl | rfl
    · show k :: wo k (kk 0 s.s) = kk 0 s.ev1.s
      rw [wo_none8 n0, o2 hp]
    · show wo k s.q.reverse = s.ev1.q.reverse
      rw [e1, o5]
    · show wo k (kk 2 s.s) = kk 2 s.ev1.s
      rw [wo_none8 n2, o4]
  · rcases three ht with rfl | rfl | rfl
    · exact wo_none8 n0
    · exact e1
    · exact wo_none8 n2
  · rw [o5]
    exact setI_keys
  · show k ∈ s.q.reverse
    rw [hq]
    simp
  · show s.q.reverse = _
    rw [hq, List.reverse_cons]
theorem fg1_is (hf : s.Fine) (hm : 0 < nk 0 s.s) : s.fg1 = s.gone (lastF 0 s.s) := by
  have hl := lastF_in hm
  have h0 := hf.at_ (lastF 0 s.s)
  unfold okA at h0
  unfold L12.fg1 L12.gone
  rw [wo_none8 (fun h => by have := q_in.1 h; omega)]
theorem in_qK (hf : s.Fine) {x : It} (hx : x ∈ s.s) : x.f < 3 ∧ x.key ∈ qK s x.f := by
  have h1 := hf.kinds x hx
  have h2 : 0 < ct x.key x.f s.s := ct_in.1 hx
  have h0 := hf.at_ x.key
  unfold okA at h0
  refine ⟨by omega, ?_⟩
  rcases (by omega : x.f = 0 ∨ x.f = 1 ∨ x.f = 2) with e | e | e
  · rw [e] at h2 ⊢
    exact kk_in.2 h2
  · rw [e] at h2 ⊢
    show x.key ∈ s.q.reverse
    exact List.mem_reverse.2 (q_in.2 (by omega))
  · rw [e] at h2 ⊢
    exact kk_in.2 h2
theorem keys_qK (s : L12) (k : Nat) : k ∈ s.keys ↔ k ∈ qK s 1 ∨ k ∈ qK s 2 := by
  have e2 : k ∈ qK s 2 ↔ 0 < ct k 2 s.s := kk_in
  have e1 : k ∈ qK s 1 ↔ 0 < s.q.count k := by
    show k ∈ s.q.reverse ↔ _
    rw [List.mem_reverse]
    exact q_in
  rw [keys_in, e1, e2]
  omega
theorem pop_is (hf : s.Fine) {t : List It} {x : It} (e : s.s = t ++ [x]) : (s.upTo t).Fine ∧ wo x.key (keysI s.s) = keysI t ∧ (x.f = 0 → ∀ i, i < 3 → rmA (qK s) x.key i = qK (s.upTo t) i) ∧ (x.f = 1 → ∀ i, i < 3 → qK s i = qK (s.upTo t) i) := by
  have hx : x ∈ s.s := by rw [e]; simp
  have h2 : 0 < ct x.key x.f s.s := ct_in.1 hx
  have h0 := hf.at_ x.key
  have htl := hf.tot_le x.key
  rw [e, tot_append, tot_cons, if_pos rfl] at htl
  have hsub : t.Sublist s.s := by rw [e]; exact List.sublist_append_left _ _
  unfold okA at h0
  have hw : ∀ f, wo x.key (kk f s.s) = kk f t := fun f => by
    rw [← kk_wi, e, wi_append, wi_none (k := x.key) (s := t) (by omega)]
    have : wi x.key [x] = [] := by simp [wi]
    rw [this, List.append_nil]
  refine ⟨⟨fun y hy => hf.kinds y (hsub.subset hy), fun a => ?_⟩, ?_, fun hx0 i hi => ?_, fun hx1 i hi => ?_⟩
  · have h1 := hf.at_ a
    have c : ∀ f, ct a f t ≤ ct a f s.s := fun f => hsub.count_le _
    have d : ct a 1 s.s ≤ ct a 1 t + 1 ∧ True := ⟨by
      unfold ct
      rw [e, List.count_append, List.count_singleton]
      split <;> omega, trivial⟩
    have c0 := c 0
    have c1 := c 1
    have c2 := c 2
    unfold okA L12.upTo at *
    simp only at *
    refine ⟨by omega, by omega, by omega, fun hh => h1.2.2.2 (by omega)⟩
  · rw [← keysI_wi, e, wi_append, wi_none (k := x.key) (s := t) (by omega)]
    have : wi x.key [x] = [] := by simp [wi]
    rw [this, List.append_nil]
  · rcases three hi with rfl | rfl | rfl
    · exact hw 0
    · show wo x.key s.q.reverse = s.q.reverse
      rw [hx0] at h2
      exact wo_none8 (fun h => by have := q_in.1 (List.mem_reverse.1 h); omega)
    · exact hw 2
  · have hk : ∀ f, f ≠ 1 → kk f s.s = kk f t := fun f hf1 => by
      have n1 : kk f [x] = [] := by rw [kk_cons, if_neg (by omega)]; rfl
      rw [e, kk_append, n1, List.append_nil]
    rcases three hi with rfl | rfl | rfl
    · exact hk 0 (by decide)
    · rfl
    · exact hk 2 (by decide)
end L12
abbrev CaT : TypeId := 67
abbrev cacheC (o1 o2 : Option Addr) (c : Nat) : Array Value := #[.pointer o1, .pointer o2, .int .i64 (c : Nat)]
abbrev nilC : Array Value := #[.pointer none, .pointer none, .int .i64 0]
structure CX (w0 w : World) (xp : Nat) (o1 o2 : Option Addr) (c : Nat) (S : List Nat) (l : Nat → List Nat) (tp : Nat) : Prop where
  box : w.heap[xp]? = some (.cells (cacheC o1 o2 c) CaT (0, 0))
  t2 : T2 w0 w o1 o2 S l tp [xp]
  ge : w0.heap.size ≤ xp
  small : tp ≤ 10000
abbrev C3 (xp : Nat) (o1 o2 : Option Addr) (c : Nat) (W : World) : Prop := W.cell? ⟨xp, 0, none⟩ = some (.pointer o1) ∧ W.cell? ⟨xp, 1, none⟩ = some (.pointer o2) ∧ W.cell? ⟨xp, 2, none⟩ = some (.int .i64 (c : Nat))
def CP (w0 w : World) (xp : Nat) (o1 o2 : Option Addr) (c : Nat) (S : List Nat) (l : Nat → List Nat) (tp : Nat) (w' : World) : Prop := CX w0 w' xp o1 o2 c S l tp ∧ Kn w w'
abbrev CS (w0 w : World) (xp : Nat) (o1 o2 : Option Addr) (s : L12) (tp : Nat) : Prop := CX w0 w xp o1 o2 s.c (keysI s.s) (qK s) tp
abbrev CSP (w0 w : World) (xp : Nat) (o1 o2 : Option Addr) (s : L12) (tp : Nat) (w' : World) : Prop := CP w0 w xp o1 o2 s.c (keysI s.s) (qK s) tp w'
section
variable {w0 w w' : World} {xp : Nat} {o1 o2 : Option Addr} {c : Nat} {S S' : List Nat} {l l' : Nat → List Nat} {tp : Nat} {s : L12} {b : Bool} {e : Ending}
theorem CX.lt (h : CX w0 w xp o1 o2 c S l tp) : xp < w.heap.size := (head_row h.box).lt
theorem CX.styB (h : CX w0 w xp o1 o2 c S l tp) : StyB w xp := ⟨_, _, _, h.box, by decide⟩
theorem CX.sty (h : CX w0 w xp o1 o2 c S l tp) (hb : Below w0.heap.size w0 w') (hs : Sty w w') (hz : w.heap.size ≤ w'.heap.size) : CX w0 w' xp o1 o2 c S l tp :=
  ⟨(hs xp h.styB).trans h.box, h.t2.keep hb (fun g hg _ => hs g hg) (fun k hk => Nat.lt_of_lt_of_le (h.t2.old k hk) hz), h.ge, h.small⟩
theorem CX.still (h : CX w0 w xp o1 o2 c S l tp) (hb : Below w.heap.size w w') : CX w0 w' xp o1 o2 c S l tp :=
  ⟨(hb.block xp h.lt).trans h.box, h.t2.still hb, h.ge, h.small⟩
theorem CX.congr (h : CX w0 w xp o1 o2 c S l tp) (hl : ∀ t, t < 3 → l t = l' t) (hs : S = S') : CX w0 w xp o1 o2 c S' l' tp := ⟨h.box, hs ▸ h.t2.congr hl, h.ge, h.small⟩
theorem CX.cells (h : CX w0 w xp o1 o2 c S l tp) : C3 xp o1 o2 c w := (c3_at h.box).1
theorem CX.below (h : CX w0 w xp o1 o2 c S l tp) : Below w0.heap.size w0 w := h.t2.below
theorem CX.put (h : CX w0 w xp o1 o2 c S l tp) (hp : T2P w0 w o1 o2 S' l' tp [xp] b e w') : e = .returned (.bool b) ∧ CP w0 w xp o1 o2 c S' l' tp w' :=
  ⟨hp.1, ⟨(hp.2.2.1 xp (by simp)).trans h.box, hp.2.1, h.ge, h.small⟩, hp.2.2.2⟩
theorem CP.still {W : World} (h : CP w0 w xp o1 o2 c S l tp w') (hb : Below w'.heap.size w' W) : CP w0 w xp o1 o2 c S l tp W := ⟨h.1.still hb, h.2.trans (Kn.below hb)⟩
theorem CX.capS (h : CX w0 w xp o1 o2 c S l tp) (c' : Nat) : CP w0 w xp o1 o2 c' S l tp (w.setCell ⟨xp, 2, none⟩ (.int .i64 (c' : Nat))) := by
  have hset := set_one (i := 2) (v := .int .i64 (c' : Nat)) h.box
  have ho : Only [xp] w (w.setCell ⟨xp, 2, none⟩ (.int .i64 (c' : Nat))) := (Only.refl _ _).setCell (by simp) _
  exact ⟨⟨hset, h.t2.keep (h.below.trans (ho.below (by simp; exact h.ge) h.below.size)) (fun g hg hn => ho.block g hg.lt hn) (fun k hk => Nat.lt_of_lt_of_le (h.t2.old k hk) ho.size), h.ge, h.small⟩, fun g hg => ho.block g hg.lt (fun q => by
    simp only [List.mem_singleton] at q
    subst q
    exact h.styB.not hg)⟩
theorem CX.sums (h : CS w0 w xp o1 o2 s tp) : s.s.length ≤ tp ∧ nk 0 s.s ≤ tp ∧ nk 2 s.s ≤ tp ∧ s.q.length ≤ tp ∧ nk 0 s.s + s.q.length + nk 2 s.s ≤ tp := by
  obtain ⟨h1, h2⟩ := h.t2.sum
  have e0 : (qK s 0).length = nk 0 s.s := kk_len
  have e1 : (qK s 1).length = s.q.length := List.length_reverse
  have e2 : (qK s 2).length = nk 2 s.s := kk_len
  have e3 : (keysI s.s).length = s.s.length := List.length_map _
  omega
structure EC (w0 w : World) (xp : Nat) (s : L12) (top : Nat) : Prop where
  ok : s.Ok
  ord : s.Ord
  small : top ≤ 5000
  mem : ∃ sp kp, CS w0 w xp (some ⟨sp, 0, none⟩) (some ⟨kp, 0, none⟩) s (2 * top)
variable {top : Nat}
theorem EC.below (h : EC w0 w xp s top) : Below w0.heap.size w0 w := by
  obtain ⟨sp, kp, h1⟩ := h.mem
  exact h1.below
theorem EC.ge (h : EC w0 w xp s top) : w0.heap.size ≤ xp := by
  obtain ⟨sp, kp, h1⟩ := h.mem
  exact h1.ge
theorem EC.lt (h : EC w0 w xp s top) : xp < w.heap.size := by
  obtain ⟨sp, kp, h1⟩ := h.mem
  exact h1.lt
theorem EC.styB (h : EC w0 w xp s top) : StyB w xp := by
  obtain ⟨sp, kp, h1⟩ := h.mem
  exact h1.styB
theorem EC.sty (h : EC w0 w xp s top) (hb : Below w0.heap.size w0 w') (hs : Sty w w') (hz : w.heap.size ≤ w'.heap.size) : EC w0 w' xp s top := by
  obtain ⟨sp, kp, h1⟩ := h.mem
  exact ⟨h.ok, h.ord, h.small, sp, kp, h1.sty hb hs hz⟩
theorem EC.still (h : EC w0 w xp s top) (hb : Below w.heap.size w w') : EC w0 w' xp s top := h.sty (h.below.trans (hb.mono h.below.size)) (Sty.below hb) hb.size
theorem EC.only {S : List Nat} (h : EC w0 w xp s top) (ho : Only S w w') (hS : ∀ g ∈ S, w0.heap.size ≤ g ∧ ¬ StyB w g) : EC w0 w' xp s top :=
  h.sty (h.below.trans (ho.below (fun g hg => (hS g hg).1) h.below.size)) (fun g hg => ho.block g hg.lt (fun q => (hS g q).2 hg)) ho.size
theorem T2.more {K : List Nat} {o1 o2 : Option Addr} {S : List Nat} {l : Nat → List Nat} {tp tp' : Nat} (h : T2 w0 w o1 o2 S l tp K) (ht : tp ≤ tp') : T2 w0 w o1 o2 S l tp' K := by
  have hm : ∀ {sp n : Nat} {l : Nat → List Nat} {w K}, SK w0 w sp n l tp K → SK w0 w sp n l tp' K := fun ⟨m, U, h3, h8⟩ => ⟨m, U, h3.more ht, h8⟩
  rcases h with ⟨sp, kp, e1, e2, h⟩ | h
  · exact .inl ⟨sp, kp, e1, e2, ((h.mono (fun w K q => hm q)).swap.mono (fun w K q => hm q)).swap⟩
  · exact .inr h
theorem EC.more (h : EC w0 w xp s top) {top' : Nat} (ht : top ≤ top') (h2 : top' ≤ 5000) : EC w0 w xp s top' := by
  obtain ⟨sp, kp, h1⟩ := h.mem
  exact ⟨h.ok, h.ord, h2, sp, kp, h1.box, h1.t2.more (by omega), h1.ge, by omega⟩
def EP (w0 w : World) (xp : Nat) (s : L12) (top : Nat) (w' : World) : Prop := EC w0 w' xp s top ∧ Kn w w'
def EPo (w0 w : World) (xp : Nat) (s : L12) (top : Nat) (out : List Nat) (e : Ending) (w' : World) : Prop := ∃ o, e = .returned o ∧ EP w0 w xp s top w' ∧ KV w' o out
end
end Go.Proofs.YtkhikpnlpcankaaGreat
