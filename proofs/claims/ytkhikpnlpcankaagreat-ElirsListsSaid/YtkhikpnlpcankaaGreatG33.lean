/- Words and walks: ElM. -/
import Derived.Test.YtkhikpnlpcankaaGreatG18
import Derived.Test.YtkhikpnlpcankaaGreatG21
namespace Go.Proofs.YtkhikpnlpcankaaGreat
open Go Go.RowKit Go.Deep
set_option maxRecDepth 8000
def kk (f : Nat) (s : List It) : List Nat := keysI (s.filter (fun x => x.f == f))
section
variable {s : List It} {a f g k : Nat}
theorem kk_cons (x : It) (s : List It) : kk f (x :: s) = (if x.f = f then [x.key] else []) ++ kk f s := by
  unfold kk keysI
  rw [List.filter_cons]
  by_cases e : x.f = f
  · rw [if_pos (by simp [e]), if_pos e]
    rfl
  · rw [if_neg (by simp [e]), if_neg e]
    rfl
theorem kk_append (a b : List It) : kk f (a ++ b) = kk f a ++ kk f b := by
  unfold kk keysI
  rw [List.filter_append, List.map_append]
theorem kk_len : (kk f s).length = nk f s := by
  unfold kk keysI nk
  rw [List.length_map, List.countP_eq_length_filter]
theorem kk_count : (kk f s).count a = ct a f s := by
  induction s with
  | nil => rfl
  | cons x s ih =>
    rw [kk_cons, List.count_append, ih, ct_cons]
    by_cases e : x.f = f
    · rw [if_pos e]
      by_cases e2 : x.key = a
      · rw [if_pos ⟨e2, e⟩, e2, List.count_singleton_self]
        omega
      · rw [if_neg (fun h => e2 h.1), List.count_eq_zero_of_not_mem (by simp; omega)]
        omega
    · rw [if_neg e, if_neg (fun h => e h.2)]
      simp
theorem kk_in : a ∈ kk f s ↔ 0 < ct a f s := by rw [← kk_count]; exact List.count_pos_iff.symm
theorem wo_app2 (k : Nat) (a b : List Nat) : wo k (a ++ b) = wo k a ++ wo k b := by simp [wo]
theorem kk_wi : kk f (wi k s) = wo k (kk f s) := by
  induction s with
  | nil => rfl
  | cons x s ih =>
    rw [kk_cons, wo_app2]
    unfold wi at *
    rw [List.filter_cons]
    by_cases e : x.key = k
    · rw [if_neg (by simp [e]), ih]
      by_cases e2 : x.f = f <;> simp [e2, e, wo]
    · rw [if_pos (by simp [e]), kk_cons, ih]
      congr 1
      by_cases e2 : x.f = f <;> simp [e2, e, wo]
theorem keysI_wi : keysI (wi k s) = wo k (keysI s) := by
  unfold keysI wi wo
  rw [List.filter_map]
  rfl
theorem kk_setI (h : g ≠ f) : kk f (setI k g s) = wo k (kk f s) := by
  induction s with
  | nil => rfl
  | cons x s ih =>
    show kk f ((if x.key = k then ⟨x.key, g⟩ else x) :: setI k g s) = _
    rw [kk_cons, kk_cons, wo_app2, ih]
    congr 1
    by_cases e : x.key = k
    · rw [if_pos e, if_neg h]
      by_cases e2 : x.f = f <;> simp [e2, e, wo]
    · rw [if_neg e]
      by_cases e2 : x.f = f <;> simp [e2, e, wo]
theorem kk_last (h : 0 < nk f s) : (kk f s).getLastD 0 = lastF f s := by
  obtain ⟨a, x, b, h1, h2, h3, h4⟩ := last_split h
  have hb : kk f b = [] := List.eq_nil_of_length_eq_zero (by rw [kk_len, h3])
  rw [h4, h1, kk_append, kk_cons, if_pos h2, hb, List.append_nil]
  simp [List.getLastD_eq_getLast?]
theorem kk_sub {t : List It} (h : t.Sublist s) : (kk f t).Sublist (kk f s) := (h.filter _).map _
theorem pr_sublist (l : List It) : (pr l).Sublist l := by
  obtain ⟨t, h, _⟩ := pr_split l
  conv => rhs; rw [h]
  exact List.sublist_append_left _ _
theorem wo_rev (k : Nat) (l : List Nat) : wo k l.reverse = (wo k l).reverse := by
  unfold wo
  rw [List.filter_reverse]
theorem tot_wi : tot k (wi k s) = 0 := by
  unfold tot
  rw [keysI_wi]
  exact List.count_eq_zero_of_not_mem (by simp [wo])
theorem keysI_goneK (ks : List Nat) (l : List It) : keysI (goneK ks l) = keysI l := by
  unfold keysI goneK
  rw [List.map_map]
  refine List.map_congr_left (fun x _ => ?_)
  simp only [Function.comp_apply]
  split <;> rfl
theorem goneK_wi (ks : List Nat) (k : Nat) : ∀ l : List It, wi k (goneK ks l) = goneK ks (wi k l)
  | [] => rfl
  | x :: l => by
    have ih := goneK_wi ks k l
    unfold wi goneK at *
    rw [List.map_cons, List.filter_cons, List.filter_cons, ih]
    have e : (if x.key ∈ ks then (⟨x.key, 0⟩ : It) else x).key = x.key := by split <;> rfl
    rw [e]
    by_cases e2 : x.key = k
    · simp [e2]
    · simp [e2]
theorem dropK_goneK (ks : List Nat) : ∀ (l : List It) (m c : Nat), m ≤ c → dropK 0 m (goneK ks (dropK 0 c l)) = dropK 0 m (goneK ks l)
  | [], _, _, _ => rfl
  | x :: l, m, c, h => by
    have hc : ∀ (y : It) (r : List It), goneK ks (y :: r) = (if y.key ∈ ks then ⟨y.key, 0⟩ else y) :: goneK ks r := fun _ _ => rfl
    have i1 := dropK_goneK ks l (m - 1) (c - 1) (by omega)
    have i2 := dropK_goneK ks l (m - 1) c (by omega)
    have i3 := dropK_goneK ks l m c h
    rw [dropK]
    by_cases e : x.f = 0
    · have eg : (if x.key ∈ ks then (⟨x.key, 0⟩ : It) else x).f = 0 := by split <;> simp [e]
      rw [if_pos e]
      by_cases c0 : c = 0
      · have m0 : m = 0 := by omega
        subst c0; subst m0
        rw [if_pos rfl, List.nil_append, hc, dropK, if_pos eg, if_pos rfl, List.nil_append]
        exact i1
      · rw [if_neg c0, List.singleton_append, hc, hc, dropK, dropK, if_pos eg, if_pos eg, i1]
    · rw [if_neg e, hc, hc, dropK, dropK]
      by_cases eg : (if x.key ∈ ks then (⟨x.key, 0⟩ : It) else x).f = 0
      · rw [if_pos eg, if_pos eg, i2]
      · rw [if_neg eg, if_neg eg, i3]
theorem dropK_cool : ∀ (l : List It) (r m : Nat), coolK r (dropK 0 m l) = dropK 0 m (coolK r l) ∧ coolO r (dropK 0 m l) = coolO r l
  | [], _, _ => ⟨rfl, rfl⟩
  | x :: l, r, m => by
    obtain ⟨i1, j1⟩ := dropK_cool l (r - 1) m
    obtain ⟨i2, j2⟩ := dropK_cool l r (m - 1)
    obtain ⟨i3, j3⟩ := dropK_cool l r m
    by_cases e2 : x.f = 2
    · have e0 : ¬ x.f = 0 := by omega
      have ec : ¬ (if r = 0 then (⟨x.key, 1⟩ : It) else x).f = 0 := by split <;> simp [e0]
      constructor
      · rw [dropK, if_neg e0, coolK, if_pos e2, coolK, if_pos e2, dropK, if_neg ec, i1]
      · rw [dropK, if_neg e0, coolO, if_pos e2, coolO, if_pos e2, j1]
    · by_cases e0 : x.f = 0
      · constructor
        · rw [dropK, if_pos e0, coolK, if_neg e2, dropK, if_pos e0]
          by_cases m0 : m = 0
          · rw [if_pos m0, List.nil_append, List.nil_append, i2]
          · rw [if_neg m0, List.singleton_append, List.singleton_append, coolK, if_neg e2, i2]
        · rw [dropK, if_pos e0, coolO, if_neg e2]
          by_cases m0 : m = 0
          · rw [if_pos m0, List.nil_append, j2]
          · rw [if_neg m0, List.singleton_append, coolO, if_neg e2, j2]
      · constructor
        · rw [dropK, if_neg e0, coolK, if_neg e2, coolK, if_neg e2, dropK, if_neg e0, i3]
        · rw [dropK, if_neg e0, coolO, if_neg e2, coolO, if_neg e2, j3]
theorem dropK_nk2 : ∀ (l : List It) (m : Nat), nk 2 (dropK 0 m l) = nk 2 l
  | [], _ => rfl
  | x :: l, m => by
    rw [dropK]
    by_cases e0 : x.f = 0
    · rw [if_pos e0, nk_append, dropK_nk2 l, nk_cons]
      by_cases m0 : m = 0
      · rw [if_pos m0]
        simp [nk_nil, e0]
      · rw [if_neg m0, nk_cons, nk_nil]
        omega
    · rw [if_neg e0, nk_cons, nk_cons, dropK_nk2 l]
theorem dropK_pr : ∀ (l : List It) (m : Nat), pr (dropK 0 m l) = dropK 0 m (pr l)
  | [], _ => rfl
  | x :: l, m => by
    by_cases hp : 0 < nk 2 (x :: l)
    · rw [pr, if_pos hp]
      by_cases e0 : x.f = 0
      · have hl : 0 < nk 2 l := by rw [nk_cons, if_neg (by omega)] at hp; omega
        rw [dropK, if_pos e0, dropK, if_pos e0]
        by_cases m0 : m = 0
        · rw [if_pos m0, List.nil_append, List.nil_append, dropK_pr l]
        · rw [if_neg m0, List.singleton_append, List.singleton_append, pr, if_pos, dropK_pr l]
          rw [nk_cons, dropK_nk2]
          omega
      · rw [dropK, if_neg e0, dropK, if_neg e0, pr, if_pos, dropK_pr l]
        rw [nk_cons, dropK_nk2, ← nk_cons]
        exact hp
    · rw [pr, if_neg hp, pr_none (by rw [dropK_nk2]; omega)]
      rfl
theorem goneK_nk2 {ks : List Nat} : ∀ {l : List It}, (∀ k ∈ ks, ct k 2 l = 0) → nk 2 (goneK ks l) = nk 2 l
  | [], _ => rfl
  | x :: l, h => by
    have h2 : ∀ k ∈ ks, ct k 2 l = 0 := fun k hk => by have := h k hk; rw [ct_cons] at this; omega
    show nk 2 ((if x.key ∈ ks then ⟨x.key, 0⟩ else x) :: goneK ks l) = _
    rw [nk_cons, nk_cons, goneK_nk2 h2]
    by_cases hy : x.key ∈ ks
    · rw [if_pos hy]
      have := h x.key hy
      rw [ct_cons] at this
      by_cases e : x.f = 2
      · rw [if_pos ⟨rfl, e⟩] at this
        omega
      · simp [e]
    · rw [if_neg hy]
end
structure L12.Ord (s : L12) : Prop where
  pw : s.s.Pairwise (fun x y => x.f = 0 → y.f ≠ 1)
  sub : (kk 1 s.s).Sublist s.q.reverse
namespace L12
variable {s : L12} {k : Nat}
def pev1 (s : L12) : L12 := if 0 < tot (s.q.headD 0) s.s then s.ev1.forget else s.ev1
def pevN : Nat → L12 → L12
  | 0, s => s
  | m + 1, s => pevN m s.pev1
def lay (s : L12) (k : Nat) : Bool → L12
  | true => (s.stack k 2).less k
  | false => (s.stack k 1).last k
def use (s : L12) (k : Nat) (b : Bool) : L12 := (s.lay k b).cool.prune
def gone (s : L12) (k : Nat) : L12 := ⟨s.c, wi k s.s, wo k s.q⟩
theorem ord_new (n : Int) : (new n).Ord := ⟨List.Pairwise.nil, List.Sublist.refl _⟩
theorem Ord.of {t : List It} {q : List Nat} {c : Nat} (h : s.Ord) (ht : t.Sublist s.s) (hq : (kk 1 t).Sublist q.reverse) : (⟨c, t, q⟩ : L12).Ord := ⟨h.pw.sublist ht, hq⟩
theorem Ord.sized (h : s.Ord) (n : Nat) : (s.sized n).Ord := ⟨h.pw, h.sub⟩
theorem wi_sublist (k : Nat) (l : List It) : (wi k l).Sublist l := List.filter_sublist
theorem wo_sublist {a b : List Nat} (h : a.Sublist b) : (wo k a).Sublist (wo k b) := h.filter _
theorem Ord.gone (h : s.Ord) (k : Nat) : (s.gone k).Ord := h.of (wi_sublist _ _) (by rw [kk_wi, ← wo_rev]; exact wo_sublist h.sub)
theorem Ord.prune (h : s.Ord) : s.prune.Ord := h.of (pr_sublist _) ((kk_sub (pr_sublist _)).trans h.sub)
theorem Ord.lay (h : s.Ord) (k : Nat) (b : Bool) : (s.lay k b).Ord := by
  have hg := h.gone k
  cases b with
  | true => exact ⟨List.pairwise_cons.2 ⟨fun y _ q => absurd q (by simp), hg.pw⟩, by
      show (kk 1 (⟨k, 2⟩ :: wi k s.s)).Sublist (wo k s.q).reverse
      rw [kk_cons, if_neg (by simp), List.nil_append]
      exact hg.sub⟩
  | false => exact ⟨List.pairwise_cons.2 ⟨fun y _ q => absurd q (by simp), hg.pw⟩, by
      show (kk 1 (⟨k, 1⟩ :: wi k s.s)).Sublist (wo k s.q ++ [k]).reverse
      rw [kk_cons, if_pos rfl, List.reverse_append]
      exact List.Sublist.cons_cons k hg.sub⟩
theorem cool1_is (h : s.Fine) (hm : 0 < nk 2 s.s) : ∃ a x b, s.s = a ++ x :: b ∧ x.f = 2 ∧ nk 2 b = 0 ∧ lastF 2 s.s = x.key ∧ s.cool1 = ⟨s.c, pr a, s.q ++ [x.key]⟩ := by
  obtain ⟨a, x, b, e, hx, hb, hk⟩ := last_split (f := 2) (l := s.s) hm
  have ht := h.tot_le x.key
  rw [e, tot_append, tot_cons, if_pos rfl] at ht
  refine ⟨a, x, b, e, hx, hb, hk, ?_⟩
  show (⟨s.c, pr (setI (lastF 2 s.s) 1 s.s), s.q ++ [lastF 2 s.s]⟩ : L12) = _
  rw [hk, e, setI_append, setI_no (k := x.key) (l := a) (by omega)]
  congr 1
  refine pr_append_none ?_
  show nk 2 ((if x.key = x.key then ⟨x.key, 1⟩ else x) :: setI x.key 1 b) = 0
  rw [if_pos rfl, nk_cons, setI_no (k := x.key) (l := b) (by omega), hb]
  simp
theorem Ord.cool1 (h : s.Ord) (hf : s.Fine) (hm : 0 < nk 2 s.s) : s.cool1.Ord := by
  obtain ⟨a, x, b, e, -, -, -, hc⟩ := cool1_is hf hm
  have hs : (pr a).Sublist s.s := (pr_sublist a).trans (by rw [e]; exact List.sublist_append_left _ _)
  rw [hc]
  refine h.of hs ?_
  rw [List.reverse_append]
  exact ((kk_sub hs).trans h.sub).trans (List.sublist_append_right _ _)
theorem Ord.coolN : ∀ (m : Nat) (s : L12), s.Ord → s.Fine → m ≤ nk 2 s.s → (coolN m s).Ord
  | 0, _, h, _, _ => h
  | m + 1, s, h, hf, hm => by
    obtain ⟨h1, h2, -⟩ := hf.cool1 (by omega)
    exact Ord.coolN m s.cool1 (h.cool1 hf (by omega)) h1 (by omega)
theorem Ord.cool (h : s.Ord) (hf : s.Fine) : s.cool.Ord := Ord.coolN _ s h hf (Nat.sub_le _ _)
theorem coolN_top : ∀ (m : Nat) (s : L12), pr s.s = s.s → pr (coolN m s).s = (coolN m s).s
  | 0, _, h => h
  | m + 1, s, _ => coolN_top m s.cool1 (pr_pr _)
theorem sub_last {k : Nat} {m r : List Nat} (hk : k ∉ r) (h : (k :: m).Sublist (r ++ [k])) : m = [] := by
  obtain ⟨a, b, e, ha, hb⟩ := List.sublist_append_iff.1 h
  cases a with
  | nil =>
    rw [List.nil_append] at e
    subst e
    have := hb.length_le
    simp at this
    exact this
  | cons y a =>
    simp only [List.cons_append, List.cons.injEq] at e
    obtain ⟨rfl, _⟩ := e
    exact absurd (ha.subset (List.mem_cons_self ..)) hk
theorem ev1_is (hf : s.Fine) (ho : s.Ord) {k : Nat} {q : List Nat} (hq : s.q = k :: q) :
    s.ev1.Ord ∧ (0 < tot k s.s → kk 0 s.ev1.s = k :: kk 0 s.s) ∧ (tot k s.s = 0 → s.ev1.s = s.s) ∧ kk 2 s.ev1.s = kk 2 s.s ∧ s.ev1 = ⟨s.c, setI k 0 s.s, q⟩ ∧ k ∉ kk 2 s.s ∧ k ∉ kk 0 s.s := by
  have he : s.ev1 = ⟨s.c, setI k 0 s.s, q⟩ := by unfold L12.ev1; rw [hq]; rfl
  have hqc : 0 < s.q.count k := by rw [hq]; simp
  have h0 := hf.at_ k
  have ht := tot_ct (a := k) hf.kinds
  have htl := hf.tot_le k
  unfold okA at h0
  have hnd := hf.qNd
  rw [hq] at hnd
  have hkq := (List.nodup_cons.1 hnd).1
  have n2 : k ∉ kk 2 s.s := fun h => by have := kk_in.1 h; omega
  have n0 : k ∉ kk 0 s.s := fun h => by have := kk_in.1 h; omega
  have hsub := ho.sub
  rw [hq, List.reverse_cons] at hsub
  have hsq : (wo k (kk 1 s.s)).Sublist q.reverse := by
    have h1 := wo_sublist (k := k) hsub
    rw [wo_app2] at h1
    have e1 : wo k [k] = [] := by simp [wo]
    have e2 : wo k q.reverse = q.reverse := wo_none8 (by simpa using hkq)
    rw [e1, e2, List.append_nil] at h1
    exact h1
  have e2 : kk 2 (setI k 0 s.s) = kk 2 s.s := by rw [kk_setI (by decide), wo_none8 n2]
  rw [he]
  by_cases t0 : tot k s.s = 0
  · have es := setI_no (f := 0) t0
    refine ⟨⟨?_, ?_⟩, fun h => absurd h (by omega), fun _ => es, e2, rfl, n2, n0⟩
    · show (setI k 0 s.s).Pairwise _
      rw [es]
      exact ho.pw
    · show (kk 1 (setI k 0 s.s)).Sublist q.reverse
      rw [kk_setI (by decide)]
      exact hsq
  · have c1 : 0 < ct k 1 s.s := by omega
    obtain ⟨a, b, e⟩ := List.append_of_mem (ct_in.2 c1)
    have ht2 := htl
    rw [e, tot_append, tot_cons, if_pos rfl] at ht2
    have es : setI k 0 s.s = a ++ ⟨k, 0⟩ :: b := by
      rw [e, setI_append, setI_no (k := k) (l := a) (by omega)]
      show a ++ ((if k = k then ⟨k, 0⟩ else ⟨k, 1⟩) :: setI k 0 b) = _
      rw [if_pos rfl, setI_no (k := k) (l := b) (by omega)]
    have hb1 : kk 1 b = [] := by
      refine sub_last (k := k) (r := q.reverse) (by simpa using hkq) (List.Sublist.trans ?_ hsub)
      rw [e, kk_append, kk_cons, if_pos rfl]
      exact List.sublist_append_right _ _
    have hpw := ho.pw
    rw [e, List.pairwise_append, List.pairwise_cons] at hpw
    obtain ⟨p1, ⟨p2, p3⟩, p4⟩ := hpw
    have ha0 : kk 0 a = [] := by
      refine List.eq_nil_iff_forall_not_mem.2 (fun y hy => ?_)
      have hm := ct_in.2 (kk_in.1 hy)
      exact p4 _ hm _ (List.mem_cons_self ..) rfl rfl
    refine ⟨⟨?_, ?_⟩, fun _ => ?_, fun h => absurd h t0, e2, rfl, n2, n0⟩
    · show (setI k 0 s.s).Pairwise _
      rw [es, List.pairwise_append, List.pairwise_cons]
      refine ⟨p1, ⟨fun y hy _ e1 => ?_, p3⟩, fun x hx y hy => ?_⟩
      · have : y.key ∈ kk 1 b := kk_in.2 (ct_in.1 (by rw [← e1]; exact hy))
        rw [hb1] at this
        simp at this
      · rcases List.mem_cons.1 hy with rfl | hy
        · intro _ q
          cases q
        · exact p4 x hx y (List.mem_cons_of_mem _ hy)
    · show (kk 1 (setI k 0 s.s)).Sublist q.reverse
      rw [kk_setI (by decide)]
      exact hsq
    · show kk 0 (setI k 0 s.s) = _
      rw [es, e, kk_append, kk_append, ha0, kk_cons, if_pos rfl, kk_cons, if_neg (by simp)]
      rfl
theorem Ord.fg1 (h : s.Ord) : s.fg1.Ord := h.of (wi_sublist _ _) ((kk_sub (wi_sublist _ _)).trans h.sub)
theorem Ord.fgN : ∀ (m : Nat) (s : L12), s.Ord → (fgN m s).Ord
  | 0, _, h => h
  | m + 1, s, h => Ord.fgN m s.fg1 h.fg1
theorem Ord.forget (h : s.Ord) : s.forget.Ord := Ord.fgN _ s h
theorem Fine.forget (h : s.Fine) : s.forget.Fine ∧ nk 2 s.forget.s = nk 2 s.s ∧ s.forget.c = s.c ∧ s.forget.q = s.q ∧ nk 0 s.forget.s ≤ s.c := by
  obtain ⟨g1, g2, g3, g4, g5, g6, g7⟩ := Fine.fgN (nk 0 s.s - s.c) s h (Nat.sub_le _ _)
  have ef : s.forget = L12.fgN (nk 0 s.s - s.c) s := rfl
  rw [ef]
  exact ⟨g1, g2, g4, g5, by omega⟩
theorem pev1_is (hf : s.Fine) (ho : s.Ord) {k : Nat} {q : List Nat} (hq : s.q = k :: q) :
    s.pev1.Fine ∧ s.pev1.Ord ∧ nk 2 s.pev1.s = nk 2 s.s ∧ s.pev1.c = s.c ∧ s.pev1.q = q ∧ (nk 0 s.s ≤ s.c → nk 0 s.pev1.s ≤ s.c) ∧ (0 < tot k s.s → s.pev1 = s.ev1.forget) ∧ (tot k s.s = 0 → s.pev1 = ⟨s.c, s.s, q⟩) := by
  obtain ⟨o1, o2, o3, o4, o5, -⟩ := ev1_is hf ho hq
  obtain ⟨f1, f2, f3, f4, f5⟩ := hf.ev1 (by rw [hq]; simp)
  have hh : s.q.headD 0 = k := by rw [hq]; rfl
  rw [hq] at f3
  unfold L12.pev1
  rw [hh]
  by_cases t : 0 < tot k s.s
  · rw [if_pos t]
    obtain ⟨g1, g2, g3, g4, g5⟩ := f1.forget
    exact ⟨g1, o1.forget, g2.trans f2, g3.trans f4, by rw [g4, f3]; rfl, fun _ => by rw [f4] at g5; exact g5, fun _ => rfl, fun h => by omega⟩
  · rw [if_neg t]
    have es := o3 (by omega)
    exact ⟨f1, o1, f2, f4, by rw [f3]; rfl, fun h => by rw [es]; exact h, fun h => absurd h t, fun _ => by
      have : s.ev1 = ⟨s.ev1.c, s.ev1.s, s.ev1.q⟩ := rfl
      rw [this, f4, es, f3]
      rfl⟩
theorem pevN_snoc : ∀ (m : Nat) (s : L12), pevN (m + 1) s = (pevN m s).pev1
  | 0, _ => rfl
  | m + 1, s => pevN_snoc m s.pev1
theorem pevN_is : ∀ (m : Nat) (s : L12), s.Fine → s.Ord → m ≤ s.q.length →
    (pevN m s).Fine ∧ (pevN m s).Ord ∧ nk 2 (pevN m s).s = nk 2 s.s ∧ (pevN m s).c = s.c ∧ (pevN m s).q = s.q.drop m ∧ (nk 0 s.s ≤ s.c → nk 0 (pevN m s).s ≤ s.c)
  | 0, _, h, ho, _ => ⟨h, ho, rfl, rfl, rfl, fun h => h⟩
  | m + 1, s, h, ho, hm => by
    obtain ⟨k, q, hq⟩ : ∃ k q, s.q = k :: q := List.exists_cons_of_length_pos (by omega)
    obtain ⟨g1, g2, g3, g4, g5, g6, -⟩ := pev1_is h ho hq
    rw [hq, List.length_cons] at hm
    obtain ⟨i1, i2, i3, i4, i5, i6⟩ := pevN_is m s.pev1 g1 g2 (by rw [g5]; omega)
    show (pevN m s.pev1).Fine ∧ (pevN m s.pev1).Ord ∧ nk 2 (pevN m s.pev1).s = _ ∧ (pevN m s.pev1).c = _ ∧ (pevN m s.pev1).q = _ ∧ (_ → nk 0 (pevN m s.pev1).s ≤ _)
    exact ⟨i1, i2, i3.trans g3, i4.trans g4, by rw [i5, g5, hq]; rfl, fun hh => by rw [g4] at i6; exact i6 (g6 hh)⟩
theorem pevN_drop : ∀ (m : Nat) (s : L12), s.Fine → s.Ord → m ≤ s.q.length → dropK 0 s.c (pevN m s).s = dropK 0 s.c (goneK (s.q.take m) s.s)
  | 0, s, _, _, _ => by
    have : goneK [] s.s = s.s := by simp [goneK]
    rw [List.take_zero, this]
    rfl
  | m + 1, s, h, ho, hm => by
    obtain ⟨k, q, hq⟩ : ∃ k q, s.q = k :: q := List.exists_cons_of_length_pos (by omega)
    obtain ⟨g1, g2, g3, g4, g5, g6, g7, g8⟩ := pev1_is h ho hq
    obtain ⟨o1, o2, o3, o4, o5, -⟩ := ev1_is h ho hq
    obtain ⟨f1, f2, f3, f4, f5⟩ := h.ev1 (by rw [hq]; simp)
    rw [hq, List.length_cons] at hm
    have ih := pevN_drop m s.pev1 g1 g2 (by rw [g5]; omega)
    rw [g4, g5] at ih
    show dropK 0 s.c (pevN m s.pev1).s = _
    rw [ih, hq, List.take_succ_cons]
    have e0 : dropK 0 s.c (goneK (q.take m) s.pev1.s) = dropK 0 s.c (goneK (q.take m) (setI k 0 s.s)) := by
      by_cases t : 0 < tot k s.s
      · rw [g7 t, forget_plain f1]
        show dropK 0 s.c (goneK (q.take m) (dropK 0 s.ev1.c s.ev1.s)) = _
        rw [f4, dropK_goneK _ _ _ _ (Nat.le_refl _), o5]
      · rw [g8 (by omega), setI_no (by omega)]
    rw [e0]
    congr 1
    unfold goneK setI
    rw [List.map_map]
    refine List.map_congr_left (fun x _ => ?_)
    simp only [Function.comp_apply, List.mem_cons]
    by_cases e : x.key = k
    · simp [e]
    · simp [e]
theorem Fine.lay (h : s.Fine) (hk : k < 18446744073709551616) (b : Bool) : (s.lay k b).Fine := by
  cases b with
  | true => exact h.warm hk
  | false => exact h.came1 hk
theorem lay_nk2 (s : L12) (k : Nat) (b : Bool) : nk 2 (s.lay k b).s + ct k 2 s.s = nk 2 s.s + if b then 1 else 0 := by
  cases b with
  | true => exact nk_stack k 2 2 s.s
  | false => exact nk_stack k 1 2 s.s
theorem cool_no (h : nk 2 s.s ≤ roomH s.c) : s.cool = s := by
  show coolN (nk 2 s.s - roomH s.c) s = s
  rw [show nk 2 s.s - roomH s.c = 0 by omega]
  rfl
theorem use_plain {s : L12} (hf : s.Fine) (hh : nk 2 s.s ≤ roomH s.c) (hk : k < 18446744073709551616) (b : Bool) : s.use k b = s.useP k b := by
  cases b with
  | true =>
    show ((s.stack k 2).less k).cool.prune = ((s.stack k 2).less k).coolP.prune
    rw [coolP_prune (hf.warm hk)]
  | false =>
    have e := lay_nk2 s k false
    simp only [Bool.false_eq_true, if_false] at e
    have : (s.lay k false).cool = s.lay k false := cool_no (by show nk 2 (s.lay k false).s ≤ roomH s.c; omega)
    show (s.lay k false).cool.prune = _
    rw [this]
    rfl
theorem touch_is {s : L12} (h : s.Ok) (hk : k < 18446744073709551616) : s.touch k = if k ∈ s.keys then s.use k (decide (0 < tot k s.s)) else s := by
  rw [touch_plain h k, use_plain h.fine h.hot hk]
theorem adm_is {s : L12} (h : s.Ok) (ho : s.Ord) (hk : k < 18446744073709551616) (hn : k ∉ s.keys) :
    s.adm k = (pevN (s.many (s.c - 1)) (s.gone k)).use k (decide (0 < tot k s.s) || decide (nk 2 (pevN (s.many (s.c - 1)) (s.gone k)).s < roomH s.c)) ∧ s.admitOut k = s.q.take (s.many (s.c - 1)) := by
  obtain ⟨a1, a2, a3, a4⟩ := adm_plain h hk hn
  have hf := h.fine
  have hh := h.hot
  have hg := h.gone
  have hnk := fun q => hn (keys_in.2 q)
  have hq : k ∉ s.q := fun q => by have := q_in.1 q; exact hnk (by omega)
  have hc2 : ct k 2 s.s = 0 := Nat.eq_zero_of_not_pos (fun q => hnk (by omega))
  have eg : s.gone k = ⟨s.c, wi k s.s, s.q⟩ := by unfold L12.gone; rw [wo_none8 hq]
  have hfg : (s.gone k).Fine := hf.less0
  have hog := ho.gone k
  obtain ⟨m, hm⟩ : ∃ m, s.many (s.c - 1) = m := ⟨_, rfl⟩
  rw [hm] at a1 a2 a3 a4 ⊢
  have n2 : nk 2 (wi k s.s) + ct k 2 s.s = nk 2 s.s := nk_wi
  have n0 : nk 0 (wi k s.s) + ct k 0 s.s = nk 0 s.s := nk_wi
  obtain ⟨p1, p2, p3, p4, p5, p6⟩ := pevN_is m (s.gone k) hfg hog (by rw [eg]; exact a4)
  have pd := pevN_drop m (s.gone k) hfg hog (by rw [eg]; exact a4)
  have p6 := p6 (by rw [eg]; show nk 0 (wi k s.s) ≤ s.c; omega)
  obtain ⟨t, ht⟩ : ∃ t, pevN m (s.gone k) = t := ⟨_, rfl⟩
  rw [ht] at p1 p2 p3 p4 p5 p6 pd ⊢
  rw [eg] at p3 p4 p5 p6 pd
  have hkg : ∀ j ∈ s.q.take m, ct j 2 s.s = 0 := fun j hj => by
    have h1 := hf.at_ j
    have h2 := q_in.1 (List.mem_of_mem_take hj)
    unfold okA at h1
    omega
  have ts : t.s = dropK 0 s.c (goneK (s.q.take m) (wi k s.s)) := by
    rw [← pd]
    exact (dropK_all 0 t.s _ p6).symm
  have tc : t.c = s.c := p4
  have tq : t.q = s.q.drop m := p5
  have t2 : nk 2 t.s = nk 2 (s.evP m).s := by
    show _ = nk 2 (goneK (s.q.take m) s.s)
    rw [goneK_nk2 hkg, p3]
    show nk 2 (wi k s.s) = _
    omega
  have tt : tot k (s.evP m).s = tot k s.s := by
    show tot k (goneK (s.q.take m) s.s) = _
    unfold tot
    rw [keysI_goneK]
  rw [tt] at a1
  rw [t2]
  have hb : nk 2 t.s ≤ roomH t.c := by rw [tc, p3]; show nk 2 (wi k s.s) ≤ _; omega
  refine ⟨?_, a2⟩
  rw [use_plain p1 hb hk, a1]
  obtain ⟨b, hbb⟩ : ∃ b, (decide (0 < tot k s.s) || decide (nk 2 (s.evP m).s < roomH s.c)) = b := ⟨_, rfl⟩
  rw [hbb]
  have hX : wi k t.s = dropK 0 s.c (goneK (s.q.take m) (wi k s.s)) := by
    rw [ts, wi_none]
    have h1 : ∀ (l : List It) (c : Nat), tot k (dropK 0 c l) ≤ tot k l := by
      intro l
      induction l with
      | nil => intro c; exact Nat.le_refl _
      | cons x l ih =>
        intro c
        rw [dropK]
        have i1 := ih (c - 1)
        have i2 := ih c
        by_cases e : x.f = 0
        · rw [if_pos e]
          by_cases c0 : c = 0
          · rw [if_pos c0, List.nil_append, tot_cons]; omega
          · rw [if_neg c0, List.singleton_append, tot_cons, tot_cons]; omega
        · rw [if_neg e, tot_cons, tot_cons]; omega
    have h2 := h1 (goneK (s.q.take m) (wi k s.s)) s.c
    have h3 : tot k (goneK (s.q.take m) (wi k s.s)) = 0 := by
      have : tot k (goneK (s.q.take m) (wi k s.s)) = tot k (wi k s.s) := by unfold tot; rw [keysI_goneK]
      rw [this, tot_wi]
    omega
  have hY : wi k (s.evP m).s = goneK (s.q.take m) (wi k s.s) := goneK_wi _ _ _
  cases b with
  | true =>
    show (⟨s.c, dropK 0 s.c (pr (coolK (roomH s.c) (⟨k, 2⟩ :: wi k (s.evP m).s))), wo k (s.q.drop m) ++ (coolO (roomH s.c) (⟨k, 2⟩ :: wi k (s.evP m).s)).reverse⟩ : L12) =
      ⟨t.c, pr (coolK (roomH t.c) (⟨k, 2⟩ :: wi k t.s)), wo k t.q ++ (coolO (roomH t.c) (⟨k, 2⟩ :: wi k t.s)).reverse⟩
    have e1 : (⟨k, 2⟩ :: wi k t.s : List It) = dropK 0 s.c (⟨k, 2⟩ :: wi k (s.evP m).s) := by
      rw [hX, dropK, if_neg (by simp), hY]
    obtain ⟨d1, d2⟩ := dropK_cool (⟨k, 2⟩ :: wi k (s.evP m).s) (roomH s.c) s.c
    rw [tc, tq, e1, d1, d2, dropK_pr]
  | false =>
    show (⟨s.c, dropK 0 s.c (pr (⟨k, 1⟩ :: wi k (s.evP m).s)), wo k (s.q.drop m) ++ [k]⟩ : L12) = ⟨t.c, pr (⟨k, 1⟩ :: wi k t.s), wo k t.q ++ [k]⟩
    have e1 : (⟨k, 1⟩ :: wi k t.s : List It) = dropK 0 s.c (⟨k, 1⟩ :: wi k (s.evP m).s) := by
      rw [hX, dropK, if_neg (by simp), hY]
    rw [tc, tq, e1, dropK_pr]
theorem resize_is {s : L12} (h : s.Ok) (ho : s.Ord) (n : Int) :
    s.resize n = (pevN ((s.sized (capI n)).cool.many (capI n)) (s.sized (capI n)).cool).forget ∧ s.resizeOut n = (s.sized (capI n)).cool.q.take ((s.sized (capI n)).cool.many (capI n)) ∧ (s.sized (capI n)).cool.many (capI n) ≤ (s.sized (capI n)).cool.q.length := by
  have hf : (s.sized (capI n)).Fine := ⟨h.fine.kinds, h.fine.at_⟩
  have hos := ho.sized (capI n)
  have hp := (capI_pos n).1
  have hr := roomH_lt hp
  obtain ⟨c1, c3, c4, c5, c6, c7⟩ := hf.cool
  have oc := hos.cool hf
  have ht : pr (s.sized (capI n)).cool.s = (s.sized (capI n)).cool.s := coolN_top _ _ h.top
  have x3 : (s.sized (capI n)).c = capI n := rfl
  rw [x3] at c3 c5
  unfold L12.resize L12.resizeOut
  obtain ⟨σ, hσ⟩ : ∃ σ, (s.sized (capI n)).cool = σ := ⟨_, rfl⟩
  rw [hσ] at c1 c3 c5 oc ht ⊢
  have hm : σ.many (capI n) ≤ σ.q.length := by unfold L12.many; omega
  refine ⟨?_, rfl, hm⟩
  obtain ⟨g1, -⟩ := c1.shrink (n := capI n) (by omega)
  have e0 : σ.shrink (capI n) = σ.evP (σ.many (capI n)) := evN_plain _ _ hm
  rw [e0] at g1 ⊢
  obtain ⟨m, hmm⟩ : ∃ m, σ.many (capI n) = m := ⟨_, rfl⟩
  rw [hmm] at g1 hm ⊢
  have hno : ∀ k ∈ σ.q.take m, ct k 2 σ.s = 0 := fun k hk => by
    have h1 := c1.at_ k
    have h2 := q_in.1 (List.mem_of_mem_take hk)
    unfold okA at h1
    omega
  have hpp : (σ.evP m).prune = σ.evP m := by
    show (⟨σ.c, pr (goneK (σ.q.take m) σ.s), σ.q.drop m⟩ : L12) = ⟨σ.c, goneK (σ.q.take m) σ.s, σ.q.drop m⟩
    rw [goneK_pr hno, ht]
  rw [hpp]
  obtain ⟨p1, p2, p3, p4, p5, p6⟩ := pevN_is m σ c1 oc hm
  have pd := pevN_drop m σ c1 oc hm
  rw [forget_plain g1, forget_plain p1]
  show (⟨σ.c, dropK 0 σ.c (goneK (σ.q.take m) σ.s), σ.q.drop m⟩ : L12) = ⟨(pevN m σ).c, dropK 0 (pevN m σ).c (pevN m σ).s, (pevN m σ).q⟩
  rw [p4, p5, pd]
theorem Ord.pevN (h : s.Ord) (hf : s.Fine) {m : Nat} (hm : m ≤ s.q.length) : (pevN m s).Ord := (pevN_is m s hf h hm).2.1
theorem Ord.use (h : s.Ord) (hf : s.Fine) (hk : k < 18446744073709551616) (b : Bool) : (s.use k b).Ord := ((h.lay k b).cool (hf.lay hk b)).prune
theorem Ord.touch {s : L12} (ho : s.Ord) (h : s.Ok) (hk : k < 18446744073709551616) : (s.touch k).Ord := by
  rw [touch_is h hk]
  split
  · exact ho.use h.fine hk _
  · exact ho
theorem Ord.adm {s : L12} (ho : s.Ord) (h : s.Ok) (hk : k < 18446744073709551616) : (s.adm k).Ord := by
  by_cases hn : k ∈ s.keys
  · unfold L12.adm
    rw [if_pos hn]
    exact ho
  · obtain ⟨-, -, -, a4⟩ := adm_plain h hk hn
    have hq : k ∉ s.q := fun q => hn (keys_in.2 (by have := q_in.1 q; omega))
    have hl : s.many (s.c - 1) ≤ (s.gone k).q.length := by
      show _ ≤ (wo k s.q).length
      rw [wo_none8 hq]
      exact a4
    have hf : (s.gone k).Fine := h.fine.less0
    rw [(adm_is h ho hk hn).1]
    exact ((ho.gone k).pevN hf hl).use (pevN_is _ _ hf (ho.gone k) hl).1 hk _
theorem Ord.drop {s : L12} (ho : s.Ord) (k : Nat) : (s.drop k).Ord := (ho.gone k).prune
theorem Ord.resize {s : L12} (ho : s.Ord) (h : s.Ok) (n : Int) : (s.resize n).Ord := by
  obtain ⟨e, -, hl⟩ := resize_is h ho n
  have hf : (s.sized (capI n)).Fine := ⟨h.fine.kinds, h.fine.at_⟩
  rw [e]
  exact (((ho.sized _).cool hf).pevN hf.cool.1 hl).forget
theorem coolN_cl : ∀ (m : Nat) (s : L12), (coolN m s).c = s.c
  | 0, _ => rfl
  | m + 1, s => coolN_cl m s.cool1
theorem evN_cl : ∀ (m : Nat) (s : L12), (evN m s).c = s.c
  | 0, _ => rfl
  | m + 1, s => evN_cl m s.ev1
theorem fgN_cl : ∀ (m : Nat) (s : L12), (fgN m s).c = s.c
  | 0, _ => rfl
  | m + 1, s => fgN_cl m s.fg1
theorem touch_c (s : L12) (k : Nat) : (s.touch k).c = s.c := by
  unfold L12.touch
  split
  · rfl
  · split
    · rfl
    · split
      · rfl
      · exact coolN_cl _ _
theorem adm_c (s : L12) (k : Nat) : (s.adm k).c = s.c := by
  unfold L12.adm
  split
  · rfl
  · refine (fgN_cl _ _).trans ?_
    show ((s.shrink (s.c - 1)).came k).c = _
    unfold L12.came
    split
    · exact (coolN_cl _ _).trans (evN_cl _ _)
    · exact evN_cl _ _
theorem drop_c (s : L12) (k : Nat) : (s.drop k).c = s.c := rfl
theorem resize_c (s : L12) (n : Int) : (s.resize n).c = capI n := (fgN_cl _ _).trans ((evN_cl _ _).trans (coolN_cl _ _))
theorem new_c0 (n : Int) : (L12.new n).c = capI n := rfl
end L12
end Go.Proofs.YtkhikpnlpcankaaGreat
