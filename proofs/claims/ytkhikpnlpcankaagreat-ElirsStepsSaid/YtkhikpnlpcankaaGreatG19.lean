/- Words and walks: LiP. -/
import Derived.Test.YtkhikpnlpcankaaGreatG15
import Derived.Test.YtkhikpnlpcankaaGreatG17
namespace Go.Proofs.YtkhikpnlpcankaaGreat
open Go Go.RowKit Go.Deep
def roomH (c : Nat) : Nat := c - max (c / 100) 1
theorem roomH_lt {c : Nat} (h : 1 ≤ c) : roomH c < c := by unfold roomH; omega
theorem roomH_is (c : Nat) : (if c < 200 then c - 1 else c - c / 100) = roomH c := by
  unfold roomH
  split <;> omega
def nk (f : Nat) (s : List It) : Nat := s.countP (fun x => x.f == f)
def ct (a f : Nat) (s : List It) : Nat := s.count ⟨a, f⟩
def tot (a : Nat) (s : List It) : Nat := (keysI s).count a
def wi (k : Nat) (s : List It) : List It := s.filter (fun t => t.key != k)
def setI (k f : Nat) (s : List It) : List It := s.map (fun x => if x.key = k then ⟨x.key, f⟩ else x)
def pr : List It → List It
  | [] => []
  | x :: l => if 0 < nk 2 (x :: l) then x :: pr l else []
def lastF (f : Nat) : List It → Nat
  | [] => 0
  | x :: l => if 0 < nk f l then lastF f l else if x.f = f then x.key else 0
def hotK (s : List It) : List Nat := keysI (s.filter (fun x => x.f == 2))
section
variable {s : List It} {a f g k : Nat}
theorem It.eq_iff {x : It} : x = ⟨a, f⟩ ↔ x.key = a ∧ x.f = f := by cases x; simp
theorem nk_nil : nk f [] = 0 := rfl
theorem ct_nil : ct a f [] = 0 := rfl
theorem tot_nil : tot a [] = 0 := rfl
theorem nk_cons (x : It) (s : List It) : nk f (x :: s) = nk f s + (if x.f = f then 1 else 0) := by
  unfold nk
  rw [List.countP_cons]
  simp only [beq_iff_eq]
theorem ct_cons (x : It) (s : List It) : ct a f (x :: s) = ct a f s + (if x.key = a ∧ x.f = f then 1 else 0) := by
  unfold ct
  rw [List.count_cons]
  simp only [beq_iff_eq, It.eq_iff]
theorem tot_cons (x : It) (s : List It) : tot a (x :: s) = tot a s + (if x.key = a then 1 else 0) := by
  unfold tot keysI
  rw [List.map_cons, List.count_cons]
  simp only [beq_iff_eq]
theorem tot_ct (h : ∀ x ∈ s, x.f ≤ 2) : tot a s = ct a 0 s + ct a 1 s + ct a 2 s := by
  induction s with
  | nil => rfl
  | cons x s ih =>
    have := ih (fun y hy => h y (by simp [hy]))
    have hx := h x (by simp)
    simp only [tot_cons, ct_cons]
    by_cases e : x.key = a
    · rcases (by omega : x.f = 0 ∨ x.f = 1 ∨ x.f = 2) with e2 | e2 | e2 <;> simp [e, e2] <;> omega
    · simp [e]; omega
theorem ct_in : (⟨a, f⟩ : It) ∈ s ↔ 0 < ct a f s := List.count_pos_iff.symm
theorem tot_in : a ∈ keysI s ↔ 0 < tot a s := List.count_pos_iff.symm
theorem ct_nk (a f : Nat) (s : List It) : ct a f s ≤ nk f s := by
  induction s with
  | nil => exact Nat.le_refl _
  | cons x s ih => simp only [ct_cons, nk_cons]; split <;> split <;> omega
theorem ct_wi : ct a f (wi k s) = if a = k then 0 else ct a f s := by
  induction s with
  | nil => simp [wi, ct_nil]
  | cons x s ih =>
    unfold wi at *
    rw [List.filter_cons]
    by_cases e : x.key = k
    · rw [if_neg (by simp [e]), ih, ct_cons]
      by_cases e2 : a = k
      · simp [e2]
      · have : ¬ (x.key = a ∧ x.f = f) := by omega
        simp [e2, this]
    · rw [if_pos (by simp [e]), ct_cons, ih, ct_cons]
      by_cases e2 : a = k
      · have : ¬ (x.key = a ∧ x.f = f) := by omega
        rw [if_neg this]
        simp [e2]
      · simp [e2]
theorem nk_wi : nk f (wi k s) + ct k f s = nk f s := by
  induction s with
  | nil => rfl
  | cons x s ih =>
    unfold wi at *
    rw [List.filter_cons]
    by_cases e : x.key = k
    · rw [if_neg (by simp [e]), ct_cons, nk_cons]
      simp only [e, true_and]
      omega
    · rw [if_pos (by simp [e]), nk_cons, ct_cons, nk_cons]
      simp only [e, false_and, if_false]
      omega
theorem wi_sub : ∀ x ∈ wi k s, x ∈ s := fun _ hx => (List.mem_filter.1 hx).1
theorem wi_none (h : tot k s = 0) : wi k s = s := by
  refine List.filter_eq_self.2 (fun x hx => ?_)
  simp only [bne_iff_ne, ne_eq]
  rintro rfl
  have : x.key ∈ keysI s := List.mem_map_of_mem hx
  have := tot_in.1 this
  omega
theorem ct_setI : ct a f (setI k g s) = if a = k then (if g = f then tot k s else 0) else ct a f s := by
  induction s with
  | nil => simp [setI, ct_nil, tot_nil]
  | cons x s ih =>
    unfold setI at *
    rw [List.map_cons, ct_cons, ih, tot_cons, ct_cons]
    by_cases e : x.key = k
    · by_cases e2 : a = k
      · by_cases e3 : g = f <;> simp [e, e2, e3]
      · have e4 : ¬ k = a := fun h => e2 h.symm
        simp [e, e2, e4]
    · by_cases e2 : a = k
      · by_cases e3 : g = f <;> simp [e, e2, e3]
      · simp [e, e2]
theorem nk_setI : nk f (setI k g s) + ct k f s = nk f s + (if g = f then tot k s else 0) := by
  induction s with
  | nil => simp [setI, nk_nil, ct_nil, tot_nil]
  | cons x s ih =>
    unfold setI at *
    rw [List.map_cons, nk_cons, ct_cons, nk_cons, tot_cons]
    by_cases e : x.key = k
    · by_cases e3 : g = f
      · by_cases e4 : x.f = f <;> simp only [e, e3, e4, if_true, if_false, and_self, and_false] at * <;> omega
      · by_cases e4 : x.f = f <;> simp only [e, e3, e4, if_true, if_false, and_self, and_false] at * <;> omega
    · by_cases e3 : g = f
      · by_cases e4 : x.f = f <;> simp only [e, e3, e4, if_true, if_false, false_and] at * <;> omega
      · by_cases e4 : x.f = f <;> simp only [e, e3, e4, if_true, if_false, false_and] at * <;> omega
theorem setI_len : (setI k g s).length = s.length := by simp [setI]
theorem setI_keys : keysI (setI k g s) = keysI s := by
  unfold keysI setI
  rw [List.map_map]
  refine List.map_congr_left (fun x _ => ?_)
  simp only [Function.comp_apply]
  split <;> rfl
theorem setI_f (hg : g ≤ 2) (h : ∀ x ∈ s, x.f ≤ 2) : ∀ x ∈ setI k g s, x.f ≤ 2 := by
  intro x hx
  obtain ⟨y, hy, rfl⟩ := List.mem_map.1 hx
  split
  · exact hg
  · exact h y hy
theorem pr_none (h : nk 2 s = 0) : pr s = [] := by
  cases s with
  | nil => rfl
  | cons x s => rw [pr, if_neg (by omega)]
theorem pr_nk2 : nk 2 (pr s) = nk 2 s := by
  induction s with
  | nil => rfl
  | cons x s ih =>
    rw [pr]
    split
    · rw [nk_cons, nk_cons, ih]
    · rw [nk_nil]; omega
theorem pr_nk : nk f (pr s) ≤ nk f s := by
  induction s with
  | nil => exact Nat.le_refl _
  | cons x s ih =>
    rw [pr]
    split
    · rw [nk_cons, nk_cons]; omega
    · exact Nat.zero_le _
theorem pr_ct : ct a f (pr s) ≤ ct a f s := by
  induction s with
  | nil => exact Nat.le_refl _
  | cons x s ih =>
    rw [pr]
    split
    · rw [ct_cons, ct_cons]; omega
    · exact Nat.zero_le _
theorem pr_ct2 : ct a 2 (pr s) = ct a 2 s := by
  induction s with
  | nil => rfl
  | cons x s ih =>
    rw [pr]
    split
    · rw [ct_cons, ct_cons, ih]
    · have := ct_nk a 2 (x :: s)
      rw [ct_nil]; omega
theorem pr_sub : ∀ x ∈ pr s, x ∈ s := by
  intro x hx
  have h1 : 0 < ct x.key x.f (pr s) := ct_in.1 hx
  exact ct_in.2 (Nat.lt_of_lt_of_le h1 pr_ct)
theorem nk_snoc (x : It) (s : List It) : nk f (s ++ [x]) = nk f s + (if x.f = f then 1 else 0) := by
  unfold nk
  rw [List.countP_append, List.countP_cons]
  simp
theorem pr_snoc (x : It) (s : List It) : pr (s ++ [x]) = if x.f = 2 then s ++ [x] else pr s := by
  induction s with
  | nil =>
    have h1 : nk 2 [x] = if x.f = 2 then 1 else 0 := by rw [nk_cons, nk_nil, Nat.zero_add]
    show (if 0 < nk 2 [x] then x :: pr [] else []) = _
    rw [h1]
    by_cases e : x.f = 2 <;> simp [e, pr]
  | cons y s ih =>
    rw [List.cons_append, pr, ih]
    by_cases e : x.f = 2
    · rw [if_pos (by rw [← List.cons_append, nk_snoc]; simp [e]), if_pos e, if_pos e]
    · rw [if_neg e, if_neg e, ← List.cons_append, nk_snoc, if_neg e, Nat.add_zero]
      rfl
theorem lastF_in (h : 0 < nk f s) : 0 < ct (lastF f s) f s := by
  induction s with
  | nil => exact absurd h (Nat.lt_irrefl _)
  | cons x s ih =>
    rw [lastF, ct_cons]
    split
    · rename_i h2
      have := ih h2
      omega
    · rename_i h2
      rw [nk_cons] at h
      by_cases e : x.f = f
      · simp [e]
      · simp only [e, if_false] at h
        omega
theorem hotK_count : (hotK s).count a = ct a 2 s := by
  induction s with
  | nil => rfl
  | cons x s ih =>
    unfold hotK keysI at *
    rw [List.filter_cons, ct_cons]
    by_cases e : x.f = 2
    · rw [if_pos (by simp [e]), List.map_cons, List.count_cons, ih]
      simp [e]
    · rw [if_neg (by simp [e]), ih]
      simp [e]
theorem hotK_len : (hotK s).length = nk 2 s := by
  unfold hotK keysI nk
  rw [List.length_map, List.countP_eq_length_filter]
end
structure L12 where
  c : Nat
  s : List It
  q : List Nat
namespace L12
def keys (s : L12) : List Nat := hotK s.s ++ s.q
def ghosts (s : L12) : Nat := nk 0 s.s
def new (n : Int) : L12 := ⟨capI n, [], []⟩
def stack (s : L12) (k f : Nat) : L12 := ⟨s.c, ⟨k, f⟩ :: wi k s.s, s.q⟩
def prune (s : L12) : L12 := ⟨s.c, pr s.s, s.q⟩
def cool1 (s : L12) : L12 := ⟨s.c, pr (setI (lastF 2 s.s) 1 s.s), s.q ++ [lastF 2 s.s]⟩
def coolN : Nat → L12 → L12
  | 0, s => s
  | m + 1, s => coolN m s.cool1
def cool (s : L12) : L12 := coolN (nk 2 s.s - roomH s.c) s
def ev1 (s : L12) : L12 := ⟨s.c, setI (s.q.headD 0) 0 s.s, s.q.tail⟩
def evN : Nat → L12 → L12
  | 0, s => s
  | m + 1, s => evN m s.ev1
def many (s : L12) (n : Nat) : Nat := nk 2 s.s + s.q.length - n
def shrink (s : L12) (n : Nat) : L12 := evN (s.many n) s
def shrinkOut (s : L12) (n : Nat) : List Nat := s.q.take (s.many n)
def fg1 (s : L12) : L12 := ⟨s.c, wi (lastF 0 s.s) s.s, s.q⟩
def fgN : Nat → L12 → L12
  | 0, s => s
  | m + 1, s => fgN m s.fg1
def forget (s : L12) : L12 := fgN (nk 0 s.s - s.c) s
def less (s : L12) (k : Nat) : L12 := ⟨s.c, s.s, wo k s.q⟩
def last (s : L12) (k : Nat) : L12 := ⟨s.c, s.s, wo k s.q ++ [k]⟩
def touch (s : L12) (k : Nat) : L12 :=
  if 0 < ct k 2 s.s then (s.stack k 2).prune else if k ∉ s.q then s else if tot k s.s = 0 then ((s.stack k 1).last k).prune else ((s.stack k 2).less k).cool.prune
def came (s : L12) (k : Nat) : L12 := if nk 2 s.s < roomH s.c ∨ 0 < tot k s.s then (s.stack k 2).cool else (s.stack k 1).last k
def adm (s : L12) (k : Nat) : L12 := if k ∈ s.keys then s else ((s.shrink (s.c - 1)).came k).prune.forget
def admitOut (s : L12) (k : Nat) : List Nat := if k ∈ s.keys then [] else s.shrinkOut (s.c - 1)
def drop (s : L12) (k : Nat) : L12 := ⟨s.c, pr (wi k s.s), wo k s.q⟩
def sized (s : L12) (n : Nat) : L12 := ⟨n, s.s, s.q⟩
def resize (s : L12) (n : Int) : L12 := ((s.sized (capI n)).cool.shrink (capI n)).prune.forget
def resizeOut (s : L12) (n : Int) : List Nat := (s.sized (capI n)).cool.shrinkOut (capI n)
def act (s : L12) (x : Act8) : L12 := match kindA x (decide (x.key ∈ s.keys)) with
  | 1 => s.touch x.key
  | 2 => s.adm x.key
  | 3 => s.drop x.key
  | _ => s.resize (sizeA x : Nat)
def actOut (s : L12) (x : Act8) : List Nat := match kindA x (decide (x.key ∈ s.keys)) with
  | 1 => []
  | 2 => s.admitOut x.key
  | 3 => []
  | _ => s.resizeOut (sizeA x : Nat)
def okA (s : L12) (a : Nat) : Prop := ct a 0 s.s + ct a 1 s.s + ct a 2 s.s ≤ 1 ∧ ct a 1 s.s ≤ s.q.count a ∧ ct a 0 s.s + ct a 2 s.s + s.q.count a ≤ 1 ∧ (0 < ct a 0 s.s + ct a 1 s.s + ct a 2 s.s + s.q.count a → a < 18446744073709551616)
structure Fine (s : L12) : Prop where
  kinds : ∀ x ∈ s.s, x.f ≤ 2
  at_ : ∀ a, s.okA a
structure Ok (s : L12) : Prop where
  pos : 1 ≤ s.c
  cap : s.c ≤ 1048576
  fine : s.Fine
  hot : nk 2 s.s ≤ roomH s.c
  len : nk 2 s.s + s.q.length ≤ s.c
  gone : nk 0 s.s ≤ s.c
  top : pr s.s = s.s
variable {s : L12} {k : Nat}
theorem cw (k a : Nat) (l : List Nat) : (wo k l).count a = if a = k then 0 else l.count a := by
  unfold wo
  split
  · rename_i e
    subst e
    exact List.count_eq_zero_of_not_mem (by simp)
  · rename_i e
    exact List.count_filter (by simp [e])
theorem cs (k a : Nat) (l : List Nat) : (l ++ [k]).count a = l.count a + if a = k then 1 else 0 := by
  rw [List.count_append, List.count_singleton]
  congr 1
  by_cases e : a = k
  · simp [e]
  · have : ¬ k = a := fun h => e h.symm
    simp [e, this]
theorem ct_stack (x : Nat) (f a g : Nat) (l : List It) : ct a g (⟨x, f⟩ :: wi x l) = if a = x then (if g = f then 1 else 0) else ct a g l := by
  rw [ct_cons, ct_wi]
  by_cases e : a = x
  · subst e
    by_cases e2 : g = f
    · simp [e2]
    · have : ¬ f = g := fun h => e2 h.symm
      simp [e2, this]
  · have : ¬ x = a := fun h => e h.symm
    simp [e, this]
theorem stack_f {f : Nat} (h : s.Fine) (hf : f ≤ 2) : ∀ x ∈ (s.stack k f).s, x.f ≤ 2 := by
  intro x hx
  rcases List.mem_cons.1 hx with rfl | hx
  · exact hf
  · exact h.kinds x (wi_sub x hx)
theorem keys_count (s : L12) (a : Nat) : s.keys.count a = ct a 2 s.s + s.q.count a := by
  unfold keys
  rw [List.count_append, hotK_count]
theorem keys_len (s : L12) : s.keys.length = nk 2 s.s + s.q.length := by
  unfold keys
  rw [List.length_append, hotK_len]
theorem keys_in : k ∈ s.keys ↔ 0 < ct k 2 s.s + s.q.count k := by rw [← keys_count]; exact List.count_pos_iff.symm
theorem Fine.keysNd (h : s.Fine) : s.keys.Nodup := List.nodup_iff_count.2 (fun a => by
  have := h.at_ a
  unfold okA at this
  rw [keys_count]
  omega)
theorem Fine.stackNd (h : s.Fine) : (keysI s.s).Nodup := List.nodup_iff_count.2 (fun a => by
  have h1 := h.at_ a
  have h2 : tot a s.s = _ := tot_ct h.kinds
  unfold okA at h1
  unfold tot at h2
  omega)
theorem Fine.qNd (h : s.Fine) : s.q.Nodup := List.nodup_iff_count.2 (fun a => by
  have := h.at_ a
  unfold okA at this
  omega)
theorem Fine.tot_le (h : s.Fine) (a : Nat) : tot a s.s ≤ 1 := by
  have h1 := h.at_ a
  have h2 := tot_ct (a := a) h.kinds
  unfold okA at h1
  omega
theorem Fine.prune (h : s.Fine) : s.prune.Fine := by
  refine ⟨fun x hx => h.kinds x (pr_sub x hx), fun a => ?_⟩
  have h1 := h.at_ a
  have h2 : ct a 0 (pr s.s) ≤ _ := pr_ct
  have h3 : ct a 1 (pr s.s) ≤ _ := pr_ct
  have h4 : ct a 2 (pr s.s) = _ := pr_ct2
  unfold okA L12.prune at *
  simp only
  refine ⟨by omega, by omega, by omega, fun hh => h1.2.2.2 (by omega)⟩
theorem Fine.hit (h : s.Fine) (hk : 0 < ct k 2 s.s) : (s.stack k 2).Fine := by
  refine ⟨stack_f h (by omega), fun a => ?_⟩
  have h1 := h.at_ a
  have h2 := h.at_ k
  unfold okA L12.stack at *
  simp only [ct_stack]
  by_cases e : a = k
  · subst e
    simp
    omega
  · simp only [if_neg e]
    exact h1
theorem Fine.warm (h : s.Fine) (hk : k < 18446744073709551616) : ((s.stack k 2).less k).Fine := by
  refine ⟨stack_f h (by omega), fun a => ?_⟩
  have h1 := h.at_ a
  unfold okA L12.less L12.stack at *
  simp only [ct_stack, cw]
  by_cases e : a = k
  · subst e
    simp
    exact hk
  · simp only [if_neg e]
    exact h1
theorem Fine.came2 (h : s.Fine) (hq : k ∉ s.q) (hk : k < 18446744073709551616) : (s.stack k 2).Fine := by
  refine ⟨stack_f h (by omega), fun a => ?_⟩
  have h1 := h.at_ a
  have h2 := List.count_eq_zero_of_not_mem hq
  unfold okA L12.stack at *
  simp only [ct_stack]
  by_cases e : a = k
  · subst e
    rw [h2]
    simp
    exact hk
  · simp only [if_neg e]
    exact h1
theorem Fine.came1 (h : s.Fine) (hk : k < 18446744073709551616) : ((s.stack k 1).last k).Fine := by
  refine ⟨stack_f h (by omega), fun a => ?_⟩
  have h1 := h.at_ a
  unfold okA L12.last L12.stack at *
  simp only [ct_stack, cs, cw]
  by_cases e : a = k
  · subst e
    simp
    exact hk
  · simp only [if_neg e]
    exact h1
theorem Fine.less0 (h : s.Fine) : (⟨s.c, wi k s.s, wo k s.q⟩ : L12).Fine := by
  refine ⟨fun x hx => h.kinds x (wi_sub x hx), fun a => ?_⟩
  have h1 := h.at_ a
  unfold okA at *
  simp only [ct_wi, cw]
  by_cases e : a = k
  · subst e
    simp
  · simp only [if_neg e]
    exact h1
theorem Fine.cool1 (h : s.Fine) (hm : 0 < nk 2 s.s) : s.cool1.Fine ∧ nk 2 s.cool1.s + 1 = nk 2 s.s ∧ s.cool1.q.length = s.q.length + 1 ∧ s.cool1.c = s.c ∧ nk 0 s.cool1.s ≤ nk 0 s.s ∧ ∀ a, s.cool1.keys.count a = s.keys.count a := by
  have hl := lastF_in hm
  obtain ⟨k, hk⟩ : ∃ k, lastF 2 s.s = k := ⟨_, rfl⟩
  rw [hk] at hl
  have h0 := h.at_ k
  have ht := tot_ct (a := k) h.kinds
  unfold okA at h0
  have c2 : ct k 2 s.s = 1 := by omega
  have c1 : ct k 1 s.s = 0 := by omega
  have c0 : ct k 0 s.s = 0 := by omega
  have htt : tot k s.s = 1 := by omega
  have hF : (⟨s.c, setI k 1 s.s, s.q ++ [k]⟩ : L12).Fine := by
    refine ⟨setI_f (by omega) h.kinds, fun a => ?_⟩
    have h1 := h.at_ a
    unfold okA at *
    simp only [ct_setI, cs]
    by_cases e : a = k
    · subst e
      simp only [if_true, htt]
      simp
      exact ⟨by omega, fun _ => h0.2.2.2 (by omega)⟩
    · simp only [if_neg e, Nat.add_zero]
      exact h1
  have hs : s.cool1 = (⟨s.c, setI k 1 s.s, s.q ++ [k]⟩ : L12).prune := by unfold L12.cool1 L12.prune; rw [hk]
  rw [hs]
  have e2 : nk 2 (setI k 1 s.s) + ct k 2 s.s = nk 2 s.s + _ := nk_setI
  have e0 : nk 0 (setI k 1 s.s) + ct k 0 s.s = nk 0 s.s + _ := nk_setI
  simp only [show ¬ (1 = 2) by omega, show ¬ (1 = 0) by omega, if_false] at e2 e0
  have p0 : nk 0 (pr (setI k 1 s.s)) ≤ _ := pr_nk
  have p2 : nk 2 (pr (setI k 1 s.s)) = _ := pr_nk2
  refine ⟨hF.prune, ?_, ?_, rfl, ?_, fun a => ?_⟩
  · show nk 2 (pr (setI k 1 s.s)) + 1 = _
    omega
  · show (s.q ++ [k]).length = _
    simp
  · show nk 0 (pr (setI k 1 s.s)) ≤ _
    omega
  · rw [keys_count, keys_count]
    show ct a 2 (pr (setI k 1 s.s)) + (s.q ++ [k]).count a = _
    rw [pr_ct2, ct_setI, cs]
    by_cases e : a = k
    · subst e
      simp
      omega
    · simp [e]
theorem Fine.coolN : ∀ (m : Nat) (s : L12), s.Fine → m ≤ nk 2 s.s → (coolN m s).Fine ∧ nk 2 (coolN m s).s + m = nk 2 s.s ∧ (coolN m s).q.length = s.q.length + m ∧ (coolN m s).c = s.c ∧ nk 0 (coolN m s).s ≤ nk 0 s.s ∧ ∀ a, (coolN m s).keys.count a = s.keys.count a
  | 0, s, h, _ => ⟨h, rfl, rfl, rfl, Nat.le_refl _, fun _ => rfl⟩
  | m + 1, s, h, hm => by
    obtain ⟨h1, h2, h3, h4, h5, h6⟩ := h.cool1 (by omega)
    obtain ⟨g1, g2, g3, g4, g5, g6⟩ := Fine.coolN m s.cool1 h1 (by omega)
    show (L12.coolN m s.cool1).Fine ∧ _
    exact ⟨g1, by show nk 2 (L12.coolN m s.cool1).s + _ = _; omega, by show (L12.coolN m s.cool1).q.length = _; omega, by show (L12.coolN m s.cool1).c = _; omega, by show nk 0 (L12.coolN m s.cool1).s ≤ _; omega, fun a => by show (L12.coolN m s.cool1).keys.count a = _; rw [g6, h6]⟩
theorem Fine.ev1 (h : s.Fine) (hq : 0 < s.q.length) : s.ev1.Fine ∧ nk 2 s.ev1.s = nk 2 s.s ∧ s.ev1.q = s.q.drop 1 ∧ s.ev1.c = s.c ∧ nk 0 s.ev1.s ≤ nk 0 s.s + 1 := by
  obtain ⟨k, q, hk⟩ : ∃ k q, s.q = k :: q := List.exists_cons_of_length_pos hq
  have hs : s.ev1 = ⟨s.c, setI k 0 s.s, q⟩ := by unfold L12.ev1; rw [hk]; rfl
  have h0 := h.at_ k
  have ht := tot_ct (a := k) h.kinds
  have cc : ∀ a, s.q.count a = q.count a + if k = a then 1 else 0 := fun a => by
    rw [hk, List.count_cons]
    simp only [beq_iff_eq]
  unfold okA at h0
  have h00 := cc k
  rw [if_pos rfl] at h00
  have e2 : nk 2 (setI k 0 s.s) + ct k 2 s.s = nk 2 s.s + _ := nk_setI
  have e0 : nk 0 (setI k 0 s.s) + ct k 0 s.s = nk 0 s.s + _ := nk_setI
  simp only [show ¬ (0 = 2) by omega, if_false, if_true] at e2 e0
  rw [hs]
  refine ⟨⟨setI_f (by omega) h.kinds, fun a => ?_⟩, ?_, by rw [hk]; rfl, rfl, ?_⟩
  · have h1 := h.at_ a
    have h2 := cc a
    unfold okA at *
    simp only [ct_setI]
    by_cases e : a = k
    · subst e
      simp only [if_true]
      simp
      refine ⟨by omega, by omega, fun _ => h0.2.2.2 (by omega)⟩
    · have e' : ¬ k = a := fun h => e h.symm
      rw [if_neg e', Nat.add_zero] at h2
      rw [h2] at h1
      simp only [if_neg e]
      exact h1
  · show nk 2 (setI k 0 s.s) = _
    omega
  · show nk 0 (setI k 0 s.s) ≤ _
    omega
theorem Fine.evN : ∀ (m : Nat) (s : L12), s.Fine → m ≤ s.q.length → (evN m s).Fine ∧ nk 2 (evN m s).s = nk 2 s.s ∧ (evN m s).q = s.q.drop m ∧ (evN m s).c = s.c ∧ nk 0 (evN m s).s ≤ nk 0 s.s + m
  | 0, s, h, _ => ⟨h, rfl, rfl, rfl, Nat.le_refl _⟩
  | m + 1, s, h, hm => by
    obtain ⟨h1, h2, h3, h4, h5⟩ := h.ev1 (by omega)
    have hl : s.ev1.q.length = s.q.length - 1 := by rw [h3, List.length_drop]
    obtain ⟨g1, g2, g3, g4, g5⟩ := Fine.evN m s.ev1 h1 (by omega)
    exact ⟨g1, g2.trans h2, by show (L12.evN m s.ev1).q = _; rw [g3, h3, List.drop_drop, Nat.add_comm], g4.trans h4, by show nk 0 (L12.evN m s.ev1).s ≤ _; omega⟩
theorem pr_wi {l : List It} (h : pr l = l) (hk : ct k 2 l = 0) : pr (wi k l) = wi k l := by
  induction l with
  | nil => rfl
  | cons x l ih =>
    rw [pr] at h
    split at h
    · rename_i hp
      simp only [List.cons.injEq, true_and] at h
      rw [ct_cons] at hk
      have ih := ih h (by omega)
      have hw : nk 2 (wi k (x :: l)) + ct k 2 (x :: l) = nk 2 (x :: l) := nk_wi
      rw [ct_cons] at hw
      have hw2 : 0 < nk 2 (wi k (x :: l)) := by omega
      unfold wi at *
      rw [List.filter_cons] at *
      split
      · rename_i e
        rw [if_pos e] at hw2
        rw [pr, if_pos hw2, ih]
      · exact ih
    · simp at h
theorem Fine.fg1 (h : s.Fine) (hm : 0 < nk 0 s.s) : s.fg1.Fine ∧ nk 2 s.fg1.s = nk 2 s.s ∧ nk 0 s.fg1.s + 1 = nk 0 s.s ∧ s.fg1.c = s.c ∧ s.fg1.q = s.q ∧ (pr s.s = s.s → pr s.fg1.s = s.fg1.s) ∧ ∀ a, s.fg1.keys.count a = s.keys.count a := by
  have hl := lastF_in hm
  obtain ⟨k, hk⟩ : ∃ k, lastF 0 s.s = k := ⟨_, rfl⟩
  rw [hk] at hl
  have hs : s.fg1 = ⟨s.c, wi k s.s, s.q⟩ := by unfold L12.fg1; rw [hk]
  have h0 := h.at_ k
  unfold okA at h0
  have e2 : nk 2 (wi k s.s) + ct k 2 s.s = nk 2 s.s := nk_wi
  have e0 : nk 0 (wi k s.s) + ct k 0 s.s = nk 0 s.s := nk_wi
  rw [hs]
  refine ⟨⟨fun x hx => h.kinds x (wi_sub x hx), fun a => ?_⟩, ?_, ?_, rfl, rfl, fun hp => pr_wi hp (by omega), fun a => ?_⟩
  · have h1 := h.at_ a
    unfold okA at *
    simp only [ct_wi]
    by_cases e : a = k
    · subst e
      simp only [if_true]
      exact ⟨by omega, by omega, by omega, fun _ => h0.2.2.2 (by omega)⟩
    · simp only [if_neg e]
      exact h1
  · show nk 2 (wi k s.s) = _
    omega
  · show nk 0 (wi k s.s) + 1 = _
    omega
  · rw [keys_count, keys_count]
    show ct a 2 (wi k s.s) + s.q.count a = _
    rw [ct_wi]
    by_cases e : a = k
    · subst e
      simp
      omega
    · simp [e]
theorem Fine.fgN : ∀ (m : Nat) (s : L12), s.Fine → m ≤ nk 0 s.s → (fgN m s).Fine ∧ nk 2 (fgN m s).s = nk 2 s.s ∧ nk 0 (fgN m s).s + m = nk 0 s.s ∧ (fgN m s).c = s.c ∧ (fgN m s).q = s.q ∧ (pr s.s = s.s → pr (fgN m s).s = (fgN m s).s) ∧ ∀ a, (fgN m s).keys.count a = s.keys.count a
  | 0, s, h, _ => ⟨h, rfl, rfl, rfl, rfl, fun h => h, fun _ => rfl⟩
  | m + 1, s, h, hm => by
    obtain ⟨h1, h2, h3, h4, h5, h6, h7⟩ := h.fg1 (by omega)
    obtain ⟨g1, g2, g3, g4, g5, g6, g7⟩ := Fine.fgN m s.fg1 h1 (by omega)
    exact ⟨g1, g2.trans h2, by show nk 0 (L12.fgN m s.fg1).s + _ = _; omega, g4.trans h4, g5.trans h5, fun hp => g6 (h6 hp), fun a => (g7 a).trans (h7 a)⟩
theorem pr_pr (l : List It) : pr (pr l) = pr l := by
  induction l with
  | nil => rfl
  | cons x l ih =>
    rw [pr]
    split
    · rename_i h
      have h2 : nk 2 (pr l) = nk 2 l := pr_nk2
      have h3 : 0 < nk 2 (x :: pr l) := by rw [nk_cons] at h ⊢; omega
      rw [pr, if_pos h3, ih]
    · rfl
theorem Fine.fin0 (h : s.Fine) (hp : 1 ≤ s.c) (hc : s.c ≤ 1048576) (h1 : nk 2 s.s ≤ roomH s.c) (h2 : nk 2 s.s + s.q.length ≤ s.c) (h3 : nk 0 s.s ≤ s.c) : s.prune.Ok ∧ ∀ a, s.prune.keys.count a = s.keys.count a := by
  have p2 : nk 2 (pr s.s) = _ := pr_nk2
  have p0 : nk 0 (pr s.s) ≤ _ := pr_nk
  refine ⟨⟨hp, hc, h.prune, by show nk 2 (pr s.s) ≤ roomH s.c; omega, by show nk 2 (pr s.s) + s.q.length ≤ s.c; omega, by show nk 0 (pr s.s) ≤ s.c; omega, pr_pr s.s⟩, fun a => ?_⟩
  rw [keys_count, keys_count]
  show ct a 2 (pr s.s) + s.q.count a = _
  rw [pr_ct2]
theorem Fine.fin (h : s.Fine) (hp : 1 ≤ s.c) (hc : s.c ≤ 1048576) (h1 : nk 2 s.s ≤ roomH s.c) (h2 : nk 2 s.s + s.q.length ≤ s.c) : s.prune.forget.Ok ∧ ∀ a, s.prune.forget.keys.count a = s.keys.count a := by
  have p2 : nk 2 (pr s.s) = _ := pr_nk2
  obtain ⟨g1, g2, g3, g4, g5, g6, g7⟩ := Fine.fgN (nk 0 s.prune.s - s.c) s.prune h.prune (Nat.sub_le _ _)
  have e2 : nk 2 s.prune.s = nk 2 (pr s.s) := rfl
  have ec : s.prune.c = s.c := rfl
  have eq : s.prune.q = s.q := rfl
  have ef : s.prune.forget = L12.fgN (nk 0 s.prune.s - s.c) s.prune := rfl
  rw [ef]
  refine ⟨⟨by omega, by omega, g1, by rw [g2, g4, ec]; omega, by rw [g2, g4, g5, eq]; omega, by omega, g6 (pr_pr s.s)⟩, fun a => ?_⟩
  rw [g7, keys_count, keys_count]
  show ct a 2 (pr s.s) + s.q.count a = _
  rw [pr_ct2]
theorem Fine.cool (h : s.Fine) : s.cool.Fine ∧ nk 2 s.cool.s ≤ roomH s.c ∧ nk 2 s.cool.s + s.cool.q.length = nk 2 s.s + s.q.length ∧ s.cool.c = s.c ∧ nk 0 s.cool.s ≤ nk 0 s.s ∧ ∀ a, s.cool.keys.count a = s.keys.count a := by
  obtain ⟨g1, g2, g3, g4, g5, g6⟩ := Fine.coolN (nk 2 s.s - roomH s.c) s h (Nat.sub_le _ _)
  have ef : s.cool = L12.coolN (nk 2 s.s - roomH s.c) s := rfl
  rw [ef]
  exact ⟨g1, by omega, by omega, g4, g5, g6⟩
theorem evN_ct2 : ∀ (m : Nat) (s : L12), s.Fine → m ≤ s.q.length → ∀ a, ct a 2 (evN m s).s = ct a 2 s.s
  | 0, _, _, _, _ => rfl
  | m + 1, s, h, hm, a => by
    obtain ⟨h1, -, h3, -, -⟩ := h.ev1 (by omega)
    have hl : s.ev1.q.length = s.q.length - 1 := by rw [h3, List.length_drop]
    refine (evN_ct2 m s.ev1 h1 (by omega) a).trans ?_
    obtain ⟨k, q, hk⟩ : ∃ k q, s.q = k :: q := List.exists_cons_of_length_pos (by omega)
    have hs : s.ev1 = ⟨s.c, setI k 0 s.s, q⟩ := by unfold L12.ev1; rw [hk]; rfl
    have h0 := h.at_ k
    unfold okA at h0
    have cc : s.q.count k = q.count k + 1 := by
      rw [hk, List.count_cons]
      simp
    rw [hs]
    show ct a 2 (setI k 0 s.s) = _
    rw [ct_setI]
    by_cases e : a = k
    · subst e
      simp
      omega
    · rw [if_neg e]
theorem Fine.shrink (h : s.Fine) {n : Nat} (hn : nk 2 s.s ≤ n) : (s.shrink n).Fine ∧ nk 2 (s.shrink n).s = nk 2 s.s ∧ nk 2 (s.shrink n).s + (s.shrink n).q.length ≤ n ∧ (s.shrink n).c = s.c ∧ nk 0 (s.shrink n).s ≤ nk 0 s.s + s.many n ∧ (s.shrinkOut n ++ (s.shrink n).keys).Perm s.keys ∧ (s.shrinkOut n).length = s.many n ∧ (∀ a, ct a 2 (s.shrink n).s = ct a 2 s.s) ∧ ∀ a ∈ (s.shrink n).q, a ∈ s.q := by
  have hm : s.many n ≤ s.q.length := by unfold L12.many; omega
  obtain ⟨g1, g2, g3, g4, g5⟩ := Fine.evN (s.many n) s h hm
  have g6 := evN_ct2 (s.many n) s h hm
  have ef : s.shrink n = L12.evN (s.many n) s := rfl
  rw [ef]
  refine ⟨g1, g2, ?_, g4, g5, ?_, ?_, g6, fun a ha => ?_⟩
  · rw [g2, g3, List.length_drop]
    unfold L12.many at *
    omega
  · rw [List.perm_iff_count]
    intro a
    rw [List.count_append, keys_count, keys_count, g6, g3]
    have : (s.q.take (s.many n)).count a + (s.q.drop (s.many n)).count a = s.q.count a := by rw [← List.count_append, List.take_append_drop]
    unfold L12.shrinkOut
    omega
  · unfold L12.shrinkOut
    rw [List.length_take]
    omega
  · rw [g3] at ha
    exact List.mem_of_mem_drop ha
theorem nk_stack (k f g : Nat) (l : List It) : nk g (⟨k, f⟩ :: wi k l) + ct k g l = nk g l + if f = g then 1 else 0 := by
  have h : nk g (wi k l) + ct k g l = nk g l := nk_wi
  have e : nk g (⟨k, f⟩ :: wi k l) = _ := nk_cons _ _
  simp only at e
  omega
theorem q_in {k : Nat} {q : List Nat} : k ∈ q ↔ 0 < q.count k := List.count_pos_iff.symm
theorem ok_new (n : Int) : (new n).Ok := ⟨(capI_pos n).1, (capI_pos n).2, ⟨by simp [new], fun a => by simp [new, okA, ct_nil]⟩, Nat.zero_le _, Nat.zero_le _, Nat.zero_le _, rfl⟩
theorem Ok.touch (h : s.Ok) (hk : k < 18446744073709551616) : (s.touch k).Ok ∧ ∀ a, (s.touch k).keys.count a = s.keys.count a := by
  have hf := h.fine
  have hp := h.pos
  have hc := h.cap
  have hh := h.hot
  have hl := h.len
  have hg := h.gone
  have h0 := hf.at_ k
  have ht := tot_ct (a := k) hf.kinds
  have n2 : ∀ f, nk 2 (⟨k, f⟩ :: wi k s.s) + ct k 2 s.s = nk 2 s.s + if f = 2 then 1 else 0 := fun f => nk_stack k f 2 s.s
  have n0 : ∀ f, nk 0 (⟨k, f⟩ :: wi k s.s) + ct k 0 s.s = nk 0 s.s + if f = 0 then 1 else 0 := fun f => nk_stack k f 0 s.s
  have hw := wo_count8 hf.qNd k
  unfold okA at h0
  unfold L12.touch
  split
  · rename_i c2
    have e2 := n2 2
    have e0 := n0 2
    simp only [show ¬ 2 = 0 by omega, if_true, if_false] at e2 e0
    obtain ⟨g1, g2⟩ := (hf.hit c2).fin0 hp hc (by show nk 2 (⟨k, 2⟩ :: wi k s.s) ≤ roomH s.c; omega) (by show nk 2 (⟨k, 2⟩ :: wi k s.s) + s.q.length ≤ s.c; omega) (by show nk 0 (⟨k, 2⟩ :: wi k s.s) ≤ s.c; omega)
    refine ⟨g1, fun a => ?_⟩
    rw [g2, keys_count, keys_count]
    show ct a 2 (⟨k, 2⟩ :: wi k s.s) + s.q.count a = _
    rw [ct_stack]
    by_cases e : a = k
    · subst e; simp; omega
    · rw [if_neg e]
  · rename_i c2
    split
    · exact ⟨h, fun _ => rfl⟩
    · rename_i hq
      have hq : k ∈ s.q := by simpa using hq
      have hqc := q_in.1 hq
      rw [if_pos hq] at hw
      have hq1 : 1 ≤ s.q.length := List.length_pos_of_mem hq
      split
      · rename_i t0
        have e2 := n2 1
        have e0 := n0 1
        simp only [show ¬ 1 = 2 by omega, show ¬ 1 = 0 by omega, if_false] at e2 e0
        have el : (wo k s.q ++ [k]).length = s.q.length := by rw [List.length_append, hw]; simp; omega
        obtain ⟨g1, g2⟩ := (hf.came1 hk).fin0 hp hc (by show nk 2 (⟨k, 1⟩ :: wi k s.s) ≤ roomH s.c; omega) (by show nk 2 (⟨k, 1⟩ :: wi k s.s) + (wo k s.q ++ [k]).length ≤ s.c; omega) (by show nk 0 (⟨k, 1⟩ :: wi k s.s) ≤ s.c; omega)
        refine ⟨g1, fun a => ?_⟩
        rw [g2, keys_count, keys_count]
        show ct a 2 (⟨k, 1⟩ :: wi k s.s) + (wo k s.q ++ [k]).count a = _
        rw [ct_stack, cs, cw]
        by_cases e : a = k
        · subst e; simp; omega
        · simp [e]
      · rename_i t0
        have e2 := n2 2
        have e0 := n0 2
        simp only [show ¬ 2 = 0 by omega, if_true, if_false] at e2 e0
        obtain ⟨c1, c3, c4, c5, c6, c7⟩ := (hf.warm hk).cool
        have x1 : nk 2 ((s.stack k 2).less k).s = nk 2 (⟨k, 2⟩ :: wi k s.s) := rfl
        have x2 : ((s.stack k 2).less k).q = wo k s.q := rfl
        have x3 : ((s.stack k 2).less k).c = s.c := rfl
        have x4 : nk 0 ((s.stack k 2).less k).s = nk 0 (⟨k, 2⟩ :: wi k s.s) := rfl
        rw [x1, x2] at c4
        rw [x4] at c6
        rw [x3] at c3 c5
        obtain ⟨g1, g2⟩ := c1.fin0 (by omega) (by omega) (by rw [c5]; exact c3) (by omega) (by omega)
        refine ⟨g1, fun a => ?_⟩
        rw [g2, c7, keys_count, keys_count]
        show ct a 2 (⟨k, 2⟩ :: wi k s.s) + (wo k s.q).count a = _
        rw [ct_stack, cw]
        by_cases e : a = k
        · subst e; simp; omega
        · simp [e]
theorem Ok.drop (h : s.Ok) (k : Nat) : (s.drop k).Ok ∧ ∀ a, (s.drop k).keys.count a = if a = k then 0 else s.keys.count a := by
  have hf := h.fine
  have hp := h.pos
  have hc := h.cap
  have hh := h.hot
  have hl := h.len
  have hg := h.gone
  have n2 : nk 2 (wi k s.s) + ct k 2 s.s = nk 2 s.s := nk_wi
  have n0 : nk 0 (wi k s.s) + ct k 0 s.s = nk 0 s.s := nk_wi
  have hw := wo_len k s.q
  obtain ⟨g1, g2⟩ := (hf.less0 (k := k)).fin0 hp hc (by show nk 2 (wi k s.s) ≤ roomH s.c; omega) (by show nk 2 (wi k s.s) + (wo k s.q).length ≤ s.c; omega) (by show nk 0 (wi k s.s) ≤ s.c; omega)
  refine ⟨g1, fun a => (g2 a).trans ?_⟩
  rw [keys_count, keys_count]
  show ct a 2 (wi k s.s) + (wo k s.q).count a = _
  rw [ct_wi, cw]
  by_cases e : a = k <;> simp [e]
theorem Ok.came (h : s.Fine) {c : Nat} (ec : s.c = c) (hp : 1 ≤ c) (hc : c ≤ 1048576) (h1 : nk 2 s.s ≤ roomH c) (h2 : nk 2 s.s + s.q.length ≤ c - 1) (hk : k < 18446744073709551616) (hn : k ∉ s.keys) : (s.came k).prune.forget.Ok ∧ ∀ a, (s.came k).prune.forget.keys.count a = s.keys.count a + if a = k then 1 else 0 := by
  subst ec
  have h3 : ¬ 0 < ct k 2 s.s + s.q.count k := fun hh => hn (keys_in.2 hh)
  have hq : k ∉ s.q := fun hh => by have := q_in.1 hh; omega
  unfold L12.came
  split
  · have e2 := nk_stack k 2 2 s.s
    rw [if_pos rfl] at e2
    obtain ⟨c1, c3, c4, c5, c6, c7⟩ := (h.came2 hq hk).cool
    have x1 : nk 2 (s.stack k 2).s = nk 2 (⟨k, 2⟩ :: wi k s.s) := rfl
    have x2 : (s.stack k 2).q = s.q := rfl
    have x3 : (s.stack k 2).c = s.c := rfl
    rw [x1, x2] at c4
    rw [x3] at c3 c5
    obtain ⟨g1, g2⟩ := c1.fin (by omega) (by omega) (by rw [c5]; exact c3) (by omega)
    refine ⟨g1, fun a => ?_⟩
    rw [g2, c7, keys_count, keys_count]
    show ct a 2 (⟨k, 2⟩ :: wi k s.s) + s.q.count a = _
    rw [ct_stack]
    by_cases e : a = k
    · subst e; simp; omega
    · simp [e]
  · have e2 := nk_stack k 1 2 s.s
    rw [if_neg (by omega)] at e2
    have el : (wo k s.q ++ [k]).length = s.q.length + 1 := by rw [wo_none8 hq]; simp
    obtain ⟨g1, g2⟩ := (h.came1 hk).fin hp hc (by show nk 2 (⟨k, 1⟩ :: wi k s.s) ≤ roomH s.c; omega) (by show nk 2 (⟨k, 1⟩ :: wi k s.s) + (wo k s.q ++ [k]).length ≤ s.c; omega)
    refine ⟨g1, fun a => ?_⟩
    rw [g2, keys_count, keys_count]
    show ct a 2 (⟨k, 1⟩ :: wi k s.s) + (wo k s.q ++ [k]).count a = _
    rw [ct_stack, cs, cw]
    by_cases e : a = k
    · subst e; simp; omega
    · simp [e]
theorem Ok.adm' (h : s.Ok) (hk : k < 18446744073709551616) (hn : k ∉ s.keys) : (s.adm k).Ok ∧ (s.admitOut k ++ (s.shrink (s.c - 1)).keys).Perm s.keys ∧ (s.adm k).keys.Perm (k :: (s.shrink (s.c - 1)).keys) := by
  have hp := h.pos
  have hh := h.hot
  have hr := roomH_lt hp
  obtain ⟨g1, g2, g3, g4, g5, g6, g7, g8, g9⟩ := h.fine.shrink (n := s.c - 1) (by omega)
  have hn2 : k ∉ (s.shrink (s.c - 1)).keys := fun hm => by
    have h1 := keys_in.1 hm
    rw [g8] at h1
    refine hn (keys_in.2 ?_)
    by_cases e : k ∈ (s.shrink (s.c - 1)).q
    · have := q_in.1 (g9 k e)
      omega
    · have := List.count_eq_zero_of_not_mem e
      omega
  obtain ⟨c1, c2⟩ := Ok.came g1 g4 hp h.cap (by omega) g3 hk hn2
  unfold L12.adm L12.admitOut
  rw [if_neg hn, if_neg hn]
  refine ⟨c1, g6, ?_⟩
  rw [List.perm_iff_count]
  intro a
  rw [c2, List.count_cons]
  congr 1
  by_cases e : a = k
  · simp [e]
  · have : ¬ k = a := fun h => e h.symm
    simp [e, this]
theorem Ok.adm (h : s.Ok) (k : Nat) (hk : k < 18446744073709551616) : (s.adm k).Ok := by
  by_cases hn : k ∈ s.keys
  · unfold L12.adm
    rw [if_pos hn]
    exact h
  · exact (h.adm' hk hn).1
theorem Ok.resize' (h : s.Ok) (n : Int) : (s.resize n).Ok ∧ (s.resizeOut n ++ (s.resize n).keys).Perm s.keys ∧ (s.resizeOut n).length = s.keys.length - capI n := by
  have hf : (s.sized (capI n)).Fine := ⟨h.fine.kinds, h.fine.at_⟩
  have hp := (capI_pos n).1
  have hc := (capI_pos n).2
  have hr := roomH_lt hp
  obtain ⟨c1, c3, c4, c5, c6, c7⟩ := hf.cool
  have x3 : (s.sized (capI n)).c = capI n := rfl
  have x1 : nk 2 (s.sized (capI n)).s = nk 2 s.s := rfl
  have x2 : (s.sized (capI n)).q = s.q := rfl
  rw [x3] at c3 c5
  rw [x1, x2] at c4
  obtain ⟨g1, g2, g3, g4, g5, g6, g7, g8, g9⟩ := c1.shrink (n := capI n) (by omega)
  obtain ⟨f1, f2⟩ := g1.fin (by omega) (by omega) (by rw [g2, g4, c5]; exact c3) (by rw [g4, c5]; exact g3)
  refine ⟨f1, ?_, ?_⟩
  · rw [List.perm_iff_count]
    intro a
    have h1 := (List.perm_iff_count.1 g6) a
    have h2 := c7 a
    have h3 : (s.sized (capI n)).keys.count a = s.keys.count a := rfl
    have h4 := f2 a
    rw [List.count_append] at h1 ⊢
    unfold L12.resizeOut L12.resize
    omega
  · unfold L12.resizeOut
    rw [g7, keys_len]
    unfold L12.many
    omega
theorem Ok.act (h : s.Ok) {x : Act8} (wf : x.Ok) : (s.act x).Ok := by
  unfold L12.act
  split
  · exact (h.touch wf.key).1
  · exact h.adm _ wf.key
  · exact (h.drop _).1
  · exact (h.resize' _).1
theorem act_cases (s : L12) (x : Act8) : kindA x (decide (x.key ∈ s.keys)) = 1 ∧ s.act x = s.touch x.key ∧ s.actOut x = [] ∨ kindA x (decide (x.key ∈ s.keys)) = 2 ∧ s.act x = s.adm x.key ∧ s.actOut x = s.admitOut x.key ∨
    kindA x (decide (x.key ∈ s.keys)) = 3 ∧ s.act x = s.drop x.key ∧ s.actOut x = [] ∨ kindA x (decide (x.key ∈ s.keys)) = 4 ∧ s.act x = s.resize (sizeA x : Nat) ∧ s.actOut x = s.resizeOut (sizeA x : Nat) := by
  unfold L12.act L12.actOut
  rcases kindA_is x (decide (x.key ∈ s.keys)) with h | h | h | h <;> rw [h] <;> simp
theorem perm_evs2 {out is was : List Nat} (hp : (out ++ is).Perm was) (hn : was.Nodup) : (∀ k ∈ out, k ∈ was ∧ k ∉ is) ∧ (∀ k ∈ was, k ∈ out ∨ k ∈ is) ∧ out.Nodup ∧ is.length + out.length = was.length := by
  have hn2 := hp.nodup_iff.2 hn
  obtain ⟨h1, h2, h3⟩ := List.nodup_append.1 hn2
  refine ⟨fun k hk => ⟨hp.mem_iff.1 (List.mem_append_left _ hk), fun hi => h3 _ hk _ hi rfl⟩, fun k hk => List.mem_append.1 (hp.mem_iff.2 hk), h1, ?_⟩
  have := hp.length_eq
  rw [List.length_append] at this
  omega
theorem Ok.keysLen (h : s.Ok) : s.keys.length ≤ 100000000 := by have := h.len; have := h.cap; rw [keys_len]; omega
theorem Ok.evs (h : s.Ok) {x : Act8} (wf : x.Ok) : Evs s.keys (s.act x).keys (s.actOut x) (kindA x (decide (x.key ∈ s.keys))) x.key (sizeA x) := by
  have hz := sizeA_is x
  have hnd := h.fine.keysNd
  rcases act_cases s x with ⟨hq, e1, e2⟩ | ⟨hq, e1, e2⟩ | ⟨hq, e1, e2⟩ | ⟨hq, e1, e2⟩
  · rw [hq, e1, e2]
    have hp := List.perm_iff_count.2 (h.touch wf.key).2
    exact L8.evs_none (.inl rfl) (fun k hk => hp.mem_iff.2 hk) hp.length_eq
  · rw [hq, e1, e2]
    by_cases hin : x.key ∈ s.keys
    · have f1 : s.adm x.key = s := by unfold L12.adm; rw [if_pos hin]
      have f2 : s.admitOut x.key = [] := by unfold L12.admitOut; rw [if_pos hin]
      rw [f1, f2]
      exact L8.evs_none (.inr ⟨rfl, hin⟩) (fun k hk => hk) rfl
    · obtain ⟨-, hsk, hp⟩ := h.adm' wf.key hin
      obtain ⟨h1, h2, h3, h4⟩ := perm_evs2 hsk hnd
      refine L8.evs_admit hin (fun k hk => ⟨(h1 k hk).1, fun hm => ?_⟩) (fun k hk => (h2 k hk).imp id (fun h => hp.mem_iff.2 (List.mem_cons_of_mem _ h))) h3 ?_
      · rcases List.mem_cons.1 (hp.mem_iff.1 hm) with e | hm
        · rw [← e] at hin
          exact hin (h1 k hk).1
        · exact (h1 k hk).2 hm
      · have := hp.length_eq
        rw [List.length_cons] at this
        omega
  · rw [hq, e1, e2]
    have hd := (h.drop x.key).2
    have hp : (s.drop x.key).keys.Perm (wo x.key s.keys) := List.perm_iff_count.2 (fun a => by rw [hd, cw])
    refine L8.evs_drop (fun k hk => ?_) (by rw [hp.length_eq]; exact wo_count8 hnd x.key)
    by_cases e : k = x.key
    · exact .inr e
    · exact .inl (hp.mem_iff.2 (wo_mem.2 ⟨hk, e⟩))
  · rw [hq, e1, e2]
    have hc := capI_nat (sizeA x) (by omega) (by omega)
    obtain ⟨-, hsk, hl⟩ := h.resize' (sizeA x : Nat)
    obtain ⟨h1, h2, h3, h4⟩ := perm_evs2 hsk hnd
    rw [hc] at hl
    exact L8.evs_resize h1 h2 h3 h4 hl
theorem Ok.actOutLen (h : s.Ok) {x : Act8} (wf : x.Ok) : (s.actOut x).length ≤ 100000000 := by
  have h1 := (h.evs wf).e4
  have h2 : s.keys.length ≤ 1048576 := by
    rw [keys_len]
    have := h.len
    have := h.cap
    omega
  split at h1 <;> split at h1 <;> omega
end L12
end Go.Proofs.YtkhikpnlpcankaaGreat
