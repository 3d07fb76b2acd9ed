/- Words and walks: RcP RcB RcO. -/
import Derived.Test.YtgkblelgcikafaaG16
namespace Go.Proofs.Ytgkblelgcikafaa
open Go Go.RowKit Go.Deep
def fst1 (p : Nat) (g : Bool) (i m : Nat) : Prop := m = 0 ∨ 0 < i ∧ (p < i ∨ i = p ∧ g = true)
instance (p : Nat) (g : Bool) (i m : Nat) : Decidable (fst1 p g i m) := by unfold fst1; infer_instance
def cuI (p : Nat) (g : Bool) : Nat → Nat → Nat → Nat
  | 0, i, _ => i
  | f + 1, i, m => if fst1 p g i m then cuI p g f (i - 1) m else cuI p g f i (m - 1)
def cuM (p : Nat) (g : Bool) : Nat → Nat → Nat → Nat
  | 0, _, m => m
  | f + 1, i, m => if fst1 p g i m then cuM p g f (i - 1) m else cuM p g f i (m - 1)
def cuO (p : Nat) (g : Bool) (a b : List Nat) : Nat → Nat → Nat → List Nat
  | 0, _, _ => []
  | f + 1, i, m => if fst1 p g i m then a.getD (i - 1) 0 :: cuO p g a b f (i - 1) m else b.getD (m - 1) 0 :: cuO p g a b f i (m - 1)
section
variable {p : Nat} {g : Bool} {a b : List Nat}
theorem cuI_in {f i m : Nat} (h : fst1 p g i m) : cuI p g (f + 1) i m = cuI p g f (i - 1) m := by rw [cuI, if_pos h]
theorem cuI_out {f i m : Nat} (h : ¬ fst1 p g i m) : cuI p g (f + 1) i m = cuI p g f i (m - 1) := by rw [cuI, if_neg h]
theorem cuM_in {f i m : Nat} (h : fst1 p g i m) : cuM p g (f + 1) i m = cuM p g f (i - 1) m := by rw [cuM, if_pos h]
theorem cuM_out {f i m : Nat} (h : ¬ fst1 p g i m) : cuM p g (f + 1) i m = cuM p g f i (m - 1) := by rw [cuM, if_neg h]
theorem cuO_in {f i m : Nat} (h : fst1 p g i m) : cuO p g a b (f + 1) i m = a.getD (i - 1) 0 :: cuO p g a b f (i - 1) m := by rw [cuO, if_pos h]
theorem cuO_out {f i m : Nat} (h : ¬ fst1 p g i m) : cuO p g a b (f + 1) i m = b.getD (m - 1) 0 :: cuO p g a b f i (m - 1) := by rw [cuO, if_neg h]
theorem fst1_pos {i m : Nat} (h : fst1 p g i m) (hp : 0 < i + m) : 0 < i := by unfold fst1 at h; omega
theorem fst1_neg {i m : Nat} (h : ¬ fst1 p g i m) : 0 < m := by unfold fst1 at h; omega
theorem cu_le (p : Nat) (g : Bool) : ∀ (f i m : Nat), cuI p g f i m ≤ i ∧ cuM p g f i m ≤ m
  | 0, i, m => ⟨Nat.le_refl _, Nat.le_refl _⟩
  | f + 1, i, m => by
    by_cases h : fst1 p g i m
    · rw [cuI_in h, cuM_in h]
      have := cu_le p g f (i - 1) m
      omega
    · rw [cuI_out h, cuM_out h]
      have := cu_le p g f i (m - 1)
      omega
theorem cu_sum (p : Nat) (g : Bool) : ∀ (f i m : Nat), f ≤ i + m → cuI p g f i m + cuM p g f i m + f = i + m
  | 0, i, m, _ => by simp [cuI, cuM]
  | f + 1, i, m, hf => by
    by_cases h : fst1 p g i m
    · rw [cuI_in h, cuM_in h]
      have h2 := fst1_pos h (by omega)
      have := cu_sum p g f (i - 1) m (by omega)
      omega
    · rw [cuI_out h, cuM_out h]
      have h2 := fst1_neg h
      have := cu_sum p g f i (m - 1) (by omega)
      omega
theorem cuO_len (p : Nat) (g : Bool) (a b : List Nat) : ∀ (f i m : Nat), (cuO p g a b f i m).length = f
  | 0, i, m => rfl
  | f + 1, i, m => by
    by_cases h : fst1 p g i m
    · rw [cuO_in h, List.length_cons, cuO_len p g a b f]
    · rw [cuO_out h, List.length_cons, cuO_len p g a b f]
theorem take_cut1 {l : List Nat} {i : Nat} (h1 : 1 ≤ i) (h2 : i ≤ l.length) : l.take i = l.take (i - 1) ++ [l.getD (i - 1) 0] := by
  obtain ⟨j, rfl⟩ : ∃ j, i = j + 1 := ⟨i - 1, by omega⟩
  have hj : j < l.length := by omega
  rw [List.take_succ_eq_append_getElem hj]
  simp [List.getD_eq_getElem?_getD, List.getElem?_eq_getElem hj]
theorem cu_perm (p : Nat) (g : Bool) (a b : List Nat) : ∀ (f i m : Nat), f ≤ i + m → i ≤ a.length → m ≤ b.length → (cuO p g a b f i m ++ (a.take (cuI p g f i m) ++ b.take (cuM p g f i m))).Perm (a.take i ++ b.take m)
  | 0, i, m, _, _, _ => List.Perm.refl _
  | f + 1, i, m, hf, hi, hm => by
    by_cases h : fst1 p g i m
    · have h2 := fst1_pos h (by omega)
      rw [cuI_in h, cuM_in h, cuO_in h, take_cut1 (l := a) (i := i) (by omega) hi, List.cons_append, List.append_assoc]
      exact ((cu_perm p g a b f (i - 1) m (by omega) (by omega) hm).cons _).trans List.perm_middle.symm
    · have h2 := fst1_neg h
      rw [cuI_out h, cuM_out h, cuO_out h, take_cut1 (l := b) (i := m) (by omega) hm, List.cons_append]
      refine ((cu_perm p g a b f i (m - 1) (by omega) hi (by omega)).cons _).trans ?_
      rw [← List.append_assoc]
      exact (List.perm_append_singleton _ _).symm
theorem cuO_congr {a' b' : List Nat} : ∀ (f i m : Nat), f ≤ i + m → (∀ j, j < i → a.getD j 0 = a'.getD j 0) → (∀ j, j < m → b.getD j 0 = b'.getD j 0) → cuO p g a b f i m = cuO p g a' b' f i m
  | 0, i, m, _, _, _ => rfl
  | f + 1, i, m, hf, ha, hb => by
    by_cases h : fst1 p g i m
    · have h2 := fst1_pos h (by omega)
      rw [cuO_in h, cuO_in h, ha _ (by omega), cuO_congr f (i - 1) m (by omega) (fun j hj => ha j (by omega)) hb]
    · have h2 := fst1_neg h
      rw [cuO_out h, cuO_out h, hb _ (by omega), cuO_congr f i (m - 1) (by omega) ha (fun j hj => hb j (by omega))]
end
theorem count_wo (k a : Nat) (l : List Nat) : (wo k l).count a = if a = k then 0 else l.count a := by
  unfold wo
  split
  · rename_i e
    subst e
    exact List.count_eq_zero_of_not_mem (by simp)
  · rename_i e
    exact List.count_filter (by simp [e])
theorem count_fr (k a : Nat) (l : List Nat) : (fr k l).count a = if a = k then 1 else l.count a := by
  unfold fr
  rw [List.count_cons, count_wo]
  by_cases e : a = k
  · subst e
    simp
  · simp only [if_neg e]
    rw [if_neg (by simpa using fun h => e h.symm)]
    rfl
theorem count_cut (l : List Nat) (n a : Nat) : (l.take n).count a + (l.drop n).count a = l.count a := by
  rw [← List.count_append, List.take_append_drop]
theorem count_in {l : List Nat} {a : Nat} : a ∈ l ↔ 0 < l.count a := List.count_pos_iff.symm
theorem count_out {l : List Nat} {a : Nat} (h : a ∉ l) : l.count a = 0 := List.count_eq_zero_of_not_mem h
theorem count_nodup {l : List Nat} : l.Nodup ↔ ∀ a, l.count a ≤ 1 := List.nodup_iff_count
structure L11 where
  c : Nat
  p : Nat
  t1 : List Nat
  t2 : List Nat
  b1 : List Nat
  b2 : List Nat
namespace L11
def keys (s : L11) : List Nat := s.t1 ++ s.t2
def ghosts (s : L11) : Nat := s.b1.length + s.b2.length
def new (n : Int) : L11 := ⟨capI n, 0, [], [], [], []⟩
def touch (s : L11) (k : Nat) : L11 := if k ∈ s.keys then ⟨s.c, s.p, wo k s.t1, fr k s.t2, s.b1, s.b2⟩ else s
def many (s : L11) (n : Nat) : Nat := s.t1.length + s.t2.length - n
def li (s : L11) (n : Nat) (g : Bool) : Nat := cuI s.p g (s.many n) s.t1.length s.t2.length
def lm (s : L11) (n : Nat) (g : Bool) : Nat := cuM s.p g (s.many n) s.t1.length s.t2.length
def cut (s : L11) (n : Nat) (g : Bool) : L11 := ⟨s.c, s.p, s.t1.take (s.li n g), s.t2.take (s.lm n g), s.t1.drop (s.li n g) ++ s.b1, s.t2.drop (s.lm n g) ++ s.b2⟩
def cutOut (s : L11) (n : Nat) (g : Bool) : List Nat := cuO s.p g s.t1 s.t2 (s.many n) s.t1.length s.t2.length
def hit (s : L11) (k : Nat) : L11 := ⟨s.c, s.p, s.t1, fr k s.t2, s.b1, s.b2⟩
def came (s : L11) (k : Nat) : L11 := ⟨s.c, s.p, fr k s.t1, s.t2, s.b1, s.b2⟩
def up (s : L11) (k : Nat) : L11 := ⟨s.c, min (s.p + max (s.b2.length / s.b1.length) 1) s.c, s.t1, s.t2, wo k s.b1, s.b2⟩
def dn (s : L11) (k : Nat) : L11 := ⟨s.c, s.p - max (s.b1.length / s.b2.length) 1, s.t1, s.t2, s.b1, wo k s.b2⟩
def less1 (s : L11) : L11 := ⟨s.c, s.p, s.t1, s.t2, s.b1.take (s.b1.length - 1), s.b2⟩
def less2 (s : L11) : L11 := ⟨s.c, s.p, s.t1, s.t2, s.b1, s.b2.take (s.b2.length - 1)⟩
def lost (s : L11) : L11 := ⟨s.c, s.p, s.t1.take (s.t1.length - 1), s.t2, s.b1, s.b2⟩
def all (s : L11) : Nat := s.t1.length + s.t2.length + s.b1.length + s.b2.length
def room (s : L11) : L11 :=
  if s.t1.length + s.b1.length < s.c then (if 2 * s.c ≤ s.all then s.less2 else s).cut (s.c - 1) false
  else if s.t1.length < s.c then s.less1.cut (s.c - 1) false
  else s.lost
def roomOut (s : L11) : List Nat :=
  if s.t1.length + s.b1.length < s.c then (if 2 * s.c ≤ s.all then s.less2 else s).cutOut (s.c - 1) false
  else if s.t1.length < s.c then s.less1.cutOut (s.c - 1) false
  else [s.t1.getD (s.t1.length - 1) 0]
def adm (s : L11) (k : Nat) : L11 :=
  if k ∈ s.keys then s else if k ∈ s.b1 then ((s.up k).cut (s.c - 1) false).hit k else if k ∈ s.b2 then ((s.dn k).cut (s.c - 1) true).hit k else s.room.came k
def admitOut (s : L11) (k : Nat) : List Nat :=
  if k ∈ s.keys then [] else if k ∈ s.b1 then (s.up k).cutOut (s.c - 1) false else if k ∈ s.b2 then (s.dn k).cutOut (s.c - 1) true else s.roomOut
def drop (s : L11) (k : Nat) : L11 := ⟨s.c, s.p, wo k s.t1, wo k s.t2, wo k s.b1, wo k s.b2⟩
def sized (s : L11) (n : Nat) : L11 := ⟨n, min s.p n, s.t1, s.t2, s.b1, s.b2⟩
def fall (s : L11) : L11 := ⟨s.c, s.p, s.t1, s.t2, s.b1.take (s.c - s.t1.length), s.b2.take (s.c - (s.b1.take (s.c - s.t1.length)).length)⟩
def resize (s : L11) (n : Int) : L11 := ((s.sized (capI n)).cut (capI n) false).fall
def resizeOut (s : L11) (n : Int) : List Nat := (s.sized (capI n)).cutOut (capI n) false
def act (s : L11) (x : Act8) : L11 := match kindA x (decide (x.key ∈ s.keys)) with
  | 1 => s.touch x.key
  | 2 => s.adm x.key
  | 3 => s.drop x.key
  | _ => s.resize (sizeA x : Nat)
def actOut (s : L11) (x : Act8) : List Nat := match kindA x (decide (x.key ∈ s.keys)) with
  | 1 => []
  | 2 => s.admitOut x.key
  | 3 => []
  | _ => s.resizeOut (sizeA x : Nat)
def cnt (s : L11) (a : Nat) : Nat := s.t1.count a + s.t2.count a + s.b1.count a + s.b2.count a
structure Fine (s : L11) : Prop where
  one : ∀ a, s.cnt a ≤ 1
  key : ∀ a, 0 < s.cnt a → a < 18446744073709551616
structure Ok (s : L11) : Prop where
  pos : 1 ≤ s.c
  cap : s.c ≤ 1048576
  fine : s.Fine
  pc : s.p ≤ s.c
  len : s.t1.length + s.t2.length ≤ s.c
  one : s.t1.length + s.b1.length ≤ s.c
  gone : s.b1.length + s.b2.length ≤ s.c
variable {s : L11}
theorem Fine.of {t : L11} (h : s.Fine) (hc : ∀ a, t.cnt a ≤ s.cnt a) : t.Fine := ⟨fun a => Nat.le_trans (hc a) (h.one a), fun a ha => h.key a (Nat.lt_of_lt_of_le ha (hc a))⟩
theorem keys_cnt (s : L11) (a : Nat) : s.keys.count a = s.t1.count a + s.t2.count a := List.count_append
theorem keys_in (s : L11) (a : Nat) : a ∈ s.keys ↔ 0 < s.t1.count a + s.t2.count a := by rw [← keys_cnt]; exact count_in
theorem Fine.t1Nd (h : s.Fine) : s.t1.Nodup := count_nodup.2 (fun a => by have := h.one a; unfold cnt at this; omega)
theorem Fine.t2Nd (h : s.Fine) : s.t2.Nodup := count_nodup.2 (fun a => by have := h.one a; unfold cnt at this; omega)
theorem Fine.b1Nd (h : s.Fine) : s.b1.Nodup := count_nodup.2 (fun a => by have := h.one a; unfold cnt at this; omega)
theorem Fine.b2Nd (h : s.Fine) : s.b2.Nodup := count_nodup.2 (fun a => by have := h.one a; unfold cnt at this; omega)
theorem li_le (s : L11) (n : Nat) (g : Bool) : s.li n g ≤ s.t1.length := (cu_le _ _ _ _ _).1
theorem lm_le (s : L11) (n : Nat) (g : Bool) : s.lm n g ≤ s.t2.length := (cu_le _ _ _ _ _).2
theorem many_le (s : L11) (n : Nat) : s.many n ≤ s.t1.length + s.t2.length := by unfold many; omega
theorem l_sum (s : L11) (n : Nat) (g : Bool) : s.li n g + s.lm n g + s.many n = s.t1.length + s.t2.length := cu_sum _ _ _ _ _ (s.many_le n)
theorem cut_cnt (s : L11) (n : Nat) (g : Bool) (a : Nat) : (s.cut n g).cnt a = s.cnt a := by
  have h1 := count_cut s.t1 (s.li n g) a
  have h2 := count_cut s.t2 (s.lm n g) a
  unfold cnt cut
  simp only [List.count_append]
  omega
theorem cut_keys (s : L11) (n : Nat) (g : Bool) : (s.cutOut n g ++ (s.cut n g).keys).Perm s.keys := by
  have h := cu_perm s.p g s.t1 s.t2 (s.many n) s.t1.length s.t2.length (s.many_le n) (Nat.le_refl _) (Nat.le_refl _)
  rw [List.take_length, List.take_length] at h
  exact h
theorem cutOut_len (s : L11) (n : Nat) (g : Bool) : (s.cutOut n g).length = s.many n := cuO_len _ _ _ _ _ _ _
theorem cut_lens (s : L11) (n : Nat) (g : Bool) : (s.cut n g).t1.length = s.li n g ∧ (s.cut n g).t2.length = s.lm n g ∧ (s.cut n g).b1.length = s.t1.length - s.li n g + s.b1.length ∧ (s.cut n g).b2.length = s.t2.length - s.lm n g + s.b2.length := by
  have h1 := s.li_le n g
  have h2 := s.lm_le n g
  refine ⟨?_, ?_, ?_, ?_⟩
  · show (s.t1.take (s.li n g)).length = _
    rw [List.length_take]
    omega
  · show (s.t2.take (s.lm n g)).length = _
    rw [List.length_take]
    omega
  · show (s.t1.drop (s.li n g) ++ s.b1).length = _
    rw [List.length_append, List.length_drop]
  · show (s.t2.drop (s.lm n g) ++ s.b2).length = _
    rw [List.length_append, List.length_drop]
theorem ok_cut {n : Nat} (h : s.Fine) (g : Bool) (h1 : 1 ≤ s.c) (h2 : s.c ≤ 1048576) (hp : s.p ≤ s.c) (h3 : s.t1.length + s.t2.length ≤ s.c) (h4 : s.t1.length + s.b1.length ≤ s.c) (h5 : s.many n + (s.b1.length + s.b2.length) ≤ s.c) : (s.cut n g).Ok := by
  obtain ⟨e1, e2, e3, e4⟩ := s.cut_lens n g
  have l1 := s.li_le n g
  have l2 := s.lm_le n g
  have l3 := s.l_sum n g
  refine ⟨h1, h2, h.of (fun a => Nat.le_of_eq (s.cut_cnt n g a)), hp, ?_, ?_, ?_⟩
  · rw [e1, e2]
    show _ ≤ s.c
    omega
  · rw [e1, e3]
    show _ ≤ s.c
    omega
  · rw [e3, e4]
    show _ ≤ s.c
    omega
theorem Ok.keysLen (h : s.Ok) : s.keys.length ≤ 100000000 := by have := h.len; have := h.cap; unfold L11.keys; rw [List.length_append]; omega
theorem Ok.len_t1 (h : s.Ok) : s.t1.length ≤ 100000000 := by have := h.len; have := h.cap; omega
theorem Ok.len_t2 (h : s.Ok) : s.t2.length ≤ 100000000 := by have := h.len; have := h.cap; omega
theorem Ok.len_b1 (h : s.Ok) : s.b1.length ≤ 100000000 := by have := h.one; have := h.cap; omega
theorem Ok.len_b2 (h : s.Ok) : s.b2.length ≤ 100000000 := by have := h.gone; have := h.cap; omega
theorem ok_new (n : Int) : (new n).Ok := ⟨(capI_pos n).1, (capI_pos n).2, ⟨fun a => by simp [new, cnt], fun k hk => by simp [new, cnt] at hk⟩, by simp [new], by simp [new], by simp [new], by simp [new]⟩
theorem wo_len_in {l : List Nat} (h : l.Nodup) {k : Nat} (hk : k ∈ l) : (wo k l).length + 1 = l.length := by
  have := wo_count8 h k
  have := List.length_pos_of_mem hk
  rw [if_pos hk] at *
  omega
theorem fr_len_out {l : List Nat} {k : Nat} (hk : k ∉ l) : (fr k l).length = l.length + 1 := by
  unfold fr
  rw [wo_none8 hk]
  rfl
theorem fr_len_one {l : List Nat} {k : Nat} (h : l.Nodup) (hk : k ∈ l) : (fr k l).length = l.length := by
  have := wo_len_in h hk
  unfold fr
  rw [List.length_cons]
  omega
theorem touch_lens (h : s.Fine) {k : Nat} (hk : k ∈ s.keys) : (wo k s.t1).length + (fr k s.t2).length = s.t1.length + s.t2.length ∧ (wo k s.t1).length ≤ s.t1.length := by
  have h1 := h.one k
  unfold cnt at h1
  have hw := wo_len k s.t1
  have hk2 := (keys_in s k).1 hk
  by_cases e : k ∈ s.t1
  · have h3 := count_in.1 e
    have h4 : k ∉ s.t2 := fun hm => by have := count_in.1 hm; omega
    have h5 := wo_len_in h.t1Nd e
    have h6 := fr_len_out h4
    omega
  · have h3 := count_out e
    have h4 : k ∈ s.t2 := count_in.2 (by omega)
    have h5 := wo_none8 e
    have h6 := fr_len_one h.t2Nd h4
    rw [h5]
    omega
theorem touch_cnt (s : L11) {k : Nat} (hk : k ∈ s.keys) (h : s.Fine) (a : Nat) : (s.touch k).cnt a = s.cnt a := by
  have h1 := h.one k
  have h2 := (keys_in s k).1 hk
  unfold touch
  rw [if_pos hk]
  unfold cnt at h1 ⊢
  simp only [count_wo, count_fr]
  by_cases e : a = k
  · subst e
    simp only [if_true]
    omega
  · simp only [if_neg e]
theorem Ok.touch (h : s.Ok) (k : Nat) : (s.touch k).Ok := by
  by_cases hk : k ∈ s.keys
  · have hf := h.fine.of (fun a => Nat.le_of_eq (s.touch_cnt hk h.fine a))
    obtain ⟨l1, l2⟩ := touch_lens h.fine hk
    have := h.len
    have := h.one
    unfold L11.touch at hf ⊢
    rw [if_pos hk] at hf ⊢
    exact ⟨h.pos, h.cap, hf, h.pc, by show (wo k s.t1).length + (fr k s.t2).length ≤ s.c; omega, by show (wo k s.t1).length + s.b1.length ≤ s.c; omega, h.gone⟩
  · unfold L11.touch
    rw [if_neg hk]
    exact h
theorem hit_cnt (s : L11) (k a : Nat) : (s.hit k).cnt a = if a = k then s.cnt a - s.t2.count a + 1 else s.cnt a := by
  unfold cnt hit
  simp only [count_fr]
  by_cases e : a = k
  · simp only [if_pos e]
    omega
  · simp only [if_neg e]
theorem came_cnt (s : L11) (k a : Nat) : (s.came k).cnt a = if a = k then s.cnt a - s.t1.count a + 1 else s.cnt a := by
  unfold cnt came
  simp only [count_fr]
  by_cases e : a = k
  · simp only [if_pos e]
    omega
  · simp only [if_neg e]
theorem Fine.hit {k : Nat} (h : s.Fine) (hk : s.cnt k = 0) (hb : k < 18446744073709551616) : (s.hit k).Fine := by
  refine ⟨fun a => ?_, fun a ha => ?_⟩
  · rw [hit_cnt]
    have := h.one a
    split
    · rename_i e
      subst e
      omega
    · exact this
  · rw [hit_cnt] at ha
    split at ha
    · rename_i e
      rw [e]
      exact hb
    · exact h.key a ha
theorem Fine.came {k : Nat} (h : s.Fine) (hk : s.cnt k = 0) (hb : k < 18446744073709551616) : (s.came k).Fine := by
  refine ⟨fun a => ?_, fun a ha => ?_⟩
  · rw [came_cnt]
    have := h.one a
    split
    · rename_i e
      subst e
      omega
    · exact this
  · rw [came_cnt] at ha
    split at ha
    · rename_i e
      rw [e]
      exact hb
    · exact h.key a ha
theorem cnt_le2 {k : Nat} (h : s.cnt k = 0) : k ∉ s.t1 ∧ k ∉ s.t2 ∧ k ∉ s.b1 ∧ k ∉ s.b2 := by
  unfold cnt at h
  refine ⟨fun hm => ?_, fun hm => ?_, fun hm => ?_, fun hm => ?_⟩ <;> (have := count_in.1 hm; omega)
theorem Ok.hit {k : Nat} (h : s.Ok) (hk : s.cnt k = 0) (hb : k < 18446744073709551616) (hl : s.t1.length + s.t2.length + 1 ≤ s.c) : (s.hit k).Ok := by
  have h2 := fr_len_out (cnt_le2 hk).2.1
  exact ⟨h.pos, h.cap, h.fine.hit hk hb, h.pc, by show s.t1.length + (fr k s.t2).length ≤ s.c; omega, h.one, h.gone⟩
theorem Ok.came {k : Nat} (h : s.Ok) (hk : s.cnt k = 0) (hb : k < 18446744073709551616) (hl : s.t1.length + s.t2.length + 1 ≤ s.c) (ho : s.t1.length + s.b1.length + 1 ≤ s.c) : (s.came k).Ok := by
  have h2 := fr_len_out (cnt_le2 hk).1
  exact ⟨h.pos, h.cap, h.fine.came hk hb, h.pc, by show (fr k s.t1).length + s.t2.length ≤ s.c; omega, by show (fr k s.t1).length + s.b1.length ≤ s.c; omega, h.gone⟩
theorem take_cnt (l : List Nat) (n a : Nat) : (l.take n).count a ≤ l.count a := by have := count_cut l n a; omega
theorem up_cnt (s : L11) (k a : Nat) : (s.up k).cnt a = if a = k then s.cnt a - s.b1.count a else s.cnt a := by
  unfold cnt up
  simp only [count_wo]
  by_cases e : a = k
  · simp only [if_pos e]
    omega
  · simp only [if_neg e]
theorem dn_cnt (s : L11) (k a : Nat) : (s.dn k).cnt a = if a = k then s.cnt a - s.b2.count a else s.cnt a := by
  unfold cnt dn
  simp only [count_wo]
  by_cases e : a = k
  · simp only [if_pos e]
    omega
  · simp only [if_neg e]
theorem Fine.up (h : s.Fine) (k : Nat) : (s.up k).Fine := h.of (fun a => by rw [up_cnt]; split <;> omega)
theorem Fine.dn (h : s.Fine) (k : Nat) : (s.dn k).Fine := h.of (fun a => by rw [dn_cnt]; split <;> omega)
theorem Fine.less1 (h : s.Fine) : s.less1.Fine := h.of (fun a => by have := take_cnt s.b1 (s.b1.length - 1) a; unfold cnt L11.less1; simp only; omega)
theorem Fine.less2 (h : s.Fine) : s.less2.Fine := h.of (fun a => by have := take_cnt s.b2 (s.b2.length - 1) a; unfold cnt L11.less2; simp only; omega)
theorem Fine.lost (h : s.Fine) : s.lost.Fine := h.of (fun a => by have := take_cnt s.t1 (s.t1.length - 1) a; unfold cnt L11.lost; simp only; omega)
theorem Fine.sized (h : s.Fine) (n : Nat) : (s.sized n).Fine := h.of (fun _ => Nat.le_refl _)
theorem Fine.fall (h : s.Fine) : s.fall.Fine := h.of (fun a => by have := take_cnt s.b1 (s.c - s.t1.length) a; have := take_cnt s.b2 (s.c - (s.b1.take (s.c - s.t1.length)).length) a; unfold cnt L11.fall; simp only; omega)
theorem Ok.many_le (h : s.Ok) : s.many (s.c - 1) ≤ 1 := by have := h.len; have := h.pos; unfold L11.many; omega
theorem Ok.cut_room (h : s.Ok) (g : Bool) : (s.cut (s.c - 1) g).t1.length + (s.cut (s.c - 1) g).t2.length + 1 ≤ s.c := by
  obtain ⟨e1, e2, -, -⟩ := s.cut_lens (s.c - 1) g
  have l3 := s.l_sum (s.c - 1) g
  have := h.len
  have := h.pos
  rw [e1, e2]
  unfold many at l3
  omega
theorem cut_one (s : L11) (n : Nat) (g : Bool) : (s.cut n g).t1.length + (s.cut n g).b1.length = s.t1.length + s.b1.length := by
  obtain ⟨e1, -, e3, -⟩ := s.cut_lens n g
  have l1 := s.li_le n g
  rw [e1, e3]
  omega
structure Room (s t : L11) : Prop where
  ok : t.Ok
  c : t.c = s.c
  p : t.p = s.p
  cnt : ∀ a, t.cnt a ≤ s.cnt a
  len : t.t1.length + t.t2.length + 1 ≤ s.c
  one : t.t1.length + t.b1.length + 1 ≤ s.c
theorem Ok.room (h : s.Ok) : Room s s.room := by
  have hp := h.pos
  have hl := h.len
  have ho := h.one
  have hg := h.gone
  have hcap := h.cap
  have hpc := h.pc
  unfold L11.room
  split
  · rename_i h1
    split
    · rename_i h2
      unfold L11.all at h2
      have hl2 : s.less2.b2.length + 1 = s.b2.length := by
        show (s.b2.take (s.b2.length - 1)).length + 1 = _
        rw [List.length_take]
        omega
      have hok : s.less2.Ok := ⟨hp, hcap, h.fine.less2, hpc, hl, ho, by show s.b1.length + s.less2.b2.length ≤ s.c; omega⟩
      have hm : s.less2.many (s.c - 1) ≤ 1 := hok.many_le
      have hc := ok_cut (n := s.c - 1) hok.fine false hp hcap hpc hl ho (by show _ + (s.b1.length + s.less2.b2.length) ≤ s.c; omega)
      refine ⟨hc, rfl, rfl, fun a => ?_, hok.cut_room false, ?_⟩
      · rw [cut_cnt]
        have := take_cnt s.b2 (s.b2.length - 1) a
        unfold L11.cnt L11.less2
        simp only
        omega
      · rw [cut_one]
        show s.t1.length + s.b1.length + 1 ≤ s.c
        omega
    · rename_i h2
      unfold L11.all at h2
      have hm : s.many (s.c - 1) = s.t1.length + s.t2.length - (s.c - 1) := rfl
      have hc := ok_cut (n := s.c - 1) h.fine false hp hcap hpc hl ho (by omega)
      refine ⟨hc, rfl, rfl, fun a => Nat.le_of_eq (cut_cnt _ _ _ _), h.cut_room false, ?_⟩
      rw [cut_one]
      omega
  · rename_i h1
    split
    · rename_i h2
      have hl1 : s.less1.b1.length + 1 = s.b1.length := by
        show (s.b1.take (s.b1.length - 1)).length + 1 = _
        rw [List.length_take]
        omega
      have hok : s.less1.Ok := ⟨hp, hcap, h.fine.less1, hpc, hl, by show s.t1.length + s.less1.b1.length ≤ s.c; omega, by show s.less1.b1.length + s.b2.length ≤ s.c; omega⟩
      have hm : s.less1.many (s.c - 1) ≤ 1 := hok.many_le
      have hc := ok_cut (n := s.c - 1) hok.fine false hp hcap hpc hl hok.one (by show _ + (s.less1.b1.length + s.b2.length) ≤ s.c; omega)
      refine ⟨hc, rfl, rfl, fun a => ?_, hok.cut_room false, ?_⟩
      · rw [cut_cnt]
        have := take_cnt s.b1 (s.b1.length - 1) a
        unfold L11.cnt L11.less1
        simp only
        omega
      · rw [cut_one]
        show s.t1.length + s.less1.b1.length + 1 ≤ s.c
        omega
    · rename_i h2
      have hl1 : s.lost.t1.length + 1 = s.t1.length := by
        show (s.t1.take (s.t1.length - 1)).length + 1 = _
        rw [List.length_take]
        omega
      refine ⟨⟨hp, hcap, h.fine.lost, hpc, by show s.lost.t1.length + s.t2.length ≤ s.c; omega, by show s.lost.t1.length + s.b1.length ≤ s.c; omega, hg⟩, rfl, rfl, fun a => ?_, by show s.lost.t1.length + s.t2.length + 1 ≤ s.c; omega, by show s.lost.t1.length + s.b1.length + 1 ≤ s.c; omega⟩
      have := take_cnt s.t1 (s.t1.length - 1) a
      unfold L11.cnt L11.lost
      simp only
      omega
theorem up_ok (h : s.Ok) {k : Nat} (hk : k ∈ s.b1) : (s.up k).Ok ∧ (s.up k).b1.length + 1 = s.b1.length := by
  have h1 : (wo k s.b1).length + 1 = s.b1.length := wo_len_in h.fine.b1Nd hk
  have := h.one
  have := h.gone
  exact ⟨⟨h.pos, h.cap, h.fine.up k, Nat.min_le_right _ _, h.len, by show s.t1.length + (wo k s.b1).length ≤ s.c; omega, by show (wo k s.b1).length + s.b2.length ≤ s.c; omega⟩, h1⟩
theorem dn_ok (h : s.Ok) {k : Nat} (hk : k ∈ s.b2) : (s.dn k).Ok ∧ (s.dn k).b2.length + 1 = s.b2.length := by
  have h1 : (wo k s.b2).length + 1 = s.b2.length := wo_len_in h.fine.b2Nd hk
  have := h.pc
  have := h.gone
  exact ⟨⟨h.pos, h.cap, h.fine.dn k, by show s.p - _ ≤ s.c; omega, h.len, h.one, by show s.b1.length + (wo k s.b2).length ≤ s.c; omega⟩, h1⟩
theorem again_ok (h : s.Ok) {k : Nat} (hk : s.cnt k = 0) {t : L11} (e : s.b1.length + s.b2.length + 1 ≤ s.c) (g : Bool) (ht : s.cut (s.c - 1) g = t) : t.Ok ∧ t.cnt k = 0 ∧ t.t1.length + t.t2.length + 1 ≤ t.c := by
  have hm := h.many_le
  subst ht
  exact ⟨ok_cut h.fine g h.pos h.cap h.pc h.len h.one (by omega), by rw [cut_cnt]; exact hk, h.cut_room g⟩
theorem up_none (h : s.Fine) {k : Nat} (hk : k ∈ s.b1) : (s.up k).cnt k = 0 := by
  rw [up_cnt, if_pos rfl]
  have h1 := h.one k
  have h2 := count_in.1 hk
  unfold cnt at h1 ⊢
  omega
theorem dn_none (h : s.Fine) {k : Nat} (hk : k ∈ s.b2) : (s.dn k).cnt k = 0 := by
  rw [dn_cnt, if_pos rfl]
  have h1 := h.one k
  have h2 := count_in.1 hk
  unfold cnt at h1 ⊢
  omega
theorem none_in {k : Nat} (h : k ∉ s.keys) (h1 : k ∉ s.b1) (h2 : k ∉ s.b2) : s.cnt k = 0 := by
  have e1 : ¬ 0 < s.t1.count k + s.t2.count k := fun hh => h ((keys_in s k).2 hh)
  have e2 := count_out h1
  have e3 := count_out h2
  unfold cnt
  omega
theorem Ok.adm (h : s.Ok) (k : Nat) (hk : k < 18446744073709551616) : (s.adm k).Ok := by
  unfold L11.adm
  split
  · exact h
  · rename_i hn
    split
    · rename_i h1
      obtain ⟨ho, hl⟩ := up_ok h h1
      have hg := h.gone
      obtain ⟨q1, q2, q3⟩ := again_ok ho (up_none h.fine h1) (by show (s.up k).b1.length + s.b2.length + 1 ≤ s.c; omega) false rfl
      exact q1.hit q2 hk q3
    · rename_i h1
      split
      · rename_i h2
        obtain ⟨ho, hl⟩ := dn_ok h h2
        have hg := h.gone
        obtain ⟨q1, q2, q3⟩ := again_ok ho (dn_none h.fine h2) (by show s.b1.length + (s.dn k).b2.length + 1 ≤ s.c; omega) true rfl
        exact q1.hit q2 hk q3
      · rename_i h2
        have hr := h.room
        have h0 := hr.cnt k
        rw [none_in hn h1 h2] at h0
        exact hr.ok.came (by omega) hk (by rw [hr.c]; exact hr.len) (by rw [hr.c]; exact hr.one)
theorem Ok.drop (h : s.Ok) (k : Nat) : (s.drop k).Ok := by
  have h1 := wo_len k s.t1
  have h2 := wo_len k s.t2
  have h3 := wo_len k s.b1
  have h4 := wo_len k s.b2
  have := h.len
  have := h.one
  have := h.gone
  refine ⟨h.pos, h.cap, h.fine.of (fun a => ?_), h.pc, by show (wo k s.t1).length + (wo k s.t2).length ≤ s.c; omega, by show (wo k s.t1).length + (wo k s.b1).length ≤ s.c; omega, by show (wo k s.b1).length + (wo k s.b2).length ≤ s.c; omega⟩
  unfold cnt L11.drop
  simp only [count_wo]
  split <;> omega
theorem fall_lens (s : L11) : s.fall.b1.length ≤ s.c - s.t1.length ∧ s.fall.b2.length ≤ s.c - s.fall.b1.length := by
  unfold fall
  simp only [List.length_take]
  omega
theorem Ok.resize (h : s.Ok) (n : Int) : (s.resize n).Ok := by
  obtain ⟨e1, e2, e3, e4⟩ := (s.sized (capI n)).cut_lens (capI n) false
  have l3 := (s.sized (capI n)).l_sum (capI n) false
  have hm : (s.sized (capI n)).many (capI n) = (s.sized (capI n)).t1.length + (s.sized (capI n)).t2.length - capI n := rfl
  obtain ⟨f1, f2⟩ := ((s.sized (capI n)).cut (capI n) false).fall_lens
  have hf : ((s.sized (capI n)).cut (capI n) false).Fine := (h.fine.sized _).of (fun a => Nat.le_of_eq (cut_cnt _ _ _ _))
  unfold L11.resize
  have hc : ((s.sized (capI n)).cut (capI n) false).c = capI n := rfl
  have hp : ((s.sized (capI n)).cut (capI n) false).p ≤ capI n := Nat.min_le_right _ _
  generalize (s.sized (capI n)).cut (capI n) false = t at *
  have ht1 : t.fall.t1 = t.t1 := rfl
  have ht2 : t.fall.t2 = t.t2 := rfl
  exact ⟨by show 1 ≤ t.c; rw [hc]; exact (capI_pos n).1, by show t.c ≤ _; rw [hc]; exact (capI_pos n).2, hf.fall, by show t.p ≤ t.c; rw [hc]; exact hp, by show t.t1.length + t.t2.length ≤ t.c; omega, by show t.t1.length + t.fall.b1.length ≤ t.c; omega, by show t.fall.b1.length + t.fall.b2.length ≤ t.c; omega⟩
theorem Ok.act (h : s.Ok) {x : Act8} (wf : x.Ok) : (s.act x).Ok := by
  unfold L11.act
  split
  · exact h.touch _
  · exact h.adm _ wf.key
  · exact h.drop _
  · exact h.resize _
theorem act_cases (s : L11) (x : Act8) : kindA x (decide (x.key ∈ s.keys)) = 1 ∧ s.act x = s.touch x.key ∧ s.actOut x = [] ∨ kindA x (decide (x.key ∈ s.keys)) = 2 ∧ s.act x = s.adm x.key ∧ s.actOut x = s.admitOut x.key ∨
    kindA x (decide (x.key ∈ s.keys)) = 3 ∧ s.act x = s.drop x.key ∧ s.actOut x = [] ∨ kindA x (decide (x.key ∈ s.keys)) = 4 ∧ s.act x = s.resize (sizeA x : Nat) ∧ s.actOut x = s.resizeOut (sizeA x : Nat) := by
  unfold L11.act L11.actOut
  rcases kindA_is x (decide (x.key ∈ s.keys)) with h | h | h | h <;> rw [h] <;> simp
theorem roomOut_perm (h : s.Ok) : (s.roomOut ++ s.room.keys).Perm s.keys := by
  have hp := h.pos
  unfold L11.roomOut L11.room
  split
  · split
    · exact s.less2.cut_keys (s.c - 1) false
    · exact s.cut_keys (s.c - 1) false
  · split
    · exact s.less1.cut_keys (s.c - 1) false
    · rename_i h2
      show ([s.t1.getD (s.t1.length - 1) 0] ++ (s.t1.take (s.t1.length - 1) ++ s.t2)).Perm (s.t1 ++ s.t2)
      have e := take_cut1 (l := s.t1) (i := s.t1.length) (by omega) (Nat.le_refl _)
      rw [List.take_length] at e
      rw [← List.append_assoc]
      refine List.Perm.append_right _ ?_
      conv => rhs; rw [e]
      exact List.perm_append_comm
theorem admitOut_perm (h : s.Ok) {k : Nat} (hk : k ∉ s.keys) : ∃ t : L11, (s.admitOut k ++ t.keys).Perm s.keys ∧ (s.adm k).keys.Perm (k :: t.keys) := by
  unfold L11.admitOut L11.adm
  rw [if_neg hk, if_neg hk]
  have mid : ∀ t : L11, t.cnt k = 0 → (t.hit k).keys.Perm (k :: t.keys) := fun t ht => by
    show (t.t1 ++ fr k t.t2).Perm (k :: (t.t1 ++ t.t2))
    unfold fr
    rw [wo_none8 (cnt_le2 ht).2.1]
    exact List.perm_middle
  split
  · rename_i h1
    exact ⟨_, (s.up k).cut_keys (s.c - 1) false, mid _ (by rw [cut_cnt]; exact up_none h.fine h1)⟩
  · rename_i h1
    split
    · rename_i h2
      exact ⟨_, (s.dn k).cut_keys (s.c - 1) true, mid _ (by rw [cut_cnt]; exact dn_none h.fine h2)⟩
    · rename_i h2
      refine ⟨_, roomOut_perm h, ?_⟩
      have hr := h.room
      have h0 := hr.cnt k
      rw [none_in hk h1 h2] at h0
      show (fr k s.room.t1 ++ s.room.t2).Perm (k :: (s.room.t1 ++ s.room.t2))
      unfold fr
      rw [wo_none8 (cnt_le2 (by omega)).1]
      exact List.Perm.refl _
theorem Ok.actOutLen (h : s.Ok) {x : Act8} (_ : x.Ok) : (s.actOut x).length ≤ 100000000 := by
  have h1 := h.len
  have h2 := h.cap
  have hk : s.keys.length = s.t1.length + s.t2.length := List.length_append
  rcases act_cases s x with ⟨_, _, e⟩ | ⟨_, _, e⟩ | ⟨_, _, e⟩ | ⟨_, _, e⟩
  · rw [e]; simp
  · rw [e]
    by_cases hin : x.key ∈ s.keys
    · unfold L11.admitOut; rw [if_pos hin]; simp
    · obtain ⟨t, hp, _⟩ := admitOut_perm h hin
      have := hp.length_eq
      rw [List.length_append] at this
      omega
  · rw [e]; simp
  · rw [e]
    unfold L11.resizeOut
    rw [cutOut_len]
    have := (s.sized (capI (sizeA x : Nat))).many_le (capI (sizeA x : Nat))
    have e1 : (s.sized (capI (sizeA x : Nat))).t1 = s.t1 := rfl
    have e2 : (s.sized (capI (sizeA x : Nat))).t2 = s.t2 := rfl
    rw [e1, e2] at this
    omega
end L11
abbrev l11C (c : Nat) (p : Nat) (u_t1 : Value) (u_t2 : Value) (u_b1 : Value) (u_b2 : Value) : Array Value := #[(.int .i64 (c : Nat)), (.int .i64 (p : Nat)), u_t1, u_t2, u_b1, u_b2]
abbrev z11 : Array Value := #[.int .i64 0, .int .i64 0, .slice none 0 0, .slice none 0 0, .slice none 0 0, .slice none 0 0]
abbrev T11 : TypeId := 28
structure St11 (w : World) (s : L11) (u1 u2 u3 u4 : Value) : Prop where
  g1 : KV w u1 s.t1
  g2 : KV w u2 s.t2
  g3 : KV w u3 s.b1
  g4 : KV w u4 s.b2
section
variable {w w' : World} {s : L11} {u1 u2 u3 u4 : Value}
theorem St11.form1 (h : St11 w s u1 u2 u3 u4) : ∃ F n c, u1 = .slice F n c := h.g1.form
theorem St11.form2 (h : St11 w s u1 u2 u3 u4) : ∃ F n c, u2 = .slice F n c := h.g2.form
theorem St11.form3 (h : St11 w s u1 u2 u3 u4) : ∃ F n c, u3 = .slice F n c := h.g3.form
theorem St11.form4 (h : St11 w s u1 u2 u3 u4) : ∃ F n c, u4 = .slice F n c := h.g4.form
theorem St11.below (h : St11 w s u1 u2 u3 u4) (hb : Below w.heap.size w w') : St11 w' s u1 u2 u3 u4 := ⟨h.g1.below hb, h.g2.below hb, h.g3.below hb, h.g4.below hb⟩
theorem Bo.st11 {w0 : World} {T : TypeId} {b r : Nat} {cs zs : Array Value} (hb : Bo w0 w T b r cs zs) (ho : Only [b, r] w w') (h : St11 w s u1 u2 u3 u4) : St11 w' s u1 u2 u3 u4 := ⟨hb.kv ho h.g1, hb.kv ho h.g2, hb.kv ho h.g3, hb.kv ho h.g4⟩
theorem Bp.st11 {w0 : World} {T U : TypeId} {b r : Nat} {cs zs : Array Value} (hb : Bp w0 w T U b r cs zs) (ho : Only [b, r] w w') (h : St11 w s u1 u2 u3 u4) : St11 w' s u1 u2 u3 u4 := ⟨hb.kv ho h.g1, hb.kv ho h.g2, hb.kv ho h.g3, hb.kv ho h.g4⟩
end
def P11 (w : World) (s : L11) (e : Ending) (w' : World) : Prop := ∃ u1 u2 u3 u4, e = .returned (.agg (l11C s.c s.p u1 u2 u3 u4)) ∧ Below w.heap.size w w' ∧ St11 w' s u1 u2 u3 u4
def P11o (w : World) (s : L11) (out : List Nat) (e : Ending) (w' : World) : Prop := ∃ u1 u2 u3 u4 o, e = .returned (.tuple #[.agg (l11C s.c s.p u1 u2 u3 u4), o]) ∧ Below w.heap.size w w' ∧ St11 w' s u1 u2 u3 u4 ∧ KV w' o out
theorem B11.start (w : World) (c : Nat) (p : Nat) (F1 : Option Addr) (n1 d1 : Nat) (F2 : Option Addr) (n2 d2 : Nat) (F3 : Option Addr) (n3 d3 : Nat) (F4 : Option Addr) (n4 d4 : Nat) : Bo w ((w.alloc (.cells (l11C c p (.slice F1 n1 d1) (.slice F2 n2 d2) (.slice F3 n3 d3) (.slice F4 n4 d4)) T11)).alloc (.cells z11 T11)) T11 w.heap.size (w.heap.size + 1) (l11C c p (.slice F1 n1 d1) (.slice F2 n2 d2) (.slice F3 n3 d3) (.slice F4 n4 d4)) z11 :=
  Bo.start w T11 _ _ rfl rfl (by decide)
abbrev PT11 : TypeId := 39
end Go.Proofs.Ytgkblelgcikafaa
