/- Words and walks: TqP TqB TqO TqV TqR. -/
import Derived.Test.YtcjcddlflincdaaG15
import Derived.Test.YtcjcddlflincdaaG16
namespace Go.Proofs.Ytcjcddlflincdaa
open Go Go.RowKit Go.Deep
def kin9 (c : Nat) : Nat := max (c / 4) 1
def rcI (kn : Nat) : Nat → Nat → Nat → Nat
  | 0, i, _ => i
  | f + 1, i, m => if kn < i ∨ m = 0 then rcI kn f (i - 1) m else rcI kn f i (m - 1)
def rcM (kn : Nat) : Nat → Nat → Nat → Nat
  | 0, _, m => m
  | f + 1, i, m => if kn < i ∨ m = 0 then rcM kn f (i - 1) m else rcM kn f i (m - 1)
def rcO (kn : Nat) (a b : List Nat) : Nat → Nat → Nat → List Nat
  | 0, _, _ => []
  | f + 1, i, m => if kn < i ∨ m = 0 then a.getD (i - 1) 0 :: rcO kn a b f (i - 1) m else b.getD (m - 1) 0 :: rcO kn a b f i (m - 1)
section
variable {kn : Nat} {a b : List Nat}
theorem rcI_in {f i m : Nat} (h : kn < i ∨ m = 0) : rcI kn (f + 1) i m = rcI kn f (i - 1) m := by rw [rcI, if_pos h]
theorem rcI_main {f i m : Nat} (h : ¬ (kn < i ∨ m = 0)) : rcI kn (f + 1) i m = rcI kn f i (m - 1) := by rw [rcI, if_neg h]
theorem rcM_in {f i m : Nat} (h : kn < i ∨ m = 0) : rcM kn (f + 1) i m = rcM kn f (i - 1) m := by rw [rcM, if_pos h]
theorem rcM_main {f i m : Nat} (h : ¬ (kn < i ∨ m = 0)) : rcM kn (f + 1) i m = rcM kn f i (m - 1) := by rw [rcM, if_neg h]
theorem rcO_in {f i m : Nat} (h : kn < i ∨ m = 0) : rcO kn a b (f + 1) i m = a.getD (i - 1) 0 :: rcO kn a b f (i - 1) m := by rw [rcO, if_pos h]
theorem rcO_main {f i m : Nat} (h : ¬ (kn < i ∨ m = 0)) : rcO kn a b (f + 1) i m = b.getD (m - 1) 0 :: rcO kn a b f i (m - 1) := by rw [rcO, if_neg h]
theorem rc_le (kn : Nat) : ∀ (f i m : Nat), rcI kn f i m ≤ i ∧ rcM kn f i m ≤ m
  | 0, i, m => ⟨Nat.le_refl _, Nat.le_refl _⟩
  | f + 1, i, m => by
    by_cases h : kn < i ∨ m = 0
    · rw [rcI_in h, rcM_in h]
      have := rc_le kn f (i - 1) m
      omega
    · rw [rcI_main h, rcM_main h]
      have := rc_le kn f i (m - 1)
      omega
theorem rc_sum (kn : Nat) : ∀ (f i m : Nat), f ≤ i + m → rcI kn f i m + rcM kn f i m + f = i + m
  | 0, i, m, _ => by simp [rcI, rcM]
  | f + 1, i, m, hf => by
    by_cases h : kn < i ∨ m = 0
    · rw [rcI_in h, rcM_in h]
      have := rc_sum kn f (i - 1) m (by omega)
      omega
    · rw [rcI_main h, rcM_main h]
      have := rc_sum kn f i (m - 1) (by omega)
      omega
theorem rcO_len (kn : Nat) (a b : List Nat) : ∀ (f i m : Nat), (rcO kn a b f i m).length = f
  | 0, i, m => rfl
  | f + 1, i, m => by
    by_cases h : kn < i ∨ m = 0
    · rw [rcO_in h, List.length_cons, rcO_len kn a b f]
    · rw [rcO_main h, List.length_cons, rcO_len kn a b f]
end
structure L9 where
  c : Nat
  inn : List Nat
  out : List Nat
  main : List Nat
namespace L9
def keys (s : L9) : List Nat := s.inn ++ s.main
def ghosts (s : L9) : Nat := s.out.length
def new (n : Int) : L9 := ⟨capI n, [], [], []⟩
def touch (s : L9) (k : Nat) : L9 := if k ∈ s.main then ⟨s.c, s.inn, s.out, fr k s.main⟩ else s
def many (s : L9) (N : Nat) : Nat := s.inn.length + s.main.length - N
def li (s : L9) (N : Nat) : Nat := rcI (kin9 s.c) (s.many N) s.inn.length s.main.length
def lm (s : L9) (N : Nat) : Nat := rcM (kin9 s.c) (s.many N) s.inn.length s.main.length
def shr (s : L9) (N : Nat) : L9 := ⟨s.c, s.inn.take (s.li N), (s.inn.drop (s.li N) ++ s.out).take (s.c / 2), s.main.take (s.lm N)⟩
def shrOut (s : L9) (N : Nat) : List Nat := rcO (kin9 s.c) s.inn s.main (s.many N) s.inn.length s.main.length
def forget (s : L9) (k : Nat) : L9 := ⟨s.c, s.inn, wo k s.out, s.main⟩
def come (t : L9) (k : Nat) (again : Bool) : L9 := if again then ⟨t.c, t.inn, t.out, fr k t.main⟩ else ⟨t.c, fr k t.inn, t.out, t.main⟩
def adm (s : L9) (k : Nat) : L9 := if k ∈ s.keys then s else ((s.forget k).shr (s.c - 1)).come k (decide (k ∈ s.out))
def admitOut (s : L9) (k : Nat) : List Nat := if k ∈ s.keys then [] else (s.forget k).shrOut (s.c - 1)
def drop (s : L9) (k : Nat) : L9 := ⟨s.c, wo k s.inn, wo k s.out, wo k s.main⟩
def sized (s : L9) (n : Nat) : L9 := ⟨n, s.inn, s.out, s.main⟩
def resize (s : L9) (n : Int) : L9 := (s.sized (capI n)).shr (capI n)
def resizeOut (s : L9) (n : Int) : List Nat := (s.sized (capI n)).shrOut (capI n)
def act (s : L9) (x : Act8) : L9 := match kindA x (decide (x.key ∈ s.keys)) with
  | 1 => s.touch x.key
  | 2 => s.adm x.key
  | 3 => s.drop x.key
  | _ => s.resize (sizeA x : Nat)
def actOut (s : L9) (x : Act8) : List Nat := match kindA x (decide (x.key ∈ s.keys)) with
  | 1 => []
  | 2 => s.admitOut x.key
  | 3 => []
  | _ => s.resizeOut (sizeA x : Nat)
structure Fine (s : L9) : Prop where
  nd : (s.inn ++ s.out ++ s.main).Nodup
  key : ∀ k ∈ s.inn ++ s.out ++ s.main, k < 18446744073709551616
structure Ok (s : L9) : Prop where
  pos : 1 ≤ s.c
  cap : s.c ≤ 1048576
  fine : s.Fine
  len : s.inn.length + s.main.length ≤ s.c
  olen : s.out.length ≤ s.c / 2
variable {s : L9}
theorem Fine.inNd (h : s.Fine) : s.inn.Nodup := h.nd.sublist ((List.sublist_append_left _ _).trans (List.sublist_append_left _ _))
theorem Fine.mainNd (h : s.Fine) : s.main.Nodup := h.nd.sublist (List.sublist_append_right _ _)
theorem Fine.ioNd (h : s.Fine) : (s.inn ++ s.out).Nodup := h.nd.sublist (List.sublist_append_left _ _)
theorem Fine.sub {t : L9} (h : s.Fine) (hs : (t.inn ++ t.out ++ t.main).Sublist (s.inn ++ s.out ++ s.main)) : t.Fine := ⟨h.nd.sublist hs, fun k hk => h.key k (hs.subset hk)⟩
theorem Fine.forget (h : s.Fine) (k : Nat) : (s.forget k).Fine := h.sub (((List.Sublist.refl _).append List.filter_sublist).append (List.Sublist.refl _))
theorem Fine.sized (h : s.Fine) (n : Nat) : (s.sized n).Fine := ⟨h.nd, h.key⟩
theorem Fine.shr (h : s.Fine) (N : Nat) : (s.shr N).Fine := h.sub (by
  refine List.Sublist.append ?_ (List.take_sublist _ _)
  show (s.inn.take (s.li N) ++ (s.inn.drop (s.li N) ++ s.out).take (s.c / 2)).Sublist _
  refine ((List.Sublist.refl _).append (List.take_sublist _ _)).trans ?_
  rw [← List.append_assoc, List.take_append_drop]
  exact List.Sublist.refl _)
theorem Fine.keysKey (h : s.Fine) {k : Nat} (hk : k ∈ s.keys) : k < 18446744073709551616 := h.key k (by
  simp only [keys, List.mem_append] at hk ⊢
  rcases hk with h | h
  · exact .inl (.inl h)
  · exact .inr h)
theorem li_le (s : L9) (N : Nat) : s.li N ≤ s.inn.length := (rc_le _ _ _ _).1
theorem lm_le (s : L9) (N : Nat) : s.lm N ≤ s.main.length := (rc_le _ _ _ _).2
theorem many_le (s : L9) (N : Nat) : s.many N ≤ s.inn.length + s.main.length := by unfold many; omega
theorem l_sum (s : L9) (N : Nat) : s.li N + s.lm N + s.many N = s.inn.length + s.main.length := rc_sum _ _ _ _ (s.many_le N)
theorem shr_len (s : L9) (N : Nat) : (s.shr N).inn.length + (s.shr N).main.length + s.many N = s.inn.length + s.main.length := by
  have h1 := s.li_le N
  have h2 := s.lm_le N
  have h3 := s.l_sum N
  show (s.inn.take (s.li N)).length + (s.main.take (s.lm N)).length + s.many N = _
  rw [List.length_take, List.length_take]
  omega
theorem shrOut_len (s : L9) (N : Nat) : (s.shrOut N).length = s.many N := rcO_len _ _ _ _ _ _
theorem ok_shr (h : s.Fine) (h1 : 1 ≤ s.c) (h2 : s.c ≤ 1048576) (N : Nat) (hN : N ≤ s.c) : (s.shr N).Ok := ⟨h1, h2, h.shr N, by
  have := s.shr_len N
  have h3 : s.many N = s.inn.length + s.main.length - N := rfl
  show _ ≤ s.c
  omega, by
  show ((s.inn.drop (s.li N) ++ s.out).take (s.c / 2)).length ≤ s.c / 2
  rw [List.length_take]
  omega⟩
theorem Ok.keysLen (h : s.Ok) : s.keys.length ≤ 100000000 := by have := h.len; have := h.cap; unfold L9.keys; rw [List.length_append]; omega
theorem Ok.len_inn (h : s.Ok) : s.inn.length ≤ 100000000 := by have := h.len; have := h.cap; omega
theorem Ok.len_out (h : s.Ok) : s.out.length ≤ 100000000 := by have := h.olen; have := h.cap; omega
theorem Ok.len_main (h : s.Ok) : s.main.length ≤ 100000000 := by have := h.len; have := h.cap; omega
theorem ok_new (n : Int) : (new n).Ok := ⟨(capI_pos n).1, (capI_pos n).2, ⟨by simp [new], fun k hk => by simp [new] at hk⟩, by simp [new], by simp [new]⟩
theorem fr_perm {ks : List Nat} (h : ks.Nodup) {k : Nat} (hk : k ∈ ks) : (fr k ks).Perm ks := by
  unfold fr
  have e : wo k ks = ks.erase k := (List.Nodup.erase_eq_filter h k).symm
  rw [e]
  exact (List.perm_cons_erase hk).symm
theorem Fine.perm {t : L9} (h : s.Fine) (hp : (t.inn ++ t.out ++ t.main).Perm (s.inn ++ s.out ++ s.main)) : t.Fine := ⟨hp.nodup_iff.2 h.nd, fun k hk => h.key k (hp.mem_iff.1 hk)⟩
theorem Ok.touch (h : s.Ok) (k : Nat) : (s.touch k).Ok := by
  unfold L9.touch
  split
  · rename_i hk
    have hp := fr_perm h.fine.mainNd hk
    exact ⟨h.pos, h.cap, h.fine.perm (List.Perm.append_left _ hp), by have := h.len; have := hp.length_eq; show s.inn.length + (fr k s.main).length ≤ s.c; omega, h.olen⟩
  · exact h
theorem come_perm {t : L9} {k : Nat} (hi : k ∉ t.inn) (hm : k ∉ t.main) (b : Bool) : ((t.come k b).inn ++ (t.come k b).out ++ (t.come k b).main).Perm (k :: (t.inn ++ t.out ++ t.main)) := by
  cases b
  · show (fr k t.inn ++ t.out ++ t.main).Perm _
    rw [fr, wo_none8 hi]
    exact List.Perm.refl _
  · show (t.inn ++ t.out ++ fr k t.main).Perm _
    rw [fr, wo_none8 hm]
    exact List.perm_middle
theorem come_keys {t : L9} {k : Nat} (hi : k ∉ t.inn) (hm : k ∉ t.main) (b : Bool) : (t.come k b).keys.Perm (k :: t.keys) := by
  cases b
  · show (fr k t.inn ++ t.main).Perm _
    rw [fr, wo_none8 hi]
    exact List.Perm.refl _
  · show (t.inn ++ fr k t.main).Perm _
    rw [fr, wo_none8 hm]
    exact List.perm_middle
theorem come_c (t : L9) (k : Nat) (b : Bool) : (t.come k b).c = t.c := by cases b <;> rfl
theorem come_out (t : L9) (k : Nat) (b : Bool) : (t.come k b).out = t.out := by cases b <;> rfl
theorem shr_mem {N k : Nat} (hk : k ∈ (s.shr N).inn ++ (s.shr N).out ++ (s.shr N).main) : k ∈ s.inn ++ s.out ++ s.main := by
  simp only [List.mem_append] at hk ⊢
  rcases hk with (h | h) | h
  · exact .inl (.inl (List.mem_of_mem_take h))
  · rcases List.mem_append.1 (List.mem_of_mem_take h) with h | h
    · exact .inl (.inl (List.mem_of_mem_drop h))
    · exact .inl (.inr h)
  · exact .inr (List.mem_of_mem_take h)
theorem forget_not {k : Nat} (hk : k ∉ s.keys) : k ∉ (s.forget k).inn ++ (s.forget k).out ++ (s.forget k).main := by
  simp only [keys, List.mem_append, not_or] at hk
  show k ∉ s.inn ++ wo k s.out ++ s.main
  simp only [List.mem_append, not_or]
  exact ⟨⟨hk.1, not_wo s.out k⟩, hk.2⟩
theorem Ok.adm (h : s.Ok) (k : Nat) (hk : k < 18446744073709551616) : (s.adm k).Ok := by
  unfold L9.adm
  split
  · exact h
  · rename_i hn
    have hp := h.pos
    have hok : ((s.forget k).shr (s.c - 1)).Ok := ok_shr (h.fine.forget k) h.pos h.cap _ (by show s.c - 1 ≤ s.c; omega)
    have hnot : k ∉ ((s.forget k).shr (s.c - 1)).inn ++ ((s.forget k).shr (s.c - 1)).out ++ ((s.forget k).shr (s.c - 1)).main := fun hm => forget_not hn (shr_mem hm)
    have hlen := (s.forget k).shr_len (s.c - 1)
    have hmy : (s.forget k).many (s.c - 1) = (s.forget k).inn.length + (s.forget k).main.length - (s.c - 1) := rfl
    have hc : ((s.forget k).shr (s.c - 1)).c = s.c := rfl
    generalize (s.forget k).shr (s.c - 1) = t at hok hnot hlen hc
    have hi : k ∉ t.inn := fun h => hnot (by simp [h])
    have hm : k ∉ t.main := fun h => hnot (by simp [h])
    have hpm := come_perm hi hm (decide (k ∈ s.out))
    have hkp := (come_keys hi hm (decide (k ∈ s.out))).length_eq
    refine ⟨by rw [come_c]; exact hok.pos, by rw [come_c]; exact hok.cap, ⟨hpm.nodup_iff.2 (List.nodup_cons.2 ⟨hnot, hok.fine.nd⟩), fun x hx => ?_⟩, ?_, by rw [come_c, come_out]; exact hok.olen⟩
    · rcases List.mem_cons.1 (hpm.mem_iff.1 hx) with rfl | hx
      · exact hk
      · exact hok.fine.key x hx
    · simp only [keys, List.length_append, List.length_cons] at hkp
      rw [come_c]
      omega
theorem Ok.drop (h : s.Ok) (k : Nat) : (s.drop k).Ok := by
  have h1 := wo_len k s.inn
  have h2 := wo_len k s.main
  have h3 := wo_len k s.out
  have h4 := h.len
  have h5 := h.olen
  refine ⟨h.pos, h.cap, h.fine.sub ((List.filter_sublist.append List.filter_sublist).append List.filter_sublist), ?_, ?_⟩
  · show (wo k s.inn).length + (wo k s.main).length ≤ s.c
    omega
  · show (wo k s.out).length ≤ s.c / 2
    omega
theorem Ok.resize (h : s.Ok) (n : Int) : (s.resize n).Ok := ok_shr (h.fine.sized _) (capI_pos n).1 (capI_pos n).2 _ (Nat.le_refl _)
theorem Ok.act (h : s.Ok) {x : Act8} (wf : x.Ok) : (s.act x).Ok := by
  unfold L9.act
  split
  · exact h.touch _
  · exact h.adm _ wf.key
  · exact h.drop _
  · exact h.resize _
theorem Ok.actOutLen (h : s.Ok) {x : Act8} (_ : x.Ok) : (s.actOut x).length ≤ 100000000 := by
  have h1 := h.len
  have h2 := h.cap
  have e1 : (s.forget x.key).many (s.c - 1) = s.inn.length + s.main.length - (s.c - 1) := rfl
  have e2 : (s.sized (capI (sizeA x : Nat))).many (capI (sizeA x : Nat)) = s.inn.length + s.main.length - capI (sizeA x : Nat) := rfl
  unfold L9.actOut admitOut resizeOut
  repeat' split
  all_goals first | (simp; done) | (rw [shrOut_len]; omega)
theorem act_cases (s : L9) (x : Act8) : kindA x (decide (x.key ∈ s.keys)) = 1 ∧ s.act x = s.touch x.key ∧ s.actOut x = [] ∨ kindA x (decide (x.key ∈ s.keys)) = 2 ∧ s.act x = s.adm x.key ∧ s.actOut x = s.admitOut x.key ∨
    kindA x (decide (x.key ∈ s.keys)) = 3 ∧ s.act x = s.drop x.key ∧ s.actOut x = [] ∨ kindA x (decide (x.key ∈ s.keys)) = 4 ∧ s.act x = s.resize (sizeA x : Nat) ∧ s.actOut x = s.resizeOut (sizeA x : Nat) := by
  unfold L9.act L9.actOut
  rcases kindA_is x (decide (x.key ∈ s.keys)) with h | h | h | h <;> rw [h] <;> simp
end L9
abbrev l9C (c : Nat) (u_inn : Value) (u_out : Value) (u_main : Value) : Array Value := #[(.int .i64 (c : Nat)), u_inn, u_out, u_main]
abbrev z9 : Array Value := #[.int .i64 0, .slice none 0 0, .slice none 0 0, .slice none 0 0]
abbrev T9 : TypeId := 28
structure St9 (w : World) (s : L9) (u1 u2 u3 : Value) : Prop where
  g1 : KV w u1 s.inn
  g2 : KV w u2 s.out
  g3 : KV w u3 s.main
section
variable {w w' : World} {s : L9} {u1 u2 u3 : Value}
theorem St9.form1 (h : St9 w s u1 u2 u3) : ∃ F n c, u1 = .slice F n c := h.g1.form
theorem St9.form2 (h : St9 w s u1 u2 u3) : ∃ F n c, u2 = .slice F n c := h.g2.form
theorem St9.form3 (h : St9 w s u1 u2 u3) : ∃ F n c, u3 = .slice F n c := h.g3.form
theorem St9.below (h : St9 w s u1 u2 u3) (hb : Below w.heap.size w w') : St9 w' s u1 u2 u3 := ⟨h.g1.below hb, h.g2.below hb, h.g3.below hb⟩
theorem Bo.st9 {w0 : World} {T : TypeId} {b r : Nat} {cs zs : Array Value} (hb : Bo w0 w T b r cs zs) (ho : Only [b, r] w w') (h : St9 w s u1 u2 u3) : St9 w' s u1 u2 u3 := ⟨hb.kv ho h.g1, hb.kv ho h.g2, hb.kv ho h.g3⟩
theorem Bp.st9 {w0 : World} {T U : TypeId} {b r : Nat} {cs zs : Array Value} (hb : Bp w0 w T U b r cs zs) (ho : Only [b, r] w w') (h : St9 w s u1 u2 u3) : St9 w' s u1 u2 u3 := ⟨hb.kv ho h.g1, hb.kv ho h.g2, hb.kv ho h.g3⟩
end
def P9 (w : World) (s : L9) (e : Ending) (w' : World) : Prop := ∃ u1 u2 u3, e = .returned (.agg (l9C s.c u1 u2 u3)) ∧ Below w.heap.size w w' ∧ St9 w' s u1 u2 u3
def P9o (w : World) (s : L9) (out : List Nat) (e : Ending) (w' : World) : Prop := ∃ u1 u2 u3 o, e = .returned (.tuple #[.agg (l9C s.c u1 u2 u3), o]) ∧ Below w.heap.size w w' ∧ St9 w' s u1 u2 u3 ∧ KV w' o out
theorem B9.start (w : World) (c : Nat) (F1 : Option Addr) (n1 d1 : Nat) (F2 : Option Addr) (n2 d2 : Nat) (F3 : Option Addr) (n3 d3 : Nat) : Bo w ((w.alloc (.cells (l9C c (.slice F1 n1 d1) (.slice F2 n2 d2) (.slice F3 n3 d3)) T9)).alloc (.cells z9 T9)) T9 w.heap.size (w.heap.size + 1) (l9C c (.slice F1 n1 d1) (.slice F2 n2 d2) (.slice F3 n3 d3)) z9 :=
  Bo.start w T9 _ _ rfl rfl (by decide)
abbrev PT9 : TypeId := 39
structure Bx9 (w w1 : World) (T : TypeId) (b r : Nat) (s : L9) (u1 u2 u3 : Value) : Prop where
  bo : Bo w w1 T b r (l9C s.c u1 u2 u3) z9
  st : St9 w1 s u1 u2 u3
section
variable {w w1 w2 : World} {T : TypeId} {b r : Nat} {s : L9} {u1 u2 u3 : Value}
theorem Bx9.start (w : World) (T : TypeId) (hT : T ≠ 31) {s : L9} {F1 : Option Addr} {n1 d1 : Nat} {F2 : Option Addr} {n2 d2 : Nat} {F3 : Option Addr} {n3 d3 : Nat} (h : St9 w s (.slice F1 n1 d1) (.slice F2 n2 d2) (.slice F3 n3 d3)) : Bx9 w ((w.alloc (.cells (l9C s.c (.slice F1 n1 d1) (.slice F2 n2 d2) (.slice F3 n3 d3)) T)).alloc (.cells z9 T)) T w.heap.size (w.heap.size + 1) s (.slice F1 n1 d1) (.slice F2 n2 d2) (.slice F3 n3 d3) :=
  ⟨Bo.start w T _ _ rfl rfl hT, h.below (low_two w _ _)⟩
theorem Bx9.step (h : Bx9 w w1 T b r s u1 u2 u3) (hb : Below w1.heap.size w1 w2) : Bx9 w w2 T b r s u1 u2 u3 := ⟨h.bo.step hb, h.st.below hb⟩
theorem Bx9.kv {v : Value} {ks : List Nat} {i : Nat} {x : Value} (h : Bx9 w w1 T b r s u1 u2 u3) (hk : KV w1 v ks) : KV (w1.setCell ⟨b, i, none⟩ x) v ks := h.bo.kv ((Only.refl _ _).setCell (by simp) _) hk
theorem Bx9.set1 (h : Bx9 w w1 T b r s u1 u2 u3) {F : Option Addr} {m d : Nat} {ks : List Nat} (hk : KV w1 (.slice F m d) ks) : Bx9 w (w1.setCell ⟨b, 1, none⟩ (.slice F m d)) T b r ⟨s.c, ks, s.out, s.main⟩ (.slice F m d) u2 u3 := by
  obtain ⟨F1, n1, d1, rfl⟩ := h.st.form1
  obtain ⟨F2, n2, d2, rfl⟩ := h.st.form2
  obtain ⟨F3, n3, d3, rfl⟩ := h.st.form3
  obtain ⟨h1, h2⟩ := h.bo.set 1 (.slice F m d) rfl
  exact ⟨h1, h.bo.kv h2 hk, h.bo.kv h2 h.st.g2, h.bo.kv h2 h.st.g3⟩
theorem Bx9.set2 (h : Bx9 w w1 T b r s u1 u2 u3) {F : Option Addr} {m d : Nat} {ks : List Nat} (hk : KV w1 (.slice F m d) ks) : Bx9 w (w1.setCell ⟨b, 2, none⟩ (.slice F m d)) T b r ⟨s.c, s.inn, ks, s.main⟩ u1 (.slice F m d) u3 := by
  obtain ⟨F1, n1, d1, rfl⟩ := h.st.form1
  obtain ⟨F2, n2, d2, rfl⟩ := h.st.form2
  obtain ⟨F3, n3, d3, rfl⟩ := h.st.form3
  obtain ⟨h1, h2⟩ := h.bo.set 2 (.slice F m d) rfl
  exact ⟨h1, h.bo.kv h2 h.st.g1, h.bo.kv h2 hk, h.bo.kv h2 h.st.g3⟩
theorem Bx9.set3 (h : Bx9 w w1 T b r s u1 u2 u3) {F : Option Addr} {m d : Nat} {ks : List Nat} (hk : KV w1 (.slice F m d) ks) : Bx9 w (w1.setCell ⟨b, 3, none⟩ (.slice F m d)) T b r ⟨s.c, s.inn, s.out, ks⟩ u1 u2 (.slice F m d) := by
  obtain ⟨F1, n1, d1, rfl⟩ := h.st.form1
  obtain ⟨F2, n2, d2, rfl⟩ := h.st.form2
  obtain ⟨F3, n3, d3, rfl⟩ := h.st.form3
  obtain ⟨h1, h2⟩ := h.bo.set 3 (.slice F m d) rfl
  exact ⟨h1, h.bo.kv h2 h.st.g1, h.bo.kv h2 h.st.g2, h.bo.kv h2 hk⟩
theorem Bx9.set0 (h : Bx9 w w1 T b r s u1 u2 u3) (c' : Nat) : Bx9 w (w1.setCell ⟨b, 0, none⟩ (.int .i64 (c' : Nat))) T b r ⟨c', s.inn, s.out, s.main⟩ u1 u2 u3 := by
  obtain ⟨F1, n1, d1, rfl⟩ := h.st.form1
  obtain ⟨F2, n2, d2, rfl⟩ := h.st.form2
  obtain ⟨F3, n3, d3, rfl⟩ := h.st.form3
  obtain ⟨h1, h2⟩ := h.bo.set 0 (.int .i64 (c' : Nat)) rfl
  exact ⟨h1, h.bo.kv h2 h.st.g1, h.bo.kv h2 h.st.g2, h.bo.kv h2 h.st.g3⟩
theorem Bx9.only (_ : Bx9 w w1 T b r s u1 u2 u3) : Only [b, r] w1 ((((w1.setCell ⟨r, 0, none⟩ (.int .i64 (s.c : Nat))).setCell ⟨r, 1, none⟩ u1).setCell ⟨r, 2, none⟩ u2).setCell ⟨r, 3, none⟩ u3) := ((((Only.refl _ _).setCell (by simp) _).setCell (by simp) _).setCell (by simp) _).setCell (by simp) _
theorem Bx9.done (h : Bx9 w w1 T b r s u1 u2 u3) : P9 w s (.returned (.agg (l9C s.c u1 u2 u3))) ((((w1.setCell ⟨r, 0, none⟩ (.int .i64 (s.c : Nat))).setCell ⟨r, 1, none⟩ u1).setCell ⟨r, 2, none⟩ u2).setCell ⟨r, 3, none⟩ u3) := ⟨_, _, _, rfl, h.bo.fin h.only, h.bo.st9 h.only h.st⟩
theorem Bx9.doneo (h : Bx9 w w1 T b r s u1 u2 u3) {o : Value} {out : List Nat} (ho : KV w1 o out) : P9o w s out (.returned (.tuple #[.agg (l9C s.c u1 u2 u3), o])) ((((w1.setCell ⟨r, 0, none⟩ (.int .i64 (s.c : Nat))).setCell ⟨r, 1, none⟩ u1).setCell ⟨r, 2, none⟩ u2).setCell ⟨r, 3, none⟩ u3) := ⟨_, _, _, _, rfl, h.bo.fin h.only, h.bo.st9 h.only h.st, h.bo.kv h.only ho⟩
theorem Bx9.put {s' : L9} {u1 u2 u3 : Value} {F1 : Option Addr} {n1 d1 : Nat} {F2 : Option Addr} {n2 d2 : Nat} {F3 : Option Addr} {n3 d3 : Nat} (h : Bx9 w w1 T b r s u1 u2 u3) (hs : St9 w1 s' (.slice F1 n1 d1) (.slice F2 n2 d2) (.slice F3 n3 d3)) : Bx9 w ((((w1.setCell ⟨b, 0, none⟩ (.int .i64 (s'.c : Nat))).setCell ⟨b, 1, none⟩ (.slice F1 n1 d1)).setCell ⟨b, 2, none⟩ (.slice F2 n2 d2)).setCell ⟨b, 3, none⟩ (.slice F3 n3 d3)) T b r s' (.slice F1 n1 d1) (.slice F2 n2 d2) (.slice F3 n3 d3) := by
  obtain ⟨h1, h2⟩ := c4_set h.bo.box (.int .i64 (s'.c : Nat)) (.slice F1 n1 d1) (.slice F2 n2 d2) (.slice F3 n3 d3)
  have ho : Only [b, r] w1 ((((w1.setCell ⟨b, 0, none⟩ (.int .i64 (s'.c : Nat))).setCell ⟨b, 1, none⟩ (.slice F1 n1 d1)).setCell ⟨b, 2, none⟩ (.slice F2 n2 d2)).setCell ⟨b, 3, none⟩ (.slice F3 n3 d3)) := ((((Only.refl _ _).setCell (by simp) _).setCell (by simp) _).setCell (by simp) _).setCell (by simp) _
  exact ⟨⟨h.bo.fin ho, h1, (h2.block r (head_row h.bo.res).lt (by simpa using fun e => h.bo.ge.2.2 e.symm)).trans h.bo.res, h.bo.ge, ⟨rfl, h.bo.nu.2⟩, h.bo.ty⟩, h.bo.st9 ho hs⟩
theorem Bx9.putOnly {s' : L9} {v1 v2 v3 : Value} (_ : Bx9 w w1 T b r s u1 u2 u3) : Only [b, r] w1 ((((w1.setCell ⟨b, 0, none⟩ (.int .i64 (s'.c : Nat))).setCell ⟨b, 1, none⟩ v1).setCell ⟨b, 2, none⟩ v2).setCell ⟨b, 3, none⟩ v3) := ((((Only.refl _ _).setCell (by simp) _).setCell (by simp) _).setCell (by simp) _).setCell (by simp) _
theorem Bx9.alloc {s' : L9} {v1 v2 v3 : Value} {F1 : Option Addr} {n1 d1 : Nat} {F2 : Option Addr} {n2 d2 : Nat} {F3 : Option Addr} {n3 d3 : Nat} (h : Bx9 w w1 T b r s' v1 v2 v3) (hs : St9 w1 s (.slice F1 n1 d1) (.slice F2 n2 d2) (.slice F3 n3 d3)) : Bx9 w (w1.alloc (.cells (l9C s.c (.slice F1 n1 d1) (.slice F2 n2 d2) (.slice F3 n3 d3)) T)) T w1.heap.size r s (.slice F1 n1 d1) (.slice F2 n2 d2) (.slice F3 n3 d3) :=
  ⟨h.bo.alloc _ rfl, hs.below (low_one w1 _)⟩
end
structure Bs9 (w w1 : World) (T : TypeId) (b : Nat) (s : L9) (u1 u2 u3 : Value) : Prop where
  low : Below w.heap.size w w1
  box : w1.heap[b]? = some (.cells (l9C s.c u1 u2 u3) T (0, 0))
  ge : w.heap.size ≤ b
  ty : T ≠ 31
  st : St9 w1 s u1 u2 u3
section
variable {w w1 w2 : World} {T : TypeId} {b : Nat} {s : L9} {u1 u2 u3 : Value}
theorem Bs9.step (h : Bs9 w w1 T b s u1 u2 u3) (hb : Below w1.heap.size w1 w2) : Bs9 w w2 T b s u1 u2 u3 := ⟨h.low.trans (hb.mono h.low.size), (hb.block b (head_row h.box).lt).trans h.box, h.ge, h.ty, h.st.below hb⟩
theorem Bs9.new {F1 : Option Addr} {n1 d1 : Nat} {F2 : Option Addr} {n2 d2 : Nat} {F3 : Option Addr} {n3 d3 : Nat} (hT : T ≠ 31) (hb : Below w.heap.size w w1) (hs : St9 w1 s (.slice F1 n1 d1) (.slice F2 n2 d2) (.slice F3 n3 d3)) : Bs9 w (w1.alloc (.cells (l9C s.c (.slice F1 n1 d1) (.slice F2 n2 d2) (.slice F3 n3 d3)) T)) T w1.heap.size s (.slice F1 n1 d1) (.slice F2 n2 d2) (.slice F3 n3 d3) := ⟨hb.alloc hb.size _, heap_alloc_new w1 _, hb.size, hT, hs.below (low_one w1 _)⟩
theorem Bs9.put {s' : L9} {F1 : Option Addr} {n1 d1 : Nat} {F2 : Option Addr} {n2 d2 : Nat} {F3 : Option Addr} {n3 d3 : Nat} (h : Bs9 w w1 T b s u1 u2 u3) (hs : St9 w1 s' (.slice F1 n1 d1) (.slice F2 n2 d2) (.slice F3 n3 d3)) : Bs9 w ((((w1.setCell ⟨b, 0, none⟩ (.int .i64 (s'.c : Nat))).setCell ⟨b, 1, none⟩ (.slice F1 n1 d1)).setCell ⟨b, 2, none⟩ (.slice F2 n2 d2)).setCell ⟨b, 3, none⟩ (.slice F3 n3 d3)) T b s' (.slice F1 n1 d1) (.slice F2 n2 d2) (.slice F3 n3 d3) := by
  obtain ⟨G1, m1, e1, rfl⟩ := h.st.form1
  obtain ⟨G2, m2, e2, rfl⟩ := h.st.form2
  obtain ⟨G3, m3, e3, rfl⟩ := h.st.form3
  obtain ⟨h1, h2⟩ := c4_set h.box (.int .i64 (s'.c : Nat)) (.slice F1 n1 d1) (.slice F2 n2 d2) (.slice F3 n3 d3)
  have hbx : ∀ g ∈ [b], Bx w1 g := fun g hg => by
    rw [List.mem_singleton] at hg
    subst hg
    exact ⟨_, _, h.box, rfl, h.ty⟩
  exact ⟨h.low.trans (h2.below (by simp; exact h.ge) h.low.size), h1, h.ge, h.ty, hs.g1.only h2 hbx, hs.g2.only h2 hbx, hs.g3.only h2 hbx⟩
theorem Bs9.kv {v : Value} {ks : List Nat} {s' : L9} {v1 v2 v3 : Value} (h : Bs9 w w1 T b s u1 u2 u3) (hk : KV w1 v ks) : KV ((((w1.setCell ⟨b, 0, none⟩ (.int .i64 (s'.c : Nat))).setCell ⟨b, 1, none⟩ v1).setCell ⟨b, 2, none⟩ v2).setCell ⟨b, 3, none⟩ v3) v ks := by
  obtain ⟨G1, m1, e1, rfl⟩ := h.st.form1
  obtain ⟨G2, m2, e2, rfl⟩ := h.st.form2
  obtain ⟨G3, m3, e3, rfl⟩ := h.st.form3
  have hbx : ∀ g ∈ [b], Bx w1 g := fun g hg => by
    rw [List.mem_singleton] at hg
    subst hg
    exact ⟨_, _, h.box, rfl, h.ty⟩
  exact hk.only (((((Only.refl [b] _).setCell (by simp) _).setCell (by simp) _).setCell (by simp) _).setCell (by simp) _) hbx
end
section
variable {w : World} {u1 u2 u3 : Value} {s : L9}
set_option maxHeartbeats 2000000 in
theorem r9new_walk (n : Int) (hn1 : -9223372036854775808 ≤ n) (hn2 : n ≤ 9223372036854775807) : Calls Try.prog 9 #[.int .i64 n] w (P9 w (L9.new n)) := by
  have KK := Lib.hid (rcap_walk (w := w.alloc (.cells z9 28)) n hn1 hn2)
  obtain ⟨c, hc⟩ : ∃ c, capI n = c := ⟨_, rfl⟩
  have HC : Hid (P9 w (L9.new n) = P9 w ⟨c, [], [], []⟩) := Lib.hid (by rw [← hc]; rfl)
  rw [hc] at KK
  rw [HC.out]
  clear hc HC
  go_enter Try.func9, Try.ntmps9
  go_wp2_with fail
  refine KK.out.mono ?_
  rintro e w1 ⟨rfl, rfl⟩
  go_wp2
  exact bodyPost_ret (v := .agg (l9C c (.slice none 0 0) (.slice none 0 0) (.slice none 0 0))) (by simp [results, Try.results9, go_sem]) rfl ⟨_, _, _, rfl, (Below.refl _ _).alloc (Nat.le_refl _) _, ⟨KV.nil _, KV.nil _, KV.nil _⟩⟩
set_option maxHeartbeats 2000000 in
theorem r9touch_walk (hs : St9 w s u1 u2 u3) (ok : s.Ok) (k : Nat) : Calls Try.prog 33 #[.agg (l9C s.c u1 u2 u3), .int .u64 (k : Nat)] w (P9 w (s.touch k)) := by
  have hl := ok.len_main
  clear ok
  obtain ⟨F1, n1, d1, rfl⟩ := hs.form1
  obtain ⟨F2, n2, d2, rfl⟩ := hs.form2
  obtain ⟨F3, n3, d3, rfl⟩ := hs.form3
  have h0 := B9.start w s.c F1 n1 d1 F2 n2 d2 F3 n3 d3
  have HB := Lib.hid h0
  have hs0 := hs.below h0.low
  have KH := Lib.hid (rhas_walk hs0.g3 hl k)
  have KF := Lib.hid (rfront_walk hs0.g3 hl k)
  have HS0 := Lib.hid hs0
  have HS := Lib.hid hs
  unfold L9.touch
  obtain ⟨c, li, lo, l⟩ := s
  simp only at *
  clear h0 hs0 hs
  by_cases hin : k ∈ l
  · rw [decide_eq_true hin] at KH
    rw [if_pos hin]
    clear hin
    go_enter Try.func33, Try.ntmps33
    go_wp2_with fail
    refine KH.out.mono ?_
    rintro e w1 ⟨rfl, rfl⟩
    go_wp2_with fail
    refine KF.out.mono ?_
    rintro e w2 ⟨v2, rfl, h2⟩
    obtain ⟨Fa, na, da, rfl⟩ := h2.kv.form
    have H2 := Lib.hid (HB.out.step h2.low)
    have HV := Lib.hid h2.kv
    have HS2 := Lib.hid (HS0.out.below h2.low)
    obtain ⟨⟨x0, x1, x2, x3⟩, xf0, xf1, xf2, xf3⟩ := c4_at H2.out.box
    obtain ⟨⟨y0, y1, y2, y3⟩, yf0, yf1, yf2, yf3⟩ := c4_at H2.out.res
    clear h2 KH KF HB HS0
    go_wp2
    have HO : Hid (Only [w.heap.size, w.heap.size + 1] w2 (((((w2.setCell ⟨w.heap.size, 3, none⟩ (.slice Fa na da)).setCell ⟨w.heap.size + 1, 0, none⟩ (.int .i64 (c : Nat))).setCell ⟨w.heap.size + 1, 1, none⟩ (.slice F1 n1 d1)).setCell ⟨w.heap.size + 1, 2, none⟩ (.slice F2 n2 d2)).setCell ⟨w.heap.size + 1, 3, none⟩ (.slice Fa na da))) := Lib.hid ((((((Only.refl _ _).setCell (by simp) _).setCell (by simp) _).setCell (by simp) _).setCell (by simp) _).setCell (by simp) _)
    exact bodyPost_ret (v := .agg (l9C c (.slice F1 n1 d1) (.slice F2 n2 d2) (.slice Fa na da))) (by simp [results, Try.results33, go_sem, y0, y1, y2, y3]) rfl ⟨_, _, _, rfl, H2.out.fin HO.out, H2.out.kv HO.out HS2.out.g1, H2.out.kv HO.out HS2.out.g2, H2.out.kv HO.out HV.out⟩
  · rw [decide_eq_false hin] at KH
    rw [if_neg hin]
    clear hin
    go_enter Try.func33, Try.ntmps33
    go_wp2_with fail
    refine KH.out.mono ?_
    rintro e w1 ⟨rfl, rfl⟩
    go_wp2
    exact bodyPost_ret (v := .agg (l9C c (.slice F1 n1 d1) (.slice F2 n2 d2) (.slice F3 n3 d3))) (by simp [results, Try.results33, go_sem]) rfl ⟨_, _, _, rfl, low_two w _ _, HS.out.below (low_two w _ _)⟩
set_option maxHeartbeats 2000000 in
theorem r9drop_walk (hs : St9 w s u1 u2 u3) (ok : s.Ok) (k : Nat) : Calls Try.prog 35 #[.agg (l9C s.c u1 u2 u3), .int .u64 (k : Nat)] w (P9 w (s.drop k)) := by
  have hl1 := ok.len_inn
  have hl2 := ok.len_out
  have hl3 := ok.len_main
  clear ok
  obtain ⟨F1, n1, d1, rfl⟩ := hs.form1
  obtain ⟨F2, n2, d2, rfl⟩ := hs.form2
  obtain ⟨F3, n3, d3, rfl⟩ := hs.form3
  have HX0 := Lib.hid (Bx9.start w T9 (by decide) hs)
  unfold L9.drop
  obtain ⟨c, l1, l2, l3⟩ := s
  simp only at *
  clear hs
  have K1 := Lib.hid (rwithout_walk HX0.out.st.g1 hl1 k)
  go_enter Try.func35, Try.ntmps35
  go_wp2_with fail
  refine K1.out.mono ?_
  rintro e va ⟨oa, rfl, ha⟩
  obtain ⟨Fa, na, da, rfl⟩ := ha.kv.form
  have hxa := HX0.out.step ha.low
  obtain ⟨⟨x0, x1, x2, x3⟩, xf0, xf1, xf2, xf3⟩ := c4_at hxa.bo.box
  have hbb := (head_row hxa.bo.box).lt
  have hya := hxa.set1 ha.kv
  generalize hWa : va.setCell ⟨w.heap.size, 1, none⟩ (.slice Fa na da) = wa at hya
  have HWa := Lib.hid hWa
  have HXa := Lib.hid hya
  clear ha hWa hxa hya HX0 K1
  have K2 := Lib.hid (rwithout_walk HXa.out.st.g2 hl2 k)
  go_wp2_with fail
  rw [HWa.out]
  clear HWa
  refine K2.out.mono ?_
  rintro e vb ⟨ob, rfl, hb⟩
  obtain ⟨Fb, nb, db, rfl⟩ := hb.kv.form
  have hxb := HXa.out.step hb.low
  clear x0 x1 x2 x3 xf0 xf1 xf2 xf3 hbb
  obtain ⟨⟨x0, x1, x2, x3⟩, xf0, xf1, xf2, xf3⟩ := c4_at hxb.bo.box
  have hbb := (head_row hxb.bo.box).lt
  have hyb := hxb.set2 hb.kv
  generalize hWb : vb.setCell ⟨w.heap.size, 2, none⟩ (.slice Fb nb db) = wb at hyb
  have HWb := Lib.hid hWb
  have HXb := Lib.hid hyb
  clear hb hWb hxb hyb HXa K2
  have K3 := Lib.hid (rwithout_walk HXb.out.st.g3 hl3 k)
  go_wp2_with fail
  rw [HWb.out]
  clear HWb
  refine K3.out.mono ?_
  rintro e vc ⟨oc, rfl, hc⟩
  obtain ⟨Fc, nc, dc, rfl⟩ := hc.kv.form
  have hxc := HXb.out.step hc.low
  clear x0 x1 x2 x3 xf0 xf1 xf2 xf3 hbb
  obtain ⟨⟨x0, x1, x2, x3⟩, xf0, xf1, xf2, xf3⟩ := c4_at hxc.bo.box
  have hbb := (head_row hxc.bo.box).lt
  have hyc := hxc.set3 hc.kv
  obtain ⟨⟨y0, y1, y2, y3⟩, yf0, yf1, yf2, yf3⟩ := c4_at hxc.bo.res
  have hrr := (head_row hxc.bo.res).lt
  have HXc := Lib.hid hyc
  clear hc hxc hyc HXb K3
  go_wp2
  exact bodyPost_ret (v := .agg (l9C c (.slice Fa na da) (.slice Fb nb db) (.slice Fc nc dc))) (by simp [results, Try.results35, go_sem, y0, y1, y2, y3]) rfl HXc.out.done
def P9n (w : World) (s : L9) (u1 u2 u3 : Value) (e : Ending) (w' : World) : Prop := ∃ v1 v2 v3, e = .returned (.agg (l9C s.c v1 v2 v3)) ∧ Below w.heap.size w w' ∧ St9 w' s v1 v2 v3 ∧ Nw w.heap.size u1 v1 ∧ Nw w.heap.size u2 v2 ∧ Nw w.heap.size u3 v3
set_option maxHeartbeats 2000000 in
theorem r9fall_walk (hs : St9 w s u1 u2 u3) (hl : s.out.length ≤ 100000000) (hc : s.c ≤ 1048576) : Calls Try.prog 54 #[.agg (l9C s.c u1 u2 u3)] w (P9n w ⟨s.c, s.inn, s.out.take (s.c / 2), s.main⟩ u1 u2 u3) := by
  obtain ⟨F1, n1, d1, rfl⟩ := hs.form1
  obtain ⟨F2, d2, rfl, hcap, _⟩ := hs.g2.mem
  obtain ⟨F3, n3, d3, rfl⟩ := hs.form3
  have HX0 := Lib.hid (Bx9.start w T9 (by decide) hs)
  have HT : Hid (∀ W, Below w.heap.size w W → ∀ m, m ≤ s.out.length → KV W (.slice F2 m d2) (s.out.take m)) := Lib.hid (fun W hb m hm => by
    obtain ⟨F', d', e, hk⟩ := (hs.g2.below hb).take m hm
    injection e with e1 e2 e3
    subst e1 e3
    exact hk)
  obtain ⟨h, hh⟩ : ∃ h, s.c / 2 = h := ⟨_, rfl⟩
  have e2 : ((s.c : Nat) : Int).tdiv 2 = (h : Int) := by rw [Int.tdiv_eq_ediv_of_nonneg (by omega)]; omega
  have hhI : (h : Int) ≤ 1048576 := by omega
  rw [hh]
  obtain ⟨c, l1, l2, l3⟩ := s
  simp only at *
  clear hs hh
  obtain ⟨n, hn⟩ : ∃ n, l2.length = n := ⟨_, rfl⟩
  have HN := Lib.hid hn
  rw [hn] at hl HX0 HT hcap ⊢
  have HX : Hid (Bx9 w ((w.alloc (.cells (l9C c (.slice F1 n1 d1) (.slice F2 n d2) (.slice F3 n3 d3)) T9)).alloc (.cells z9 T9)) T9 w.heap.size (w.heap.size + 1) ⟨c, l1, l2.take n, l3⟩ (.slice F1 n1 d1) (.slice F2 n d2) (.slice F3 n3 d3)) := by
    rw [List.take_of_length_le (by omega)]
    exact HX0
  clear hn HX0
  go_enter Try.func54, Try.ntmps54
  go_wp2_with fail
  generalize ((w.alloc (.cells (l9C c (.slice F1 n1 d1) (.slice F2 n d2) (.slice F3 n3 d3)) T9)).alloc (.cells z9 T9)) = W0 at HX ⊢
  go_loopg [] n (fun gg wr => ∃ m : Nat, gg = m ∧ Hid ((m ≤ n ∧ h ≤ m ∨ m = n)) ∧ Hid (Bx9 w wr T9 w.heap.size (w.heap.size + 1) ⟨c, l1, l2.take m, l3⟩ (.slice F1 n1 d1) (.slice F2 m d2) (.slice F3 n3 d3)))
  case atStart => exact ⟨n, rfl, Lib.hid (.inr rfl), HX⟩
  case round =>
    obtain ⟨m, hi, HM, HI⟩ := hrel
    have hmle : m ≤ n := by
      rcases HM.out with h | h
      · exact h.1
      · omega
    obtain ⟨⟨x0, x1, x2, x3⟩, xf0, xf1, xf2, xf3⟩ := c4_at HI.out.bo.box
    have hbb := (head_row HI.out.bo.box).lt
    by_cases hgt : h < m
    · obtain ⟨k, rfl⟩ : ∃ k, m = k + 1 := ⟨m - 1, by omega⟩
      have hgtI : (h : Int) < (k : Int) + 1 := by omega
      have hkc : k ≤ d2 := by omega
      have hkcI : (k : Int) ≤ (d2 : Int) := by omega
      have HMN : Hid (k ≤ n ∧ h ≤ k ∨ k = n) := Lib.hid (.inl ⟨by omega, by omega⟩)
      have HNX := Lib.hid (HI.out.set2 (HT.out wr HI.out.bo.low k (by omega)))
      clear HM hgt
      go_wp2
      go_roundg (gk - 1)
      case measure => omega
      case rel => exact ⟨k, by omega, HMN, HNX⟩
    · have hgtI : (m : Int) ≤ (h : Int) := by omega
      have HT2 : Hid (l2.take h = l2.take m) := Lib.hid (by
        rcases HM.out with h' | h'
        · have : h = m := by omega
          rw [this]
        · have := HN.out
          rw [List.take_of_length_le (by omega), List.take_of_length_le (by omega)])
      obtain ⟨⟨y0, y1, y2, y3⟩, yf0, yf1, yf2, yf3⟩ := c4_at HI.out.bo.res
      have hrr := (head_row HI.out.bo.res).lt
      clear HM hgt
      go_wp2
      exact bodyPost_ret (v := .agg (l9C c (.slice F1 n1 d1) (.slice F2 m d2) (.slice F3 n3 d3))) (by simp [results, Try.results54, go_sem, y0, y1, y2, y3]) rfl (by rw [HT2.out]; exact ⟨_, _, _, rfl, HI.out.bo.fin HI.out.only, HI.out.bo.st9 HI.out.only HI.out.st, Nw.refl _ _, Nw.take _ _ _ hmle, Nw.refl _ _⟩)
end
end Go.Proofs.Ytcjcddlflincdaa
