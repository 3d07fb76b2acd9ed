/- Words and walks: TqP TqB TqO TqV TqR TqS TqT TqA TqD TqW TqU. -/
import Derived.Test.YtcjcddlflincdaaGreatG1
import Derived.Test.YtcjcddlflincdaaGreatG15
import Derived.Test.YtcjcddlflincdaaGreatG17
import Derived.Deep.RegionHeld3
import Derived.Deep.RegionWith
import Derived.Deep.CutRange
import Derived.Deep.DeepCutAuto
namespace Go.Proofs.YtcjcddlflincdaaGreat
open Go Go.RowKit Go.Deep
def kin9 (c : Nat) : Nat := max (c / 4) 1
def rcI (kn : Nat) : Nat → Nat → Nat → Nat
  | 0, i, _ => i
  | f + 1, i, m => if kn < i ∨ m = 0 then rcI kn f (i - 1) m else rcI kn f i (m - 1)
def rcM (kn : Nat) : Nat → Nat → Nat → Nat
  | 0, _, m => m
  | f + 1, i, m => if kn < i ∨ m = 0 then rcM kn f (i - 1) m else rcM kn f i (m - 1)
def rcO (kn : Nat) (a b : List Nat) : Nat → Nat → Nat → List Nat
  | 0, _, _ => []
  | f + 1, i, m => if kn < i ∨ m = 0 then a.getD (i - 1) 0 :: rcO kn a b f (i - 1) m else b.getD (m - 1) 0 :: rcO kn a b f i (m - 1)
section
variable {kn : Nat} {a b : List Nat}
theorem rcI_in {f i m : Nat} (h : kn < i ∨ m = 0) : rcI kn (f + 1) i m = rcI kn f (i - 1) m := by rw [rcI, if_pos h]
theorem rcI_main {f i m : Nat} (h : ¬ (kn < i ∨ m = 0)) : rcI kn (f + 1) i m = rcI kn f i (m - 1) := by rw [rcI, if_neg h]
theorem rcM_in {f i m : Nat} (h : kn < i ∨ m = 0) : rcM kn (f + 1) i m = rcM kn f (i - 1) m := by rw [rcM, if_pos h]
theorem rcM_main {f i m : Nat} (h : ¬ (kn < i ∨ m = 0)) : rcM kn (f + 1) i m = rcM kn f i (m - 1) := by rw [rcM, if_neg h]
theorem rcO_in {f i m : Nat} (h : kn < i ∨ m = 0) : rcO kn a b (f + 1) i m = a.getD (i - 1) 0 :: rcO kn a b f (i - 1) m := by rw [rcO, if_pos h]
theorem rcO_main {f i m : Nat} (h : ¬ (kn < i ∨ m = 0)) : rcO kn a b (f + 1) i m = b.getD (m - 1) 0 :: rcO kn a b f i (m - 1) := by rw [rcO, if_neg h]
theorem rc_le (kn : Nat) : ∀ (f i m : Nat), rcI kn f i m ≤ i ∧ rcM kn f i m ≤ m
  | 0, i, m => ⟨Nat.le_refl _, Nat.le_refl _⟩
  | f + 1, i, m => by
    by_cases h : kn < i ∨ m = 0
    · rw [rcI_in h, rcM_in h]
      have := rc_le kn f (i - 1) m
      omega
    · rw [rcI_main h, rcM_main h]
      have := rc_le kn f i (m - 1)
      omega
theorem rc_sum (kn : Nat) : ∀ (f i m : Nat), f ≤ i + m → rcI kn f i m + rcM kn f i m + f = i + m
  | 0, i, m, _ => by simp [rcI, rcM]
  | f + 1, i, m, hf => by
    by_cases h : kn < i ∨ m = 0
    · rw [rcI_in h, rcM_in h]
      have := rc_sum kn f (i - 1) m (by omega)
      omega
    · rw [rcI_main h, rcM_main h]
      have := rc_sum kn f i (m - 1) (by omega)
      omega
theorem rcO_len (kn : Nat) (a b : List Nat) : ∀ (f i m : Nat), (rcO kn a b f i m).length = f
  | 0, i, m => rfl
  | f + 1, i, m => by
    by_cases h : kn < i ∨ m = 0
    · rw [rcO_in h, List.length_cons, rcO_len kn a b f]
    · rw [rcO_main h, List.length_cons, rcO_len kn a b f]
end
structure L9 where
  c : Nat
  inn : List Nat
  out : List Nat
  main : List Nat
namespace L9
def keys (s : L9) : List Nat := s.inn ++ s.main
def ghosts (s : L9) : Nat := s.out.length
def new (n : Int) : L9 := ⟨capI n, [], [], []⟩
def touch (s : L9) (k : Nat) : L9 := if k ∈ s.main then ⟨s.c, s.inn, s.out, fr k s.main⟩ else s
def many (s : L9) (N : Nat) : Nat := s.inn.length + s.main.length - N
def li (s : L9) (N : Nat) : Nat := rcI (kin9 s.c) (s.many N) s.inn.length s.main.length
def lm (s : L9) (N : Nat) : Nat := rcM (kin9 s.c) (s.many N) s.inn.length s.main.length
def shr (s : L9) (N : Nat) : L9 := ⟨s.c, s.inn.take (s.li N), (s.inn.drop (s.li N) ++ s.out).take (s.c / 2), s.main.take (s.lm N)⟩
def shrOut (s : L9) (N : Nat) : List Nat := rcO (kin9 s.c) s.inn s.main (s.many N) s.inn.length s.main.length
def forget (s : L9) (k : Nat) : L9 := ⟨s.c, s.inn, wo k s.out, s.main⟩
def come (t : L9) (k : Nat) (again : Bool) : L9 := if again then ⟨t.c, t.inn, t.out, fr k t.main⟩ else ⟨t.c, fr k t.inn, t.out, t.main⟩
def adm (s : L9) (k : Nat) : L9 := if k ∈ s.keys then s else ((s.forget k).shr (s.c - 1)).come k (decide (k ∈ s.out))
def admitOut (s : L9) (k : Nat) : List Nat := if k ∈ s.keys then [] else (s.forget k).shrOut (s.c - 1)
def drop (s : L9) (k : Nat) : L9 := ⟨s.c, wo k s.inn, wo k s.out, wo k s.main⟩
def sized (s : L9) (n : Nat) : L9 := ⟨n, s.inn, s.out, s.main⟩
def resize (s : L9) (n : Int) : L9 := (s.sized (capI n)).shr (capI n)
def resizeOut (s : L9) (n : Int) : List Nat := (s.sized (capI n)).shrOut (capI n)
def act (s : L9) (x : Act8) : L9 := match kindA x (decide (x.key ∈ s.keys)) with
  | 1 => s.touch x.key
  | 2 => s.adm x.key
  | 3 => s.drop x.key
  | _ => s.resize (sizeA x : Nat)
def actOut (s : L9) (x : Act8) : List Nat := match kindA x (decide (x.key ∈ s.keys)) with
  | 1 => []
  | 2 => s.admitOut x.key
  | 3 => []
  | _ => s.resizeOut (sizeA x : Nat)
structure Fine (s : L9) : Prop where
  nd : (s.inn ++ s.out ++ s.main).Nodup
  key : ∀ k ∈ s.inn ++ s.out ++ s.main, k < 18446744073709551616
structure Ok (s : L9) : Prop where
  pos : 1 ≤ s.c
  cap : s.c ≤ 1048576
  fine : s.Fine
  len : s.inn.length + s.main.length ≤ s.c
  olen : s.out.length ≤ s.c / 2
variable {s : L9}
theorem Fine.inNd (h : s.Fine) : s.inn.Nodup := h.nd.sublist ((List.sublist_append_left _ _).trans (List.sublist_append_left _ _))
theorem Fine.mainNd (h : s.Fine) : s.main.Nodup := h.nd.sublist (List.sublist_append_right _ _)
theorem Fine.sub {t : L9} (h : s.Fine) (hs : (t.inn ++ t.out ++ t.main).Sublist (s.inn ++ s.out ++ s.main)) : t.Fine := ⟨h.nd.sublist hs, fun k hk => h.key k (hs.subset hk)⟩
theorem Fine.forget (h : s.Fine) (k : Nat) : (s.forget k).Fine := h.sub (((List.Sublist.refl _).append List.filter_sublist).append (List.Sublist.refl _))
theorem Fine.sized (h : s.Fine) (n : Nat) : (s.sized n).Fine := ⟨h.nd, h.key⟩
theorem Fine.shr (h : s.Fine) (N : Nat) : (s.shr N).Fine := h.sub (by
  refine List.Sublist.append ?_ (List.take_sublist _ _)
  show (s.inn.take (s.li N) ++ (s.inn.drop (s.li N) ++ s.out).take (s.c / 2)).Sublist _
  refine ((List.Sublist.refl _).append (List.take_sublist _ _)).trans ?_
  rw [← List.append_assoc, List.take_append_drop]
  exact List.Sublist.refl _)
theorem Fine.keysKey (h : s.Fine) {k : Nat} (hk : k ∈ s.keys) : k < 18446744073709551616 := h.key k (by
  simp only [keys, List.mem_append] at hk ⊢
  rcases hk with h | h
  · exact .inl (.inl h)
  · exact .inr h)
theorem li_le (s : L9) (N : Nat) : s.li N ≤ s.inn.length := (rc_le _ _ _ _).1
theorem lm_le (s : L9) (N : Nat) : s.lm N ≤ s.main.length := (rc_le _ _ _ _).2
theorem many_le (s : L9) (N : Nat) : s.many N ≤ s.inn.length + s.main.length := by unfold many; omega
theorem l_sum (s : L9) (N : Nat) : s.li N + s.lm N + s.many N = s.inn.length + s.main.length := rc_sum _ _ _ _ (s.many_le N)
theorem shr_len (s : L9) (N : Nat) : (s.shr N).inn.length + (s.shr N).main.length + s.many N = s.inn.length + s.main.length := by
  have h1 := s.li_le N
  have h2 := s.lm_le N
  have h3 := s.l_sum N
  show (s.inn.take (s.li N)).length + (s.main.take (s.lm N)).length + s.many N = _
  rw [List.length_take, List.length_take]
  omega
theorem shrOut_len (s : L9) (N : Nat) : (s.shrOut N).length = s.many N := rcO_len _ _ _ _ _ _
theorem ok_shr (h : s.Fine) (h1 : 1 ≤ s.c) (h2 : s.c ≤ 1048576) (N : Nat) (hN : N ≤ s.c) : (s.shr N).Ok := ⟨h1, h2, h.shr N, by
  have := s.shr_len N
  have h3 : s.many N = s.inn.length + s.main.length - N := rfl
  show _ ≤ s.c
  omega, by
  show ((s.inn.drop (s.li N) ++ s.out).take (s.c / 2)).length ≤ s.c / 2
  rw [List.length_take]
  omega⟩
theorem Ok.keysLen (h : s.Ok) : s.keys.length ≤ 100000000 := by have := h.len; have := h.cap; unfold L9.keys; rw [List.length_append]; omega
theorem Ok.len_inn (h : s.Ok) : s.inn.length ≤ 100000000 := by have := h.len; have := h.cap; omega
theorem Ok.len_out (h : s.Ok) : s.out.length ≤ 100000000 := by have := h.olen; have := h.cap; omega
theorem Ok.len_main (h : s.Ok) : s.main.length ≤ 100000000 := by have := h.len; have := h.cap; omega
theorem ok_new (n : Int) : (new n).Ok := ⟨(capI_pos n).1, (capI_pos n).2, ⟨by simp [new], fun k hk => by simp [new] at hk⟩, by simp [new], by simp [new]⟩
theorem fr_perm {ks : List Nat} (h : ks.Nodup) {k : Nat} (hk : k ∈ ks) : (fr k ks).Perm ks := by
  unfold fr
  have e : wo k ks = ks.erase k := (List.Nodup.erase_eq_filter h k).symm
  rw [e]
  exact (List.perm_cons_erase hk).symm
theorem Fine.perm {t : L9} (h : s.Fine) (hp : (t.inn ++ t.out ++ t.main).Perm (s.inn ++ s.out ++ s.main)) : t.Fine := ⟨hp.nodup_iff.2 h.nd, fun k hk => h.key k (hp.mem_iff.1 hk)⟩
theorem Ok.touch (h : s.Ok) (k : Nat) : (s.touch k).Ok := by
  unfold L9.touch
  split
  · rename_i hk
    have hp := fr_perm h.fine.mainNd hk
    exact ⟨h.pos, h.cap, h.fine.perm (List.Perm.append_left _ hp), by have := h.len; have := hp.length_eq; show s.inn.length + (fr k s.main).length ≤ s.c; omega, h.olen⟩
  · exact h
theorem come_perm {t : L9} {k : Nat} (hi : k ∉ t.inn) (hm : k ∉ t.main) (b : Bool) : ((t.come k b).inn ++ (t.come k b).out ++ (t.come k b).main).Perm (k :: (t.inn ++ t.out ++ t.main)) := by
  cases b
  · show (fr k t.inn ++ t.out ++ t.main).Perm _
    rw [fr, wo_none8 hi]
    exact List.Perm.refl _
  · show (t.inn ++ t.out ++ fr k t.main).Perm _
    rw [fr, wo_none8 hm]
    exact List.perm_middle
theorem come_keys {t : L9} {k : Nat} (hi : k ∉ t.inn) (hm : k ∉ t.main) (b : Bool) : (t.come k b).keys.Perm (k :: t.keys) := by
  cases b
  · show (fr k t.inn ++ t.main).Perm _
    rw [fr, wo_none8 hi]
    exact List.Perm.refl _
  · show (t.inn ++ fr k t.main).Perm _
    rw [fr, wo_none8 hm]
    exact List.perm_middle
theorem come_c (t : L9) (k : Nat) (b : Bool) : (t.come k b).c = t.c := by cases b <;> rfl
theorem come_out (t : L9) (k : Nat) (b : Bool) : (t.come k b).out = t.out := by cases b <;> rfl
theorem shr_mem {N k : Nat} (hk : k ∈ (s.shr N).inn ++ (s.shr N).out ++ (s.shr N).main) : k ∈ s.inn ++ s.out ++ s.main := by
  simp only [List.mem_append] at hk ⊢
  rcases hk with (h | h) | h
  · exact .inl (.inl (List.mem_of_mem_take h))
  · rcases List.mem_append.1 (List.mem_of_mem_take h) with h | h
    · exact .inl (.inl (List.mem_of_mem_drop h))
    · exact .inl (.inr h)
  · exact .inr (List.mem_of_mem_take h)
theorem forget_not {k : Nat} (hk : k ∉ s.keys) : k ∉ (s.forget k).inn ++ (s.forget k).out ++ (s.forget k).main := by
  simp only [keys, List.mem_append, not_or] at hk
  show k ∉ s.inn ++ wo k s.out ++ s.main
  simp only [List.mem_append, not_or]
  exact ⟨⟨hk.1, not_wo s.out k⟩, hk.2⟩
theorem Ok.adm (h : s.Ok) (k : Nat) (hk : k < 18446744073709551616) : (s.adm k).Ok := by
  unfold L9.adm
  split
  · exact h
  · rename_i hn
    have hp := h.pos
    have hok : ((s.forget k).shr (s.c - 1)).Ok := ok_shr (h.fine.forget k) h.pos h.cap _ (by show s.c - 1 ≤ s.c; omega)
    have hnot : k ∉ ((s.forget k).shr (s.c - 1)).inn ++ ((s.forget k).shr (s.c - 1)).out ++ ((s.forget k).shr (s.c - 1)).main := fun hm => forget_not hn (shr_mem hm)
    have hlen := (s.forget k).shr_len (s.c - 1)
    have hmy : (s.forget k).many (s.c - 1) = (s.forget k).inn.length + (s.forget k).main.length - (s.c - 1) := rfl
    have hc : ((s.forget k).shr (s.c - 1)).c = s.c := rfl
    generalize (s.forget k).shr (s.c - 1) = t at hok hnot hlen hc
    have hi : k ∉ t.inn := fun h => hnot (by simp [h])
    have hm : k ∉ t.main := fun h => hnot (by simp [h])
    have hpm := come_perm hi hm (decide (k ∈ s.out))
    have hkp := (come_keys hi hm (decide (k ∈ s.out))).length_eq
    refine ⟨by rw [come_c]; exact hok.pos, by rw [come_c]; exact hok.cap, ⟨hpm.nodup_iff.2 (List.nodup_cons.2 ⟨hnot, hok.fine.nd⟩), fun x hx => ?_⟩, ?_, by rw [come_c, come_out]; exact hok.olen⟩
    · rcases List.mem_cons.1 (hpm.mem_iff.1 hx) with rfl | hx
      · exact hk
      · exact hok.fine.key x hx
    · simp only [keys, List.length_append, List.length_cons] at hkp
      rw [come_c]
      omega
theorem Ok.drop (h : s.Ok) (k : Nat) : (s.drop k).Ok := by
  have h1 := wo_len k s.inn
  have h2 := wo_len k s.main
  have h3 := wo_len k s.out
  have h4 := h.len
  have h5 := h.olen
  refine ⟨h.pos, h.cap, h.fine.sub ((List.filter_sublist.append List.filter_sublist).append List.filter_sublist), ?_, ?_⟩
  · show (wo k s.inn).length + (wo k s.main).length ≤ s.c
    omega
  · show (wo k s.out).length ≤ s.c / 2
    omega
theorem Ok.resize (h : s.Ok) (n : Int) : (s.resize n).Ok := ok_shr (h.fine.sized _) (capI_pos n).1 (capI_pos n).2 _ (Nat.le_refl _)
theorem Ok.act (h : s.Ok) {x : Act8} (wf : x.Ok) : (s.act x).Ok := by
  unfold L9.act
  split
  · exact h.touch _
  · exact h.adm _ wf.key
  · exact h.drop _
  · exact h.resize _
theorem Ok.actOutLen (h : s.Ok) {x : Act8} (_ : x.Ok) : (s.actOut x).length ≤ 100000000 := by
  have h1 := h.len
  have h2 := h.cap
  have e1 : (s.forget x.key).many (s.c - 1) = s.inn.length + s.main.length - (s.c - 1) := rfl
  have e2 : (s.sized (capI (sizeA x : Nat))).many (capI (sizeA x : Nat)) = s.inn.length + s.main.length - capI (sizeA x : Nat) := rfl
  unfold L9.actOut admitOut resizeOut
  repeat' split
  all_goals first | (simp; done) | (rw [shrOut_len]; omega)
theorem act_cases (s : L9) (x : Act8) : kindA x (decide (x.key ∈ s.keys)) = 1 ∧ s.act x = s.touch x.key ∧ s.actOut x = [] ∨ kindA x (decide (x.key ∈ s.keys)) = 2 ∧ s.act x = s.adm x.key ∧ s.actOut x = s.admitOut x.key ∨
    kindA x (decide (x.key ∈ s.keys)) = 3 ∧ s.act x = s.drop x.key ∧ s.actOut x = [] ∨ kindA x (decide (x.key ∈ s.keys)) = 4 ∧ s.act x = s.resize (sizeA x : Nat) ∧ s.actOut x = s.resizeOut (sizeA x : Nat) := by
  unfold L9.act L9.actOut
  rcases kindA_is x (decide (x.key ∈ s.keys)) with h | h | h | h <;> rw [h] <;> simp
end L9
abbrev l9C (c : Nat) (u_inn : Value) (u_out : Value) (u_main : Value) : Array Value := #[(.int .i64 (c : Nat)), u_inn, u_out, u_main]
abbrev z9 : Array Value := #[.int .i64 0, .slice none 0 0, .slice none 0 0, .slice none 0 0]
structure St9 (w : World) (s : L9) (u1 u2 u3 : Value) : Prop where
  g1 : KV w u1 s.inn
  g2 : KV w u2 s.out
  g3 : KV w u3 s.main
section
variable {w w' : World} {s : L9} {u1 u2 u3 : Value}
theorem St9.form1 (h : St9 w s u1 u2 u3) : ∃ F n c, u1 = .slice F n c := h.g1.form
theorem St9.form2 (h : St9 w s u1 u2 u3) : ∃ F n c, u2 = .slice F n c := h.g2.form
theorem St9.form3 (h : St9 w s u1 u2 u3) : ∃ F n c, u3 = .slice F n c := h.g3.form
theorem St9.below (h : St9 w s u1 u2 u3) (hb : Below w.heap.size w w') : St9 w' s u1 u2 u3 := ⟨h.g1.below hb, h.g2.below hb, h.g3.below hb⟩
theorem Bo.st9 {w0 : World} {T : TypeId} {b r : Nat} {cs zs : Array Value} (hb : Bo w0 w T b r cs zs) (ho : Only [b, r] w w') (h : St9 w s u1 u2 u3) : St9 w' s u1 u2 u3 := ⟨hb.kv ho h.g1, hb.kv ho h.g2, hb.kv ho h.g3⟩
theorem Bp.st9 {w0 : World} {T U : TypeId} {b r : Nat} {cs zs : Array Value} (hb : Bp w0 w T U b r cs zs) (ho : Only [b, r] w w') (h : St9 w s u1 u2 u3) : St9 w' s u1 u2 u3 := ⟨hb.kv ho h.g1, hb.kv ho h.g2, hb.kv ho h.g3⟩
end
def P9 (w : World) (s : L9) (e : Ending) (w' : World) : Prop := ∃ u1 u2 u3, e = .returned (.agg (l9C s.c u1 u2 u3)) ∧ Below w.heap.size w w' ∧ St9 w' s u1 u2 u3
def P9o (w : World) (s : L9) (out : List Nat) (e : Ending) (w' : World) : Prop := ∃ u1 u2 u3 o, e = .returned (.tuple #[.agg (l9C s.c u1 u2 u3), o]) ∧ Below w.heap.size w w' ∧ St9 w' s u1 u2 u3 ∧ KV w' o out
abbrev PT9 : TypeId := 28
structure Pol9Ok : Prop where
  new : ∀ (w : World) (n : Int) (_ : -9223372036854775808 ≤ n) (_ : n ≤ 9223372036854775807), Calls Tryz.prog 6 #[.int .i64 n] w (P9 w (L9.new n))
  touch : ∀ {w : World} {s : L9} {u1 u2 u3 : Value} (_ : St9 w s u1 u2 u3) (_ : s.Ok) (k : Nat) (_ : k < 18446744073709551616), Calls Tryz.prog 9 #[(.agg (l9C s.c u1 u2 u3)), .int .u64 (k : Nat)] w (P9 w (s.touch k))
  adm : ∀ {w : World} {s : L9} {u1 u2 u3 : Value} (_ : St9 w s u1 u2 u3) (_ : s.Ok) (k : Nat) (_ : k < 18446744073709551616), Calls Tryz.prog 10 #[(.agg (l9C s.c u1 u2 u3)), .int .u64 (k : Nat)] w (P9o w (s.adm k) (s.admitOut k))
  drop : ∀ {w : World} {s : L9} {u1 u2 u3 : Value} (_ : St9 w s u1 u2 u3) (_ : s.Ok) (k : Nat) (_ : k < 18446744073709551616), Calls Tryz.prog 11 #[(.agg (l9C s.c u1 u2 u3)), .int .u64 (k : Nat)] w (P9 w (s.drop k))
  resize : ∀ {w : World} {s : L9} {u1 u2 u3 : Value} (_ : St9 w s u1 u2 u3) (_ : s.Ok) (n : Int) (_ : -9223372036854775808 ≤ n) (_ : n ≤ 9223372036854775807), Calls Tryz.prog 12 #[(.agg (l9C s.c u1 u2 u3)), .int .i64 n] w (P9o w (s.resize n) (s.resizeOut n))
  has : ∀ {w : World} {s : L9} {u1 u2 u3 : Value} (_ : St9 w s u1 u2 u3) (_ : s.Ok) (k : Nat) (_ : k < 18446744073709551616), Calls Tryz.prog 8 #[(.agg (l9C s.c u1 u2 u3)), .int .u64 (k : Nat)] w (RetB w (decide (k ∈ s.keys)))
  keys : ∀ {w : World} {s : L9} {u1 u2 u3 : Value} (_ : St9 w s u1 u2 u3) (_ : s.Ok), Calls Tryz.prog 17 #[(.agg (l9C s.c u1 u2 u3))] w (RetK w s.keys)
  ghosts : ∀ {w : World} {s : L9} {u1 u2 u3 : Value} (_ : St9 w s u1 u2 u3) (_ : s.Ok), Calls Tryz.prog 19 #[(.agg (l9C s.c u1 u2 u3))] w (fun e w' => e = .returned (.int .i64 (s.ghosts : Nat)) ∧ Below w.heap.size w w')
structure Bx9 (w w1 : World) (T : TypeId) (b r : Nat) (s : L9) (u1 u2 u3 : Value) : Prop where
  bo : Bo w w1 T b r (l9C s.c u1 u2 u3) z9
  st : St9 w1 s u1 u2 u3
section
variable {w w1 w2 : World} {T : TypeId} {b r : Nat} {s : L9} {u1 u2 u3 : Value}
theorem Bx9.start (w : World) (T : TypeId) (hT : T ≠ 31) {s : L9} {F1 : Option Addr} {n1 d1 : Nat} {F2 : Option Addr} {n2 d2 : Nat} {F3 : Option Addr} {n3 d3 : Nat} (h : St9 w s (.slice F1 n1 d1) (.slice F2 n2 d2) (.slice F3 n3 d3)) : Bx9 w ((w.alloc (.cells (l9C s.c (.slice F1 n1 d1) (.slice F2 n2 d2) (.slice F3 n3 d3)) T)).alloc (.cells z9 T)) T w.heap.size (w.heap.size + 1) s (.slice F1 n1 d1) (.slice F2 n2 d2) (.slice F3 n3 d3) :=
  ⟨Bo.start w T _ _ rfl rfl hT, h.below (low_two w _ _)⟩
theorem Bx9.step (h : Bx9 w w1 T b r s u1 u2 u3) (hb : Below w1.heap.size w1 w2) : Bx9 w w2 T b r s u1 u2 u3 := ⟨h.bo.step hb, h.st.below hb⟩
theorem Bx9.kv {v : Value} {ks : List Nat} {i : Nat} {x : Value} (h : Bx9 w w1 T b r s u1 u2 u3) (hk : KV w1 v ks) : KV (w1.setCell ⟨b, i, none⟩ x) v ks := h.bo.kv ((Only.refl _ _).setCell (by simp) _) hk
theorem Bx9.set1 (h : Bx9 w w1 T b r s u1 u2 u3) {F : Option Addr} {m d : Nat} {ks : List Nat} (hk : KV w1 (.slice F m d) ks) : Bx9 w (w1.setCell ⟨b, 1, none⟩ (.slice F m d)) T b r ⟨s.c, ks, s.out, s.main⟩ (.slice F m d) u2 u3 := by
  obtain ⟨F1, n1, d1, rfl⟩ := h.st.form1
  obtain ⟨F2, n2, d2, rfl⟩ := h.st.form2
  obtain ⟨F3, n3, d3, rfl⟩ := h.st.form3
  obtain ⟨h1, h2⟩ := h.bo.set 1 (.slice F m d) rfl
  exact ⟨h1, h.bo.kv h2 hk, h.bo.kv h2 h.st.g2, h.bo.kv h2 h.st.g3⟩
theorem Bx9.set2 (h : Bx9 w w1 T b r s u1 u2 u3) {F : Option Addr} {m d : Nat} {ks : List Nat} (hk : KV w1 (.slice F m d) ks) : Bx9 w (w1.setCell ⟨b, 2, none⟩ (.slice F m d)) T b r ⟨s.c, s.inn, ks, s.main⟩ u1 (.slice F m d) u3 := by
  obtain ⟨F1, n1, d1, rfl⟩ := h.st.form1
  obtain ⟨F2, n2, d2, rfl⟩ := h.st.form2
  obtain ⟨F3, n3, d3, rfl⟩ := h.st.form3
  obtain ⟨h1, h2⟩ := h.bo.set 2 (.slice F m d) rfl
  exact ⟨h1, h.bo.kv h2 h.st.g1, h.bo.kv h2 hk, h.bo.kv h2 h.st.g3⟩
theorem Bx9.set3 (h : Bx9 w w1 T b r s u1 u2 u3) {F : Option Addr} {m d : Nat} {ks : List Nat} (hk : KV w1 (.slice F m d) ks) : Bx9 w (w1.setCell ⟨b, 3, none⟩ (.slice F m d)) T b r ⟨s.c, s.inn, s.out, ks⟩ u1 u2 (.slice F m d) := by
  obtain ⟨F1, n1, d1, rfl⟩ := h.st.form1
  obtain ⟨F2, n2, d2, rfl⟩ := h.st.form2
  obtain ⟨F3, n3, d3, rfl⟩ := h.st.form3
  obtain ⟨h1, h2⟩ := h.bo.set 3 (.slice F m d) rfl
  exact ⟨h1, h.bo.kv h2 h.st.g1, h.bo.kv h2 h.st.g2, h.bo.kv h2 hk⟩
theorem Bx9.set0 (h : Bx9 w w1 T b r s u1 u2 u3) (c' : Nat) : Bx9 w (w1.setCell ⟨b, 0, none⟩ (.int .i64 (c' : Nat))) T b r ⟨c', s.inn, s.out, s.main⟩ u1 u2 u3 := by
  obtain ⟨F1, n1, d1, rfl⟩ := h.st.form1
  obtain ⟨F2, n2, d2, rfl⟩ := h.st.form2
  obtain ⟨F3, n3, d3, rfl⟩ := h.st.form3
  obtain ⟨h1, h2⟩ := h.bo.set 0 (.int .i64 (c' : Nat)) rfl
  exact ⟨h1, h.bo.kv h2 h.st.g1, h.bo.kv h2 h.st.g2, h.bo.kv h2 h.st.g3⟩
theorem Bx9.only (_ : Bx9 w w1 T b r s u1 u2 u3) : Only [b, r] w1 ((((w1.setCell ⟨r, 0, none⟩ (.int .i64 (s.c : Nat))).setCell ⟨r, 1, none⟩ u1).setCell ⟨r, 2, none⟩ u2).setCell ⟨r, 3, none⟩ u3) := ((((Only.refl _ _).setCell (by simp) _).setCell (by simp) _).setCell (by simp) _).setCell (by simp) _
theorem Bx9.done (h : Bx9 w w1 T b r s u1 u2 u3) : P9 w s (.returned (.agg (l9C s.c u1 u2 u3))) ((((w1.setCell ⟨r, 0, none⟩ (.int .i64 (s.c : Nat))).setCell ⟨r, 1, none⟩ u1).setCell ⟨r, 2, none⟩ u2).setCell ⟨r, 3, none⟩ u3) := ⟨_, _, _, rfl, h.bo.fin h.only, h.bo.st9 h.only h.st⟩
theorem Bx9.doneo (h : Bx9 w w1 T b r s u1 u2 u3) {o : Value} {out : List Nat} (ho : KV w1 o out) : P9o w s out (.returned (.tuple #[.agg (l9C s.c u1 u2 u3), o])) ((((w1.setCell ⟨r, 0, none⟩ (.int .i64 (s.c : Nat))).setCell ⟨r, 1, none⟩ u1).setCell ⟨r, 2, none⟩ u2).setCell ⟨r, 3, none⟩ u3) := ⟨_, _, _, _, rfl, h.bo.fin h.only, h.bo.st9 h.only h.st, h.bo.kv h.only ho⟩
theorem Bx9.put {s' : L9} {u1 u2 u3 : Value} {F1 : Option Addr} {n1 d1 : Nat} {F2 : Option Addr} {n2 d2 : Nat} {F3 : Option Addr} {n3 d3 : Nat} (h : Bx9 w w1 T b r s u1 u2 u3) (hs : St9 w1 s' (.slice F1 n1 d1) (.slice F2 n2 d2) (.slice F3 n3 d3)) : Bx9 w ((((w1.setCell ⟨b, 0, none⟩ (.int .i64 (s'.c : Nat))).setCell ⟨b, 1, none⟩ (.slice F1 n1 d1)).setCell ⟨b, 2, none⟩ (.slice F2 n2 d2)).setCell ⟨b, 3, none⟩ (.slice F3 n3 d3)) T b r s' (.slice F1 n1 d1) (.slice F2 n2 d2) (.slice F3 n3 d3) := by
  obtain ⟨h1, h2⟩ := c4_set h.bo.box (.int .i64 (s'.c : Nat)) (.slice F1 n1 d1) (.slice F2 n2 d2) (.slice F3 n3 d3)
  have ho : Only [b, r] w1 ((((w1.setCell ⟨b, 0, none⟩ (.int .i64 (s'.c : Nat))).setCell ⟨b, 1, none⟩ (.slice F1 n1 d1)).setCell ⟨b, 2, none⟩ (.slice F2 n2 d2)).setCell ⟨b, 3, none⟩ (.slice F3 n3 d3)) := ((((Only.refl _ _).setCell (by simp) _).setCell (by simp) _).setCell (by simp) _).setCell (by simp) _
  exact ⟨⟨h.bo.fin ho, h1, (h2.block r (head_row h.bo.res).lt (by simpa using fun e => h.bo.ge.2.2 e.symm)).trans h.bo.res, h.bo.ge, ⟨rfl, h.bo.nu.2⟩, h.bo.ty⟩, h.bo.st9 ho hs⟩
theorem Bx9.alloc {s' : L9} {v1 v2 v3 : Value} {F1 : Option Addr} {n1 d1 : Nat} {F2 : Option Addr} {n2 d2 : Nat} {F3 : Option Addr} {n3 d3 : Nat} (h : Bx9 w w1 T b r s' v1 v2 v3) (hs : St9 w1 s (.slice F1 n1 d1) (.slice F2 n2 d2) (.slice F3 n3 d3)) : Bx9 w (w1.alloc (.cells (l9C s.c (.slice F1 n1 d1) (.slice F2 n2 d2) (.slice F3 n3 d3)) T)) T w1.heap.size r s (.slice F1 n1 d1) (.slice F2 n2 d2) (.slice F3 n3 d3) :=
  ⟨h.bo.alloc _ rfl, hs.below (low_one w1 _)⟩
end
structure Bs9 (w w1 : World) (T : TypeId) (b : Nat) (s : L9) (u1 u2 u3 : Value) : Prop where
  low : Below w.heap.size w w1
  box : w1.heap[b]? = some (.cells (l9C s.c u1 u2 u3) T (0, 0))
  ge : w.heap.size ≤ b
  ty : T ≠ 31
  st : St9 w1 s u1 u2 u3
section
variable {w w1 w2 : World} {T : TypeId} {b : Nat} {s : L9} {u1 u2 u3 : Value}
theorem Bs9.step (h : Bs9 w w1 T b s u1 u2 u3) (hb : Below w1.heap.size w1 w2) : Bs9 w w2 T b s u1 u2 u3 := ⟨h.low.trans (hb.mono h.low.size), (hb.block b (head_row h.box).lt).trans h.box, h.ge, h.ty, h.st.below hb⟩
theorem Bs9.new {F1 : Option Addr} {n1 d1 : Nat} {F2 : Option Addr} {n2 d2 : Nat} {F3 : Option Addr} {n3 d3 : Nat} (hT : T ≠ 31) (hb : Below w.heap.size w w1) (hs : St9 w1 s (.slice F1 n1 d1) (.slice F2 n2 d2) (.slice F3 n3 d3)) : Bs9 w (w1.alloc (.cells (l9C s.c (.slice F1 n1 d1) (.slice F2 n2 d2) (.slice F3 n3 d3)) T)) T w1.heap.size s (.slice F1 n1 d1) (.slice F2 n2 d2) (.slice F3 n3 d3) := ⟨hb.alloc hb.size _, heap_alloc_new w1 _, hb.size, hT, hs.below (low_one w1 _)⟩
theorem Bs9.put {s' : L9} {F1 : Option Addr} {n1 d1 : Nat} {F2 : Option Addr} {n2 d2 : Nat} {F3 : Option Addr} {n3 d3 : Nat} (h : Bs9 w w1 T b s u1 u2 u3) (hs : St9 w1 s' (.slice F1 n1 d1) (.slice F2 n2 d2) (.slice F3 n3 d3)) : Bs9 w ((((w1.setCell ⟨b, 0, none⟩ (.int .i64 (s'.c : Nat))).setCell ⟨b, 1, none⟩ (.slice F1 n1 d1)).setCell ⟨b, 2, none⟩ (.slice F2 n2 d2)).setCell ⟨b, 3, none⟩ (.slice F3 n3 d3)) T b s' (.slice F1 n1 d1) (.slice F2 n2 d2) (.slice F3 n3 d3) := by
  obtain ⟨G1, m1, e1, rfl⟩ := h.st.form1
  obtain ⟨G2, m2, e2, rfl⟩ := h.st.form2
  obtain ⟨G3, m3, e3, rfl⟩ := h.st.form3
  obtain ⟨h1, h2⟩ := c4_set h.box (.int .i64 (s'.c : Nat)) (.slice F1 n1 d1) (.slice F2 n2 d2) (.slice F3 n3 d3)
  have hbx : ∀ g ∈ [b], Bx w1 g := fun g hg => by
    rw [List.mem_singleton] at hg
    subst hg
    exact ⟨_, _, h.box, rfl, h.ty⟩
  exact ⟨h.low.trans (h2.below (by simp; exact h.ge) h.low.size), h1, h.ge, h.ty, hs.g1.only h2 hbx, hs.g2.only h2 hbx, hs.g3.only h2 hbx⟩
theorem Bs9.kv {v : Value} {ks : List Nat} {s' : L9} {v1 v2 v3 : Value} (h : Bs9 w w1 T b s u1 u2 u3) (hk : KV w1 v ks) : KV ((((w1.setCell ⟨b, 0, none⟩ (.int .i64 (s'.c : Nat))).setCell ⟨b, 1, none⟩ v1).setCell ⟨b, 2, none⟩ v2).setCell ⟨b, 3, none⟩ v3) v ks := by
  obtain ⟨G1, m1, e1, rfl⟩ := h.st.form1
  obtain ⟨G2, m2, e2, rfl⟩ := h.st.form2
  obtain ⟨G3, m3, e3, rfl⟩ := h.st.form3
  have hbx : ∀ g ∈ [b], Bx w1 g := fun g hg => by
    rw [List.mem_singleton] at hg
    subst hg
    exact ⟨_, _, h.box, rfl, h.ty⟩
  exact hk.only (((((Only.refl [b] _).setCell (by simp) _).setCell (by simp) _).setCell (by simp) _).setCell (by simp) _) hbx
end
section
variable {w : World} {u1 u2 u3 : Value} {s : L9}
def P9n (w : World) (s : L9) (u1 u2 u3 : Value) (e : Ending) (w' : World) : Prop := ∃ v1 v2 v3, e = .returned (.agg (l9C s.c v1 v2 v3)) ∧ Below w.heap.size w w' ∧ St9 w' s v1 v2 v3 ∧ Nw w.heap.size u1 v1 ∧ Nw w.heap.size u2 v2 ∧ Nw w.heap.size u3 v3
end
section
variable {w : World} {u1 u2 u3 : Value} {s : L9}
def P9k (w : World) (s : L9) (k : Nat) (u1 u2 u3 : Value) (e : Ending) (w' : World) : Prop := ∃ v1 v2 v3, e = .returned (.tuple #[.agg (l9C s.c v1 v2 v3), .int .u64 (k : Nat)]) ∧ Below w.heap.size w w' ∧ St9 w' s v1 v2 v3 ∧ Nw w.heap.size u1 v1 ∧ Nw w.heap.size u2 v2 ∧ Nw w.heap.size u3 v3
end
def L9.outAt (s : L9) (i : Nat) : List Nat := if i = s.inn.length then s.out else (s.inn.drop i ++ s.out).take (s.c / 2)
theorem cons_take {k h : Nat} {x : List Nat} : (k :: x.take h).take h = (k :: x).take h := by
  cases h with
  | zero => rfl
  | succ j => rw [List.take_succ_cons, List.take_succ_cons, List.take_take, Nat.min_eq_left (by omega)]
section
variable {w wr : World} {u1 u2 u3 : Value} {s : L9}
def At9N (w : World) (s : L9) (N f : Nat) (acc : List Nat) (i m : Nat) (u1 u2 u3 : Value) (e : Ending) (w' : World) : Prop := ∃ i' m' x, P9k w ⟨s.c, s.inn.take i', s.outAt i', s.main.take m'⟩ x u1 u2 u3 e w' ∧ i' + m' + 1 = i + m ∧ i' ≤ s.inn.length ∧ m' ≤ s.main.length ∧
  rcI (kin9 s.c) f i' m' = s.li N ∧ rcM (kin9 s.c) f i' m' = s.lm N ∧ (acc ++ [x]) ++ rcO (kin9 s.c) s.inn s.main f i' m' = s.shrOut N
end
section
variable {w : World} {u1 u2 u3 : Value} {s : L9}
end
section
variable {w : World} {u1 u2 u3 : Value} {s : L9}
abbrev Ld9 (w' : World) (b a : Nat) (c : Nat) (F1 : Option Addr) (n1 d1 : Nat) (F2 : Option Addr) (n2 d2 : Nat) (F3 : Option Addr) (n3 d3 : Nat) (x : Act8) : Prop := w'.cell? ⟨b, 0, none⟩ = some (.int .i64 (c : Nat)) ∧ w'.cell? ⟨b, 1, none⟩ = some (.slice F1 n1 d1) ∧ w'.cell? ⟨b, 2, none⟩ = some (.slice F2 n2 d2) ∧ w'.cell? ⟨b, 3, none⟩ = some (.slice F3 n3 d3) ∧ w'.cell? ⟨a, 0, none⟩ = some (.int .u8 (x.kind : Nat)) ∧ w'.cell? ⟨a, 1, none⟩ = some (.int .u64 (x.key : Nat)) ∧ w'.cell? ⟨a, 2, none⟩ = some (.int .u16 (x.n : Nat))
end
section
variable {w : World} {u1 u2 u3 : Value} {s : L9}
end
def Af9 (w4 : World) (T : TypeId) (s : L9) (out : List Nat) (v o : Value) (wx : World) : Prop := ∃ (P : Nat) (F1 : Option Addr) (n1 d1 : Nat) (F2 : Option Addr) (n2 d2 : Nat) (F3 : Option Addr) (n3 d3 : Nat), v = .pointer (some ⟨P, 0, none⟩) ∧ Below w4.heap.size w4 wx ∧ w4.heap.size ≤ P ∧ wx.heap[P]? = some (.cells (l9C s.c (.slice F1 n1 d1) (.slice F2 n2 d2) (.slice F3 n3 d3)) T (0, 0)) ∧ St9 wx s (.slice F1 n1 d1) (.slice F2 n2 d2) (.slice F3 n3 d3) ∧ KV wx o out
section
variable {w4 w5 : World} {T : TypeId} {s : L9} {out : List Nat} {o : Value} {F1 : Option Addr} {n1 d1 : Nat} {F2 : Option Addr} {n2 d2 : Nat} {F3 : Option Addr} {n3 d3 : Nat}
theorem af9_b (hb : Below w4.heap.size w4 w5) (hs : St9 w5 s (.slice F1 n1 d1) (.slice F2 n2 d2) (.slice F3 n3 d3)) (ho : KV w5 o out) : Af9 w4 T s out (.pointer (some ⟨w5.heap.size, 0, none⟩)) o (w5.alloc (.cells (l9C s.c (.slice F1 n1 d1) (.slice F2 n2 d2) (.slice F3 n3 d3)) T)) :=
  ⟨_, _, _, _, _, _, _, _, _, _, rfl, hb.alloc hb.size _, hb.size, heap_alloc_new w5 _, hs.below (low_one w5 _), ho.below (low_one w5 _)⟩
theorem af9_a {O : Obj} {zs : Array Value} (hT : T ≠ 31) (hz : NoU zs) (hzn : ∃ x0 x1 x2 x3, zs = #[x0, x1, x2, x3]) (hb : Below (w4.alloc O).heap.size (w4.alloc O) w5) (hP : w5.heap[w4.heap.size]? = some (.cells zs T (0, 0))) (hs : St9 w5 s (.slice F1 n1 d1) (.slice F2 n2 d2) (.slice F3 n3 d3)) (ho : KV w5 o out) : Af9 w4 T s out (.pointer (some ⟨w4.heap.size, 0, none⟩)) o ((((w5.setCell ⟨w4.heap.size, 0, none⟩ (.int .i64 ((s).c : Nat))).setCell ⟨w4.heap.size, 1, none⟩ (.slice F1 n1 d1)).setCell ⟨w4.heap.size, 2, none⟩ (.slice F2 n2 d2)).setCell ⟨w4.heap.size, 3, none⟩ (.slice F3 n3 d3)) := by
  obtain ⟨x0, x1, x2, x3, rfl⟩ := hzn
  obtain ⟨h1, h2⟩ := c4_set hP (.int .i64 ((s).c : Nat)) (.slice F1 n1 d1) (.slice F2 n2 d2) (.slice F3 n3 d3)
  have hl : Below w4.heap.size w4 w5 := (low_one w4 O).trans (hb.mono (by simp))
  have hbx : ∀ g ∈ [w4.heap.size], Bx w5 g := fun g hg => by
    simp only [List.mem_singleton] at hg
    subst hg
    exact ⟨_, _, hP, hz, hT⟩
  exact ⟨_, _, _, _, _, _, _, _, _, _, rfl, hl.trans (h2.below (by simp) hl.size), Nat.le_refl _, h1, ⟨hs.g1.only h2 hbx, hs.g2.only h2 hbx, hs.g3.only h2 hbx⟩, ho.only h2 hbx⟩
end
def L9.runS (s : L9) (l : List Act8) : L9 := l.foldl L9.act s
theorem L9.runS_next (s : L9) {l : List Act8} {i : Nat} (hi : i < l.length) : s.runS (l.take (i + 1)) = (s.runS (l.take i)).act l[i] := by
  unfold L9.runS
  rw [List.take_succ_eq_append_getElem hi, List.foldl_append]
  rfl
theorem L9.Ok.runS {s : L9} (h : s.Ok) : ∀ (l : List Act8), (∀ x ∈ l, x.Ok) → (s.runS l).Ok
  | [], _ => h
  | x :: l, hx => L9.Ok.runS (h.act (hx x (by simp))) l (fun y hy => hx y (by simp [hy]))
section
variable {w : World} {v : Value} {l : List Act8}
end
end Go.Proofs.YtcjcddlflincdaaGreat
