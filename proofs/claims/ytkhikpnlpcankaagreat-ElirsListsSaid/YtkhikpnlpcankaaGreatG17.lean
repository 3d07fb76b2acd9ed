/- Words and walks: LrP LrB LrO. -/
import Derived.Test.YtkhikpnlpcankaaGreatG1
namespace Go.Proofs.YtkhikpnlpcankaaGreat
open Go Go.RowKit Go.Deep
structure L8 where
  c : Nat
  l : List Nat
namespace L8
def keys (s : L8) : List Nat := s.l
def ghosts (_ : L8) : Nat := 0
def new (n : Int) : L8 := ⟨capI n, []⟩
def touch (s : L8) (k : Nat) : L8 := if k ∈ s.l then ⟨s.c, fr k s.l⟩ else s
def adm (s : L8) (k : Nat) : L8 := if k ∈ s.l then s else ⟨s.c, fr k (s.l.take (s.c - 1))⟩
def admitOut (s : L8) (k : Nat) : List Nat := if k ∈ s.l then [] else (s.l.drop (s.c - 1)).reverse
def drop (s : L8) (k : Nat) : L8 := ⟨s.c, wo k s.l⟩
def resize (s : L8) (n : Int) : L8 := ⟨capI n, s.l.take (capI n)⟩
def resizeOut (s : L8) (n : Int) : List Nat := (s.l.drop (capI n)).reverse
def act (s : L8) (x : Act8) : L8 := match kindA x (decide (x.key ∈ s.keys)) with
  | 1 => s.touch x.key
  | 2 => s.adm x.key
  | 3 => s.drop x.key
  | _ => s.resize (sizeA x : Nat)
def actOut (s : L8) (x : Act8) : List Nat := match kindA x (decide (x.key ∈ s.keys)) with
  | 1 => []
  | 2 => s.admitOut x.key
  | 3 => []
  | _ => s.resizeOut (sizeA x : Nat)
structure Ok (s : L8) : Prop where
  pos : 1 ≤ s.c
  cap : s.c ≤ 1048576
  nd : s.l.Nodup
  len : s.l.length ≤ s.c
  key : ∀ k ∈ s.l, k < 18446744073709551616
end L8
theorem wo_mem {ks : List Nat} {k x : Nat} : x ∈ wo k ks ↔ x ∈ ks ∧ x ≠ k := by simp [wo]
theorem fr_mem {ks : List Nat} {k x : Nat} : x ∈ fr k ks ↔ x = k ∨ x ∈ ks ∧ x ≠ k := by simp [fr, wo_mem]
theorem wo_lt {ks : List Nat} {k : Nat} (h : k ∈ ks) : (wo k ks).length < ks.length := by
  unfold wo
  exact List.length_filter_lt_length_iff_exists.2 ⟨k, h, by simp⟩
theorem take_nodup {ks : List Nat} (h : ks.Nodup) (n : Nat) : (ks.take n).Nodup := h.sublist (List.take_sublist n ks)
theorem fr_len_in {ks : List Nat} {k : Nat} (h : k ∈ ks) : (fr k ks).length ≤ ks.length := by
  have := wo_lt h
  simp [fr]
  omega
theorem wo_count8 {ks : List Nat} (h : ks.Nodup) (k : Nat) : (wo k ks).length = if k ∈ ks then ks.length - 1 else ks.length := by
  have e : wo k ks = ks.erase k := (List.Nodup.erase_eq_filter h k).symm
  rw [e, List.length_erase]
theorem wo_none8 {ks : List Nat} {k : Nat} (h : k ∉ ks) : wo k ks = ks := by
  unfold wo
  refine List.filter_eq_self.2 (fun a ha => ?_)
  simp only [bne_iff_ne, ne_eq]
  rintro rfl
  exact h ha
namespace L8
variable {s : L8}
theorem Ok.keysLen (h : s.Ok) : s.keys.length ≤ 100000000 := by have := h.len; have := h.cap; unfold L8.keys; omega
theorem Ok.hl (h : s.Ok) : s.l.length ≤ 100000000 := by have := h.len; have := h.cap; omega
theorem ok_new (n : Int) : (new n).Ok := ⟨(capI_pos n).1, (capI_pos n).2, List.nodup_nil, by simp [new], fun k hk => by simp [new] at hk⟩
theorem Ok.touch (h : s.Ok) (k : Nat) : (s.touch k).Ok := by
  unfold L8.touch
  split
  · rename_i hk
    exact ⟨h.pos, h.cap, fr_nodup h.nd k, Nat.le_trans (fr_len_in hk) h.len, fun x hx => by
      rcases fr_mem.1 hx with rfl | hx
      · exact h.key _ hk
      · exact h.key x hx.1⟩
  · exact h
theorem Ok.adm (h : s.Ok) (k : Nat) (hk : k < 18446744073709551616) : (s.adm k).Ok := by
  unfold L8.adm
  split
  · exact h
  · have h1 := fr_len k (s.l.take (s.c - 1))
    rw [List.length_take] at h1
    have hp := h.pos
    exact ⟨h.pos, h.cap, fr_nodup (take_nodup h.nd _) k, by show (fr k (s.l.take (s.c - 1))).length ≤ s.c; omega, fun x hx => by
      rcases fr_mem.1 hx with rfl | hx
      · exact hk
      · exact h.key x (List.mem_of_mem_take hx.1)⟩
theorem Ok.drop (h : s.Ok) (k : Nat) : (s.drop k).Ok := ⟨h.pos, h.cap, wo_nodup h.nd k, Nat.le_trans (wo_len k s.l) h.len, fun x hx => h.key x (wo_mem.1 hx).1⟩
theorem Ok.resize (h : s.Ok) (n : Int) : (s.resize n).Ok := ⟨(capI_pos n).1, (capI_pos n).2, take_nodup h.nd _, by
  show (s.l.take (capI n)).length ≤ capI n
  rw [List.length_take]
  omega, fun x hx => h.key x (List.mem_of_mem_take hx)⟩
theorem Ok.act (h : s.Ok) {x : Act8} (wf : x.Ok) : (s.act x).Ok := by
  unfold L8.act
  split
  · exact h.touch _
  · exact h.adm _ wf.key
  · exact h.drop _
  · exact h.resize _
theorem Ok.actOutLen (h : s.Ok) {x : Act8} (_ : x.Ok) : (s.actOut x).length ≤ 100000000 := by
  have h1 := h.len
  have h2 := h.cap
  unfold L8.actOut admitOut resizeOut
  repeat' split
  all_goals simp
  all_goals omega
theorem act_cases (s : L8) (x : Act8) : kindA x (decide (x.key ∈ s.keys)) = 1 ∧ s.act x = s.touch x.key ∧ s.actOut x = [] ∨ kindA x (decide (x.key ∈ s.keys)) = 2 ∧ s.act x = s.adm x.key ∧ s.actOut x = s.admitOut x.key ∨
    kindA x (decide (x.key ∈ s.keys)) = 3 ∧ s.act x = s.drop x.key ∧ s.actOut x = [] ∨ kindA x (decide (x.key ∈ s.keys)) = 4 ∧ s.act x = s.resize (sizeA x : Nat) ∧ s.actOut x = s.resizeOut (sizeA x : Nat) := by
  unfold L8.act L8.actOut
  rcases kindA_is x (decide (x.key ∈ s.keys)) with h | h | h | h <;> rw [h] <;> simp
theorem split_mem {l : List Nat} (h : l.Nodup) (m : Nat) {k : Nat} (hk : k ∈ l.drop m) : k ∈ l ∧ k ∉ l.take m := by
  refine ⟨List.mem_of_mem_drop hk, fun ht => ?_⟩
  rw [← List.take_append_drop m l] at h
  exact (List.nodup_append.1 h).2.2 _ ht _ hk rfl
theorem split_either {l : List Nat} (m : Nat) {k : Nat} (hk : k ∈ l) : k ∈ l.take m ∨ k ∈ l.drop m := by
  rw [← List.take_append_drop m l] at hk
  exact List.mem_append.1 hk
theorem split_nodup {l : List Nat} (h : l.Nodup) (m : Nat) : ((l.drop m).reverse).Nodup := (List.pairwise_reverse.2 ((h.sublist (List.drop_sublist m l)).imp (fun h => fun e => h e.symm)))
theorem evs_none {was is : List Nat} {q key size : Nat} (hq : q = 1 ∨ q = 2 ∧ key ∈ was) (h : ∀ k ∈ was, k ∈ is) (hl : is.length = was.length) : Evs was is [] q key size := by
  refine ⟨fun k hk => by simp at hk, fun k hk => .inr (.inl (h k hk)), List.nodup_nil, ?_, fun e => by omega⟩
  rw [if_neg (by rintro ⟨h1, h2⟩; rcases hq with h | h; exact absurd h1 (by omega); exact h2 h.2), if_neg (by rintro ⟨h1, _⟩; omega), hl]
  simp
theorem evs_drop {was is : List Nat} {key size : Nat} (h : ∀ k ∈ was, k ∈ is ∨ k = key) (hl : is.length = if key ∈ was then was.length - 1 else was.length) : Evs was is [] 3 key size := by
  refine ⟨fun k hk => by simp at hk, fun k hk => .inr ((h k hk).imp id (fun e => ⟨rfl, e⟩)), List.nodup_nil, ?_, fun e => by omega⟩
  rw [if_neg (by rintro ⟨h1, h2⟩; omega), hl]
  by_cases hk : key ∈ was
  · have := List.length_pos_of_mem hk
    rw [if_pos hk, if_pos ⟨rfl, hk⟩]
    simp
    omega
  · rw [if_neg hk, if_neg (by rintro ⟨_, h⟩; exact hk h)]
    simp
theorem evs_resize {was is out : List Nat} {key size : Nat} (h1 : ∀ k ∈ out, k ∈ was ∧ k ∉ is) (h2 : ∀ k ∈ was, k ∈ out ∨ k ∈ is) (h3 : out.Nodup) (h4 : is.length + out.length = was.length) (h5 : out.length = was.length - size) : Evs was is out 4 key size := by
  refine ⟨h1, fun k hk => (h2 k hk).imp id .inl, h3, ?_, fun _ => by omega⟩
  rw [if_neg (by rintro ⟨h1, h2⟩; omega), if_neg (by rintro ⟨h1, h2⟩; omega)]
  omega
theorem evs_admit {was is out : List Nat} {key size : Nat} (hk : key ∉ was) (h1 : ∀ k ∈ out, k ∈ was ∧ k ∉ is) (h2 : ∀ k ∈ was, k ∈ out ∨ k ∈ is) (h3 : out.Nodup) (h4 : is.length + out.length = was.length + 1) : Evs was is out 2 key size := by
  refine ⟨h1, fun k hk => (h2 k hk).imp id .inl, h3, ?_, fun e => by omega⟩
  rw [if_pos ⟨rfl, hk⟩, if_neg (by rintro ⟨h1, h2⟩; omega)]
  omega
theorem Ok.evs (h : s.Ok) {x : Act8} (_ : x.Ok) : Evs s.keys (s.act x).keys (s.actOut x) (kindA x (decide (x.key ∈ s.keys))) x.key (sizeA x) := by
  have hz := sizeA_is x
  rcases act_cases s x with ⟨hq, e1, e2⟩ | ⟨hq, e1, e2⟩ | ⟨hq, e1, e2⟩ | ⟨hq, e1, e2⟩
  · rw [hq, e1, e2]
    refine evs_none (.inl rfl) (fun k hk => ?_) ?_
    · unfold L8.keys L8.touch
      split
      · exact fr_mem.2 (by by_cases e : k = x.key; exact .inl e; exact .inr ⟨hk, e⟩)
      · exact hk
    · unfold L8.keys L8.touch
      split
      · rename_i hin
        have := wo_count8 h.nd x.key
        rw [if_pos hin] at this
        have hp := List.length_pos_of_mem hin
        simp [fr, this]
        omega
      · rfl
  · rw [hq, e1, e2]
    by_cases hin : x.key ∈ s.l
    · have f1 : s.adm x.key = s := by unfold L8.adm; rw [if_pos hin]
      have f2 : s.admitOut x.key = [] := by unfold L8.admitOut; rw [if_pos hin]
      rw [f1, f2]
      exact evs_none (.inr ⟨rfl, hin⟩) (fun k hk => hk) rfl
    · have f1 : (s.adm x.key).keys = x.key :: s.l.take (s.c - 1) := by
        unfold L8.adm L8.keys
        rw [if_neg hin]
        show fr x.key _ = _
        unfold fr
        rw [wo_none8 (fun hm => hin (List.mem_of_mem_take hm))]
      have f2 : s.admitOut x.key = (s.l.drop (s.c - 1)).reverse := by unfold L8.admitOut; rw [if_neg hin]
      rw [f1, f2]
      refine evs_admit hin (fun k hk => ?_) (fun k hk => ?_) (split_nodup h.nd _) ?_
      · have := split_mem h.nd _ (List.mem_reverse.1 hk)
        refine ⟨this.1, fun hm => ?_⟩
        rcases List.mem_cons.1 hm with e | hm
        · rw [← e] at hin
          exact hin this.1
        · exact this.2 hm
      · rcases split_either (s.c - 1) hk with h | h
        · exact .inr (List.mem_cons_of_mem _ h)
        · exact .inl (List.mem_reverse.2 h)
      · simp [keys]
        omega
  · rw [hq, e1, e2]
    refine evs_drop (fun k hk => ?_) (wo_count8 h.nd x.key)
    by_cases e : k = x.key
    · exact .inr e
    · exact .inl (wo_mem.2 ⟨hk, e⟩)
  · rw [hq, e1, e2]
    have hc := capI_nat (sizeA x) (by omega) (by omega)
    unfold L8.resize L8.resizeOut L8.keys
    rw [hc]
    refine evs_resize (fun k hk => split_mem h.nd _ (List.mem_reverse.1 hk)) (fun k hk => (split_either (sizeA x) hk).elim .inr (fun h => .inl (List.mem_reverse.2 h))) (split_nodup h.nd _) ?_ ?_
    · simp
      omega
    · simp
end L8
abbrev l8C (c : Nat) (u_l : Value) : Array Value := #[(.int .i64 (c : Nat)), u_l]
abbrev z8 : Array Value := #[.int .i64 0, .slice none 0 0]
structure St8 (w : World) (s : L8) (u1 : Value) : Prop where
  g1 : KV w u1 s.l
section
variable {w w' : World} {s : L8} {u1 : Value}
theorem St8.form1 (h : St8 w s u1) : ∃ F n c, u1 = .slice F n c := h.g1.form
theorem St8.below (h : St8 w s u1) (hb : Below w.heap.size w w') : St8 w' s u1 := ⟨h.g1.below hb⟩
end
def P8 (w : World) (s : L8) (e : Ending) (w' : World) : Prop := ∃ u1, e = .returned (.agg (l8C s.c u1)) ∧ Below w.heap.size w w' ∧ St8 w' s u1
def P8o (w : World) (s : L8) (out : List Nat) (e : Ending) (w' : World) : Prop := ∃ u1 o, e = .returned (.tuple #[.agg (l8C s.c u1), o]) ∧ Below w.heap.size w w' ∧ St8 w' s u1 ∧ KV w' o out
end Go.Proofs.YtkhikpnlpcankaaGreat
