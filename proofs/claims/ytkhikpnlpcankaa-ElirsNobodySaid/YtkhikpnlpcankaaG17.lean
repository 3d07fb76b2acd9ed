/- Words and walks: LrP LrB LrO. -/
import Derived.Test.YtkhikpnlpcankaaG1
namespace Go.Proofs.Ytkhikpnlpcankaa
open Go Go.RowKit Go.Deep
structure L8 where
  c : Nat
  l : List Nat
namespace L8
def keys (s : L8) : List Nat := s.l
def ghosts (_ : L8) : Nat := 0
def new (n : Int) : L8 := ⟨capI n, []⟩
def touch (s : L8) (k : Nat) : L8 := if k ∈ s.l then ⟨s.c, fr k s.l⟩ else s
def adm (s : L8) (k : Nat) : L8 := if k ∈ s.l then s else ⟨s.c, fr k (s.l.take (s.c - 1))⟩
def admitOut (s : L8) (k : Nat) : List Nat := if k ∈ s.l then [] else (s.l.drop (s.c - 1)).reverse
def drop (s : L8) (k : Nat) : L8 := ⟨s.c, wo k s.l⟩
def resize (s : L8) (n : Int) : L8 := ⟨capI n, s.l.take (capI n)⟩
def resizeOut (s : L8) (n : Int) : List Nat := (s.l.drop (capI n)).reverse
def act (s : L8) (x : Act8) : L8 := match kindA x (decide (x.key ∈ s.keys)) with
  | 1 => s.touch x.key
  | 2 => s.adm x.key
  | 3 => s.drop x.key
  | _ => s.resize (sizeA x : Nat)
def actOut (s : L8) (x : Act8) : List Nat := match kindA x (decide (x.key ∈ s.keys)) with
  | 1 => []
  | 2 => s.admitOut x.key
  | 3 => []
  | _ => s.resizeOut (sizeA x : Nat)
structure Ok (s : L8) : Prop where
  pos : 1 ≤ s.c
  cap : s.c ≤ 1048576
  nd : s.l.Nodup
  len : s.l.length ≤ s.c
  key : ∀ k ∈ s.l, k < 18446744073709551616
end L8
theorem wo_mem {ks : List Nat} {k x : Nat} : x ∈ wo k ks ↔ x ∈ ks ∧ x ≠ k := by simp [wo]
theorem fr_mem {ks : List Nat} {k x : Nat} : x ∈ fr k ks ↔ x = k ∨ x ∈ ks ∧ x ≠ k := by simp [fr, wo_mem]
theorem wo_lt {ks : List Nat} {k : Nat} (h : k ∈ ks) : (wo k ks).length < ks.length := by
  unfold wo
  exact List.length_filter_lt_length_iff_exists.2 ⟨k, h, by simp⟩
theorem take_nodup {ks : List Nat} (h : ks.Nodup) (n : Nat) : (ks.take n).Nodup := h.sublist (List.take_sublist n ks)
theorem fr_len_in {ks : List Nat} {k : Nat} (h : k ∈ ks) : (fr k ks).length ≤ ks.length := by
  have := wo_lt h
  simp [fr]
  omega
theorem wo_count8 {ks : List Nat} (h : ks.Nodup) (k : Nat) : (wo k ks).length = if k ∈ ks then ks.length - 1 else ks.length := by
  have e : wo k ks = ks.erase k := (List.Nodup.erase_eq_filter h k).symm
  rw [e, List.length_erase]
theorem wo_none8 {ks : List Nat} {k : Nat} (h : k ∉ ks) : wo k ks = ks := by
  unfold wo
  refine List.filter_eq_self.2 (fun a ha => ?_)
  simp only [bne_iff_ne, ne_eq]
  rintro rfl
  exact h ha
namespace L8
variable {s : L8}
theorem Ok.hl (h : s.Ok) : s.l.length ≤ 100000000 := by have := h.len; have := h.cap; omega
theorem ok_new (n : Int) : (new n).Ok := ⟨(capI_pos n).1, (capI_pos n).2, List.nodup_nil, by simp [new], fun k hk => by simp [new] at hk⟩
theorem Ok.touch (h : s.Ok) (k : Nat) : (s.touch k).Ok := by
  unfold L8.touch
  split
  · rename_i hk
    exact ⟨h.pos, h.cap, fr_nodup h.nd k, Nat.le_trans (fr_len_in hk) h.len, fun x hx => by
      rcases fr_mem.1 hx with rfl | hx
      · exact h.key _ hk
      · exact h.key x hx.1⟩
  · exact h
theorem Ok.adm (h : s.Ok) (k : Nat) (hk : k < 18446744073709551616) : (s.adm k).Ok := by
  unfold L8.adm
  split
  · exact h
  · have h1 := fr_len k (s.l.take (s.c - 1))
    rw [List.length_take] at h1
    have hp := h.pos
    exact ⟨h.pos, h.cap, fr_nodup (take_nodup h.nd _) k, by show (fr k (s.l.take (s.c - 1))).length ≤ s.c; omega, fun x hx => by
      rcases fr_mem.1 hx with rfl | hx
      · exact hk
      · exact h.key x (List.mem_of_mem_take hx.1)⟩
theorem Ok.drop (h : s.Ok) (k : Nat) : (s.drop k).Ok := ⟨h.pos, h.cap, wo_nodup h.nd k, Nat.le_trans (wo_len k s.l) h.len, fun x hx => h.key x (wo_mem.1 hx).1⟩
theorem Ok.resize (h : s.Ok) (n : Int) : (s.resize n).Ok := ⟨(capI_pos n).1, (capI_pos n).2, take_nodup h.nd _, by
  show (s.l.take (capI n)).length ≤ capI n
  rw [List.length_take]
  omega, fun x hx => h.key x (List.mem_of_mem_take hx)⟩
theorem Ok.act (h : s.Ok) {x : Act8} (wf : x.Ok) : (s.act x).Ok := by
  unfold L8.act
  split
  · exact h.touch _
  · exact h.adm _ wf.key
  · exact h.drop _
  · exact h.resize _
theorem act_cases (s : L8) (x : Act8) : kindA x (decide (x.key ∈ s.keys)) = 1 ∧ s.act x = s.touch x.key ∧ s.actOut x = [] ∨ kindA x (decide (x.key ∈ s.keys)) = 2 ∧ s.act x = s.adm x.key ∧ s.actOut x = s.admitOut x.key ∨
    kindA x (decide (x.key ∈ s.keys)) = 3 ∧ s.act x = s.drop x.key ∧ s.actOut x = [] ∨ kindA x (decide (x.key ∈ s.keys)) = 4 ∧ s.act x = s.resize (sizeA x : Nat) ∧ s.actOut x = s.resizeOut (sizeA x : Nat) := by
  unfold L8.act L8.actOut
  rcases kindA_is x (decide (x.key ∈ s.keys)) with h | h | h | h <;> rw [h] <;> simp
end L8
abbrev l8C (c : Nat) (u_l : Value) : Array Value := #[(.int .i64 (c : Nat)), u_l]
abbrev z8 : Array Value := #[.int .i64 0, .slice none 0 0]
structure St8 (w : World) (s : L8) (u1 : Value) : Prop where
  g1 : KV w u1 s.l
section
variable {w w' : World} {s : L8} {u1 : Value}
theorem St8.form1 (h : St8 w s u1) : ∃ F n c, u1 = .slice F n c := h.g1.form
theorem St8.below (h : St8 w s u1) (hb : Below w.heap.size w w') : St8 w' s u1 := ⟨h.g1.below hb⟩
end
def P8 (w : World) (s : L8) (e : Ending) (w' : World) : Prop := ∃ u1, e = .returned (.agg (l8C s.c u1)) ∧ Below w.heap.size w w' ∧ St8 w' s u1
def P8o (w : World) (s : L8) (out : List Nat) (e : Ending) (w' : World) : Prop := ∃ u1 o, e = .returned (.tuple #[.agg (l8C s.c u1), o]) ∧ Below w.heap.size w w' ∧ St8 w' s u1 ∧ KV w' o out
end Go.Proofs.Ytkhikpnlpcankaa
