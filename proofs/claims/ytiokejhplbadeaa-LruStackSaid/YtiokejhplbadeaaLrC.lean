/- Least recently used: calm acts, plain; Calm. -/
import Derived.Test.YtiokejhplbadeaaLrU
namespace Go.Proofs.Ytiokejhplbadeaa
open Go Go.RowKit Go.Deep

def calmA (x : Act8) : Act8 := ⟨4, x.key, 0⟩
theorem calm_ok {x : Act8} (h : x.Ok) : (calmA x).Ok := ⟨(by decide : 4 < 256), h.key, (by decide : 0 < 65536)⟩
theorem kind_calm (x : Act8) (b : Bool) : kindA (calmA x) b = if b then 1 else 2 := rfl
theorem wo_upto (k : Nat) : ∀ (l : List Nat) (n : Nat), l.Nodup → (wo k (l.take (n + 1))).take n = (wo k l).take n
  | [], n, _ => by simp [wo]
  | a :: l, n, h => by
    obtain ⟨ha, hl⟩ := List.nodup_cons.1 h
    rw [List.take_succ_cons]
    by_cases e : a = k
    · subst e
      have e1 : ∀ m : List Nat, wo a (a :: m) = wo a m := fun m => by simp [wo]
      rw [e1, e1, wo_none8 ha, wo_none8 (fun hm => ha (List.mem_of_mem_take hm)), List.take_take, Nat.min_self]
    · have e1 : ∀ m : List Nat, wo k (a :: m) = a :: wo k m := fun m => by simp [wo, e]
      rw [e1, e1]
      cases n with
      | zero => simp
      | succ n => rw [List.take_succ_cons, List.take_succ_cons, wo_upto k l n hl]
namespace L8
variable {s t : L8}
theorem act_calm (h : s.Ok) (x : Act8) : s.act (calmA x) = ⟨s.c, (x.key :: wo x.key s.l).take s.c⟩ := by
  have hp := h.pos
  have hln := h.len
  have hac := act_cases s (calmA x)
  rw [kind_calm, show (calmA x).key = x.key from rfl] at hac
  rcases hac with ⟨hq, e1, _⟩ | ⟨hq, e1, _⟩ | ⟨hq, _, _⟩ | ⟨hq, _, _⟩
  · rw [e1]
    have hin : x.key ∈ s.l := by
      by_cases hin : x.key ∈ s.l
      · exact hin
      · simp [L8.keys, hin] at hq
    unfold touch
    rw [if_pos hin]
    have h1 := fr_len_in hin
    show (⟨s.c, fr x.key s.l⟩ : L8) = _
    rw [List.take_of_length_le (by show (fr x.key s.l).length ≤ s.c; omega)]
    rfl
  · rw [e1]
    unfold adm
    by_cases hin : x.key ∈ s.l
    · simp [L8.keys, hin] at hq
    · rw [if_neg hin]
      obtain ⟨m, hm⟩ : ∃ m, s.c = m + 1 := ⟨s.c - 1, by omega⟩
      show (⟨s.c, fr x.key (s.l.take (s.c - 1))⟩ : L8) = _
      rw [hm, Nat.add_sub_cancel, List.take_succ_cons, wo_none8 hin]
      unfold fr
      rw [wo_none8 (fun h => hin (List.mem_of_mem_take h))]
  · split at hq <;> omega
  · split at hq <;> omega
theorem stack_step (hs : s.Ok) (ht : t.Ok) (hc : s.c ≤ t.c) (he : s.l = t.l.take s.c) (x : Act8) : (s.act (calmA x)).c = s.c ∧ (t.act (calmA x)).c = t.c ∧ (s.act (calmA x)).l = (t.act (calmA x)).l.take s.c := by
  rw [act_calm hs, act_calm ht]
  refine ⟨rfl, rfl, ?_⟩
  show (x.key :: wo x.key s.l).take s.c = ((x.key :: wo x.key t.l).take t.c).take s.c
  have hp := hs.pos
  rw [List.take_take, Nat.min_eq_left hc, he]
  obtain ⟨m, hm⟩ : ∃ m, s.c = m + 1 := ⟨s.c - 1, by omega⟩
  rw [hm, List.take_succ_cons, List.take_succ_cons, wo_upto _ _ _ ht.nd]
theorem stack : ∀ (l : List Act8) {s t : L8}, s.Ok → t.Ok → s.c ≤ t.c → s.l = t.l.take s.c → (∀ x ∈ l, x.Ok) → (s.runS (l.map calmA)).l = (t.runS (l.map calmA)).l.take s.c ∧ (s.runS (l.map calmA)).c = s.c
  | [], s, t, _, _, _, he, _ => ⟨he, rfl⟩
  | x :: l, s, t, hs, ht, hc, he, hx => by
    obtain ⟨h1, h2, h3⟩ := stack_step hs ht hc he x
    have hxo := calm_ok (hx x (by simp))
    have := stack l (hs.act hxo) (ht.act hxo) (by rw [h1, h2]; exact hc) (by rw [h1]; exact h3) (fun y hy => hx y (by simp [hy]))
    rw [h1] at this
    exact this
end L8
end Go.Proofs.Ytiokejhplbadeaa
