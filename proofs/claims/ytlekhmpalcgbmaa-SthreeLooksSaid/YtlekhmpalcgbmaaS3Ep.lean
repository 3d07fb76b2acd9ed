/- Three simple queues: what the program's loop keeps, plain. -/
import Derived.Test.YtlekhmpalcgbmaaS3C
namespace Go.Proofs.Ytlekhmpalcgbmaa
open Go Go.RowKit Go.Deep

theorem take_cons_same {k R : Nat} {X Y : List Nat} (h : X.take R = Y.take R) : (k :: X).take R = (k :: Y).take R := by
  cases R with
  | zero => rfl
  | succ r =>
    rw [List.take_succ_cons, List.take_succ_cons]
    have h2 := congrArg (List.take r) h
    rw [List.take_take, List.take_take, Nat.min_eq_left (by omega)] at h2
    rw [h2]
/- Where the loop stands: the state is σ; what was evicted, and of that what is to be remembered. -/
structure Ep (s : L10) (N m : Nat) (σ : L10) (ev gh : List Nat) : Prop where
  out : ev ++ (L10.shrN m σ).2 = s.shrOut N
  li : (L10.shrN m σ).1 = s.shr N
  fine : σ.Fine
  c : σ.c = s.c
  tot : σ.total ≤ 1048576
  m : σ.total - N = m
  gs : (gh.reverse ++ s.ghost).take (room s.c) = σ.ghost.take (room s.c)
  gl : gh.length ≤ ev.length
theorem Ep.start {s : L10} (fine : s.Fine) (tot : s.total ≤ 1048576) (N : Nat) : Ep s N (s.total - N) s [] [] := ⟨rfl, rfl, fine, rfl, tot, rfl, rfl, Nat.le_refl _⟩
theorem Ep.next {s σ : L10} {N m : Nat} {ev gh : List Nat} (h : Ep s N (m + 1) σ ev gh) : Ep s N m σ.evict.1 (ev ++ [σ.evict.2]) (gh ++ remL σ) := by
  have hm := h.m
  have e := L10.ev_evict (s := σ) (by omega)
  have ht := e.total
  refine ⟨by rw [List.append_assoc]; exact h.out, h.li, h.fine.ev e, e.c.trans h.c, by have := h.tot; omega, by omega, ?_, ?_⟩
  · have hr : room σ.c = room s.c := by rw [h.c]
    rw [evict_ghost, remL]
    cases hb : remB σ with
    | false =>
      rw [if_neg (by decide), if_neg (by decide), List.append_nil]
      exact h.gs
    | true =>
      rw [if_pos rfl, if_pos rfl, hr, List.take_take, Nat.min_self, List.reverse_append]
      have hn : σ.evict.2 ∉ σ.ghost := by
        intro hm2
        have h1 : σ.evict.2 ∈ σ.keys := e.kp.mem_iff.1 (List.mem_cons_self ..)
        exact (List.nodup_append.1 h.fine.nd).2.2 _ h1 _ hm2 rfl
      rw [fr, wo_none8 hn]
      exact take_cons_same h.gs
  · have h1 := h.gl
    rw [List.length_append, List.length_append, List.length_singleton]
    have : (remL σ).length ≤ 1 := by
      unfold remL
      split <;> simp
    omega
theorem Ep.len {s σ : L10} {N m : Nat} {ev gh : List Nat} (h : Ep s N m σ ev gh) (hs : s.Fine) (hst : s.total ≤ 1048576) : ev.length ≤ 1048576 ∧ gh.length ≤ 1048576 := by
  have h1 := congrArg List.length h.out
  rw [List.length_append, L10.shrOut_len hs] at h1
  have := h.gl
  omega
/- Where it ends. -/
theorem Ep.fin {s σ : L10} {N : Nat} {ev gh : List Nat} (h : Ep s N 0 σ ev gh) : σ = s.shr N ∧ ev = s.shrOut N ∧ (s.shr N).fall = ⟨s.c, σ.small, σ.main, (gh.reverse ++ s.ghost).take (room s.c)⟩ := by
  have h1 : σ = s.shr N := h.li
  have h2 : ev = s.shrOut N := by rw [← h.out]; simp [L10.shrN]
  refine ⟨h1, h2, ?_⟩
  rw [← h1, h.gs, L10.fall, h.c]
end Go.Proofs.Ytlekhmpalcgbmaa
