/- The program's lists of keys: Apart, over a map of the keys that were seen. -/
import Derived.Test.YtjfhapobbglbpaaSqP2
import Derived.Maps.OwnSet
namespace Go.Proofs.Ytjfhapobbglbpaa
open Go Go.RowKit Go.Deep

theorem keyed64 : Maps.Keyed Try.prog 35 := Maps.int_keyed Try.underlying35
theorem zeroB (w : World) : (zeroValue 4).run Try.prog w = .ok (.bool false) w := by kernel_rfl
theorem key64 {k : Nat} (hk : k < 18446744073709551616) : keyOf Try.prog 35 (.int .u64 (k : Nat)) = some (.int .u64 (k : Nat)) := by
  refine Maps.keyOf_int_mk Try.underlying35 ?_
  have m1 : IntKind.u64.min = 0 := rfl
  have m2 : IntKind.u64.max = 18446744073709551615 := rfl
  simp only [Lit.wf, Bool.and_eq_true, decide_eq_true_eq, m1, m2]
  omega
/- The map in block b has the keys L. -/
structure Seen (w0 w : World) (b : Nat) (L : List Nat) : Prop where
  low : Below w0.heap.size w0 w
  lo : w0.heap.size ≤ b
  own : ∃ D : DataW Unit, w.ownsMap Try.prog 35 (plainElem Try.prog 4) b L.length D ∧ Maps.IsMap D ∧ ∀ k : Nat, k < 18446744073709551616 → D.atKey (.int .u64 (k : Nat)) (.lit (.bool false)) = .lit (.bool (decide (k ∈ L)))
theorem Seen.made {w0 w : World} (h : Below w0.heap.size w0 w) : Seen w0 (w.alloc (.map #[] 0)) w.heap.size [] :=
  ⟨h.alloc h.size _, h.size, ⟨.map [], World.ownsMap_made _ _ _ _, ⟨_, rfl⟩, fun k _ => by simp [DataW.atKey]⟩⟩
theorem Seen.look {w0 w : World} {b : Nat} {L : List Nat} (h : Seen w0 w b L) {k : Nat} (hk : k < 18446744073709551616) :
    (Instr.lookup 87 (.map (some b)) (.int .u64 (k : Nat)) false).run Try.prog w = .ok (.bool (decide (k ∈ L))) w := by
  obtain ⟨D, h1, _, h3⟩ := h.own
  obtain ⟨v, ps, hrun, hv⟩ := h1.lookup keyed64 Try.underlying87 (zeroB w) (plainElem_bool Try.underlying4 false) (key64 hk)
  rw [h3 k hk] at hv
  rw [hrun]
  unfold plainElem at hv
  rw [Try.underlying4] at hv
  cases v <;> simp at hv
  rw [hv.1]
theorem wpList_seen {w0 w : World} {ops : Array Oper} {rest : List Oper} {o : Oper} {a : Act} {Q : Exit → Act → World → Prop} (hg : o.guard = none) (m x v : Operand) (hop : o.op = Op.mapUpdate 87 m x v)
    (b : Nat) (L : List Nat) (hm : a.eval m = .map (some b)) (h : Seen w0 w b L) (hn : L.length ≤ 1000000000) (k : Nat) (hk : k < 18446744073709551616) (hx : a.eval x = .int .u64 (k : Nat)) (hv : a.eval v = .bool true)
    (hK : ∀ w', Seen w0 w' b (L ++ [k]) → wpList Try.prog ops Q rest (a.put o.dst undef) w') : wpList Try.prog ops Q (o :: rest) a w := by
  obtain ⟨hlow, hlo, ⟨D, h1, h2, h3⟩⟩ := h
  refine wpList_mapUpdate_own w hg m x v _ hop 35 4 keyed64 Try.underlying87 _ b L.length D hm h1 (by unfold maxLen; omega) _ _ _ hx hv (key64 hk) _ [] (plainElem_bool Try.underlying4 true) ?_
  intro w' h5 h6
  refine hK w' ⟨?_, hlo, ⟨_, by rw [List.length_append]; exact h5, ?_, fun j hj => ?_⟩⟩
  · exact hlow.grown h6 hlow.size (fun j hj => by cases hj; exact hlo)
  · obtain ⟨es, rfl⟩ := h2
    exact ⟨_, rfl⟩
  · by_cases e : j = k
    · subst e
      rw [Maps.atKey_put_same h2 (by simp [WideAt.IsKeyLit])]
      simp
    · rw [Maps.atKey_put_other (by
        intro e2
        injection e2 with _ e3
        exact e (by omega)), h3 j hj]
      simp [e]
section
variable {w : World} {v : Value} {kss : List (List Nat)}
end
end Go.Proofs.Ytjfhapobbglbpaa
