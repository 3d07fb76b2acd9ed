/- Arrays of two integers, by value, as a row reads them: opened and shut. -/
import Derived.Test.YtmebobflemfnfaaDoorProg
import Derived.OpenShut
import Derived.ProofKit
import Derived.Lib.SmallJoins
namespace Go.Proofs.YtmebobflemfnfaaDoor
open Go Go.ChangeShapes Go.WideShapes Go.RowKit

section
variable {H : Type} {enc : TypeId × Value → H} {P : Program} {w : World} {base : Nat} {sp : Nat → Bool} {held : Bool}

theorem open_two {r : Reach} {b0 : Nat} {t e : TypeId} {q : IntKind} {v : Value} {d : DataW H} {p : List MemPlace} (ht : P.underlying t = some (.array 2 e)) (he : P.underlying e = some (.int q)) (hce : P.cellsOf e = 1) (hct : P.cellsOf t = 2)
    (hv : Value.okWide P w r b0 t v) (h : DataW.Trod enc P w base sp held t v d p) :
    ∃ a b : Int, v = .agg #[.int q a, .int q b] ∧ d = .agg [.lit (.int q a), .lit (.int q b)] ∧ p = [] ∧ (Lit.int q a).wf = true ∧ (Lit.int q b).wf = true := by
  simp only [Value.okWide, ht] at hv
  obtain ⟨cs, rfl, hsz, _⟩ := hv
  rw [hct] at hsz
  obtain ⟨c0, c1, rfl⟩ : ∃ c0 c1, cs = #[c0, c1] := by
    obtain ⟨l⟩ := cs
    match l, hsz with
    | [c0, c1], _ => exact ⟨c0, c1, rfl⟩
  obtain ⟨fuel, hf⟩ := h
  obtain ⟨xs, m, rfl, hx, hl, hn, hel⟩ := DataW.trod_array ht hf
  match xs, hn, hx, hel with
  | [x0, x1], _, hx, hel =>
    have g0 := hel 0 (by decide)
    have g1 := hel 1 (by decide)
    rw [hce] at g0 g1
    obtain ⟨a, e1, e2, wa⟩ := DataW.trod_int he (show DataW.trod enc P w base sp held m e [c0] = some x0 from by simpa [Value.cells] using g0)
    obtain ⟨b, f1, f2, wb⟩ := DataW.trod_int he (show DataW.trod enc P w base sp held m e [c1] = some x1 from by simpa [Value.cells] using g1)
    simp only [List.cons.injEq, and_true] at e1 f1
    subst e1 f1 e2 f2
    simp only [Prod.mk.injEq] at hx
    exact ⟨a, b, rfl, by simpa using hx.1, by simpa using hx.2, wa, wb⟩

theorem shut_two {t e : TypeId} {q : IntKind} {a b : Int} (ht : P.underlying t = some (.array 2 e)) (he : P.underlying e = some (.int q)) (hce : P.cellsOf e = 1) (hct : P.cellsOf t = 2) (wa : (Lit.int q a).wf = true) (wb : (Lit.int q b).wf = true) :
    DataW.Trod enc P w base sp held t (.agg #[.int q a, .int q b]) (.agg [.lit (.int q a), .lit (.int q b)]) [] := by
  obtain ⟨n0, h0⟩ := shut_int (enc := enc) (w := w) (base := base) (spare := sp) (held := held) he wa
  obtain ⟨n1, h1⟩ := shut_int (enc := enc) (w := w) (base := base) (spare := sp) (held := held) he wb
  have k0 := DataW.trod_le (Nat.le_max_left n0 n1) h0
  have k1 := DataW.trod_le (Nat.le_max_right n0 n1) h1
  refine ⟨max n0 n1 + 1, ?_⟩
  rw [DataW.trod_step]
  unfold DataW.trodStep
  simp only [Value.cells] at k0 k1
  simp [ht, Value.cells, hct, hce, List.range_succ, k0, k1]
end
end Go.Proofs.YtmebobflemfnfaaDoor
