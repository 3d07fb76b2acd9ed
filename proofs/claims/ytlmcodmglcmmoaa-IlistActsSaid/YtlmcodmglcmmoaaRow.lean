/- Arguments of the laws, as a row reads them: opened, and read again behind the call. -/
import Derived.Test.YtlmcodmglcmmoaaRows
import Derived.Test.YtlmcodmglcmmoaaArB
import Derived.OpenShut
import Derived.ProofKit
import Derived.Carry
import Derived.Deep.Slices
import Derived.Deep.Fields
import Derived.Lib.SmallJoins
namespace Go.Proofs.Ytlmcodmglcmmoaa
open Go Go.ChangeShapes Go.WideShapes Go.RowKit Go.Deep

theorem ownNone : ownKnob Try.prog.godebug = none := by kernel_rfl
theorem laidAll : laidOutB Try.prog = true := by kernel_rfl

section
variable {H : Type} {enc : TypeId × Value → H} {P : Program} {W W' : World}
theorem trodAll_stay (hl : laidOutB P = true) (hb : Below W.heap.size W W') : ∀ (ts : List TypeId) {vs : List Value} {ds : List (DataW H)} {ps : List MemPlace},
    (∀ t ∈ ts, P.readableRec t = true ∧ t < P.types.size) → DataW.TrodAll enc P W 0 (fun _ => true) true ts vs ds ps → (∀ x ∈ ps, x.block < W.heap.size) →
    DataW.TrodAll enc P W' 0 (fun b => decide (b < W.heap.size)) true ts vs ds ps
  | [], vs, ds, ps, _, h, _ => by
    obtain ⟨rfl, rfl, rfl⟩ := trodAll_nil h
    exact trodAll_mk0
  | t :: ts, vs, ds, ps, ht, h, hlt => by
    obtain ⟨v, vs', d, ds', p, q, rfl, rfl, rfl, h1, h2⟩ := trodAll_cons h
    obtain ⟨hr, hs⟩ := ht t (by simp)
    exact trodAll_cons_mk (Below.trod hl hr hs h1 hb (fun x hx => hlt x (by simp [hx]))) (trodAll_stay hl hb ts (fun t' h' => ht t' (by simp [h'])) h2 (fun x hx => hlt x (by simp [hx])))
end

/- A struct of six whole numbers. -/
section
variable {H : Type} {enc : TypeId × Value → H} {w : World} {base : Nat} {sp : Nat → Bool} {held : Bool}
def Nd.Wf (x : Nd) : Prop := (Lit.int .u64 x.key).wf = true ∧ (Lit.int .u64 x.val).wf = true ∧ (Lit.int .i64 x.flag).wf = true ∧ (Lit.int .i64 x.tag).wf = true ∧ (Lit.int .i32 x.prev).wf = true ∧ (Lit.int .i32 x.next).wf = true
theorem open_node_cells {n : Nat} {cs : List Value} {x : DataW H × List MemPlace} (h : DataW.trod enc Try.prog w base sp held n 64 cs = some x) :
    ∃ y : Nd, cs = [.int .u64 y.key, .int .u64 y.val, .int .i64 y.flag, .int .i64 y.tag, .int .i32 y.prev, .int .i32 y.next] := by
  have hs := Try.underlying64
  have k1 : Try.prog.cellsOf 54 = 1 := by kernel_rfl
  have k2 : Try.prog.cellsOf 3 = 1 := by kernel_rfl
  have k3 : Try.prog.cellsOf 21 = 1 := by kernel_rfl
  have k0 : Try.prog.cellsOf 64 = 6 := by kernel_rfl
  obtain ⟨xs, m, _, hx, hl, hlen, hg⟩ := DataW.trod_struct hs h
  rw [k0] at hl
  rcases cs with _ | ⟨c0, _ | ⟨c1, _ | ⟨c2, _ | ⟨c3, _ | ⟨c4, _ | ⟨c5, _ | ⟨c6, cs⟩⟩⟩⟩⟩⟩⟩
  case cons.cons.cons.cons.cons.cons.nil =>
    have g0 : DataW.trod enc Try.prog w base sp held m 54 (List.take (Try.prog.cellsOf 54) (List.drop 0 [c0, c1, c2, c3, c4, c5])) = xs[0]? := hg 0 _ rfl
    have g1 : DataW.trod enc Try.prog w base sp held m 54 (List.take (Try.prog.cellsOf 54) (List.drop 1 [c0, c1, c2, c3, c4, c5])) = xs[1]? := hg 1 _ rfl
    have g2 : DataW.trod enc Try.prog w base sp held m 3 (List.take (Try.prog.cellsOf 3) (List.drop 2 [c0, c1, c2, c3, c4, c5])) = xs[2]? := hg 2 _ rfl
    have g3 : DataW.trod enc Try.prog w base sp held m 3 (List.take (Try.prog.cellsOf 3) (List.drop 3 [c0, c1, c2, c3, c4, c5])) = xs[3]? := hg 3 _ rfl
    have g4 : DataW.trod enc Try.prog w base sp held m 21 (List.take (Try.prog.cellsOf 21) (List.drop 4 [c0, c1, c2, c3, c4, c5])) = xs[4]? := hg 4 _ rfl
    have g5 : DataW.trod enc Try.prog w base sp held m 21 (List.take (Try.prog.cellsOf 21) (List.drop 5 [c0, c1, c2, c3, c4, c5])) = xs[5]? := hg 5 _ rfl
    rw [k1] at g0
    simp only [List.drop, List.take] at g0
    rw [k1] at g1
    simp only [List.drop, List.take] at g1
    rw [k2] at g2
    simp only [List.drop, List.take] at g2
    rw [k2] at g3
    simp only [List.drop, List.take] at g3
    rw [k3] at g4
    simp only [List.drop, List.take] at g4
    rw [k3] at g5
    simp only [List.drop, List.take] at g5
    have e : ∀ j, j < 6 → ∃ z, xs[j]? = some z := fun j hj => ⟨_, List.getElem?_eq_getElem (by rw [hlen]; simpa using hj)⟩
    obtain ⟨z0, e0⟩ := e 0 (by decide)
    obtain ⟨z1, e1⟩ := e 1 (by decide)
    obtain ⟨z2, e2⟩ := e 2 (by decide)
    obtain ⟨z3, e3⟩ := e 3 (by decide)
    obtain ⟨z4, e4⟩ := e 4 (by decide)
    obtain ⟨z5, e5⟩ := e 5 (by decide)
    obtain ⟨a0, q0, _, w0⟩ := DataW.trod_int Try.underlying54 (g0.trans e0)
    obtain ⟨a1, q1, _, w1⟩ := DataW.trod_int Try.underlying54 (g1.trans e1)
    obtain ⟨a2, q2, _, w2⟩ := DataW.trod_int Try.underlying3 (g2.trans e2)
    obtain ⟨a3, q3, _, w3⟩ := DataW.trod_int Try.underlying3 (g3.trans e3)
    obtain ⟨a4, q4, _, w4⟩ := DataW.trod_int Try.underlying21 (g4.trans e4)
    obtain ⟨a5, q5, _, w5⟩ := DataW.trod_int Try.underlying21 (g5.trans e5)
    simp only [List.cons.injEq, and_true] at q0 q1 q2 q3 q4 q5
    subst q0 q1 q2 q3 q4 q5
    exact ⟨⟨a0, a1, a2, a3, a4, a5⟩, rfl⟩
  all_goals simp at hl
theorem open_node {r : Reach} {b0 : Nat} {v : Value} {d : DataW H} {p : List MemPlace} (hv : Value.okWide Try.prog w r b0 64 v) (h : DataW.Trod enc Try.prog w base sp held 64 v d p) :
    ∃ y : Nd, v = y.v := by
  obtain ⟨cs, rfl, hsz⟩ := okWide_struct Try.underlying64 hv
  obtain ⟨fuel, hf⟩ := h
  obtain ⟨y, hy⟩ := open_node_cells hf
  refine ⟨y, ?_⟩
  obtain ⟨l⟩ := cs
  simp only [Value.cells] at hy
  subst hy
  rfl
end
end Go.Proofs.Ytlmcodmglcmmoaa
