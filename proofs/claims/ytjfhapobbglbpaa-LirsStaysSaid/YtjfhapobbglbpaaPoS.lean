/- append at a step of a region that draws, of lists of keys. -/
import Derived.Test.YtjfhapobbglbpaaSqA
import Derived.Test.YtjfhapobbglbpaaStepA
namespace Go.Proofs.Ytjfhapobbglbpaa
open Go Go.RowKit Go.Deep

theorem step_append_kv {P : Program} {w : World} {ops : Array Oper} {o : Oper} {a : Act} {K : Act → World → Prop} {Q : Exit → Act → World → Prop} {E : Prop} (hgd : o.guard = none) (s x : Operand)
    (ho : o.op = .call { callee := .builtin .append, args := #[s, x], argTypes := #[25, 25] }) (base : Nat) (ht : P.underlying 25 = some (.slice 35))
    (hinfo : (P.info? 35).map (fun i => (i.zero, i.size, i.bytes)) = some (some (.int .u64 0), 1, 8))
    (v : Value) (ks : List Nat) (hs : a.eval s = v) {w0 : World} (hown : KO base w0 w v ks) (y : Value) (js : List Nat) (hx : a.eval x = y)
    (hsrc : KV w y js) (h63 : ks.length + js.length ≤ 1000000000) (hbase : base ≤ w.heap.size)
    (h : ∀ v' w', KO base w0 w' v' (ks ++ js) → K (a.put o.dst v') w') : if Region.wanted o (yielded ops a.tmps) = true then Oper.wp P o a w K Q else E := by
  obtain ⟨hl, ⟨F, c, rfl, h3, h4, h5⟩⟩ := hsrc
  refine step_append_src hgd s x 25 ho base 35 (.int .u64 0) 1 8 ht hinfo rfl (by decide) v ks.length (u64L ks) hs hown.own F js.length c (u64L js) hx ?_ (u64L_one js) (by omega) h63 hbase
    (fun v' w' h1 h2 => h v' w' ⟨below_grown hown.low hown.own h2 hbase, by rw [List.length_append, ← u64L_append]; exact h1⟩)
  cases F with
  | none =>
    have hc := h4 rfl
    refine .inl ⟨rfl, by omega, hc, List.length_eq_zero_iff.1 (by omega)⟩
  | some ad =>
    refine .inr ⟨ad, rfl, hl, fun j u hu => ?_⟩
    obtain ⟨ad', e2, _, h6⟩ := h5 j u hu
    injection e2 with e2
    subst e2
    exact h6
end Go.Proofs.Ytjfhapobbglbpaa
