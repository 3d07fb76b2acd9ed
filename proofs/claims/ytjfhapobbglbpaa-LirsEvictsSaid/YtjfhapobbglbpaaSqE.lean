/- Lists of keys that came in, as a row reads them. -/
import Derived.Test.YtjfhapobbglbpaaRowB
import Derived.Test.YtjfhapobbglbpaaSqA
namespace Go.Proofs.Ytjfhapobbglbpaa
open Go Go.ChangeShapes Go.WideShapes Go.RowKit Go.Deep

theorem u64_nat {a : Int} (h : (Lit.int .u64 a).wf = true) : ∃ k : Nat, a = k ∧ k < 18446744073709551616 := by
  simp only [Lit.wf, Bool.and_eq_true, decide_eq_true_eq] at h
  have m1 : IntKind.u64.min = 0 := rfl
  have m2 : IntKind.u64.max = 18446744073709551615 := rfl
  exact ⟨a.toNat, by omega, by omega⟩
theorem u8_nat {a : Int} (h : (Lit.int .u8 a).wf = true) : ∃ k : Nat, a = k ∧ k < 256 := by
  simp only [Lit.wf, Bool.and_eq_true, decide_eq_true_eq] at h
  have m1 : IntKind.u8.min = 0 := rfl
  have m2 : IntKind.u8.max = 255 := rfl
  exact ⟨a.toNat, by omega, by omega⟩
theorem i64_both {a : Int} (h : (Lit.int .i64 a).wf = true) : -9223372036854775808 ≤ a ∧ a ≤ 9223372036854775807 := by
  simp only [Lit.wf, Bool.and_eq_true, decide_eq_true_eq] at h
  have m1 : IntKind.i64.min = -9223372036854775808 := rfl
  have m2 : IntKind.i64.max = 9223372036854775807 := rfl
  omega
section
variable {H : Type} {enc : TypeId × Value → H} {w : World} {base : Nat} {sp : Nat → Bool} {held : Bool}
set_option maxRecDepth 8000 in
theorem open_keysB {r : Reach} {b0 : Nat} {v : Value} {d : DataW H} {p : List MemPlace} (hv : Value.okWide Try.prog w r b0 25 v) (h : DataW.Trod enc Try.prog w 0 (fun _ => true) held 25 v d p) : ∃ ks : List Nat, KV w v ks ∧ ∀ k ∈ ks, k < 18446744073709551616 := by
  obtain ⟨A, n, c, rfl⟩ := okWide_slice Try.underlying25 hv
  have k0 : Try.prog.cellsOf 35 = 1 := by kernel_rfl
  obtain ⟨fuel, hf⟩ := h
  rcases open_slice1 Try.underlying25 k0 hf with ⟨h0, _⟩ | ⟨a, len, cap, m, q, V, D, Pl, hcs, hb, hl, hm, hmm, hx, hi⟩
  · simp only [Value.cells, List.cons.injEq, and_true] at h0
    injection h0 with h1 h2 h3
    subst h1 h2 h3
    exact ⟨[], KV.nil w, fun k hk => by cases hk⟩
  · have hcs' : Value.slice A n c = .slice (some a) len cap := by simpa [Value.cells] using hcs
    injection hcs' with h1 h2 h3
    subst h1 h2 h3
    rw [if_pos rfl] at hmm
    subst hmm
    have key : ∀ i, i < n → ∃ y : Nat, w.cell? (a.add i) = some (.int .u64 (y : Nat)) ∧ y < 18446744073709551616 := fun i hin => by
      obtain ⟨hc, ht⟩ := hi i (by omega)
      obtain ⟨a0, q0, _, w0⟩ := DataW.trod_int Try.underlying35 ht
      simp only [List.cons.injEq, and_true] at q0
      obtain ⟨k, rfl, hk⟩ := u64_nat w0
      exact ⟨k, by rw [hc, q0], hk⟩
    obtain ⟨f, hfk⟩ := choose_lt key
    have hg : ∀ i, i < n → a.block < w.heap.size := fun i hin => by
      have := (hfk i hin).1
      have h2 := World.block_lt_of_cell? w _ this
      rwa [ad_block] at h2
    refine ⟨(List.range n).map f, ?_, fun k hk => by
      obtain ⟨i, hi, rfl⟩ := List.mem_map.1 hk
      exact (hfk i (List.mem_range.1 hi)).2⟩
    refine ⟨by simp [u64L], ⟨some a, m, by simp, by simpa using hl, (fun e => by cases e), fun j u hu => ?_⟩⟩
    obtain ⟨hj, hju⟩ := List.getElem?_eq_some_iff.1 hu
    have hj' : j < n := by simpa [u64L] using hj
    refine ⟨a, rfl, hg j hj', ?_⟩
    rw [(hfk j hj').1, ← hju]
    simp [u64L]
set_option maxRecDepth 8000 in
theorem open_keys {r : Reach} {b0 : Nat} {v : Value} {d : DataW H} {p : List MemPlace} (hv : Value.okWide Try.prog w r b0 25 v) (h : DataW.Trod enc Try.prog w 0 (fun _ => true) held 25 v d p) : ∃ ks : List Nat, KV w v ks :=
  (open_keysB hv h).imp (fun _ h => h.1)
end
end Go.Proofs.Ytjfhapobbglbpaa
