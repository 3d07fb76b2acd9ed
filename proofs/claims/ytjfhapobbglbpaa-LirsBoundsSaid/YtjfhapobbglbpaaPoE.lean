/- Acts on a policy that came in, as a row reads them. -/
import Derived.Test.YtjfhapobbglbpaaSqE
import Derived.Test.YtjfhapobbglbpaaPoB
namespace Go.Proofs.Ytjfhapobbglbpaa
open Go Go.ChangeShapes Go.WideShapes Go.RowKit Go.Deep

section
variable {H : Type} {enc : TypeId × Value → H} {w : World} {base : Nat} {sp : Nat → Bool} {held : Bool}
theorem open_act8_cells {n : Nat} {cs : List Value} {x : DataW H × List MemPlace} (h : DataW.trod enc Try.prog w base sp held n 38 cs = some x) :
    ∃ a : Act8, a.Ok ∧ cs = [.int .u8 (a.kind : Nat), .int .u64 (a.key : Nat), .int .u16 (a.n : Nat)] := by
  have hs := Try.underlying38
  have k1 : Try.prog.cellsOf 5 = 1 := by kernel_rfl
  have k2 : Try.prog.cellsOf 35 = 1 := by kernel_rfl
  have k3 : Try.prog.cellsOf 36 = 1 := by kernel_rfl
  have k0 : Try.prog.cellsOf 38 = 3 := by kernel_rfl
  obtain ⟨xs, m, _, hx, hl, hlen, hg⟩ := DataW.trod_struct hs h
  rw [k0] at hl
  rcases cs with _ | ⟨c0, _ | ⟨c1, _ | ⟨c2, _ | ⟨c3, cs⟩⟩⟩⟩
  case cons.cons.cons.nil =>
    have g0 : DataW.trod enc Try.prog w base sp held m 5 (List.take (Try.prog.cellsOf 5) (List.drop 0 [c0, c1, c2])) = xs[0]? := hg 0 _ rfl
    have g1 : DataW.trod enc Try.prog w base sp held m 35 (List.take (Try.prog.cellsOf 35) (List.drop 1 [c0, c1, c2])) = xs[1]? := hg 1 _ rfl
    have g2 : DataW.trod enc Try.prog w base sp held m 36 (List.take (Try.prog.cellsOf 36) (List.drop 2 [c0, c1, c2])) = xs[2]? := hg 2 _ rfl
    rw [k1] at g0
    rw [k2] at g1
    rw [k3] at g2
    simp only [List.drop, List.take] at g0 g1 g2
    have e : ∀ j, j < 3 → ∃ z, xs[j]? = some z := fun j hj => ⟨_, List.getElem?_eq_getElem (by rw [hlen]; simpa using hj)⟩
    obtain ⟨z0, f0⟩ := e 0 (by decide)
    obtain ⟨z1, f1⟩ := e 1 (by decide)
    obtain ⟨z2, f2⟩ := e 2 (by decide)
    obtain ⟨a0, q0, _, w0⟩ := DataW.trod_int Try.underlying5 (g0.trans f0)
    obtain ⟨a1, q1, _, w1⟩ := DataW.trod_int Try.underlying35 (g1.trans f1)
    obtain ⟨a2, q2, _, w2⟩ := DataW.trod_int Try.underlying36 (g2.trans f2)
    simp only [List.cons.injEq, and_true] at q0 q1 q2
    subst q0 q1 q2
    obtain ⟨b0, rfl, hb0⟩ := u8_nat w0
    obtain ⟨b1, rfl, hb1⟩ := u64_nat w1
    simp only [Lit.wf, Bool.and_eq_true, decide_eq_true_eq] at w2
    have m3 : IntKind.u16.min = 0 := rfl
    have m4 : IntKind.u16.max = 65535 := rfl
    obtain ⟨b2, rfl⟩ : ∃ b2 : Nat, a2 = b2 := ⟨a2.toNat, by omega⟩
    exact ⟨⟨b0, b1, b2⟩, ⟨hb0, hb1, by show b2 < 65536; omega⟩, rfl⟩
  all_goals simp at hl
set_option maxRecDepth 8000 in
theorem open_act8 {r : Reach} {b0 : Nat} {v : Value} {d : DataW H} {p : List MemPlace} (hv : Value.okWide Try.prog w r b0 38 v) (h : DataW.Trod enc Try.prog w base sp held 38 v d p) : ∃ a : Act8, a.Ok ∧ v = .agg (act8C a) := by
  obtain ⟨cs, rfl, _⟩ := okWide_struct Try.underlying38 hv
  obtain ⟨fuel, hf⟩ := h
  obtain ⟨a, ha, e⟩ := open_act8_cells (cs := cs.toList) (by simpa [Value.cells] using hf)
  refine ⟨a, ha, ?_⟩
  have : cs = act8C a := by
    apply Array.toList_inj.1
    rw [e]
  rw [this]
set_option maxRecDepth 8000 in
theorem open_acts8 {r : Reach} {b0 : Nat} {v : Value} {d : DataW H} {p : List MemPlace} (hv : Value.okWide Try.prog w r b0 22 v) (h : DataW.Trod enc Try.prog w 0 (fun _ => true) held 22 v d p)
    (hlt : ∀ x ∈ p, x.block < w.heap.size) : ∃ l : List Act8, AV w v l := by
  obtain ⟨A, n, c, rfl⟩ := okWide_slice Try.underlying22 hv
  have k0 : Try.prog.cellsOf 38 = 3 := by kernel_rfl
  obtain ⟨fuel, hf⟩ := h
  rcases open_slice Try.underlying22 hf with ⟨h0, _⟩ | ⟨a, len, cap, m, q, D, Pl, hcs, hb, hl, hm, hmm, hx, hi⟩
  · simp only [Value.cells, List.cons.injEq, and_true] at h0
    injection h0 with h1 h2 h3
    subst h1 h2 h3
    exact ⟨[], ⟨none, 0, rfl, fun i hi => by simp at hi⟩⟩
  · have hcs' : Value.slice A n c = .slice (some a) len cap := by simpa [Value.cells] using hcs
    injection hcs' with h1 h2 h3
    subst h1 h2 h3
    rw [if_pos rfl] at hmm
    subst hmm
    rw [k0] at hx hi
    have key : ∀ i, i < n → ∃ y : Act8, y.Ok ∧ ∀ j, j < 3 → w.cell? (a.add (i * 3 + j)) = [Value.int .u8 (y.kind : Nat), .int .u64 (y.key : Nat), .int .u16 (y.n : Nat)][j]? := fun i hin => by
      obtain ⟨cs', hc, ht⟩ := hi i (by omega)
      obtain ⟨y, hy, rfl⟩ := open_act8_cells ht
      obtain ⟨_, _, hat⟩ := World.cells?_some hc
      exact ⟨y, hy, fun j hj => by rw [← Go.Deep.add_add]; exact hat j hj⟩
    refine ⟨List.ofFn (fun i : Fin n => (key i i.2).choose), ⟨some a, m, by simp, fun i hi => ?_⟩⟩
    have hin : i < n := by simpa using hi
    have hch := (key i hin).choose_spec
    simp only [List.getElem_ofFn]
    generalize (key i hin).choose = y at hch
    obtain ⟨hy, hc⟩ := hch
    obtain ⟨g, off, spot⟩ := a
    have hspot : spot = none := by
      obtain ⟨y0, _, hy0⟩ := key 0 (by omega)
      have := World.cell?_spot ((hy0 0 (by decide)).trans rfl)
      simpa [Addr.add] using this
    subst hspot
    have hg : g < w.heap.size := by
      have : MemPlace.cell g off ∈ p := by
        rw [(Prod.mk.inj hx).2]
        refine List.mem_append_left _ ?_
        unfold MemPlace.row
        simp only [List.mem_map, List.mem_range]
        exact ⟨0, by omega, by simp⟩
      exact hlt _ this
    have e : ∀ j, (⟨g, off, none⟩ : Addr).add j = ⟨g, off + j, none⟩ := fun j => by simp [Addr.add_lit]
    simp only [e] at hc
    exact ⟨hy, g, off, rfl, hg, by simpa using hc 0 (by decide), by simpa [Nat.add_assoc] using hc 1 (by decide), by simpa [Nat.add_assoc] using hc 2 (by decide)⟩
end
end Go.Proofs.Ytjfhapobbglbpaa
