/- Words and walks for layer 6: SsE. -/
import Derived.Test.YtnacmhljbnpdpaaGG7
import Derived.Test.YtnacmhljbnpdpaaGH0
/- Acts on a store that came in, as a row reads them. -/
namespace Go.Proofs.Ytnacmhljbnpdpaa
open Go Go.ChangeShapes Go.WideShapes Go.RowKit Go.Deep

theorem u8_nat {a : Int} (h : (Lit.int .u8 a).wf = true) : ∃ k : Nat, a = k ∧ k < 256 := by
  simp only [Lit.wf, Bool.and_eq_true, decide_eq_true_eq] at h
  have m1 : IntKind.u8.min = 0 := rfl
  have m2 : IntKind.u8.max = 255 := rfl
  exact ⟨a.toNat, by omega, by omega⟩
theorem u64_nat {a : Int} (h : (Lit.int .u64 a).wf = true) : ∃ k : Nat, a = k ∧ k < 18446744073709551616 := by
  simp only [Lit.wf, Bool.and_eq_true, decide_eq_true_eq] at h
  have m1 : IntKind.u64.min = 0 := rfl
  have m2 : IntKind.u64.max = 18446744073709551615 := rfl
  exact ⟨a.toNat, by omega, by omega⟩
section
variable {H : Type} {enc : TypeId × Value → H} {w : World} {base : Nat} {sp : Nat → Bool} {held : Bool}
theorem open_ent_cells {n : Nat} {cs : List Value} {x : DataW H × List MemPlace} (h : DataW.trod enc Try.prog w base sp held n 40 cs = some x) :
    ∃ (k v : Nat) (f : Int), k < 18446744073709551616 ∧ cs = [.int .u64 (k : Nat), .int .u64 (v : Nat), .int .i64 f] := by
  have hs := Try.underlying40
  have k2 : Try.prog.cellsOf 35 = 1 := by kernel_rfl
  have k3 : Try.prog.cellsOf 3 = 1 := by kernel_rfl
  have k0 : Try.prog.cellsOf 40 = 3 := by kernel_rfl
  obtain ⟨xs, m, _, hx, hl, hlen, hg⟩ := DataW.trod_struct hs h
  rw [k0] at hl
  rcases cs with _ | ⟨c0, _ | ⟨c1, _ | ⟨c2, _ | ⟨c3, cs⟩⟩⟩⟩
  case cons.cons.cons.nil =>
    have g0 : DataW.trod enc Try.prog w base sp held m 35 (List.take (Try.prog.cellsOf 35) (List.drop 0 [c0, c1, c2])) = xs[0]? := hg 0 _ rfl
    have g1 : DataW.trod enc Try.prog w base sp held m 35 (List.take (Try.prog.cellsOf 35) (List.drop 1 [c0, c1, c2])) = xs[1]? := hg 1 _ rfl
    have g2 : DataW.trod enc Try.prog w base sp held m 3 (List.take (Try.prog.cellsOf 3) (List.drop 2 [c0, c1, c2])) = xs[2]? := hg 2 _ rfl
    rw [k2] at g0 g1
    rw [k3] at g2
    simp only [List.drop, List.take] at g0 g1 g2
    have e : ∀ j, j < 3 → ∃ z, xs[j]? = some z := fun j hj => ⟨_, List.getElem?_eq_getElem (by rw [hlen]; simpa using hj)⟩
    obtain ⟨z0, f0⟩ := e 0 (by decide)
    obtain ⟨z1, f1⟩ := e 1 (by decide)
    obtain ⟨z2, f2⟩ := e 2 (by decide)
    obtain ⟨a0, q0, _, w0⟩ := DataW.trod_int Try.underlying35 (g0.trans f0)
    obtain ⟨a1, q1, _, w1⟩ := DataW.trod_int Try.underlying35 (g1.trans f1)
    obtain ⟨a2, q2, _, w2⟩ := DataW.trod_int Try.underlying3 (g2.trans f2)
    simp only [List.cons.injEq, and_true] at q0 q1 q2
    subst q0 q1 q2
    simp only [Lit.wf, Bool.and_eq_true, decide_eq_true_eq] at w0 w1
    have m3 : IntKind.u64.min = 0 := rfl
    have m4 : IntKind.u64.max = 18446744073709551615 := rfl
    refine ⟨a0.toNat, a1.toNat, a2, by omega, ?_⟩
    have e0 : ((a0.toNat : Nat) : Int) = a0 := by omega
    have e1 : ((a1.toNat : Nat) : Int) = a1 := by omega
    simp only [e0, e1]
  all_goals simp at hl
theorem open_act6_cells {n : Nat} {cs : List Value} {x : DataW H × List MemPlace} (h : DataW.trod enc Try.prog w base sp held n 52 cs = some x) :
    ∃ a : Act6, a.Ok ∧ cs = [.int .u8 (a.kind : Nat), .int .i64 a.q, .int .u64 (a.key : Nat), .int .u64 (a.val : Nat), .int .i64 a.flag] := by
  have hs := Try.underlying52
  have k1 : Try.prog.cellsOf 5 = 1 := by kernel_rfl
  have k2 : Try.prog.cellsOf 3 = 1 := by kernel_rfl
  have k3 : Try.prog.cellsOf 40 = 3 := by kernel_rfl
  have k0 : Try.prog.cellsOf 52 = 5 := by kernel_rfl
  obtain ⟨xs, m, _, hx, hl, hlen, hg⟩ := DataW.trod_struct hs h
  rw [k0] at hl
  rcases cs with _ | ⟨c0, _ | ⟨c1, cs⟩⟩
  · simp at hl
  · simp at hl
  · have g0 : DataW.trod enc Try.prog w base sp held m 5 (List.take (Try.prog.cellsOf 5) (List.drop 0 (c0 :: c1 :: cs))) = xs[0]? := hg 0 _ rfl
    have g1 : DataW.trod enc Try.prog w base sp held m 3 (List.take (Try.prog.cellsOf 3) (List.drop 1 (c0 :: c1 :: cs))) = xs[1]? := hg 1 _ rfl
    have g2 : DataW.trod enc Try.prog w base sp held m 40 (List.take (Try.prog.cellsOf 40) (List.drop 2 (c0 :: c1 :: cs))) = xs[2]? := hg 2 _ rfl
    rw [k1] at g0
    rw [k2] at g1
    rw [k3] at g2
    have hcs : cs.length = 3 := by simp at hl; omega
    have e2 : List.take 3 (List.drop 2 (c0 :: c1 :: cs)) = cs := by
      show List.take 3 cs = cs
      rw [List.take_of_length_le (by omega)]
    rw [e2] at g2
    simp only [List.drop, List.take] at g0 g1
    have e : ∀ j, j < 3 → ∃ z, xs[j]? = some z := fun j hj => ⟨_, List.getElem?_eq_getElem (by rw [hlen]; simpa using hj)⟩
    obtain ⟨z0, f0⟩ := e 0 (by decide)
    obtain ⟨z1, f1⟩ := e 1 (by decide)
    obtain ⟨z2, f2⟩ := e 2 (by decide)
    obtain ⟨a0, q0, _, w0⟩ := DataW.trod_int Try.underlying5 (g0.trans f0)
    obtain ⟨a1, q1, _, w1⟩ := DataW.trod_int Try.underlying3 (g1.trans f1)
    obtain ⟨k, v, f, hk, hy⟩ := open_ent_cells (g2.trans f2)
    simp only [List.cons.injEq, and_true] at q0 q1
    subst q0 q1 hy
    simp only [Lit.wf, Bool.and_eq_true, decide_eq_true_eq] at w0
    have m1 : IntKind.u8.min = 0 := rfl
    have m2 : IntKind.u8.max = 255 := rfl
    refine ⟨⟨a0.toNat, a1, k, v, f⟩, ⟨by show a0.toNat < 256; omega, hk⟩, ?_⟩
    have e0 : ((a0.toNat : Nat) : Int) = a0 := by omega
    simp only [e0]

set_option maxRecDepth 8000 in
theorem open_acts6 {r : Reach} {b0 : Nat} {v : Value} {d : DataW H} {p : List MemPlace} (hv : Value.okWide Try.prog w r b0 22 v) (h : DataW.Trod enc Try.prog w 0 (fun _ => true) held 22 v d p)
    (hlt : ∀ x ∈ p, x.block < w.heap.size) : ∃ (A : Option Addr) (n c : Nat) (l : Nat → Act6), v = .slice A n c ∧ n ≤ maxLen ∧ Acts6 w A n l := by
  obtain ⟨A, n, c, rfl⟩ := okWide_slice Try.underlying22 hv
  have k0 : Try.prog.cellsOf 52 = 5 := by kernel_rfl
  obtain ⟨fuel, hf⟩ := h
  rcases open_slice Try.underlying22 hf with ⟨h0, _⟩ | ⟨a, len, cap, m, q, D, Pl, hcs, hb, hl, hm, hmm, hx, hi⟩
  · simp only [Value.cells, List.cons.injEq, and_true] at h0
    injection h0 with h1 h2 h3
    subst h1 h2 h3
    exact ⟨none, 0, 0, fun _ => ⟨0, 0, 0, 0, 0⟩, rfl, by unfold maxLen; omega, fun k hk => by omega⟩
  · have hcs' : Value.slice A n c = .slice (some a) len cap := by simpa [Value.cells] using hcs
    injection hcs' with h1 h2 h3
    subst h1 h2 h3
    rw [if_pos rfl] at hmm
    subst hmm
    rw [k0] at hx hi
    have key : ∀ i, i < n → ∃ y : Act6, y.Ok ∧ ∀ j, j < 5 → w.cell? (a.add (i * 5 + j)) = [Value.int .u8 (y.kind : Nat), .int .i64 y.q, .int .u64 (y.key : Nat), .int .u64 (y.val : Nat), .int .i64 y.flag][j]? := fun i hin => by
      obtain ⟨cs', hc, ht⟩ := hi i (by omega)
      obtain ⟨y, hy, rfl⟩ := open_act6_cells ht
      obtain ⟨_, _, hat⟩ := World.cells?_some hc
      exact ⟨y, hy, fun j hj => by rw [← Go.Deep.add_add]; exact hat j hj⟩
    refine ⟨_, _, _, fun i => if hin : i < n then (key i hin).choose else ⟨0, 0, 0, 0, 0⟩, rfl, by omega, fun k hk => ?_⟩
    have hch := (key k hk).choose_spec
    simp only [hk, dif_pos]
    generalize (key k hk).choose = y at hch
    obtain ⟨hy, hc⟩ := hch
    obtain ⟨g, off, spot⟩ := a
    have hc0 := hc 0 (by decide)
    have hspot : spot = none := by
      rcases Nat.eq_zero_or_pos (k * 5) with e | e
      · have := World.cell?_spot (hc0.trans rfl)
        simpa [Addr.add, e] using this
      · obtain ⟨y0, _, hy0⟩ := key 0 (by omega)
        have := World.cell?_spot ((hy0 0 (by decide)).trans rfl)
        simpa [Addr.add] using this
    subst hspot
    have hg : g < w.heap.size := by
      have : MemPlace.cell g off ∈ p := by
        rw [(Prod.mk.inj hx).2]
        refine List.mem_append_left _ ?_
        unfold MemPlace.row
        simp only [List.mem_map, List.mem_range]
        exact ⟨0, by omega, by simp⟩
      exact hlt _ this
    have e : ∀ j, (⟨g, off, none⟩ : Addr).add j = ⟨g, off + j, none⟩ := fun j => by simp [Addr.add_lit]
    simp only [e] at hc
    exact ⟨hy, g, off, rfl, hg, by simpa using hc 0 (by decide), by simpa [Nat.add_assoc] using hc 1 (by decide), by simpa [Nat.add_assoc] using hc 2 (by decide), by simpa [Nat.add_assoc] using hc 3 (by decide), by simpa [Nat.add_assoc] using hc 4 (by decide)⟩
end
end Go.Proofs.Ytnacmhljbnpdpaa
