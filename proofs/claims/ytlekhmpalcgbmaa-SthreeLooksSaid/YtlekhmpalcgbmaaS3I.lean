/- Three simple queues: the program's queues while keys leave them, in memory. -/
import Derived.Test.YtlekhmpalcgbmaaS3Rv
import Derived.Test.YtlekhmpalcgbmaaS3H
namespace Go.Proofs.Ytlekhmpalcgbmaa
open Go Go.RowKit Go.Deep

abbrev LT10 : TypeId := 89
abbrev leC (t : Nat) (v1 v2 v3 v4 : Value) : Array Value := #[.int .i64 (t : Nat), v1, v2, v3, v4]
/- The rows; mn: Main, its last item first. -/
structure Lr (w0 w : World) (sm mn : List It) (ev gh : List Nat) (v1 v2 v3 v4 : Value) : Prop where
  sm : IV w v1 sm
  mn : IQ w0.heap.size w0 w v2 mn
  ev : KO w0.heap.size w0 w v3 ev
  gh : KO w0.heap.size w0 w v4 gh
  o12 : Off v1 v2
  o13 : Off v1 v3
  o14 : Off v1 v4
  o34 : v3.ownBlock = none ∨ v4.ownBlock = none ∨ v3.ownBlock ≠ v4.ownBlock
structure Bl (w0 w : World) (b t : Nat) (v1 v2 v3 v4 : Value) : Prop where
  ge : w0.heap.size ≤ b
  at_ : w.heap[b]? = some (.cells (leC t v1 v2 v3 v4) LT10 (0, 0))
section
variable {w0 w w' : World} {sm mn mn' : List It} {ev gh ev' gh' : List Nat} {v1 v2 v3 v4 v2' v3' v4' : Value} {b t : Nat}
theorem KO.typ {B : Nat} {v : Value} {ks : List Nat} (h : KO B w0 w v ks) : ∀ g, v.ownBlock = some g → B ≤ g ∧ g < w.heap.size ∧ ∃ cs, w.heap[g]? = some (.cells cs 35 (0, 0)) := fun k hk => by
  rcases h.own.2 with ⟨rfl, _⟩ | ⟨g, cap, cur, rfl, hBg, hg, _⟩
  · simp [Value.ownBlock] at hk
  · simp [Value.ownBlock] at hk
    subst hk
    exact ⟨hBg, (Array.getElem?_eq_some_iff.1 hg).1, cur, hg⟩
theorem typ_ne {g k : Nat} {cs ds : Array Value} {T U : TypeId} (h : w.heap[g]? = some (.cells cs T (0, 0))) (h2 : w.heap[k]? = some (.cells ds U (0, 0))) (hT : T ≠ U) : g ≠ k := fun e => by
  subst e
  rw [h] at h2
  injection h2 with h2
  injection h2 with _ h2
  exact hT h2
theorem Lr.low (h : Lr w0 w sm mn ev gh v1 v2 v3 v4) : Below w0.heap.size w0 w := h.mn.low
theorem Lr.below (h : Lr w0 w sm mn ev gh v1 v2 v3 v4) (hb : Below w.heap.size w w') : Lr w0 w' sm mn ev gh v1 v2 v3 v4 :=
  ⟨h.sm.below hb, h.mn.below h.low.size hb, h.ev.below h.low.size hb, h.gh.below h.low.size hb, h.o12, h.o13, h.o14, h.o34⟩
theorem Bl.below (h : Bl w0 w b t v1 v2 v3 v4) (hb : Below w.heap.size w w') : Bl w0 w' b t v1 v2 v3 v4 := ⟨h.ge, (hb.block b (head_row h.at_).lt).trans h.at_⟩
theorem Bl.only (h : Bl w0 w b t v1 v2 v3 v4) (h1 : ∃ F n c, v1 = .slice F n c) (h2 : ∃ F n c, v2 = .slice F n c) (h3 : ∃ F n c, v3 = .slice F n c) (h4 : ∃ F n c, v4 = .slice F n c) : Bx w b := by
  obtain ⟨_, _, _, rfl⟩ := h1
  obtain ⟨_, _, _, rfl⟩ := h2
  obtain ⟨_, _, _, rfl⟩ := h3
  obtain ⟨_, _, _, rfl⟩ := h4
  exact ⟨_, _, h.at_, rfl, by decide⟩
theorem IQ.frm {B : Nat} {v : Value} {xs : List It} (h : IQ B w0 w v xs) : ∃ F n c, v = .slice F n c := by
  obtain ⟨F, c, e, _⟩ := h.form
  exact ⟨F, _, c, e⟩
/- Only the box has changed. -/
theorem Lr.only_b {cs : Array Value} (h : Lr w0 w sm mn ev gh v1 v2 v3 v4) (hge : w0.heap.size ≤ b) (hb : w.heap[b]? = some (.cells cs LT10 (0, 0))) (hn : NoU cs) (ho : Only [b] w w') : Lr w0 w' sm mn ev gh v1 v2 v3 v4 := by
  have hx : Bx w b := ⟨_, _, hb, hn, by decide⟩
  have h1 : ∀ g ∈ [b], Bx w g := fun g hg => by
    rw [List.mem_singleton] at hg
    subst hg
    exact hx
  have h2 : ∀ g ∈ [b], Bx w g ∧ w0.heap.size ≤ g := fun g hg => by
    rw [List.mem_singleton] at hg
    subst hg
    exact ⟨hx, hge⟩
  have h3 : ∀ g ∈ [b], (∃ cs t, w.heap[g]? = some (.cells cs t (0, 0)) ∧ t ≠ QTI10) ∧ w0.heap.size ≤ g := fun g hg => by
    rw [List.mem_singleton] at hg
    subst hg
    exact ⟨⟨_, _, hb, by decide⟩, hge⟩
  exact ⟨h.sm.only ho h1, h.mn.only ho h3 h.low.size, h.ev.only ho h2 h.low.size, h.gh.only ho h2 h.low.size, h.o12, h.o13, h.o14, h.o34⟩
theorem Lr.app2 (h : Lr w0 w sm mn ev gh v1 v2 v3 v4) (hq : IQ w0.heap.size w0 w' v2' mn') (ha : AppQ w0.heap.size w0 w w' v2 v2') : Lr w0 w' sm mn' ev gh v1 v2' v3 v4 := by
  obtain ⟨h1, h2⟩ := (Kp.grown ha.grown ha.at_).iv h.sm h.o12
  have hne : ∀ {v : Value} {ks : List Nat}, KO w0.heap.size w0 w v ks → v.ownBlock = none ∨ v.ownBlock ≠ v2.ownBlock := fun {v ks} hk => by
    rcases hv : v.ownBlock with _ | k
    · exact .inl rfl
    · refine .inr (fun e => ?_)
      obtain ⟨_, _, cs, hc⟩ := hk.typ k hv
      obtain ⟨_, _, ds, hd⟩ := h.mn.lt k e.symm
      exact typ_ne hc hd (by decide) rfl
  exact ⟨h1, hq, ⟨hq.low, h.ev.own.kept ha.grown (hne h.ev)⟩, ⟨hq.low, h.gh.own.kept ha.grown (hne h.gh)⟩, h2, h.o13, h.o14, h.o34⟩
theorem Lr.mn_k (h : Lr w0 w sm mn ev gh v1 v2 v3 v4) {v v' : Value} {ks : List Nat} (hk : KO w0.heap.size w0 w v ks) (ha : AppQ w0.heap.size w0 w w' v v') (hl : Below w0.heap.size w0 w') : IQ w0.heap.size w0 w' v2 mn := by
  refine ⟨hl, ?_⟩
  rcases h.mn.own with q | ⟨g, off, c, cur, e, hBg, hg, rest⟩
  · exact .inl q
  · refine .inr ⟨g, off, c, cur, e, hBg, (ha.grown.block g (Array.getElem?_eq_some_iff.1 hg).1 (fun e2 => ?_)).trans hg, rest⟩
    obtain ⟨_, _, cs, hc⟩ := hk.typ g e2.symm
    exact typ_ne hc hg (by decide) rfl
theorem Lr.app3 (h : Lr w0 w sm mn ev gh v1 v2 v3 v4) (hq : KO w0.heap.size w0 w' v3' ev') (ha : AppQ w0.heap.size w0 w w' v3 v3') : Lr w0 w' sm mn ev' gh v1 v2 v3' v4 := by
  obtain ⟨h1, h2⟩ := (Kp.grown ha.grown ha.at_).iv h.sm h.o13
  refine ⟨h1, h.mn_k h.ev ha hq.low, hq, ⟨hq.low, h.gh.own.kept ha.grown ?_⟩, h.o12, h2, h.o14, ?_⟩
  · rcases h.o34 with e | e | e
    · rcases hv : v4.ownBlock with _ | k
      · exact .inl rfl
      · exact .inr (by rw [e]; simp)
    · exact .inl e
    · exact .inr (fun e2 => e e2.symm)
  · rcases ha.at_ with e | e
    · rw [e]; exact h.o34
    · rcases hv : v4.ownBlock with _ | k
      · exact .inr (.inl rfl)
      · refine .inr (.inr (fun e2 => ?_))
        rw [e] at e2
        injection e2 with e2
        have := (h.gh.typ k hv).2.1
        omega
theorem Lr.app4 (h : Lr w0 w sm mn ev gh v1 v2 v3 v4) (hq : KO w0.heap.size w0 w' v4' gh') (ha : AppQ w0.heap.size w0 w w' v4 v4') : Lr w0 w' sm mn ev gh' v1 v2 v3 v4' := by
  obtain ⟨h1, h2⟩ := (Kp.grown ha.grown ha.at_).iv h.sm h.o14
  refine ⟨h1, h.mn_k h.gh ha hq.low, ⟨hq.low, h.ev.own.kept ha.grown ?_⟩, hq, h.o12, h.o13, h2, ?_⟩
  · rcases h.o34 with e | e | e
    · exact .inl e
    · rcases hv : v3.ownBlock with _ | k
      · exact .inl rfl
      · exact .inr (by rw [e]; simp)
    · exact .inr e
  · rcases ha.at_ with e | e
    · rw [e]; exact h.o34
    · rcases hv : v3.ownBlock with _ | k
      · exact .inl rfl
      · refine .inr (.inr (fun e2 => ?_))
        rw [e] at e2
        injection e2 with e2
        have := (h.ev.typ k hv).2.1
        omega
theorem Bl.grown {row : Option Nat} (h : Bl w0 w b t v1 v2 v3 v4) (hg : w.grownBy w' row) (hr : ∀ g, row = some g → ∃ cs T, w.heap[g]? = some (.cells cs T (0, 0)) ∧ T ≠ LT10) : Bl w0 w' b t v1 v2 v3 v4 :=
  ⟨h.ge, (hg.block b (head_row h.at_).lt (fun e => by
    obtain ⟨cs, T, hc, hT⟩ := hr b e.symm
    exact typ_ne hc h.at_ hT rfl)).trans h.at_⟩
theorem Lr.bl2 (h : Lr w0 w sm mn ev gh v1 v2 v3 v4) {u1 u2 u3 u4 : Value} (hb : Bl w0 w b t u1 u2 u3 u4) (ha : AppQ w0.heap.size w0 w w' v2 v2') : Bl w0 w' b t u1 u2 u3 u4 :=
  hb.grown ha.grown (fun g e => by
    obtain ⟨_, _, cs, hc⟩ := h.mn.lt g e
    exact ⟨cs, _, hc, by decide⟩)
theorem KO.bl {v v' : Value} {ks : List Nat} (h : KO w0.heap.size w0 w v ks) {u1 u2 u3 u4 : Value} (hb : Bl w0 w b t u1 u2 u3 u4) (ha : AppQ w0.heap.size w0 w w' v v') : Bl w0 w' b t u1 u2 u3 u4 :=
  hb.grown ha.grown (fun g e => by
    obtain ⟨_, _, cs, hc⟩ := h.typ g e
    exact ⟨cs, _, hc, by decide⟩)
/- A store into the box. -/
theorem Lr.put {F1 F2 F3 F4 : Option Addr} {n1 n2 n3 n4 c1 c2 c3 c4 : Nat} (h : Lr w0 w sm mn ev gh v1 v2 v3 v4) (hb : Bl w0 w b t (.slice F1 n1 c1) (.slice F2 n2 c2) (.slice F3 n3 c3) (.slice F4 n4 c4)) (i : Nat) (x : Value) : Lr w0 (w.setCell ⟨b, i, none⟩ x) sm mn ev gh v1 v2 v3 v4 :=
  h.only_b hb.ge hb.at_ rfl ((Only.refl _ _).setCell (by simp) _)
theorem Bl.put1 (hb : Bl w0 w b t v1 v2 v3 v4) (x : Value) : Bl w0 (w.setCell ⟨b, 1, none⟩ x) b t x v2 v3 v4 := ⟨hb.ge, set_one hb.at_⟩
theorem Bl.put2 (hb : Bl w0 w b t v1 v2 v3 v4) (x : Value) : Bl w0 (w.setCell ⟨b, 2, none⟩ x) b t v1 x v3 v4 := ⟨hb.ge, set_one hb.at_⟩
theorem Bl.put3 (hb : Bl w0 w b t v1 v2 v3 v4) (x : Value) : Bl w0 (w.setCell ⟨b, 3, none⟩ x) b t v1 v2 x v4 := ⟨hb.ge, set_one hb.at_⟩
theorem Bl.put4 (hb : Bl w0 w b t v1 v2 v3 v4) (x : Value) : Bl w0 (w.setCell ⟨b, 4, none⟩ x) b t v1 v2 v3 x := ⟨hb.ge, set_one hb.at_⟩
theorem Bl.cells (hb : Bl w0 w b t v1 v2 v3 v4) : (w.cell? ⟨b, 0, none⟩ = some (.int .i64 (t : Nat)) ∧ w.cell? ⟨b, 1, none⟩ = some v1 ∧ w.cell? ⟨b, 2, none⟩ = some v2 ∧ w.cell? ⟨b, 3, none⟩ = some v3 ∧ w.cell? ⟨b, 4, none⟩ = some v4) ∧
    w.frozen? ⟨b, 0, none⟩ = false ∧ w.frozen? ⟨b, 1, none⟩ = false ∧ w.frozen? ⟨b, 2, none⟩ = false ∧ w.frozen? ⟨b, 3, none⟩ = false ∧ w.frozen? ⟨b, 4, none⟩ = false := c5_at hb.at_
theorem Bl.lt (hb : Bl w0 w b t v1 v2 v3 v4) : b < w.heap.size := (head_row hb.at_).lt
end
end Go.Proofs.Ytlekhmpalcgbmaa
