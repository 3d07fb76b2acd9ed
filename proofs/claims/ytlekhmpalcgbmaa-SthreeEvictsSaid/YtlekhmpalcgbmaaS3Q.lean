/- Items in an own row that begins anywhere in its block: append, and what is read; the queues that keys leave. -/
import Derived.Test.YtlekhmpalcgbmaaS3Y
import Derived.Deep.RegionLaw
import Derived.Maps.AppendAt
namespace Go.Proofs.Ytlekhmpalcgbmaa
open Go Go.RowKit Go.Deep

/- The cells hold the items, from a place on. -/
def Hold (cur : Array Value) (off : Nat) (xs : List It) : Prop := ∀ i (h : i < xs.length), cur[off + i * 2]? = some (.int .u64 (xs[i].key : Nat)) ∧ cur[off + i * 2 + 1]? = some (.int .i64 (xs[i].f : Nat))
theorem IV.of_hold {w : World} {g off c : Nat} {cur : Array Value} {t : TypeId} {xs : List It} (hg : w.heap[g]? = some (.cells cur t (0, 0))) (h : Hold cur off xs) (hc : xs.length ≤ c) : IV w (.slice (some ⟨g, off, none⟩) xs.length c) xs := by
  refine ⟨itL_len xs, ⟨_, c, rfl, hc, (fun e => by cases e), fun j u hu => ⟨_, rfl, (Array.getElem?_eq_some_iff.1 hg).1, ?_⟩⟩⟩
  have hj := (List.getElem?_eq_some_iff.1 hu).1
  rw [itL_len] at hj
  rw [Addr.add_lit, cell_of_row w g (off + j) cur t (0, 0) hg]
  obtain ⟨i, hi | hi⟩ : ∃ i, j = i * 2 ∨ j = i * 2 + 1 := ⟨j / 2, by omega⟩
  · subst hi
    have hi2 : i < xs.length := by omega
    rw [(h i hi2).1, ← (itL_at xs i hi2).1, hu]
  · subst hi
    have hi2 : i < xs.length := by omega
    rw [← Nat.add_assoc, (h i hi2).2, ← (itL_at xs i hi2).2, hu]
structure IQ (B : Nat) (w0 w : World) (v : Value) (xs : List It) : Prop where
  low : Below B w0 w
  own : v = .slice none 0 0 ∧ xs = [] ∨ ∃ g off c cur, v = .slice (some ⟨g, off, none⟩) xs.length c ∧ B ≤ g ∧ w.heap[g]? = some (.cells cur QTI10 (0, 0)) ∧ xs.length ≤ c ∧ c ≤ maxLen ∧ off + c * 2 ≤ cur.size ∧ Hold cur off xs
section
variable {B : Nat} {w0 w w' : World} {v : Value} {xs : List It}
theorem OwnI.iq (h : OwnI QTI10 B w0 w v xs) : IQ B w0 w v xs := by
  refine ⟨h.low, ?_⟩
  rcases h.own.2 with ⟨rfl, h0⟩ | ⟨g, c, cur, rfl, hB, hg, hle, hc, hsz, htk⟩
  · exact .inl ⟨rfl, List.length_eq_zero_iff.1 h0⟩
  · refine .inr ⟨g, 0, c, cur, rfl, hB, hg, hle, hc, by omega, fun i hi => ?_⟩
    obtain ⟨a1, a2⟩ := itL_at xs i hi
    rw [← htk, List.getElem?_take] at a1 a2
    rw [if_pos (by omega)] at a1 a2
    rw [Nat.zero_add]
    exact ⟨by simpa using a1, by simpa using a2⟩
theorem IQ.iv (h : IQ B w0 w v xs) : IV w v xs := by
  rcases h.own with ⟨rfl, rfl⟩ | ⟨g, off, c, cur, rfl, hB, hg, hle, hc, hsz, hh⟩
  · exact IV.nil w
  · exact IV.of_hold hg hh hle
theorem IQ.below (h : IQ B w0 w v xs) (hB : B ≤ w.heap.size) (hb : Below w.heap.size w w') : IQ B w0 w' v xs := by
  refine ⟨h.low.trans (hb.mono hB), ?_⟩
  rcases h.own with q | ⟨g, off, c, cur, e, hBg, hg, rest⟩
  · exact .inl q
  · exact .inr ⟨g, off, c, cur, e, hBg, (hb.block g (Array.getElem?_eq_some_iff.1 hg).1).trans hg, rest⟩
theorem IQ.only {S : List Nat} (h : IQ B w0 w v xs) (ho : Only S w w') (hS : ∀ g ∈ S, (∃ cs t, w.heap[g]? = some (.cells cs t (0, 0)) ∧ t ≠ QTI10) ∧ B ≤ g) (hB : B ≤ w.heap.size) : IQ B w0 w' v xs := by
  refine ⟨h.low.trans (ho.below (fun g hg => (hS g hg).2) hB), ?_⟩
  rcases h.own with q | ⟨g, off, c, cur, e, hBg, hg, rest⟩
  · exact .inl q
  · refine .inr ⟨g, off, c, cur, e, hBg, (ho.block g (Array.getElem?_eq_some_iff.1 hg).1 (fun hm => ?_)).trans hg, rest⟩
    obtain ⟨⟨cs, t, hg2, ht⟩, _⟩ := hS g hm
    rw [hg] at hg2
    injection hg2 with hg2
    injection hg2 with _ hg2
    exact ht hg2.symm
theorem IQ.lt (h : IQ B w0 w v xs) : ∀ g, v.ownBlock = some g → B ≤ g ∧ g < w.heap.size ∧ ∃ cs, w.heap[g]? = some (.cells cs QTI10 (0, 0)) := fun k hk => by
  rcases h.own with ⟨rfl, _⟩ | ⟨g, off, c, cur, rfl, hBg, hg, _⟩
  · simp [Value.ownBlock] at hk
  · simp [Value.ownBlock] at hk
    subst hk
    exact ⟨hBg, (Array.getElem?_eq_some_iff.1 hg).1, cur, hg⟩
/- Without its first item. -/
theorem Hold.tail {cur : Array Value} {off : Nat} {x : It} {xs : List It} (h : Hold cur off (x :: xs)) : Hold cur (off + 2) xs := fun i hi => by
  have := h (i + 1) (by simpa using hi)
  rw [show off + 2 + i * 2 = off + (i + 1) * 2 by omega]
  exact this
theorem IQ.tail {g off n c : Nat} {x : It} (h : IQ B w0 w (.slice (some ⟨g, off, none⟩) (n + 1) (c + 1)) (x :: xs)) (hn : xs.length = n) : IQ B w0 w (.slice (some ⟨g, off + 2, none⟩) n c) xs := by
  rcases h.own with ⟨e, _⟩ | ⟨g', off', c', cur, e, hBg, hg, hle, hc, hsz, hh⟩
  · cases e
  · injection e with e1 e2 e3
    injection e1 with e1
    injection e1 with e4 e5
    subst e4 e5 e3 hn
    exact ⟨h.low, .inr ⟨g, off + 2, c, cur, rfl, hBg, hg, by simpa using hle, by omega, by omega, hh.tail⟩⟩
theorem IQ.tail0 {g off : Nat} {x : It} (h : IQ B w0 w (.slice (some ⟨g, off, none⟩) 1 1) [x]) : IQ B w0 w (.slice (some ⟨g, off, none⟩) 0 0) [] := by
  rcases h.own with ⟨e, _⟩ | ⟨g', off', c', cur, e, hBg, hg, hle, hc, hsz, hh⟩
  · cases e
  · injection e with e1 e2 e3
    injection e1 with e1
    injection e1 with e4 e5
    subst e4 e5
    exact ⟨h.low, .inr ⟨g, off, 0, cur, rfl, hBg, hg, by simp, by unfold maxLen; omega, by omega, fun i hi => by simp at hi⟩⟩
theorem IQ.form (h : IQ B w0 w v xs) : ∃ F c, v = .slice F xs.length c ∧ xs.length ≤ c ∧ (0 < xs.length → ∃ g off, F = some ⟨g, off, none⟩) := by
  rcases h.own with ⟨rfl, rfl⟩ | ⟨g, off, c, cur, rfl, hB, hg, hle, _⟩
  · exact ⟨none, 0, rfl, Nat.le_refl _, fun h => by simp at h⟩
  · exact ⟨_, c, rfl, hle, fun _ => ⟨g, off, rfl⟩⟩
end
/- append onto an own row: what it comes to. -/
structure AppQ (B : Nat) (w0 w w' : World) (v v' : Value) : Prop where
  grown : w.grownBy w' v.ownBlock
  at_ : v'.ownBlock = v.ownBlock ∨ v'.ownBlock = some w.heap.size
theorem arr_set_other {cur : Array Value} {j k : Nat} {x : Value} (h : k ≠ j) : (cur.setIfInBounds j x)[k]? = cur[k]? := by
  rw [Array.getElem?_setIfInBounds]
  split
  · omega
  · rfl
theorem arr_set_same {cur : Array Value} {j : Nat} {x : Value} (h : j < cur.size) : (cur.setIfInBounds j x)[j]? = some x := by
  rw [Array.getElem?_setIfInBounds]
  simp [h]
theorem run_append_iq {P : Program} {w w0 : World} {B : Nat} {v : Value} {xs : List It} {x : It} {t ty : TypeId} (ht : P.underlying t = some (.slice QTI10))
    (hinfo : (P.info? QTI10).map (fun i => (i.zero, i.size, i.bytes)) = some (some (.agg #[.int .u64 0, .int .i64 0]), 2, 16))
    (h : IQ B w0 w v xs) (hB : B ≤ w.heap.size) {y : Value} (hy : IV w y [x]) (hl : xs.length ≤ 500000000) :
    ∃ v' w', (Builtin.append_ #[t, t] ty #[v, y]).run P w = .ok v' w' ∧ IQ B w0 w' v' (xs ++ [x]) ∧ AppQ B w0 w w' v v' := by
  obtain ⟨i, hi, hz, hsize, hby⟩ := info_parts hinfo
  obtain ⟨F, c, rfl, hc1, hc2, h3⟩ := hy.mem
  obtain ⟨yg, yoff, rfl, hyg, q0, q1⟩ := h3 0 (by simp)
  dsimp only [List.getElem_cons_zero] at q0 q1
  rw [Nat.zero_mul, Nat.add_zero] at q0 q1
  have hnews : ∀ j u, (itV x)[j]? = some u → w.cell? ((⟨yg, yoff, none⟩ : Addr).add j) = some u := fun j u hu => by
    rw [Addr.add_lit]
    match j, hu with
    | 0, hu => rw [Nat.add_zero, q0]; exact hu
    | 1, hu => rw [q1]; exact hu
    | j + 2, hu => exact absurd hu (by simp [itV])
  have h1 : ∀ u ∈ itV x, u.oneCell' = true := fun u hu => itL_one [x] u (by simpa [itL] using hu)
  have hnil : ∀ (hv : v = .slice none 0 0) (hx : xs = []), ∃ v' w', (Builtin.append_ #[t, t] ty #[v, .slice (some ⟨yg, yoff, none⟩) 1 c]).run P w = .ok v' w' ∧ IQ B w0 w' v' (xs ++ [x]) ∧ AppQ B w0 w w' v v' := fun hv hx => by
    subst hv hx
    have hown : w.ownsRow B QTI10 2 (.slice none 0 0) 0 [] := World.ownsRow_nil _ _ _ _
    obtain ⟨v', w', hr, h2, h3, _, h6⟩ := run_append_own_at (P := P) w B t ty QTI10 i (.agg #[.int .u64 0, .int .i64 0]) 2 16 ht hi hz hsize hby rfl (by decide) (.slice none 0 0) 0 [] hown ⟨yg, yoff, none⟩ 1 c (itV x) rfl hnews h1 (by unfold maxLen; omega) (by omega) hB
    refine ⟨v', w', hr, ?_, ⟨h3, h6⟩⟩
    exact OwnI.iq ⟨below_grown h.low hown h3 hB, by simpa [itL] using h2⟩
  rcases h.own with ⟨e, hx⟩ | ⟨g, off, cap, cur, rfl, hBg, hg, hle, hcm, hsz, hh⟩
  · exact hnil e hx
  · have hgl := (Array.getElem?_eq_some_iff.1 hg).1
    have hrow := head_row hg
    by_cases hroom : xs.length + 1 ≤ cap
    · have hcl : ∀ j, j < (itV x).length → (w.cell? ⟨g, off + xs.length * i.size + j, none⟩).isSome = true := fun j hj => by
        have hj2 : j < 2 := hj
        rw [cell_of_row w g _ cur QTI10 (0, 0) hg, hsize]
        rw [Array.getElem?_eq_getElem (by omega)]
        rfl
      have hfr : ∀ j, j < (itV x).length → w.frozen? ⟨g, off + xs.length * i.size + j, none⟩ = false := fun j _ => hrow.frozen _
      have hr := run_append_room_cells (P := P) w t ty QTI10 i ht hi g off xs.length cap ⟨yg, yoff, none⟩ 1 c (itV x) (by rw [hsize]; rfl) hnews h1 hroom hcl hfr
      rw [hsize] at hr
      have hset : w.setCells g (off + xs.length * 2) (itV x) = (w.setCell ⟨g, off + xs.length * 2, none⟩ (.int .u64 (x.key : Nat))).setCell ⟨g, off + xs.length * 2 + 1, none⟩ (.int .i64 (x.f : Nat)) := rfl
      rw [hset] at hr
      have ho : Only [g] w ((w.setCell ⟨g, off + xs.length * 2, none⟩ (.int .u64 (x.key : Nat))).setCell ⟨g, off + xs.length * 2 + 1, none⟩ (.int .i64 (x.f : Nat))) := ((Only.refl _ _).setCell (by simp) _).setCell (by simp) _
      refine ⟨_, _, hr, ⟨h.low.trans (ho.below (by simpa using hBg) hB), .inr ⟨g, off, cap, _, by rw [List.length_append]; rfl, hBg, set_one (set_one hg), by rw [List.length_append]; exact hroom, hcm, by simpa using hsz, fun j hj => ?_⟩⟩, ⟨⟨rfl, rfl, rfl, ho.size, fun k hk hne => ho.block k hk (by simpa [Value.ownBlock] using fun e : k = g => hne (by simp [Value.ownBlock, e]))⟩, .inl rfl⟩⟩
      rw [List.length_append, List.length_singleton] at hj
      by_cases hjl : j < xs.length
      · rw [List.getElem_append_left hjl]
        have h4 := hh j hjl
        rw [arr_set_other (by omega), arr_set_other (by omega), arr_set_other (by omega), arr_set_other (by omega)]
        exact h4
      · obtain rfl : j = xs.length := by omega
        rw [List.getElem_append_right (Nat.le_refl _)]
        simp only [Nat.sub_self, List.getElem_cons_zero]
        refine ⟨?_, ?_⟩
        · rw [arr_set_other (by omega), arr_set_same (by omega)]
        · rw [arr_set_same (by simp; omega)]
    · have holds : ∀ j u, (itL xs)[j]? = some u → w.cell? ((⟨g, off, none⟩ : Addr).add j) = some u := fun j u hu => by
        obtain ⟨_, ⟨F', c', e, _, _, h5⟩⟩ := h.iv
        injection e with e1 e2 e3
        obtain ⟨ad, e4, _, h6⟩ := h5 j u hu
        rw [← e1] at e4
        injection e4 with e4
        subst e4
        exact h6
      have hr := run_append_grow (P := P) w t ty QTI10 i (.agg #[.int .u64 0, .int .i64 0]) ht hi hz ⟨g, off, none⟩ xs.length cap (itL xs) (by rw [hsize]; exact itL_len xs) holds ⟨yg, yoff, none⟩ 1 c (itV x) (by rw [hsize]; rfl) hnews (by omega) (by omega) (growslice_fits (by omega) (by rw [hby]; omega))
      have hge := grownCap_ge w (xs.length + 1) cap QTI10
      have hcm2 := grownCap_le_maxLen w (xs.length + 1) cap QTI10 (by unfold maxLen; omega)
      have e2 : (itL xs).toArray ++ (itV x).toArray = (itL (xs ++ [x])).toArray := by rw [← itL_append]; simp [itL]
      rw [e2] at hr
      refine ⟨_, _, hr, ?_, ⟨⟨rfl, rfl, rfl, by simp, fun k hk _ => Below.heap_alloc w.drew _ k hk⟩, .inr rfl⟩⟩
      refine OwnI.iq ⟨(below_drewn h.low 1).alloc hB _, ⟨itL_len _, .inr ⟨w.heap.size, _, _, by rw [List.length_append]; rfl, hB, heap_alloc_new w.drew _, by rw [List.length_append]; exact hge, hcm2, ?_, ?_⟩⟩⟩
      · simp [size_zeroCells, Value.cells, itL_len]
        omega
      · simp [itL_len]
/- append, as a step of a region that draws. -/
theorem step_append_run {P : Program} {w : World} {ops : Array Oper} {o : Oper} {a : Act} {K : Act → World → Prop} {Q : Exit → Act → World → Prop} {E : Prop} (hgd : o.guard = none) (s x : Operand) (t : TypeId)
    (ho : o.op = .call { callee := .builtin .append, args := #[s, x], argTypes := #[t, t] }) (v y v' : Value) (w' : World) (hs : a.eval s = v) (hx : a.eval x = y)
    (hr : (Builtin.append_ #[t, t] o.type #[v, y]).run P w = .ok v' w') (h : K (a.put o.dst v') w') : if Region.wanted o (yielded ops a.tmps) = true then Oper.wp P o a w K Q else E := by
  have hw : Region.wanted o (yielded ops a.tmps) = true := by simp [Region.wanted, hgd]
  rw [if_pos hw]
  unfold Oper.wp execOp
  simp only [ho, resolve, invoke, builtin, Sem.run_bind, Sem.run_pure, Result.andThen_ok, List.map_toArray, List.map_cons, List.map_nil, hs, hx, hr]
  exact h
theorem step_append_iq {P : Program} {w : World} {ops : Array Oper} {o : Oper} {a : Act} {K : Act → World → Prop} {Q : Exit → Act → World → Prop} {E : Prop} (hgd : o.guard = none) (s x : Operand) (t : TypeId)
    (ho : o.op = .call { callee := .builtin .append, args := #[s, x], argTypes := #[t, t] }) (ht : P.underlying t = some (.slice QTI10))
    (hinfo : (P.info? QTI10).map (fun i => (i.zero, i.size, i.bytes)) = some (some (.agg #[.int .u64 0, .int .i64 0]), 2, 16))
    (B : Nat) {w0 : World} (v : Value) (xs : List It) (hs : a.eval s = v) (hq : IQ B w0 w v xs) (hB : B ≤ w.heap.size) (y : Value) (z : It) (hx : a.eval x = y) (hy : IV w y [z]) (hl : xs.length ≤ 500000000)
    (h : ∀ v' w', IQ B w0 w' v' (xs ++ [z]) → AppQ B w0 w w' v v' → K (a.put o.dst v') w') : if Region.wanted o (yielded ops a.tmps) = true then Oper.wp P o a w K Q else E := by
  obtain ⟨v', w', hr, h1, h2⟩ := run_append_iq (P := P) (ty := o.type) ht hinfo hq hB hy hl
  exact step_append_run hgd s x t ho v y v' w' hs hx hr (h v' w' h1 h2)
theorem step_append_kq {P : Program} {w : World} {ops : Array Oper} {o : Oper} {a : Act} {K : Act → World → Prop} {Q : Exit → Act → World → Prop} {E : Prop} (hgd : o.guard = none) (s x : Operand)
    (ho : o.op = .call { callee := .builtin .append, args := #[s, x], argTypes := #[25, 25] }) (ht : P.underlying 25 = some (.slice 35))
    (hinfo : (P.info? 35).map (fun i => (i.zero, i.size, i.bytes)) = some (some (.int .u64 0), 1, 8))
    (B : Nat) {w0 : World} (v : Value) (ks : List Nat) (hs : a.eval s = v) (hq : KO B w0 w v ks) (hB : B ≤ w.heap.size) (y : Value) (z : Nat) (hx : a.eval x = y) (hy : KV w y [z]) (hl : ks.length ≤ 500000000)
    (h : ∀ v' w', KO B w0 w' v' (ks ++ [z]) → AppQ B w0 w w' v v' → K (a.put o.dst v') w') : if Region.wanted o (yielded ops a.tmps) = true then Oper.wp P o a w K Q else E := by
  obtain ⟨i, hi, hz, hsize, hby⟩ := info_parts hinfo
  obtain ⟨F, c, rfl, hc1, hc2, h3⟩ := hy.mem
  obtain ⟨ad, rfl, hyg, q0⟩ := h3 0 (by simp)
  obtain ⟨v', w', hr, h2, h4, _, h6⟩ := run_append_own_at (P := P) w B 25 o.type 35 i (.int .u64 0) 1 8 ht hi hz hsize hby rfl (by decide) v ks.length (u64L ks) hq.own ad 1 c (u64L [z]) rfl (fun j u hu => by
    match j, hu with
    | 0, hu => rw [q0]; exact hu
    | j + 1, hu => exact absurd hu (by simp [u64L])) (u64L_one _) (by unfold maxLen; omega) (by omega) hB
  refine step_append_run hgd s x _ ho v _ v' w' hs hx hr (h v' w' ⟨below_grown hq.low hq.own h4 hB, ?_⟩ ⟨h4, h6⟩)
  rw [List.length_append, ← u64L_append]
  exact h2
end Go.Proofs.Ytlekhmpalcgbmaa
