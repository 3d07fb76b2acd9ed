/- Two laws of the walk: append of one number onto a row with room, and copy. -/
import Derived.Test.YtlmcodmglcmmoaaArB
import Derived.ArgAppend
import Derived.Laws.CopyRow
import Derived.OwnWalk
import Derived.Laws.MakeOwn
namespace Go.Proofs.Ytlmcodmglcmmoaa
open Go Go.RowKit Go.Deep

theorem wpList_append_one {P : Program} {w : World} {ops : Array Oper} {rest : List Oper} {o : Oper} {a : Act} {Q : Exit → Act → World → Prop} (hgd : o.guard = none) (s x : Operand) (t : TypeId)
    (ho : o.op = .call { callee := .builtin .append, args := #[s, x], argTypes := #[t, t] }) (e : TypeId) (z : Value) (bytes : Nat) (ht : P.underlying t = some (.slice e))
    (hinfo : (P.info? e).map (fun i => (i.zero, i.size, i.bytes)) = some (some z, 1, bytes)) (f k n p c : Nat) (hs : a.eval s = .slice (some ⟨f, 0, none⟩) k n) (hx : a.eval x = .slice (some ⟨p, 0, none⟩) 1 c)
    (u : Value) (hu : w.cell? ⟨p, 0, none⟩ = some u) (h1 : u.oneCell' = true) (hroom : k + 1 ≤ n) (hc : (w.cell? ⟨f, k, none⟩).isSome = true) (hf : w.frozen? ⟨f, k, none⟩ = false)
    (h : wpList P ops Q rest (a.put o.dst (.slice (some ⟨f, 0, none⟩) (k + 1) n)) (w.setCell ⟨f, k, none⟩ u)) : wpList P ops Q (o :: rest) a w := by
  obtain ⟨i, hi, hzz⟩ := Option.map_eq_some_iff.1 hinfo
  simp only [Prod.mk.injEq] at hzz
  obtain ⟨_, hs1, _⟩ := hzz
  have hrun := run_append_room_cells (P := P) w t o.type e i ht hi f 0 k n ⟨p, 0, none⟩ 1 c [u] (by simp [hs1])
    (fun j v hv => by
      cases j with
      | zero => simp only [List.getElem?_cons_zero, Option.some.injEq] at hv; subst hv; exact hu
      | succ j => simp at hv)
    (by simpa using h1) hroom (fun j hj => by
      have : j = 0 := by simpa using hj
      subst this; simpa [hs1] using hc) (fun j hj => by
      have : j = 0 := by simpa using hj
      subst this; simpa [hs1] using hf)
  have hw : w.setCells f (0 + k * i.size) [u] = w.setCell ⟨f, k, none⟩ u := by simp [World.setCells, hs1]
  rw [hw] at hrun
  refine wpList_plain hgd fun K' hK' => ?_
  unfold Oper.wp
  simp [execOp, ho, resolve, invoke, builtin, hs, hx, hrun, Result.andThen]
  exact hK' _ _ h

theorem run_copy_rows {P : Program} (w : World) (dT sT ty elem : TypeId) (hu : P.underlying dT = some (.slice elem)) (size : Nat) (hsz : (P.info? elem).map (·.size) = some size) (g r dLen dCap sLen sCap : Nat) (hle : sLen ≤ dLen)
    (t u : TypeId) (nd ns : Nat) (fd fs : Nat → Value) (hg : w.rowIs g t nd fd) (hr : w.rowIs r u ns fs) (hns : sLen * size ≤ ns) (hnd : sLen * size ≤ nd) (h1 : ∀ j, j < sLen * size → (fs j).oneCell' = true) :
    ∃ w', (Builtin.copy_ #[dT, sT] ty #[.slice (some ⟨g, 0, none⟩) dLen dCap, .slice (some ⟨r, 0, none⟩) sLen sCap]).run P w = .ok (goInt sLen) w' ∧
      w'.rowIs g t nd (fun j => if j < sLen * size then fs j else fd j) ∧ Only [g] w w' := by
  obtain ⟨cur, hb, hn, hcur⟩ := hg
  have hm : Nat.min sLen dLen = sLen := Nat.min_eq_left hle
  have hsrc : ∀ j v, ((List.range (sLen * size)).map fs)[j]? = some v → w.cell? ((⟨r, 0, none⟩ : Addr).add j) = some v := by
    intro j v hv
    rw [List.getElem?_map] at hv
    have hj : j < sLen * size := by
      rcases Nat.lt_or_ge j (sLen * size) with h | h
      · exact h
      · rw [List.getElem?_eq_none (by simpa using h)] at hv; cases hv
    rw [List.getElem?_range hj] at hv
    simp only [Option.map_some, Option.some.injEq] at hv
    subst hv
    have := hr.cell (i := j) (by omega)
    simpa [Addr.add_lit] using this
  have hl := run_loadCells_list (P := P) w ⟨r, 0, none⟩ ((List.range (sLen * size)).map fs) hsrc
  have hst := run_storeCells_at P g 0 t ((List.range (sLen * size)).map fs) 0 cur w hb (by simp; omega) (fun v hv => by
    obtain ⟨j, hj, rfl⟩ := List.mem_map.1 hv
    exact h1 j (List.mem_range.1 hj))
  simp only [Nat.zero_add, List.take_zero, List.nil_append, List.length_map, List.length_range] at hst
  generalize hnew : ((List.range (sLen * size)).map fs ++ cur.toList.drop (sLen * size)).toArray = new at hst
  refine ⟨w.setRow g new, ?_, ⟨new, setRow_heap w g cur _ t _ hb, ?_, fun i hi => ?_⟩, ?_⟩
  rotate_left
  · subst hnew; simp; omega
  · subst hnew
    rw [List.getElem?_toArray]
    show _ = some (if i < sLen * size then fs i else fd i)
    by_cases hj : i < sLen * size
    · rw [if_pos hj, List.getElem?_append_left (by simpa using hj), List.getElem?_map, List.getElem?_range hj]; rfl
    · rw [if_neg hj, List.getElem?_append_right (by simpa using hj), List.getElem?_drop]
      rw [show sLen * size + (i - ((List.range (sLen * size)).map fs).length) = i by simp; omega]
      rw [Array.getElem?_toList]; exact hcur i hi
  · exact ⟨rfl, rfl, rfl, by simp [World.setRow], fun k hk hne => setRow_other w g k _ (by simpa using hne)⟩
  · cases hq : P.info? elem with
    | none => simp [hq] at hsz
    | some i =>
      have hi : i.size = size := by simpa [hq] using hsz
      have hl' : (loadCells ⟨r, 0, none⟩ (sLen * size)).run P w = .ok ((List.range (sLen * size)).map fs).toArray w := by simpa using hl
      simp [Builtin.copy_, run_underlying hu, Builtin.lenOf, Builtin.firstCells, sizeOf, typeInfo, hq, hi, hm, hl', hst]

theorem wpList_copy_rows {P : Program} {w : World} {ops : Array Oper} {rest : List Oper} {o : Oper} {a : Act} {Q : Exit → Act → World → Prop} (hgd : o.guard = none) (d s : Operand) (dT sT : TypeId)
    (ho : o.op = .call { callee := .builtin .copy, args := #[d, s], argTypes := #[dT, sT] }) (elem : TypeId) (hu : P.underlying dT = some (.slice elem)) (size : Nat) (hsz : (P.info? elem).map (·.size) = some size)
    (g r dLen dCap sLen sCap : Nat) (hle : sLen ≤ dLen) (hd : a.eval d = .slice (some ⟨g, 0, none⟩) dLen dCap) (hs : a.eval s = .slice (some ⟨r, 0, none⟩) sLen sCap)
    (t u : TypeId) (nd ns : Nat) (fd fs : Nat → Value) (hg : w.rowIs g t nd fd) (hr : w.rowIs r u ns fs) (hns : sLen * size ≤ ns) (hnd : sLen * size ≤ nd) (h1 : ∀ j, j < sLen * size → (fs j).oneCell' = true)
    (h : ∀ w', w'.rowIs g t nd (fun j => if j < sLen * size then fs j else fd j) → Only [g] w w' → wpList P ops Q rest (a.put o.dst (goInt sLen)) w') : wpList P ops Q (o :: rest) a w := by
  obtain ⟨w', hrun, h2, h3⟩ := run_copy_rows (P := P) w dT sT o.type elem hu size hsz g r dLen dCap sLen sCap hle t u nd ns fd fs hg hr hns hnd h1
  refine wpList_plain hgd fun K' hK' => ?_
  unfold Oper.wp
  simp [execOp, ho, resolve, invoke, builtin, hd, hs, hrun, Result.andThen]
  exact hK' _ _ (h w' h2 h3)

theorem wpList_copy_nilrow {P : Program} {w : World} {ops : Array Oper} {rest : List Oper} {o : Oper} {a : Act} {Q : Exit → Act → World → Prop} (hgd : o.guard = none) (d s : Operand) (dT sT : TypeId)
    (ho : o.op = .call { callee := .builtin .copy, args := #[d, s], argTypes := #[dT, sT] }) (elem : TypeId) (hu : P.underlying dT = some (.slice elem)) (hsz : ((P.info? elem).map (·.size)).isSome = true)
    (p : Addr) (dLen dCap : Nat) (hd : a.eval d = .slice (some p) dLen dCap) (hs : a.eval s = .slice none 0 0)
    (h : wpList P ops Q rest (a.put o.dst (goInt 0)) w) : wpList P ops Q (o :: rest) a w := by
  have hrun := run_copy_nil (P := P) w dT sT o.type elem p dLen dCap hu hsz
  refine wpList_plain hgd fun K' hK' => ?_
  unfold Oper.wp
  simp [execOp, ho, resolve, invoke, builtin, hd, hs, hrun, Result.andThen]
  exact hK' _ _ h

/- Slots that were made: all of them have nothing, and none is taken. -/
theorem make_slots (n : Nat) (hn : n ≤ 1000000000) (w : World) :
    ∃ cs : Array Value, (Instr.makeSlice 74 (.int .i64 n) (.int .i64 n)).run Try.prog w = .ok (.slice (some ⟨w.heap.size, 0, none⟩) n n) (w.alloc (.cells cs 81)) ∧
      cs.size = n * 7 ∧ ∀ p, p < cs.size → cs[p]? = some (slotV (fun _ => Nd.zero) (fun _ => false) p) := by
  have hinfo : (Try.prog.info? 81).map (fun i => (i.zero, i.size, i.bytes)) = some (some (.agg #[.int .u64 0, .int .u64 0, .int .i64 0, .int .i64 0, .int .i32 0, .int .i32 0, .bool false]), 7, 48) := by kernel_rfl
  obtain ⟨i, hi, hz0, hz1, hz2⟩ := info_parts hinfo
  have hr := run_make (P := Try.prog) w 74 81 i _ (by kernel_rfl) hi hz0 .i64 .i64 n n (by omega) (by omega) (by rw [hz2]; omega) (by omega)
  refine ⟨_, by simpa using hr, ?_⟩
  rw [hz1]
  refine ⟨size_madeCells _ _, fun p hp => ?_⟩
  rw [size_madeCells] at hp
  have hp7 : p % 7 < 7 := Nat.mod_lt _ (by decide)
  simp only [madeCells, Value.cells, Array.getElem?_map]
  rw [Array.getElem?_range, if_pos hp]
  simp only [Option.map_some, Option.some.injEq, slotV]
  generalize p % 7 = j at hp7
  match j, hp7 with
  | 0, _ => rfl
  | 1, _ => rfl
  | 2, _ => rfl
  | 3, _ => rfl
  | 4, _ => rfl
  | 5, _ => rfl
  | 6, _ => rfl
end Go.Proofs.Ytlmcodmglcmmoaa
