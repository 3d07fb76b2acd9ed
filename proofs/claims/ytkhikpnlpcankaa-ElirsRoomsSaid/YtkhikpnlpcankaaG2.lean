/- Words and walks: Ops ArW. -/
import Derived.Test.YtkhikpnlpcankaaG1
import Derived.ArgAppend
import Derived.Laws.CopyRow
import Derived.OwnWalk
import Derived.Laws.MakeOwn
import Derived.RegionTactic
import Derived.Deep.DeepCutAuto
import Derived.Deep.RegionLaw
import Derived.Deep.AppendLies
namespace Go.Proofs.Ytkhikpnlpcankaa
open Go Go.RowKit Go.Deep
theorem wpList_append_one {P : Program} {w : World} {ops : Array Oper} {rest : List Oper} {o : Oper} {a : Act} {Q : Exit → Act → World → Prop} (hgd : o.guard = none) (s x : Operand) (t : TypeId)
    (ho : o.op = .call { callee := .builtin .append, args := #[s, x], argTypes := #[t, t] }) (e : TypeId) (z : Value) (bytes : Nat) (ht : P.underlying t = some (.slice e))
    (hinfo : (P.info? e).map (fun i => (i.zero, i.size, i.bytes)) = some (some z, 1, bytes)) (f k n p c : Nat) (hs : a.eval s = .slice (some ⟨f, 0, none⟩) k n) (hx : a.eval x = .slice (some ⟨p, 0, none⟩) 1 c)
    (u : Value) (hu : w.cell? ⟨p, 0, none⟩ = some u) (h1 : u.oneCell' = true) (hroom : k + 1 ≤ n) (hc : (w.cell? ⟨f, k, none⟩).isSome = true) (hf : w.frozen? ⟨f, k, none⟩ = false)
    (h : wpList P ops Q rest (a.put o.dst (.slice (some ⟨f, 0, none⟩) (k + 1) n)) (w.setCell ⟨f, k, none⟩ u)) : wpList P ops Q (o :: rest) a w := by
  obtain ⟨i, hi, hzz⟩ := Option.map_eq_some_iff.1 hinfo
  simp only [Prod.mk.injEq] at hzz
  obtain ⟨_, hs1, _⟩ := hzz
  have hrun := run_append_room_cells (P := P) w t o.type e i ht hi f 0 k n ⟨p, 0, none⟩ 1 c [u] (by simp [hs1])
    (fun j v hv => by
      cases j with
      | zero => simp only [List.getElem?_cons_zero, Option.some.injEq] at hv; subst hv; exact hu
      | succ j => simp at hv)
    (by simpa using h1) hroom (fun j hj => by
      have : j = 0 := by simpa using hj
      subst this; simpa [hs1] using hc) (fun j hj => by
      have : j = 0 := by simpa using hj
      subst this; simpa [hs1] using hf)
  have hw : w.setCells f (0 + k * i.size) [u] = w.setCell ⟨f, k, none⟩ u := by simp [World.setCells, hs1]
  rw [hw] at hrun
  refine wpList_plain hgd fun K' hK' => ?_
  unfold Oper.wp
  simp [execOp, ho, resolve, invoke, builtin, hs, hx, hrun, Result.andThen]
  exact hK' _ _ h
theorem run_copy_rows {P : Program} (w : World) (dT sT ty elem : TypeId) (hu : P.underlying dT = some (.slice elem)) (size : Nat) (hsz : (P.info? elem).map (·.size) = some size) (g r dLen dCap sLen sCap : Nat) (hle : sLen ≤ dLen)
    (t u : TypeId) (nd ns : Nat) (fd fs : Nat → Value) (hg : w.rowIs g t nd fd) (hr : w.rowIs r u ns fs) (hns : sLen * size ≤ ns) (hnd : sLen * size ≤ nd) (h1 : ∀ j, j < sLen * size → (fs j).oneCell' = true) :
    ∃ w', (Builtin.copy_ #[dT, sT] ty #[.slice (some ⟨g, 0, none⟩) dLen dCap, .slice (some ⟨r, 0, none⟩) sLen sCap]).run P w = .ok (goInt sLen) w' ∧
      w'.rowIs g t nd (fun j => if j < sLen * size then fs j else fd j) ∧ Only [g] w w' := by
  obtain ⟨cur, hb, hn, hcur⟩ := hg
  have hm : Nat.min sLen dLen = sLen := Nat.min_eq_left hle
  have hsrc : ∀ j v, ((List.range (sLen * size)).map fs)[j]? = some v → w.cell? ((⟨r, 0, none⟩ : Addr).add j) = some v := by
    intro j v hv
    rw [List.getElem?_map] at hv
    have hj : j < sLen * size := by
      rcases Nat.lt_or_ge j (sLen * size) with h | h
      · exact h
      · rw [List.getElem?_eq_none (by simpa using h)] at hv; cases hv
    rw [List.getElem?_range hj] at hv
    simp only [Option.map_some, Option.some.injEq] at hv
    subst hv
    have := hr.cell (i := j) (by omega)
    simpa [Addr.add_lit] using this
  have hl := run_loadCells_list (P := P) w ⟨r, 0, none⟩ ((List.range (sLen * size)).map fs) hsrc
  have hst := run_storeCells_at P g 0 t ((List.range (sLen * size)).map fs) 0 cur w hb (by simp; omega) (fun v hv => by
    obtain ⟨j, hj, rfl⟩ := List.mem_map.1 hv
    exact h1 j (List.mem_range.1 hj))
  simp only [Nat.zero_add, List.take_zero, List.nil_append, List.length_map, List.length_range] at hst
  generalize hnew : ((List.range (sLen * size)).map fs ++ cur.toList.drop (sLen * size)).toArray = new at hst
  refine ⟨w.setRow g new, ?_, ⟨new, setRow_heap w g cur _ t _ hb, ?_, fun i hi => ?_⟩, ?_⟩
  rotate_left
  · subst hnew; simp; omega
  · subst hnew
    rw [List.getElem?_toArray]
    show _ = some (if i < sLen * size then fs i else fd i)
    by_cases hj : i < sLen * size
    · rw [if_pos hj, List.getElem?_append_left (by simpa using hj), List.getElem?_map, List.getElem?_range hj]; rfl
    · rw [if_neg hj, List.getElem?_append_right (by simpa using hj), List.getElem?_drop]
      rw [show sLen * size + (i - ((List.range (sLen * size)).map fs).length) = i by simp; omega]
      rw [Array.getElem?_toList]; exact hcur i hi
  · exact ⟨rfl, rfl, rfl, by simp [World.setRow], fun k hk hne => setRow_other w g k _ (by simpa using hne)⟩
  · cases hq : P.info? elem with
    | none => simp [hq] at hsz
    | some i =>
      have hi : i.size = size := by simpa [hq] using hsz
      have hl' : (loadCells ⟨r, 0, none⟩ (sLen * size)).run P w = .ok ((List.range (sLen * size)).map fs).toArray w := by simpa using hl
      simp [Builtin.copy_, run_underlying hu, Builtin.lenOf, Builtin.firstCells, sizeOf, typeInfo, hq, hi, hm, hl', hst]
theorem wpList_copy_rows {P : Program} {w : World} {ops : Array Oper} {rest : List Oper} {o : Oper} {a : Act} {Q : Exit → Act → World → Prop} (hgd : o.guard = none) (d s : Operand) (dT sT : TypeId)
    (ho : o.op = .call { callee := .builtin .copy, args := #[d, s], argTypes := #[dT, sT] }) (elem : TypeId) (hu : P.underlying dT = some (.slice elem)) (size : Nat) (hsz : (P.info? elem).map (·.size) = some size)
    (g r dLen dCap sLen sCap : Nat) (hle : sLen ≤ dLen) (hd : a.eval d = .slice (some ⟨g, 0, none⟩) dLen dCap) (hs : a.eval s = .slice (some ⟨r, 0, none⟩) sLen sCap)
    (t u : TypeId) (nd ns : Nat) (fd fs : Nat → Value) (hg : w.rowIs g t nd fd) (hr : w.rowIs r u ns fs) (hns : sLen * size ≤ ns) (hnd : sLen * size ≤ nd) (h1 : ∀ j, j < sLen * size → (fs j).oneCell' = true)
    (h : ∀ w', w'.rowIs g t nd (fun j => if j < sLen * size then fs j else fd j) → Only [g] w w' → wpList P ops Q rest (a.put o.dst (goInt sLen)) w') : wpList P ops Q (o :: rest) a w := by
  obtain ⟨w', hrun, h2, h3⟩ := run_copy_rows (P := P) w dT sT o.type elem hu size hsz g r dLen dCap sLen sCap hle t u nd ns fd fs hg hr hns hnd h1
  refine wpList_plain hgd fun K' hK' => ?_
  unfold Oper.wp
  simp [execOp, ho, resolve, invoke, builtin, hd, hs, hrun, Result.andThen]
  exact hK' _ _ (h w' h2 h3)
theorem wpList_copy_nilrow {P : Program} {w : World} {ops : Array Oper} {rest : List Oper} {o : Oper} {a : Act} {Q : Exit → Act → World → Prop} (hgd : o.guard = none) (d s : Operand) (dT sT : TypeId)
    (ho : o.op = .call { callee := .builtin .copy, args := #[d, s], argTypes := #[dT, sT] }) (elem : TypeId) (hu : P.underlying dT = some (.slice elem)) (hsz : ((P.info? elem).map (·.size)).isSome = true)
    (p : Addr) (dLen dCap : Nat) (hd : a.eval d = .slice (some p) dLen dCap) (hs : a.eval s = .slice none 0 0)
    (h : wpList P ops Q rest (a.put o.dst (goInt 0)) w) : wpList P ops Q (o :: rest) a w := by
  have hrun := run_copy_nil (P := P) w dT sT o.type elem p dLen dCap hu hsz
  refine wpList_plain hgd fun K' hK' => ?_
  unfold Oper.wp
  simp [execOp, ho, resolve, invoke, builtin, hd, hs, hrun, Result.andThen]
  exact hK' _ _ h
theorem make_slots (n : Nat) (hn : n ≤ 1000000000) (w : World) :
    ∃ cs : Array Value, (Instr.makeSlice 93 (.int .i64 n) (.int .i64 n)).run Try.prog w = .ok (.slice (some ⟨w.heap.size, 0, none⟩) n n) (w.alloc (.cells cs 108)) ∧
      cs.size = n * 7 ∧ ∀ p, p < cs.size → cs[p]? = some (slotV (fun _ => Nd.zero) (fun _ => false) p) := by
  have hinfo : (Try.prog.info? 108).map (fun i => (i.zero, i.size, i.bytes)) = some (some (.agg #[.int .u64 0, .int .u64 0, .int .i64 0, .int .i64 0, .int .i32 0, .int .i32 0, .bool false]), 7, 48) := by kernel_rfl
  obtain ⟨i, hi, hz0, hz1, hz2⟩ := info_parts hinfo
  have hr := run_make (P := Try.prog) w 93 108 i _ (by kernel_rfl) hi hz0 .i64 .i64 n n (by omega) (by omega) (by rw [hz2]; omega) (by omega)
  refine ⟨_, by simpa using hr, ?_⟩
  rw [hz1]
  refine ⟨size_madeCells _ _, fun p hp => ?_⟩
  rw [size_madeCells] at hp
  have hp7 : p % 7 < 7 := Nat.mod_lt _ (by decide)
  simp only [madeCells, Value.cells, Array.getElem?_map]
  rw [Array.getElem?_range, if_pos hp]
  simp only [Option.map_some, Option.some.injEq, slotV]
  generalize p % 7 = j at hp7
  match j, hp7 with
  | 0, _ => rfl
  | 1, _ => rfl
  | 2, _ => rfl
  | 3, _ => rfl
  | 4, _ => rfl
  | 5, _ => rfl
  | 6, _ => rfl
theorem set_false {w : World} {b s f : Nat} {st : St} (h : Ar w b s f st) (hn : st.n ≤ 1000000000) (i : Int) (h32 : i ≤ 2147483647) (x : Nd) (hi : st.is i = false) :
    Calls Try.prog 82 #[.pointer (some ⟨b, 0, none⟩), .int .i32 i, x.v] w fun e w' => e = .returned (.bool false) ∧ Below w.heap.size w w' := by
  have H := Lib.hid (h.below ((Below.refl _ _).alloc (Nat.le_refl _) (.cells #[.int .u64 x.key, .int .u64 x.val, .int .i64 x.flag, .int .i64 x.tag, .int .i32 x.prev, .int .i32 x.next] 84)))
  have HI := Lib.hid hi
  clear h hi
  go_enter Try.func82, Try.ntmps82
  go_wp2_with fail
  refine (is_false H.out hn i h32 HI.out).mono ?_
  rintro e w' ⟨rfl, rfl⟩
  go_wp2
  go_ret
  exact ⟨rfl, (Below.refl _ _).alloc (Nat.le_refl _) _⟩
def St.set (st : St) (i : Nat) (x : Nd) : St := { st with node := upd st.node i x }
def St.free (st : St) (i : Nat) : St := { st with freed := st.freed ++ [i], node := upd st.node i Nd.zero }
theorem free_tk (st : St) (i : Nat) : (st.free i).tk = upd st.tk i false := by
  funext j
  unfold upd
  split
  · rename_i e
    subst e
    simp [St.tk, St.free]
  · rename_i e
    simp [St.tk, St.free, e]
theorem set_ends {w : World} {b s f : Nat} {st : St} (h : Ar w b s f st) (i : Nat) (x : Nd) (o : Obj) :
    Only [s] w (((((((w.setCell ⟨s, i * 7, none⟩ (.int .u64 x.key)).setCell ⟨s, i * 7 + 1, none⟩ (.int .u64 x.val)).setCell ⟨s, i * 7 + 2, none⟩ (.int .i64 x.flag)).setCell ⟨s, i * 7 + 3, none⟩ (.int .i64 x.tag)).setCell
      ⟨s, i * 7 + 4, none⟩ (.int .i32 x.prev)).setCell ⟨s, i * 7 + 5, none⟩ (.int .i32 x.next)).alloc o).drew ∧
    Ar (((((((w.setCell ⟨s, i * 7, none⟩ (.int .u64 x.key)).setCell ⟨s, i * 7 + 1, none⟩ (.int .u64 x.val)).setCell ⟨s, i * 7 + 2, none⟩ (.int .i64 x.flag)).setCell ⟨s, i * 7 + 3, none⟩ (.int .i64 x.tag)).setCell
      ⟨s, i * 7 + 4, none⟩ (.int .i32 x.prev)).setCell ⟨s, i * 7 + 5, none⟩ (.int .i32 x.next)).alloc o).drew b s f (st.set i x) := by
  have ho := (((((((((Only.refl [s] w).setCell (p := ⟨s, i * 7, none⟩) (by simp) (.int .u64 x.key)).setCell (p := ⟨s, i * 7 + 1, none⟩) (by simp) (.int .u64 x.val)).setCell
    (p := ⟨s, i * 7 + 2, none⟩) (by simp) (.int .i64 x.flag)).setCell (p := ⟨s, i * 7 + 3, none⟩) (by simp) (.int .i64 x.tag)).setCell (p := ⟨s, i * 7 + 4, none⟩) (by simp) (.int .i32 x.prev)).setCell
    (p := ⟨s, i * 7 + 5, none⟩) (by simp) (.int .i32 x.next)).alloc o).drew)
  have hr := ((row_node h.slots i x).alloc o).drew
  refine ⟨ho, (ho.block b h.ltb (by simpa using h.bs)).trans h.head, hr, ?_⟩
  obtain ⟨F, hF, he⟩ := h.freed
  exact ⟨F, ho.row hF (by simpa using h.sf.symm), he⟩
theorem set_true {w : World} {b s f : Nat} {st : St} (h : Ar w b s f st) (hn : st.n ≤ 1000000000) (i : Nat) (hi : st.tk i = true) (hin : i < st.n) (x : Nd) :
    Calls Try.prog 82 #[.pointer (some ⟨b, 0, none⟩), .int .i32 i, x.v] w fun e w' => e = .returned (.bool true) ∧ Only [s] w w' ∧ Ar w' b s f (st.set i x) := by
  have hends := Lib.hid (set_ends h i x)
  have h' := h.below ((Below.refl _ _).alloc (Nat.le_refl _) (.cells #[.int .u64 x.key, .int .u64 x.val, .int .i64 x.flag, .int .i64 x.tag, .int .i32 x.prev, .int .i32 x.next] 84))
  have H := Lib.hid h'
  have HI := Lib.hid hi
  have h0 := h.c0
  have l0 := h.ltb
  have l1 := h.lts
  have z0 := h.slots.frozen (i * 7)
  have z1 := h.slots.frozen (i * 7 + 1)
  have z2 := h.slots.frozen (i * 7 + 2)
  have z3 := h.slots.frozen (i * 7 + 3)
  have z4 := h.slots.frozen (i * 7 + 4)
  have z5 := h.slots.frozen (i * 7 + 5)
  have x0 := h.sl (j := 0) hin (by decide)
  have x1 := h.sl (j := 1) hin (by decide)
  have x2 := h.sl (j := 2) hin (by decide)
  have x3 := h.sl (j := 3) hin (by decide)
  have x4 := h.sl (j := 4) hin (by decide)
  have x5 := h.sl (j := 5) hin (by decide)
  simp only [cellOf, Nat.add_zero] at x0 x1 x2 x3 x4 x5
  clear h hi h'
  go_enter Try.func82, Try.ntmps82
  go_wp2_with fail
  refine (is_yes H.out hn i hin HI.out).mono ?_
  rintro e w' ⟨rfl, rfl⟩
  go_wp2
  go_region
  go_wp2
  go_ret
  exact ⟨rfl, hends.out _⟩
def Cleared (w : World) (s i : Nat) (st : St) (wx : World) : Prop := Only [s] w wx ∧ wx.rowIs s 108 (st.n * 7) (slotV (upd st.node i Nd.zero) (upd st.tk i false))
theorem cleared_mk {w : World} {b s f : Nat} {st : St} (h : Ar w b s f st) (i : Nat) : Cleared w s i st (((((((w.setCell ⟨s, i * 7, none⟩ (.int .u64 0)).setCell ⟨s, i * 7 + 1, none⟩ (.int .u64 0)).setCell ⟨s, i * 7 + 2, none⟩ (.int .i64 0)).setCell
      ⟨s, i * 7 + 3, none⟩ (.int .i64 0)).setCell ⟨s, i * 7 + 4, none⟩ (.int .i32 0)).setCell ⟨s, i * 7 + 5, none⟩ (.int .i32 0)).setCell ⟨s, i * 7 + 6, none⟩ (.bool false)) :=
  ⟨((((((((Only.refl [s] w).setCell (p := ⟨s, i * 7, none⟩) (by simp) (.int .u64 0)).setCell (p := ⟨s, i * 7 + 1, none⟩) (by simp) (.int .u64 0)).setCell
    (p := ⟨s, i * 7 + 2, none⟩) (by simp) (.int .i64 0)).setCell (p := ⟨s, i * 7 + 3, none⟩) (by simp) (.int .i64 0)).setCell (p := ⟨s, i * 7 + 4, none⟩) (by simp) (.int .i32 0)).setCell
    (p := ⟨s, i * 7 + 5, none⟩) (by simp) (.int .i32 0)).setCell (p := ⟨s, i * 7 + 6, none⟩) (by simp) (.bool false)), row_taken (row_node h.slots i Nd.zero) i false⟩
theorem free_ends {w wc : World} {b s f : Nat} {st : St} (h : Ar w b s f st) {i : Nat} (hc : Cleared w s i st wc) (o : Obj) :
    Only [b, s, f] w (((wc.setCell ⟨f, st.freed.length, none⟩ (.int .i32 i)).setCell ⟨b, 1, none⟩ (.slice (some ⟨f, 0, none⟩) (st.freed.length + 1) st.n)).alloc o) ∧
    Ar (((wc.setCell ⟨f, st.freed.length, none⟩ (.int .i32 i)).setCell ⟨b, 1, none⟩ (.slice (some ⟨f, 0, none⟩) (st.freed.length + 1) st.n)).alloc o) b s f (st.free i) := by
  obtain ⟨ho, hrow⟩ := hc
  have n1 := h.bs
  have n2 := h.bf
  have n3 := h.sf
  have hb : wc.heap[b]? = some (.cells (headOf s f st.n st.freed.length st.used) 95 (0, 0)) := (ho.block b h.ltb (by simpa using n1)).trans h.head
  obtain ⟨F, hF, he⟩ := h.freed
  have hF1 := (((ho.row hF (by simpa using n3.symm)).set st.freed.length (.int .i32 i)).setOther (a := ⟨b, 1, none⟩) (by simpa using n2.symm) (.slice (some ⟨f, 0, none⟩) (st.freed.length + 1) st.n)).alloc o
  have hb1 : (((wc.setCell ⟨f, st.freed.length, none⟩ (.int .i32 i)).setCell ⟨b, 1, none⟩ (.slice (some ⟨f, 0, none⟩) (st.freed.length + 1) st.n)).alloc o).heap[b]? =
      some (.cells (headOf s f st.n (st.freed.length + 1) st.used) 95 (0, 0)) := by
    have hlt : b < wc.heap.size := Nat.lt_of_lt_of_le h.ltb ho.size
    rw [Below.heap_alloc _ _ _ (by simpa [World.setCell] using hlt)]
    have e1 : (wc.setCell ⟨f, st.freed.length, none⟩ (.int .i32 i)).heap[b]? = some (.cells (headOf s f st.n st.freed.length st.used) 95 (0, 0)) := by
      rw [Below.heap_setCell _ _ _ _ (by simpa using n2)]; exact hb
    generalize wc.setCell ⟨f, st.freed.length, none⟩ (.int .i32 i) = W at e1 ⊢
    simp [World.setCell, Array.getElem?_modify, e1, headOf]
  refine ⟨(((ho.mono (T := [b, s, f]) (by simp)).setCell (p := ⟨f, st.freed.length, none⟩) (by simp) _).setCell (p := ⟨b, 1, none⟩) (by simp) _).alloc o, ?_, ?_, ?_⟩
  · simpa [St.free] using hb1
  · have := ((hrow.setOther (a := ⟨f, st.freed.length, none⟩) (by simpa using n3) (.int .i32 i)).setOther (a := ⟨b, 1, none⟩) (by simpa using n1.symm) (.slice (some ⟨f, 0, none⟩) (st.freed.length + 1) st.n)).alloc o
    rw [free_tk]
    exact this
  · refine ⟨_, hF1, fun j hj => ?_⟩
    simp only [St.free, List.length_append, List.length_cons, List.length_nil] at hj ⊢
    by_cases e : j = st.freed.length
    · subst e; simp
    · rw [if_neg e, he j (by omega)]
      rw [List.getElem_append_left (by omega)]
theorem free_true {w : World} {b s f : Nat} {st : St} (h : Ar w b s f st) (ho : st.Ok) (hn : st.n ≤ 1000000000) (i : Nat) (hi : st.tk i = true) (hin : i < st.n) :
    Calls Try.prog 67 #[.pointer (some ⟨b, 0, none⟩), .int .i32 i] w fun e w' => e = .returned (.bool true) ∧ Only [b, s, f] w w' ∧ Ar w' b s f (st.free i) := by
  have H := Lib.hid h
  have HI := Lib.hid hi
  have h0 := h.c0
  have h1 := h.c1
  have z0 := h.slots.frozen (i * 7)
  have z1 := h.slots.frozen (i * 7 + 1)
  have z2 := h.slots.frozen (i * 7 + 2)
  have z3 := h.slots.frozen (i * 7 + 3)
  have z4 := h.slots.frozen (i * 7 + 4)
  have z5 := h.slots.frozen (i * 7 + 5)
  have z6 := h.slots.frozen (i * 7 + 6)
  have x0 := h.sl (j := 0) hin (by decide)
  have x1 := h.sl (j := 1) hin (by decide)
  have x2 := h.sl (j := 2) hin (by decide)
  have x3 := h.sl (j := 3) hin (by decide)
  have x4 := h.sl (j := 4) hin (by decide)
  have x5 := h.sl (j := 5) hin (by decide)
  have x6 := h.sl (j := 6) hin (by decide)
  simp only [cellOf, Nat.add_zero] at x0 x1 x2 x3 x4 x5 x6
  have n1 := h.bs
  clear h hi
  go_enter Try.func67, Try.ntmps67
  go_wp2_with fail
  refine (is_yes H.out hn i hin HI.out).mono ?_
  rintro e w' ⟨rfl, rfl⟩
  go_upto_region 3 with fail
  go_cut [4] (fun s4 wx => s4 = Value.bool false ∧ Cleared w s i st wx)
  case first =>
    go_wp2
    go_meet
    exact ⟨rfl, cleared_mk H.out i⟩
  case rest =>
    obtain ⟨rfl, hcl⟩ := hcut
    have hF : st.freed.length + 1 ≤ st.n := by have := freed_le ho; have := ho.room; omega
    clear z0 z1 z2 z3 z4 z5 z6 x0 x1 x2 x3 x4 x5 x6 h0
    have hh := H.out
    obtain ⟨F, hrF, _⟩ := hh.freed
    have hrc := (hcl.1.row hrF (by simpa using hh.sf.symm))
    have g1 : wc.cell? ⟨b, 1, none⟩ = some (.slice (some ⟨f, 0, none⟩) st.freed.length st.n) := by rw [← h1]; exact World.cell?_of_block (hcl.1.block b hh.ltb (by simpa using n1))
    have g2 : wc.frozen? ⟨b, 1, none⟩ = false := by rw [← hh.fz 1]; exact World.frozen?_of_block (hcl.1.block b hh.ltb (by simpa using n1))
    have g3 := hrc.cell (i := st.freed.length) (by omega)
    have g4 := hrc.frozen st.freed.length
    have g5 : f < wc.heap.size := hrc.lt
    have g6 : b < wc.heap.size := Nat.lt_of_lt_of_le hh.ltb hcl.1.size
    have g7 := hh.bf
    have HC := Lib.hid hcl
    have s1 : Hid (((wc.alloc (.cells #[.int .i32 i] 21)).cell? ⟨f, st.freed.length, none⟩).isSome = true) := Lib.hid (by rw [World.cell?_alloc_lt _ _ _ g5, g3]; rfl)
    have s2 : Hid ((wc.alloc (.cells #[.int .i32 i] 21)).frozen? ⟨f, st.freed.length, none⟩ = false) := Lib.hid (hrc.alloc _ |>.frozen _)
    have s3 : Hid ((wc.alloc (.cells #[.int .i32 i] 21)).cell? ⟨wc.heap.size, 0, none⟩ = some (.int .i32 i)) := Lib.hid (by simp [World.cell?_alloc_new])
    clear hh hrc hrF hcl h1
    go_wp2_with (at_builtin; refine wpList_append_one rfl _ _ 81 rfl 21 (.int .i32 0) 4 (by kernel_rfl) (by kernel_rfl) f st.freed.length st.n wc.heap.size 1 rfl rfl (.int .i32 i) s3.out rfl hF s1.out s2.out ?_)
    go_ret
    exact ⟨rfl, free_ends H.out HC.out _⟩
theorem free_false {w : World} {b s f : Nat} {st : St} (h : Ar w b s f st) (hn : st.n ≤ 1000000000) (i : Int) (h32 : i ≤ 2147483647) (hi : st.is i = false) :
    Calls Try.prog 67 #[.pointer (some ⟨b, 0, none⟩), .int .i32 i] w fun e w' => e = .returned (.bool false) ∧ w = w' := by
  have H := Lib.hid h
  have HI := Lib.hid hi
  clear h hi
  go_enter Try.func67, Try.ntmps67
  go_wp2_with fail
  refine (is_false H.out hn i h32 HI.out).mono ?_
  rintro e w' ⟨rfl, rfl⟩
  go_wp2
  go_ret
  exact ⟨rfl, rfl⟩
end Go.Proofs.Ytkhikpnlpcankaa
