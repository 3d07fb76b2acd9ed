/- Package arena: what writes: Set, Free. -/
import Derived.Test.YtlmcodmglcmmoaaAr
import Derived.Test.YtlmcodmglcmmoaaOps
import Derived.RegionTactic
import Derived.Deep.DeepCutAuto
import Derived.Deep.RegionLaw
import Derived.Deep.AppendLies
namespace Go.Proofs.Ytlmcodmglcmmoaa
open Go Go.RowKit Go.Deep

theorem set_false {w : World} {b s f : Nat} {st : St} (h : Ar w b s f st) (hn : st.n ≤ 1000000000) (i : Int) (h32 : i ≤ 2147483647) (x : Nd) (hi : st.is i = false) :
    Calls Try.prog 30 #[.pointer (some ⟨b, 0, none⟩), .int .i32 i, x.v] w fun e w' => e = .returned (.bool false) ∧ Below w.heap.size w w' := by
  have H := Lib.hid (h.below ((Below.refl _ _).alloc (Nat.le_refl _) (.cells #[.int .u64 x.key, .int .u64 x.val, .int .i64 x.flag, .int .i64 x.tag, .int .i32 x.prev, .int .i32 x.next] 56)))
  have HI := Lib.hid hi
  clear h hi
  go_enter Try.func30, Try.ntmps30
  go_wp2_with fail
  refine (is_false H.out hn i h32 HI.out).mono ?_
  rintro e w' ⟨rfl, rfl⟩
  go_wp2
  go_ret
  exact ⟨rfl, (Below.refl _ _).alloc (Nat.le_refl _) _⟩

def St.set (st : St) (i : Nat) (x : Nd) : St := { st with node := upd st.node i x }
def St.free (st : St) (i : Nat) : St := { st with freed := st.freed ++ [i], node := upd st.node i Nd.zero }
theorem free_tk (st : St) (i : Nat) : (st.free i).tk = upd st.tk i false := by
  funext j
  unfold upd
  split
  · rename_i e
    subst e
    simp [St.tk, St.free]
  · rename_i e
    simp [St.tk, St.free, e]

theorem set_ends {w : World} {b s f : Nat} {st : St} (h : Ar w b s f st) (i : Nat) (x : Nd) (o : Obj) :
    Only [s] w (((((((w.setCell ⟨s, i * 7, none⟩ (.int .u64 x.key)).setCell ⟨s, i * 7 + 1, none⟩ (.int .u64 x.val)).setCell ⟨s, i * 7 + 2, none⟩ (.int .i64 x.flag)).setCell ⟨s, i * 7 + 3, none⟩ (.int .i64 x.tag)).setCell
      ⟨s, i * 7 + 4, none⟩ (.int .i32 x.prev)).setCell ⟨s, i * 7 + 5, none⟩ (.int .i32 x.next)).alloc o).drew ∧
    Ar (((((((w.setCell ⟨s, i * 7, none⟩ (.int .u64 x.key)).setCell ⟨s, i * 7 + 1, none⟩ (.int .u64 x.val)).setCell ⟨s, i * 7 + 2, none⟩ (.int .i64 x.flag)).setCell ⟨s, i * 7 + 3, none⟩ (.int .i64 x.tag)).setCell
      ⟨s, i * 7 + 4, none⟩ (.int .i32 x.prev)).setCell ⟨s, i * 7 + 5, none⟩ (.int .i32 x.next)).alloc o).drew b s f (st.set i x) := by
  have ho := (((((((((Only.refl [s] w).setCell (p := ⟨s, i * 7, none⟩) (by simp) (.int .u64 x.key)).setCell (p := ⟨s, i * 7 + 1, none⟩) (by simp) (.int .u64 x.val)).setCell
    (p := ⟨s, i * 7 + 2, none⟩) (by simp) (.int .i64 x.flag)).setCell (p := ⟨s, i * 7 + 3, none⟩) (by simp) (.int .i64 x.tag)).setCell (p := ⟨s, i * 7 + 4, none⟩) (by simp) (.int .i32 x.prev)).setCell
    (p := ⟨s, i * 7 + 5, none⟩) (by simp) (.int .i32 x.next)).alloc o).drew)
  have hr := ((row_node h.slots i x).alloc o).drew
  refine ⟨ho, (ho.block b h.ltb (by simpa using h.bs)).trans h.head, hr, ?_⟩
  obtain ⟨F, hF, he⟩ := h.freed
  exact ⟨F, ho.row hF (by simpa using h.sf.symm), he⟩

theorem set_true {w : World} {b s f : Nat} {st : St} (h : Ar w b s f st) (hn : st.n ≤ 1000000000) (i : Nat) (hi : st.tk i = true) (hin : i < st.n) (x : Nd) :
    Calls Try.prog 30 #[.pointer (some ⟨b, 0, none⟩), .int .i32 i, x.v] w fun e w' => e = .returned (.bool true) ∧ Only [s] w w' ∧ Ar w' b s f (st.set i x) := by
  have hends := Lib.hid (set_ends h i x)
  have h' := h.below ((Below.refl _ _).alloc (Nat.le_refl _) (.cells #[.int .u64 x.key, .int .u64 x.val, .int .i64 x.flag, .int .i64 x.tag, .int .i32 x.prev, .int .i32 x.next] 56))
  have H := Lib.hid h'
  have HI := Lib.hid hi
  have h0 := h.c0
  have l0 := h.ltb
  have l1 := h.lts
  have z0 := h.slots.frozen (i * 7)
  have z1 := h.slots.frozen (i * 7 + 1)
  have z2 := h.slots.frozen (i * 7 + 2)
  have z3 := h.slots.frozen (i * 7 + 3)
  have z4 := h.slots.frozen (i * 7 + 4)
  have z5 := h.slots.frozen (i * 7 + 5)
  have x0 := h.sl (j := 0) hin (by decide)
  have x1 := h.sl (j := 1) hin (by decide)
  have x2 := h.sl (j := 2) hin (by decide)
  have x3 := h.sl (j := 3) hin (by decide)
  have x4 := h.sl (j := 4) hin (by decide)
  have x5 := h.sl (j := 5) hin (by decide)
  simp only [cellOf, Nat.add_zero] at x0 x1 x2 x3 x4 x5
  clear h hi h'
  go_enter Try.func30, Try.ntmps30
  go_wp2_with fail
  refine (is_yes H.out hn i hin HI.out).mono ?_
  rintro e w' ⟨rfl, rfl⟩
  go_wp2
  go_region
  go_wp2
  go_ret
  exact ⟨rfl, hends.out _⟩

def Cleared (w : World) (s i : Nat) (st : St) (wx : World) : Prop := Only [s] w wx ∧ wx.rowIs s 81 (st.n * 7) (slotV (upd st.node i Nd.zero) (upd st.tk i false))

theorem cleared_mk {w : World} {b s f : Nat} {st : St} (h : Ar w b s f st) (i : Nat) : Cleared w s i st (((((((w.setCell ⟨s, i * 7, none⟩ (.int .u64 0)).setCell ⟨s, i * 7 + 1, none⟩ (.int .u64 0)).setCell ⟨s, i * 7 + 2, none⟩ (.int .i64 0)).setCell
      ⟨s, i * 7 + 3, none⟩ (.int .i64 0)).setCell ⟨s, i * 7 + 4, none⟩ (.int .i32 0)).setCell ⟨s, i * 7 + 5, none⟩ (.int .i32 0)).setCell ⟨s, i * 7 + 6, none⟩ (.bool false)) :=
  ⟨((((((((Only.refl [s] w).setCell (p := ⟨s, i * 7, none⟩) (by simp) (.int .u64 0)).setCell (p := ⟨s, i * 7 + 1, none⟩) (by simp) (.int .u64 0)).setCell
    (p := ⟨s, i * 7 + 2, none⟩) (by simp) (.int .i64 0)).setCell (p := ⟨s, i * 7 + 3, none⟩) (by simp) (.int .i64 0)).setCell (p := ⟨s, i * 7 + 4, none⟩) (by simp) (.int .i32 0)).setCell
    (p := ⟨s, i * 7 + 5, none⟩) (by simp) (.int .i32 0)).setCell (p := ⟨s, i * 7 + 6, none⟩) (by simp) (.bool false)), row_taken (row_node h.slots i Nd.zero) i false⟩

theorem free_ends {w wc : World} {b s f : Nat} {st : St} (h : Ar w b s f st) {i : Nat} (hc : Cleared w s i st wc) (o : Obj) :
    Only [b, s, f] w (((wc.setCell ⟨f, st.freed.length, none⟩ (.int .i32 i)).setCell ⟨b, 1, none⟩ (.slice (some ⟨f, 0, none⟩) (st.freed.length + 1) st.n)).alloc o) ∧
    Ar (((wc.setCell ⟨f, st.freed.length, none⟩ (.int .i32 i)).setCell ⟨b, 1, none⟩ (.slice (some ⟨f, 0, none⟩) (st.freed.length + 1) st.n)).alloc o) b s f (st.free i) := by
  obtain ⟨ho, hrow⟩ := hc
  have n1 := h.bs
  have n2 := h.bf
  have n3 := h.sf
  have hb : wc.heap[b]? = some (.cells (headOf s f st.n st.freed.length st.used) 76 (0, 0)) := (ho.block b h.ltb (by simpa using n1)).trans h.head
  obtain ⟨F, hF, he⟩ := h.freed
  have hF1 := (((ho.row hF (by simpa using n3.symm)).set st.freed.length (.int .i32 i)).setOther (a := ⟨b, 1, none⟩) (by simpa using n2.symm) (.slice (some ⟨f, 0, none⟩) (st.freed.length + 1) st.n)).alloc o
  have hb1 : (((wc.setCell ⟨f, st.freed.length, none⟩ (.int .i32 i)).setCell ⟨b, 1, none⟩ (.slice (some ⟨f, 0, none⟩) (st.freed.length + 1) st.n)).alloc o).heap[b]? =
      some (.cells (headOf s f st.n (st.freed.length + 1) st.used) 76 (0, 0)) := by
    have hlt : b < wc.heap.size := Nat.lt_of_lt_of_le h.ltb ho.size
    rw [Below.heap_alloc _ _ _ (by simpa [World.setCell] using hlt)]
    have e1 : (wc.setCell ⟨f, st.freed.length, none⟩ (.int .i32 i)).heap[b]? = some (.cells (headOf s f st.n st.freed.length st.used) 76 (0, 0)) := by
      rw [Below.heap_setCell _ _ _ _ (by simpa using n2)]; exact hb
    generalize wc.setCell ⟨f, st.freed.length, none⟩ (.int .i32 i) = W at e1 ⊢
    simp [World.setCell, Array.getElem?_modify, e1, headOf]
  refine ⟨(((ho.mono (T := [b, s, f]) (by simp)).setCell (p := ⟨f, st.freed.length, none⟩) (by simp) _).setCell (p := ⟨b, 1, none⟩) (by simp) _).alloc o, ?_, ?_, ?_⟩
  · simpa [St.free] using hb1
  · have := ((hrow.setOther (a := ⟨f, st.freed.length, none⟩) (by simpa using n3) (.int .i32 i)).setOther (a := ⟨b, 1, none⟩) (by simpa using n1.symm) (.slice (some ⟨f, 0, none⟩) (st.freed.length + 1) st.n)).alloc o
    rw [free_tk]
    exact this
  · refine ⟨_, hF1, fun j hj => ?_⟩
    simp only [St.free, List.length_append, List.length_cons, List.length_nil] at hj ⊢
    by_cases e : j = st.freed.length
    · subst e; simp
    · rw [if_neg e, he j (by omega)]
      rw [List.getElem_append_left (by omega)]

theorem free_true {w : World} {b s f : Nat} {st : St} (h : Ar w b s f st) (ho : st.Ok) (hn : st.n ≤ 1000000000) (i : Nat) (hi : st.tk i = true) (hin : i < st.n) :
    Calls Try.prog 33 #[.pointer (some ⟨b, 0, none⟩), .int .i32 i] w fun e w' => e = .returned (.bool true) ∧ Only [b, s, f] w w' ∧ Ar w' b s f (st.free i) := by
  have H := Lib.hid h
  have HI := Lib.hid hi
  have h0 := h.c0
  have h1 := h.c1
  have z0 := h.slots.frozen (i * 7)
  have z1 := h.slots.frozen (i * 7 + 1)
  have z2 := h.slots.frozen (i * 7 + 2)
  have z3 := h.slots.frozen (i * 7 + 3)
  have z4 := h.slots.frozen (i * 7 + 4)
  have z5 := h.slots.frozen (i * 7 + 5)
  have z6 := h.slots.frozen (i * 7 + 6)
  have x0 := h.sl (j := 0) hin (by decide)
  have x1 := h.sl (j := 1) hin (by decide)
  have x2 := h.sl (j := 2) hin (by decide)
  have x3 := h.sl (j := 3) hin (by decide)
  have x4 := h.sl (j := 4) hin (by decide)
  have x5 := h.sl (j := 5) hin (by decide)
  have x6 := h.sl (j := 6) hin (by decide)
  simp only [cellOf, Nat.add_zero] at x0 x1 x2 x3 x4 x5 x6
  have n1 := h.bs
  clear h hi
  go_enter Try.func33, Try.ntmps33
  go_wp2_with fail
  refine (is_yes H.out hn i hin HI.out).mono ?_
  rintro e w' ⟨rfl, rfl⟩
  go_upto_region 3 with fail
  go_cut [4] (fun s4 wx => s4 = Value.bool false ∧ Cleared w s i st wx)
  case first =>
    go_wp2
    go_meet
    exact ⟨rfl, cleared_mk H.out i⟩
  case rest =>
    obtain ⟨rfl, hcl⟩ := hcut
    have hF : st.freed.length + 1 ≤ st.n := by have := freed_le ho; have := ho.room; omega
    clear z0 z1 z2 z3 z4 z5 z6 x0 x1 x2 x3 x4 x5 x6 h0
    have hh := H.out
    obtain ⟨F, hrF, _⟩ := hh.freed
    have hrc := (hcl.1.row hrF (by simpa using hh.sf.symm))
    have g1 : wc.cell? ⟨b, 1, none⟩ = some (.slice (some ⟨f, 0, none⟩) st.freed.length st.n) := by rw [← h1]; exact World.cell?_of_block (hcl.1.block b hh.ltb (by simpa using n1))
    have g2 : wc.frozen? ⟨b, 1, none⟩ = false := by rw [← hh.fz 1]; exact World.frozen?_of_block (hcl.1.block b hh.ltb (by simpa using n1))
    have g3 := hrc.cell (i := st.freed.length) (by omega)
    have g4 := hrc.frozen st.freed.length
    have g5 : f < wc.heap.size := hrc.lt
    have g6 : b < wc.heap.size := Nat.lt_of_lt_of_le hh.ltb hcl.1.size
    have g7 := hh.bf
    have HC := Lib.hid hcl
    have s1 : Hid (((wc.alloc (.cells #[.int .i32 i] 21)).cell? ⟨f, st.freed.length, none⟩).isSome = true) := Lib.hid (by rw [World.cell?_alloc_lt _ _ _ g5, g3]; rfl)
    have s2 : Hid ((wc.alloc (.cells #[.int .i32 i] 21)).frozen? ⟨f, st.freed.length, none⟩ = false) := Lib.hid (hrc.alloc _ |>.frozen _)
    have s3 : Hid ((wc.alloc (.cells #[.int .i32 i] 21)).cell? ⟨wc.heap.size, 0, none⟩ = some (.int .i32 i)) := Lib.hid (by simp [World.cell?_alloc_new])
    clear hh hrc hrF hcl h1
    go_wp2_with (at_builtin; refine wpList_append_one rfl _ _ 26 rfl 21 (.int .i32 0) 4 (by kernel_rfl) (by kernel_rfl) f st.freed.length st.n wc.heap.size 1 rfl rfl (.int .i32 i) s3.out rfl hF s1.out s2.out ?_)
    go_ret
    exact ⟨rfl, free_ends H.out HC.out _⟩

theorem free_false {w : World} {b s f : Nat} {st : St} (h : Ar w b s f st) (hn : st.n ≤ 1000000000) (i : Int) (h32 : i ≤ 2147483647) (hi : st.is i = false) :
    Calls Try.prog 33 #[.pointer (some ⟨b, 0, none⟩), .int .i32 i] w fun e w' => e = .returned (.bool false) ∧ w = w' := by
  have H := Lib.hid h
  have HI := Lib.hid hi
  clear h hi
  go_enter Try.func33, Try.ntmps33
  go_wp2_with fail
  refine (is_false H.out hn i h32 HI.out).mono ?_
  rintro e w' ⟨rfl, rfl⟩
  go_wp2
  go_ret
  exact ⟨rfl, rfl⟩
end Go.Proofs.Ytlmcodmglcmmoaa
