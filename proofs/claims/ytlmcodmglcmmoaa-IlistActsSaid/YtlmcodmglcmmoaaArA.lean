/- Package arena: widen, popFreed, firstUnused, Alloc, New. -/
import Derived.Test.YtlmcodmglcmmoaaArW
import Derived.Lib.JoinLaws
namespace Go.Proofs.Ytlmcodmglcmmoaa
open Go Go.RowKit Go.Deep

/- What make leaves of numbers: a row with room, and none in it. -/
theorem make_freed (n : Nat) (hn : n ≤ 1000000000) (w : World) :
    (Instr.makeSlice 26 (.int .i64 0) (.int .i64 n)).run Try.prog w = .ok (.slice (some ⟨w.heap.size, 0, none⟩) 0 n) (w.alloc (.cells (madeCells #[.int .i32 0] n) 21)) :=
  run_make_room 26 21 (.int .i32 0) 4 (by kernel_rfl) (by kernel_rfl) rfl .i64 .i64 n (by omega) (by omega) w

theorem head_set {w : World} {b : Nat} {x0 x1 y0 y1 y2 : Value} (hb : w.heap[b]? = some (.cells #[y0, y1, y2] 76 (0, 0))) :
    ((w.setCell ⟨b, 0, none⟩ x0).setCell ⟨b, 1, none⟩ x1).heap[b]? = some (.cells #[x0, x1, y2] 76 (0, 0)) := by
  have e1 : (w.setCell ⟨b, 0, none⟩ x0).heap[b]? = some (.cells #[x0, y1, y2] 76 (0, 0)) := by simp [World.setCell, Array.getElem?_modify, hb]
  generalize w.setCell ⟨b, 0, none⟩ x0 = W at e1 ⊢
  simp [World.setCell, Array.getElem?_modify, e1]

theorem new_ends {w : World} {b n : Nat} (hb : w.heap[b]? = some (.cells #[.slice none 0 0, .slice none 0 0, .int .i64 0] 76 (0, 0))) {cs : Array Value} (hs : cs.size = n * 7)
    (hcs : ∀ p, p < cs.size → cs[p]? = some (slotV (fun _ => Nd.zero) (fun _ => false) p)) :
    Only [b] w ((((w.setCell ⟨b, 0, none⟩ (.slice (some ⟨w.heap.size, 0, none⟩) n n)).setCell ⟨b, 1, none⟩ (.slice (some ⟨w.heap.size + 1, 0, none⟩) 0 n)).alloc (.cells cs 81)).alloc (.cells (madeCells #[.int .i32 0] n) 21)) ∧
    Ar ((((w.setCell ⟨b, 0, none⟩ (.slice (some ⟨w.heap.size, 0, none⟩) n n)).setCell ⟨b, 1, none⟩ (.slice (some ⟨w.heap.size + 1, 0, none⟩) 0 n)).alloc (.cells cs 81)).alloc (.cells (madeCells #[.int .i32 0] n) 21))
      b w.heap.size (w.heap.size + 1) ⟨n, 0, [], fun _ => Nd.zero⟩ := by
  have h1 := head_set (x0 := .slice (some ⟨w.heap.size, 0, none⟩) n n) (x1 := .slice (some ⟨w.heap.size + 1, 0, none⟩) 0 n) hb
  have hsz : ((w.setCell ⟨b, 0, none⟩ (.slice (some ⟨w.heap.size, 0, none⟩) n n)).setCell ⟨b, 1, none⟩ (.slice (some ⟨w.heap.size + 1, 0, none⟩) 0 n)).heap.size = w.heap.size := by simp [World.setCell]
  have ho := ((Only.refl [b] w).setCell (p := ⟨b, 0, none⟩) (by simp) (.slice (some ⟨w.heap.size, 0, none⟩) n n)).setCell (p := ⟨b, 1, none⟩) (by simp) (.slice (some ⟨w.heap.size + 1, 0, none⟩) 0 n)
  have lb := (head_row hb).lt
  generalize (w.setCell ⟨b, 0, none⟩ (.slice (some ⟨w.heap.size, 0, none⟩) n n)).setCell ⟨b, 1, none⟩ (.slice (some ⟨w.heap.size + 1, 0, none⟩) 0 n) = V at h1 hsz ho ⊢
  refine ⟨(ho.alloc _).alloc _, ?_, ?_, fun _ => .int .i32 0, ?_, fun i hi => ?_⟩
  · rw [Below.heap_alloc _ _ _ (by simp; omega), Below.heap_alloc _ _ _ (by omega)]; exact h1
  · have hr := World.rowIs_alloc V cs 81 _ hcs
    rw [hs, hsz] at hr
    refine ((hr.alloc _).congr fun p hp => ?_)
    unfold slotV
    congr 1
    simp [St.tk]
    omega
  · have hr := World.rowIs_made (V.alloc (.cells cs 81)) (.int .i32 0) n 21
    have e : (V.alloc (.cells cs 81)).heap.size = w.heap.size + 1 := by simp [hsz]
    rw [e] at hr
    exact hr
  · simp at hi

/- A new arena's slots are laid. -/
theorem widen_new (w : World) (b n : Nat) (hn : n ≤ 1000000000) (hb : w.heap[b]? = some (.cells #[.slice none 0 0, .slice none 0 0, .int .i64 0] 76 (0, 0))) :
    Calls Try.prog 42 #[.pointer (some ⟨b, 0, none⟩), .int .i64 n] w fun e w' => e = .returned (.tuple #[]) ∧ Only [b] w w' ∧ Ar w' b w.heap.size (w.heap.size + 1) ⟨n, 0, [], fun _ => Nd.zero⟩ := by
  have lb := (head_row hb).lt
  have c0 : w.cell? ⟨b, 0, none⟩ = some (.slice none 0 0) := (head_row hb).cell (i := 0) (by simp)
  have c1 : w.cell? ⟨b, 1, none⟩ = some (.slice none 0 0) := (head_row hb).cell (i := 1) (by simp)
  have z0 := (head_row hb).frozen 0
  have z1 := (head_row hb).frozen 1
  obtain ⟨cs, hmk, hsz, hcs⟩ := make_slots n hn w
  have hfr := make_freed n hn
  have HE := Lib.hid (new_ends hb hsz hcs)
  clear hb hcs hsz
  go_enter Try.func42, Try.ntmps42
  go_wp2_with (with_reducible refine wpList_copy_nilrow rfl _ _ 74 74 rfl 81 (by kernel_rfl) (by kernel_rfl) ⟨w.heap.size, 0, none⟩ n n rfl rfl ?_)
  go_end0
  exact ⟨rfl, HE.out⟩

/- An arena on its way: which slots are taken is told apart. -/
structure Mid (w : World) (b s f n used : Nat) (freed : List Nat) (node : Nat → Nd) (tk : Nat → Bool) : Prop where
  head : w.heap[b]? = some (.cells (headOf s f n freed.length used) 76 (0, 0))
  slots : w.rowIs s 81 (n * 7) (slotV node tk)
  freed : ∃ F : Nat → Value, w.rowIs f 21 n F ∧ ∀ i (h : i < freed.length), F i = .int .i32 (freed[i] : Nat)
theorem Ar.mid {w : World} {b s f : Nat} {st : St} (h : Ar w b s f st) : Mid w b s f st.n st.used st.freed st.node st.tk := ⟨h.head, h.slots, h.freed⟩

section
variable {w w' : World} {b s f n used : Nat} {freed : List Nat} {node : Nat → Nd} {tk : Nat → Bool}
theorem Mid.ltb (h : Mid w b s f n used freed node tk) : b < w.heap.size := (head_row h.head).lt
theorem Mid.bs (h : Mid w b s f n used freed node tk) : b ≠ s := block_ne (head_row h.head) h.slots (by decide)
theorem Mid.bf (h : Mid w b s f n used freed node tk) : b ≠ f := by obtain ⟨F, hF, _⟩ := h.freed; exact block_ne (head_row h.head) hF (by decide)
theorem Mid.sf (h : Mid w b s f n used freed node tk) : s ≠ f := by obtain ⟨F, hF, _⟩ := h.freed; exact block_ne h.slots hF (by decide)
theorem Mid.c0 (h : Mid w b s f n used freed node tk) : w.cell? ⟨b, 0, none⟩ = some (.slice (some ⟨s, 0, none⟩) n n) := (head_row h.head).cell (i := 0) (by simp)
theorem Mid.c1 (h : Mid w b s f n used freed node tk) : w.cell? ⟨b, 1, none⟩ = some (.slice (some ⟨f, 0, none⟩) freed.length n) := (head_row h.head).cell (i := 1) (by simp)
theorem Mid.c2 (h : Mid w b s f n used freed node tk) : w.cell? ⟨b, 2, none⟩ = some (.int .i64 used) := (head_row h.head).cell (i := 2) (by simp)
theorem Mid.fz (h : Mid w b s f n used freed node tk) (i : Nat) : w.frozen? ⟨b, i, none⟩ = false := (head_row h.head).frozen i
theorem Mid.drewN (h : Mid w b s f n used freed node tk) (k : Nat) : Mid (w.drewN k) b s f n used freed node tk := ⟨h.head, h.slots, h.freed⟩
/- The head's first two cells laid anew. -/
theorem Mid.cut (h : Mid w b s f n used freed node tk) (k : Nat) (hk : k ≤ freed.length) : Mid ((w.setCell ⟨b, 1, none⟩ (.slice (some ⟨f, 0, none⟩) k n)).drew) b s f n used (freed.take k) node tk := by
  have hb := h.head
  have n1 := h.bs
  have n2 := h.bf
  obtain ⟨F, hF, he⟩ := h.freed
  refine ⟨?_, (h.slots.setOther (a := ⟨b, 1, none⟩) (by simpa using n1.symm) _).drew, F, (hF.setOther (a := ⟨b, 1, none⟩) (by simpa using n2.symm) _).drew, fun i hi => ?_⟩
  · show (w.setCell _ _).heap[b]? = _
    rw [List.length_take, Nat.min_eq_left hk]
    simp [World.setCell, Array.getElem?_modify, hb, headOf]
  · rw [List.length_take, Nat.min_eq_left hk] at hi
    rw [he i (by omega), List.getElem_take]
theorem Mid.use (h : Mid w b s f n used freed node tk) (u : Nat) : Mid (w.setCell ⟨b, 2, none⟩ (.int .i64 u)) b s f n u freed node tk := by
  have hb := h.head
  have n1 := h.bs
  have n2 := h.bf
  obtain ⟨F, hF, he⟩ := h.freed
  refine ⟨?_, h.slots.setOther (a := ⟨b, 2, none⟩) (by simpa using n1.symm) _, F, hF.setOther (a := ⟨b, 2, none⟩) (by simpa using n2.symm) _, he⟩
  simp [World.setCell, Array.getElem?_modify, hb, headOf]
theorem Mid.take (h : Mid w b s f n used freed node tk) (i : Nat) : Mid (w.setCell ⟨s, i * 7 + 6, none⟩ (.bool true)) b s f n used freed node (upd tk i true) := by
  have n1 := h.bs
  have n3 := h.sf
  obtain ⟨F, hF, he⟩ := h.freed
  exact ⟨(Below.heap_setCell _ _ _ _ (by simpa using n1)).trans h.head, row_taken h.slots i true, F, hF.setOther (a := ⟨s, i * 7 + 6, none⟩) (by simpa using n3.symm) _, he⟩
end

theorem oneCell_slot (nd : Nat → Nd) (tk : Nat → Bool) (p : Nat) : (slotV nd tk p).oneCell' = true := by
  unfold slotV
  generalize p % 7 = j
  unfold cellOf
  split <;> rfl

theorem more_ends {w w1 : World} {b s f n m u : Nat} {nd : Nat → Nd} {tk : Nat → Bool} (h : Mid w b s f n u [] nd tk) (hz : ∀ i, n ≤ i → nd i = Nd.zero ∧ tk i = false) {o : Obj}
    (hrow : w1.rowIs w.heap.size 81 (m * 7) (fun j => if j < n * 7 then slotV nd tk j else slotV (fun _ => Nd.zero) (fun _ => false) j)) (honly : Only [w.heap.size] (w.alloc o) w1) :
    Only [b] w (((w1.setCell ⟨b, 0, none⟩ (.slice (some ⟨w.heap.size, 0, none⟩) m m)).setCell ⟨b, 1, none⟩ (.slice (some ⟨w1.heap.size, 0, none⟩) 0 m)).alloc (.cells (madeCells #[.int .i32 0] m) 21)) ∧
    ∃ s' f', w.heap.size ≤ s' ∧ w.heap.size ≤ f' ∧
      Mid (((w1.setCell ⟨b, 0, none⟩ (.slice (some ⟨w.heap.size, 0, none⟩) m m)).setCell ⟨b, 1, none⟩ (.slice (some ⟨w1.heap.size, 0, none⟩) 0 m)).alloc (.cells (madeCells #[.int .i32 0] m) 21)) b s' f' m u [] nd tk := by
  have lb := h.ltb
  have ho1 : Only [b] w w1 := ((Only.refl [b] w).alloc o).trans honly (by simp)
  have hb : w1.heap[b]? = some (.cells (headOf s f n 0 u) 76 (0, 0)) := by
    rw [honly.block b (by simp; omega) (by simp; omega), Below.heap_alloc _ _ _ lb]; exact h.head
  have h1 := head_set (x0 := .slice (some ⟨w.heap.size, 0, none⟩) m m) (x1 := .slice (some ⟨w1.heap.size, 0, none⟩) 0 m) hb
  have hsz : ((w1.setCell ⟨b, 0, none⟩ (.slice (some ⟨w.heap.size, 0, none⟩) m m)).setCell ⟨b, 1, none⟩ (.slice (some ⟨w1.heap.size, 0, none⟩) 0 m)).heap.size = w1.heap.size := by simp [World.setCell]
  have ho := (ho1.setCell (p := ⟨b, 0, none⟩) (by simp) (.slice (some ⟨w.heap.size, 0, none⟩) m m)).setCell (p := ⟨b, 1, none⟩) (by simp) (.slice (some ⟨w1.heap.size, 0, none⟩) 0 m)
  have hr := (hrow.setOther (a := ⟨b, 0, none⟩) (by show w.heap.size ≠ b; omega) (.slice (some ⟨w.heap.size, 0, none⟩) m m)).setOther (a := ⟨b, 1, none⟩) (by show w.heap.size ≠ b; omega) (.slice (some ⟨w1.heap.size, 0, none⟩) 0 m)
  have hle := ho1.size
  generalize (w1.setCell ⟨b, 0, none⟩ (.slice (some ⟨w.heap.size, 0, none⟩) m m)).setCell ⟨b, 1, none⟩ (.slice (some ⟨w1.heap.size, 0, none⟩) 0 m) = V at h1 hsz ho hr ⊢
  refine ⟨ho.alloc _, w.heap.size, w1.heap.size, Nat.le_refl _, hle, ?_, ?_, fun _ => .int .i32 0, ?_, fun i hi => ?_⟩
  · rw [Below.heap_alloc _ _ _ (by omega)]; exact h1
  · refine (hr.alloc _).congr fun p hp => ?_
    by_cases hp' : p < n * 7
    · exact if_pos hp'
    · refine (if_neg hp').trans ?_
      unfold slotV
      rw [(hz (p / 7) (by omega)).1, (hz (p / 7) (by omega)).2]
  · have hr2 := World.rowIs_made V (.int .i32 0) m 21
    rw [hsz] at hr2
    exact hr2
  · simp at hi

theorem widen_more (w : World) (b s f n m u : Nat) (nd : Nat → Nd) (tk : Nat → Bool) (hn : n ≤ 100000000) (hm : m = 2 * n) (h : Mid w b s f n u [] nd tk) (hz : ∀ i, n ≤ i → nd i = Nd.zero ∧ tk i = false) :
    Calls Try.prog 42 #[.pointer (some ⟨b, 0, none⟩), .int .i64 m] w fun e w' => e = .returned (.tuple #[]) ∧ Only [b] w w' ∧ ∃ s' f', w.heap.size ≤ s' ∧ w.heap.size ≤ f' ∧ Mid w' b s' f' m u [] nd tk := by
  have lb := h.ltb
  have c0 := h.c0
  have c1 := h.c1
  have z0 := h.fz 0
  have z1 := h.fz 1
  obtain ⟨cs, hmk, hsz, hcs⟩ := make_slots m (by omega) w
  have hfr := make_freed m (by omega)
  have hr := World.rowIs_alloc w cs 81 _ hcs
  rw [hsz] at hr
  have hs := h.slots.alloc (.cells cs 81)
  have HR := Lib.hid hr
  have HS := Lib.hid hs
  have HM := Lib.hid (fun w1 o => @more_ends w w1 b s f n m u nd tk h hz o)
  have g0 : n ≤ m := by omega
  have hb0 := Lib.hid h.head
  clear h hcs hsz hr hs hz hm
  go_enter Try.func42, Try.ntmps42
  go_wp2_with (with_reducible refine wpList_copy_rows rfl _ _ 74 74 rfl 81 (by kernel_rfl) 7 (by kernel_rfl) w.heap.size s m m n n g0 rfl rfl 81 81 (m * 7) (n * 7) _ _ HR.out HS.out (by omega) (by omega) (fun j _ => oneCell_slot _ _ j) ?_)
  intro w1 hrow honly
  have k0 : w1.cell? ⟨b, 0, none⟩ = some (.slice (some ⟨s, 0, none⟩) n n) := by
    rw [World.cell?_of_block (w := w.alloc (.cells cs 81)) (honly.block b (by simp; omega) (by simp; omega)), World.cell?_alloc_lt _ _ _ lb]; exact c0
  have k1 : w1.cell? ⟨b, 1, none⟩ = some (.slice (some ⟨f, 0, none⟩) 0 n) := by
    rw [World.cell?_of_block (w := w.alloc (.cells cs 81)) (honly.block b (by simp; omega) (by simp; omega)), World.cell?_alloc_lt _ _ _ lb]; exact c1
  have k2 : ∀ i, w1.frozen? ⟨b, i, none⟩ = false := fun i => by
    have : w1.heap[b]? = _ := (honly.block b (by simp; omega) (by simp; omega)).trans ((Below.heap_alloc _ _ _ lb).trans hb0.out)
    exact (head_row this).frozen i
  have k3 : b < w1.heap.size := by have := honly.size; simp at this; omega
  have k20 := k2 0
  have k21 := k2 1
  have HW := Lib.hid (HM.out w1 _ hrow honly)
  clear k2 hrow honly c0 c1 z0 z1 hmk
  go_wp2
  go_end0
  exact ⟨rfl, HW.out⟩

theorem pop_none {w : World} {b s f n used : Nat} {node : Nat → Nd} {tk : Nat → Bool} (h : Mid w b s f n used [] node tk) :
    Calls Try.prog 43 #[.pointer (some ⟨b, 0, none⟩)] w fun e w' => e = .returned (.tuple #[.int .i32 0, .bool false]) ∧ w = w' := by
  have c1 : w.cell? ⟨b, 1, none⟩ = some (.slice (some ⟨f, 0, none⟩) 0 n) := h.c1
  clear h
  go_enter Try.func43, Try.ntmps43
  go_wp2
  go_ret2
  exact ⟨rfl, rfl⟩

theorem pop_some {w : World} {b s f n used k : Nat} {freed : List Nat} {node : Nat → Nd} {tk : Nat → Bool} (h : Mid w b s f n used freed node tk) (hn : n ≤ 1000000000) (hk : freed.length = k + 1) (hkn : freed.length ≤ n) :
    Calls Try.prog 43 #[.pointer (some ⟨b, 0, none⟩)] w fun e w' => e = .returned (.tuple #[.int .i32 (freed[k]'(by omega) : Nat), .bool true]) ∧ Only [b] w w' ∧ Mid w' b s f n used (freed.take k) node tk := by
  have c0 := h.c0
  have c1 := h.c1
  rw [hk] at c1
  have z1 := h.fz 1
  have hx : w.cell? ⟨f, k, none⟩ = some (.int .i32 (freed[k]'(by omega) : Nat)) := by
    obtain ⟨F, hF, he⟩ := h.freed
    rw [hF.cell (by omega), he k (by omega)]
  have HW := Lib.hid (And.intro (((Only.refl [b] w).setCell (p := ⟨b, 1, none⟩) (by simp) (.slice (some ⟨f, 0, none⟩) k n)).drew) (h.cut k (by omega)))
  have hk1 : k + 1 ≤ n := by omega
  have HK := Lib.hid hk
  generalize hv : freed[k]'(by omega) = v at hx ⊢
  clear h hk hkn hv
  go_enter Try.func43, Try.ntmps43
  go_wp2
  go_region
  go_wp2
  go_ret2
  exact ⟨rfl, HW.out⟩

theorem widen_more' (w : World) (b s f n u : Nat) (nd : Nat → Nd) (tk : Nat → Bool) (hn : n ≤ 100000000) (h : Mid w b s f n u [] nd tk) (hz : ∀ i, n ≤ i → nd i = Nd.zero ∧ tk i = false) :
    Calls Try.prog 42 #[.pointer (some ⟨b, 0, none⟩), .int .i64 (2 * (n : Int))] w fun e w' => e = .returned (.tuple #[]) ∧ Only [b] w w' ∧ ∃ s' f', w.heap.size ≤ s' ∧ w.heap.size ≤ f' ∧ Mid w' b s' f' (2 * n) u [] nd tk := by
  have h1 := widen_more w b s f n (2 * n) u nd tk hn rfl h hz
  rwa [Int.natCast_mul] at h1

/- Behind firstUnused: the least slot that was never taken; there are twice as many slots, if there was none. -/
def Unused (w : World) (b s f n used : Nat) (node : Nat → Nd) (tk : Nat → Bool) (w' : World) : Prop :=
  Only [b] w w' ∧ ∃ s' f', (s' = s ∨ w.heap.size ≤ s') ∧ (f' = f ∨ w.heap.size ≤ f') ∧ Mid w' b s' f' (if used + 1 = n then 2 * n else n) (used + 1) [] node tk

theorem first_room {w : World} {b s f n used : Nat} {node : Nat → Nd} {tk : Nat → Bool} (h : Mid w b s f n used [] node tk) (hn : n ≤ 1000000) (hu : used + 1 < n) :
    Calls Try.prog 44 #[.pointer (some ⟨b, 0, none⟩)] w fun e w' => e = .returned (.int .i32 (used + 1 : Nat)) ∧ Unused w b s f n used node tk w' := by
  have c0 := h.c0
  have c2 := h.c2
  have z2 := h.fz 2
  have HM := Lib.hid (h.use (used + 1))
  have hne : ((used : Int) + 1 == (n : Int)) = false := by simp; omega
  clear h
  have e1 : IntKind.i64.wrap ((used : Int) + 1) = (used : Int) + 1 := IntWalk.i64_in _ (by omega)
  go_enter Try.func44, Try.ntmps44
  go_wp2
  go_quiet (fail)
  go_wp2
  go_ret
  refine ⟨congrArg (fun z => Ending.returned (Value.int .i32 z)) (by omega), ((Only.refl [b] w).setCell (p := ⟨b, 2, none⟩) (by simp) _).drewN _, s, f, .inl rfl, .inl rfl, ?_⟩
  rw [if_neg (by omega)]
  exact HM.out.drewN _

theorem first_more {w : World} {b s f n used : Nat} {node : Nat → Nd} {tk : Nat → Bool} (h : Mid w b s f n used [] node tk) (hn : n ≤ 1000000) (hu : used + 1 = n) (hz : ∀ i, n ≤ i → node i = Nd.zero ∧ tk i = false) :
    Calls Try.prog 44 #[.pointer (some ⟨b, 0, none⟩)] w fun e w' => e = .returned (.int .i32 (used + 1 : Nat)) ∧ Unused w b s f n used node tk w' := by
  have c0 := h.c0
  have c2 := h.c2
  have z2 := h.fz 2
  have HM := Lib.hid (h.use (used + 1))
  have hne : ((used : Int) + 1 == (n : Int)) = true := by simp; omega
  have HZ := Lib.hid hz
  have HU := Lib.hid hu
  have hub : used ≤ 1000000 := by omega
  clear h hz hu
  have e1 : IntKind.i64.wrap ((used : Int) + 1) = (used : Int) + 1 := IntWalk.i64_in _ (by omega)
  go_enter Try.func44, Try.ntmps44
  go_wp2
  go_quiet (fail)
  go_wp2_with fail
  refine (widen_more' _ b s f n (used + 1) node tk (by omega) (HM.out.drewN nq) HZ.out).mono ?_
  rintro e w1 ⟨rfl, ho, s', f', hs', hf', hm⟩
  have k2 := hm.c2
  have HM1 := Lib.hid hm
  have HO := Lib.hid ho
  have hs1 : w.heap.size ≤ s' := by simpa [World.setCell] using hs'
  have hf1 : w.heap.size ≤ f' := by simpa [World.setCell] using hf'
  clear hm ho hs' hf' c0 c2 z2
  go_wp2
  go_ret
  refine ⟨congrArg (fun z => Ending.returned (Value.int .i32 z)) (by omega), (((Only.refl [b] w).setCell (p := ⟨b, 2, none⟩) (by simp) _).drewN nq).trans HO.out (by simp), s', f', .inr hs1, .inr hf1, ?_⟩
  rw [if_pos HU.out]
  exact HM1.out

theorem first_walk {w : World} {b s f n used : Nat} {node : Nat → Nd} {tk : Nat → Bool} (h : Mid w b s f n used [] node tk) (hn : n ≤ 1000000) (hu : used < n) (hz : ∀ i, n ≤ i → node i = Nd.zero ∧ tk i = false) :
    Calls Try.prog 44 #[.pointer (some ⟨b, 0, none⟩)] w fun e w' => e = .returned (.int .i32 (used + 1 : Nat)) ∧ Unused w b s f n used node tk w' := by
  by_cases e : used + 1 = n
  · exact first_more h hn e hz
  · exact first_room h hn (by omega)
end Go.Proofs.Ytlmcodmglcmmoaa
