/- Words and walks: ArA ArN Held. -/
import Derived.Test.YtkhikpnlpcankaaG2
import Derived.Lib.JoinLaws
namespace Go.Proofs.Ytkhikpnlpcankaa
open Go Go.RowKit Go.Deep
theorem make_freed (n : Nat) (hn : n ≤ 1000000000) (w : World) :
    (Instr.makeSlice 81 (.int .i64 0) (.int .i64 n)).run Try.prog w = .ok (.slice (some ⟨w.heap.size, 0, none⟩) 0 n) (w.alloc (.cells (madeCells #[.int .i32 0] n) 21)) :=
  run_make_room 81 21 (.int .i32 0) 4 (by kernel_rfl) (by kernel_rfl) rfl .i64 .i64 n (by omega) (by omega) w
theorem head_set {w : World} {b : Nat} {x0 x1 y0 y1 y2 : Value} (hb : w.heap[b]? = some (.cells #[y0, y1, y2] 95 (0, 0))) :
    ((w.setCell ⟨b, 0, none⟩ x0).setCell ⟨b, 1, none⟩ x1).heap[b]? = some (.cells #[x0, x1, y2] 95 (0, 0)) := by
  have e1 : (w.setCell ⟨b, 0, none⟩ x0).heap[b]? = some (.cells #[x0, y1, y2] 95 (0, 0)) := by simp [World.setCell, Array.getElem?_modify, hb]
  generalize w.setCell ⟨b, 0, none⟩ x0 = W at e1 ⊢
  simp [World.setCell, Array.getElem?_modify, e1]
theorem new_ends {w : World} {b n : Nat} (hb : w.heap[b]? = some (.cells #[.slice none 0 0, .slice none 0 0, .int .i64 0] 95 (0, 0))) {cs : Array Value} (hs : cs.size = n * 7)
    (hcs : ∀ p, p < cs.size → cs[p]? = some (slotV (fun _ => Nd.zero) (fun _ => false) p)) :
    Only [b] w ((((w.setCell ⟨b, 0, none⟩ (.slice (some ⟨w.heap.size, 0, none⟩) n n)).setCell ⟨b, 1, none⟩ (.slice (some ⟨w.heap.size + 1, 0, none⟩) 0 n)).alloc (.cells cs 108)).alloc (.cells (madeCells #[.int .i32 0] n) 21)) ∧
    Ar ((((w.setCell ⟨b, 0, none⟩ (.slice (some ⟨w.heap.size, 0, none⟩) n n)).setCell ⟨b, 1, none⟩ (.slice (some ⟨w.heap.size + 1, 0, none⟩) 0 n)).alloc (.cells cs 108)).alloc (.cells (madeCells #[.int .i32 0] n) 21))
      b w.heap.size (w.heap.size + 1) ⟨n, 0, [], fun _ => Nd.zero⟩ := by
  have h1 := head_set (x0 := .slice (some ⟨w.heap.size, 0, none⟩) n n) (x1 := .slice (some ⟨w.heap.size + 1, 0, none⟩) 0 n) hb
  have hsz : ((w.setCell ⟨b, 0, none⟩ (.slice (some ⟨w.heap.size, 0, none⟩) n n)).setCell ⟨b, 1, none⟩ (.slice (some ⟨w.heap.size + 1, 0, none⟩) 0 n)).heap.size = w.heap.size := by simp [World.setCell]
  have ho := ((Only.refl [b] w).setCell (p := ⟨b, 0, none⟩) (by simp) (.slice (some ⟨w.heap.size, 0, none⟩) n n)).setCell (p := ⟨b, 1, none⟩) (by simp) (.slice (some ⟨w.heap.size + 1, 0, none⟩) 0 n)
  have lb := (head_row hb).lt
  generalize (w.setCell ⟨b, 0, none⟩ (.slice (some ⟨w.heap.size, 0, none⟩) n n)).setCell ⟨b, 1, none⟩ (.slice (some ⟨w.heap.size + 1, 0, none⟩) 0 n) = V at h1 hsz ho ⊢
  refine ⟨(ho.alloc _).alloc _, ?_, ?_, fun _ => .int .i32 0, ?_, fun i hi => ?_⟩
  · rw [Below.heap_alloc _ _ _ (by simp; omega), Below.heap_alloc _ _ _ (by omega)]; exact h1
  · have hr := World.rowIs_alloc V cs 108 _ hcs
    rw [hs, hsz] at hr
    refine ((hr.alloc _).congr fun p hp => ?_)
    unfold slotV
    congr 1
    simp [St.tk]
    omega
  · have hr := World.rowIs_made (V.alloc (.cells cs 108)) (.int .i32 0) n 21
    have e : (V.alloc (.cells cs 108)).heap.size = w.heap.size + 1 := by simp [hsz]
    rw [e] at hr
    exact hr
  · simp at hi
theorem widen_new (w : World) (b n : Nat) (hn : n ≤ 1000000000) (hb : w.heap[b]? = some (.cells #[.slice none 0 0, .slice none 0 0, .int .i64 0] 95 (0, 0))) :
    Calls Try.prog 60 #[.pointer (some ⟨b, 0, none⟩), .int .i64 n] w fun e w' => e = .returned (.tuple #[]) ∧ Only [b] w w' ∧ Ar w' b w.heap.size (w.heap.size + 1) ⟨n, 0, [], fun _ => Nd.zero⟩ := by
  have lb := (head_row hb).lt
  have c0 : w.cell? ⟨b, 0, none⟩ = some (.slice none 0 0) := (head_row hb).cell (i := 0) (by simp)
  have c1 : w.cell? ⟨b, 1, none⟩ = some (.slice none 0 0) := (head_row hb).cell (i := 1) (by simp)
  have z0 := (head_row hb).frozen 0
  have z1 := (head_row hb).frozen 1
  obtain ⟨cs, hmk, hsz, hcs⟩ := make_slots n hn w
  have hfr := make_freed n hn
  have HE := Lib.hid (new_ends hb hsz hcs)
  clear hb hcs hsz
  go_enter Try.func60, Try.ntmps60
  go_wp2_with (with_reducible refine wpList_copy_nilrow rfl _ _ 93 93 rfl 108 (by kernel_rfl) (by kernel_rfl) ⟨w.heap.size, 0, none⟩ n n rfl rfl ?_)
  go_end0
  exact ⟨rfl, HE.out⟩
structure Mid (w : World) (b s f n used : Nat) (freed : List Nat) (node : Nat → Nd) (tk : Nat → Bool) : Prop where
  head : w.heap[b]? = some (.cells (headOf s f n freed.length used) 95 (0, 0))
  slots : w.rowIs s 108 (n * 7) (slotV node tk)
  freed : ∃ F : Nat → Value, w.rowIs f 21 n F ∧ ∀ i (h : i < freed.length), F i = .int .i32 (freed[i] : Nat)
theorem Ar.mid {w : World} {b s f : Nat} {st : St} (h : Ar w b s f st) : Mid w b s f st.n st.used st.freed st.node st.tk := ⟨h.head, h.slots, h.freed⟩
section
variable {w w' : World} {b s f n used : Nat} {freed : List Nat} {node : Nat → Nd} {tk : Nat → Bool}
theorem Mid.ltb (h : Mid w b s f n used freed node tk) : b < w.heap.size := (head_row h.head).lt
theorem Mid.bs (h : Mid w b s f n used freed node tk) : b ≠ s := block_ne (head_row h.head) h.slots (by decide)
theorem Mid.bf (h : Mid w b s f n used freed node tk) : b ≠ f := by obtain ⟨F, hF, _⟩ := h.freed; exact block_ne (head_row h.head) hF (by decide)
theorem Mid.sf (h : Mid w b s f n used freed node tk) : s ≠ f := by obtain ⟨F, hF, _⟩ := h.freed; exact block_ne h.slots hF (by decide)
theorem Mid.c0 (h : Mid w b s f n used freed node tk) : w.cell? ⟨b, 0, none⟩ = some (.slice (some ⟨s, 0, none⟩) n n) := (head_row h.head).cell (i := 0) (by simp)
theorem Mid.c1 (h : Mid w b s f n used freed node tk) : w.cell? ⟨b, 1, none⟩ = some (.slice (some ⟨f, 0, none⟩) freed.length n) := (head_row h.head).cell (i := 1) (by simp)
theorem Mid.c2 (h : Mid w b s f n used freed node tk) : w.cell? ⟨b, 2, none⟩ = some (.int .i64 used) := (head_row h.head).cell (i := 2) (by simp)
theorem Mid.fz (h : Mid w b s f n used freed node tk) (i : Nat) : w.frozen? ⟨b, i, none⟩ = false := (head_row h.head).frozen i
theorem Mid.drewN (h : Mid w b s f n used freed node tk) (k : Nat) : Mid (w.drewN k) b s f n used freed node tk := ⟨h.head, h.slots, h.freed⟩
theorem Mid.cut (h : Mid w b s f n used freed node tk) (k : Nat) (hk : k ≤ freed.length) : Mid ((w.setCell ⟨b, 1, none⟩ (.slice (some ⟨f, 0, none⟩) k n)).drew) b s f n used (freed.take k) node tk := by
  have hb := h.head
  have n1 := h.bs
  have n2 := h.bf
  obtain ⟨F, hF, he⟩ := h.freed
  refine ⟨?_, (h.slots.setOther (a := ⟨b, 1, none⟩) (by simpa using n1.symm) _).drew, F, (hF.setOther (a := ⟨b, 1, none⟩) (by simpa using n2.symm) _).drew, fun i hi => ?_⟩
  · show (w.setCell _ _).heap[b]? = _
    rw [List.length_take, Nat.min_eq_left hk]
    simp [World.setCell, Array.getElem?_modify, hb, headOf]
  · rw [List.length_take, Nat.min_eq_left hk] at hi
    rw [he i (by omega), List.getElem_take]
theorem Mid.use (h : Mid w b s f n used freed node tk) (u : Nat) : Mid (w.setCell ⟨b, 2, none⟩ (.int .i64 u)) b s f n u freed node tk := by
  have hb := h.head
  have n1 := h.bs
  have n2 := h.bf
  obtain ⟨F, hF, he⟩ := h.freed
  refine ⟨?_, h.slots.setOther (a := ⟨b, 2, none⟩) (by simpa using n1.symm) _, F, hF.setOther (a := ⟨b, 2, none⟩) (by simpa using n2.symm) _, he⟩
  simp [World.setCell, Array.getElem?_modify, hb, headOf]
theorem Mid.take (h : Mid w b s f n used freed node tk) (i : Nat) : Mid (w.setCell ⟨s, i * 7 + 6, none⟩ (.bool true)) b s f n used freed node (upd tk i true) := by
  have n1 := h.bs
  have n3 := h.sf
  obtain ⟨F, hF, he⟩ := h.freed
  exact ⟨(Below.heap_setCell _ _ _ _ (by simpa using n1)).trans h.head, row_taken h.slots i true, F, hF.setOther (a := ⟨s, i * 7 + 6, none⟩) (by simpa using n3.symm) _, he⟩
end
theorem oneCell_slot (nd : Nat → Nd) (tk : Nat → Bool) (p : Nat) : (slotV nd tk p).oneCell' = true := by
  unfold slotV
  generalize p % 7 = j
  unfold cellOf
  split <;> rfl
theorem more_ends {w w1 : World} {b s f n m u : Nat} {nd : Nat → Nd} {tk : Nat → Bool} (h : Mid w b s f n u [] nd tk) (hz : ∀ i, n ≤ i → nd i = Nd.zero ∧ tk i = false) {o : Obj}
    (hrow : w1.rowIs w.heap.size 108 (m * 7) (fun j => if j < n * 7 then slotV nd tk j else slotV (fun _ => Nd.zero) (fun _ => false) j)) (honly : Only [w.heap.size] (w.alloc o) w1) :
    Only [b] w (((w1.setCell ⟨b, 0, none⟩ (.slice (some ⟨w.heap.size, 0, none⟩) m m)).setCell ⟨b, 1, none⟩ (.slice (some ⟨w1.heap.size, 0, none⟩) 0 m)).alloc (.cells (madeCells #[.int .i32 0] m) 21)) ∧
    ∃ s' f', w.heap.size ≤ s' ∧ w.heap.size ≤ f' ∧
      Mid (((w1.setCell ⟨b, 0, none⟩ (.slice (some ⟨w.heap.size, 0, none⟩) m m)).setCell ⟨b, 1, none⟩ (.slice (some ⟨w1.heap.size, 0, none⟩) 0 m)).alloc (.cells (madeCells #[.int .i32 0] m) 21)) b s' f' m u [] nd tk := by
  have lb := h.ltb
  have ho1 : Only [b] w w1 := ((Only.refl [b] w).alloc o).trans honly (by simp)
  have hb : w1.heap[b]? = some (.cells (headOf s f n 0 u) 95 (0, 0)) := by
    rw [honly.block b (by simp; omega) (by simp; omega), Below.heap_alloc _ _ _ lb]; exact h.head
  have h1 := head_set (x0 := .slice (some ⟨w.heap.size, 0, none⟩) m m) (x1 := .slice (some ⟨w1.heap.size, 0, none⟩) 0 m) hb
  have hsz : ((w1.setCell ⟨b, 0, none⟩ (.slice (some ⟨w.heap.size, 0, none⟩) m m)).setCell ⟨b, 1, none⟩ (.slice (some ⟨w1.heap.size, 0, none⟩) 0 m)).heap.size = w1.heap.size := by simp [World.setCell]
  have ho := (ho1.setCell (p := ⟨b, 0, none⟩) (by simp) (.slice (some ⟨w.heap.size, 0, none⟩) m m)).setCell (p := ⟨b, 1, none⟩) (by simp) (.slice (some ⟨w1.heap.size, 0, none⟩) 0 m)
  have hr := (hrow.setOther (a := ⟨b, 0, none⟩) (by show w.heap.size ≠ b; omega) (.slice (some ⟨w.heap.size, 0, none⟩) m m)).setOther (a := ⟨b, 1, none⟩) (by show w.heap.size ≠ b; omega) (.slice (some ⟨w1.heap.size, 0, none⟩) 0 m)
  have hle := ho1.size
  generalize (w1.setCell ⟨b, 0, none⟩ (.slice (some ⟨w.heap.size, 0, none⟩) m m)).setCell ⟨b, 1, none⟩ (.slice (some ⟨w1.heap.size, 0, none⟩) 0 m) = V at h1 hsz ho hr ⊢
  refine ⟨ho.alloc _, w.heap.size, w1.heap.size, Nat.le_refl _, hle, ?_, ?_, fun _ => .int .i32 0, ?_, fun i hi => ?_⟩
  · rw [Below.heap_alloc _ _ _ (by omega)]; exact h1
  · refine (hr.alloc _).congr fun p hp => ?_
    by_cases hp' : p < n * 7
    · exact if_pos hp'
    · refine (if_neg hp').trans ?_
      unfold slotV
      rw [(hz (p / 7) (by omega)).1, (hz (p / 7) (by omega)).2]
  · have hr2 := World.rowIs_made V (.int .i32 0) m 21
    rw [hsz] at hr2
    exact hr2
  · simp at hi
theorem widen_more (w : World) (b s f n m u : Nat) (nd : Nat → Nd) (tk : Nat → Bool) (hn : n ≤ 100000000) (hm : m = 2 * n) (h : Mid w b s f n u [] nd tk) (hz : ∀ i, n ≤ i → nd i = Nd.zero ∧ tk i = false) :
    Calls Try.prog 60 #[.pointer (some ⟨b, 0, none⟩), .int .i64 m] w fun e w' => e = .returned (.tuple #[]) ∧ Only [b] w w' ∧ ∃ s' f', w.heap.size ≤ s' ∧ w.heap.size ≤ f' ∧ Mid w' b s' f' m u [] nd tk := by
  have lb := h.ltb
  have c0 := h.c0
  have c1 := h.c1
  have z0 := h.fz 0
  have z1 := h.fz 1
  obtain ⟨cs, hmk, hsz, hcs⟩ := make_slots m (by omega) w
  have hfr := make_freed m (by omega)
  have hr := World.rowIs_alloc w cs 108 _ hcs
  rw [hsz] at hr
  have hs := h.slots.alloc (.cells cs 108)
  have HR := Lib.hid hr
  have HS := Lib.hid hs
  have HM := Lib.hid (fun w1 o => @more_ends w w1 b s f n m u nd tk h hz o)
  have g0 : n ≤ m := by omega
  have hb0 := Lib.hid h.head
  clear h hcs hsz hr hs hz hm
  go_enter Try.func60, Try.ntmps60
  go_wp2_with (with_reducible refine wpList_copy_rows rfl _ _ 93 93 rfl 108 (by kernel_rfl) 7 (by kernel_rfl) w.heap.size s m m n n g0 rfl rfl 108 108 (m * 7) (n * 7) _ _ HR.out HS.out (by omega) (by omega) (fun j _ => oneCell_slot _ _ j) ?_)
  intro w1 hrow honly
  have k0 : w1.cell? ⟨b, 0, none⟩ = some (.slice (some ⟨s, 0, none⟩) n n) := by
    rw [World.cell?_of_block (w := w.alloc (.cells cs 108)) (honly.block b (by simp; omega) (by simp; omega)), World.cell?_alloc_lt _ _ _ lb]; exact c0
  have k1 : w1.cell? ⟨b, 1, none⟩ = some (.slice (some ⟨f, 0, none⟩) 0 n) := by
    rw [World.cell?_of_block (w := w.alloc (.cells cs 108)) (honly.block b (by simp; omega) (by simp; omega)), World.cell?_alloc_lt _ _ _ lb]; exact c1
  have k2 : ∀ i, w1.frozen? ⟨b, i, none⟩ = false := fun i => by
    have : w1.heap[b]? = _ := (honly.block b (by simp; omega) (by simp; omega)).trans ((Below.heap_alloc _ _ _ lb).trans hb0.out)
    exact (head_row this).frozen i
  have k3 : b < w1.heap.size := by have := honly.size; simp at this; omega
  have k20 := k2 0
  have k21 := k2 1
  have HW := Lib.hid (HM.out w1 _ hrow honly)
  clear k2 hrow honly c0 c1 z0 z1 hmk
  go_wp2
  go_end0
  exact ⟨rfl, HW.out⟩
theorem pop_none {w : World} {b s f n used : Nat} {node : Nat → Nd} {tk : Nat → Bool} (h : Mid w b s f n used [] node tk) :
    Calls Try.prog 97 #[.pointer (some ⟨b, 0, none⟩)] w fun e w' => e = .returned (.tuple #[.int .i32 0, .bool false]) ∧ w = w' := by
  have c1 : w.cell? ⟨b, 1, none⟩ = some (.slice (some ⟨f, 0, none⟩) 0 n) := h.c1
  clear h
  go_enter Try.func97, Try.ntmps97
  go_wp2
  go_ret2
  exact ⟨rfl, rfl⟩
theorem pop_some {w : World} {b s f n used k : Nat} {freed : List Nat} {node : Nat → Nd} {tk : Nat → Bool} (h : Mid w b s f n used freed node tk) (hn : n ≤ 1000000000) (hk : freed.length = k + 1) (hkn : freed.length ≤ n) :
    Calls Try.prog 97 #[.pointer (some ⟨b, 0, none⟩)] w fun e w' => e = .returned (.tuple #[.int .i32 (freed[k]'(by omega) : Nat), .bool true]) ∧ Only [b] w w' ∧ Mid w' b s f n used (freed.take k) node tk := by
  have c0 := h.c0
  have c1 := h.c1
  rw [hk] at c1
  have z1 := h.fz 1
  have hx : w.cell? ⟨f, k, none⟩ = some (.int .i32 (freed[k]'(by omega) : Nat)) := by
    obtain ⟨F, hF, he⟩ := h.freed
    rw [hF.cell (by omega), he k (by omega)]
  have HW := Lib.hid (And.intro (((Only.refl [b] w).setCell (p := ⟨b, 1, none⟩) (by simp) (.slice (some ⟨f, 0, none⟩) k n)).drew) (h.cut k (by omega)))
  have hk1 : k + 1 ≤ n := by omega
  have HK := Lib.hid hk
  generalize hv : freed[k]'(by omega) = v at hx ⊢
  clear h hk hkn hv
  go_enter Try.func97, Try.ntmps97
  go_wp2
  go_region
  go_wp2
  go_ret2
  exact ⟨rfl, HW.out⟩
theorem widen_more' (w : World) (b s f n u : Nat) (nd : Nat → Nd) (tk : Nat → Bool) (hn : n ≤ 100000000) (h : Mid w b s f n u [] nd tk) (hz : ∀ i, n ≤ i → nd i = Nd.zero ∧ tk i = false) :
    Calls Try.prog 60 #[.pointer (some ⟨b, 0, none⟩), .int .i64 (2 * (n : Int))] w fun e w' => e = .returned (.tuple #[]) ∧ Only [b] w w' ∧ ∃ s' f', w.heap.size ≤ s' ∧ w.heap.size ≤ f' ∧ Mid w' b s' f' (2 * n) u [] nd tk := by
  have h1 := widen_more w b s f n (2 * n) u nd tk hn rfl h hz
  rwa [Int.natCast_mul] at h1
def Unused (w : World) (b s f n used : Nat) (node : Nat → Nd) (tk : Nat → Bool) (w' : World) : Prop :=
  Only [b] w w' ∧ ∃ s' f', (s' = s ∨ w.heap.size ≤ s') ∧ (f' = f ∨ w.heap.size ≤ f') ∧ Mid w' b s' f' (if used + 1 = n then 2 * n else n) (used + 1) [] node tk
theorem first_room {w : World} {b s f n used : Nat} {node : Nat → Nd} {tk : Nat → Bool} (h : Mid w b s f n used [] node tk) (hn : n ≤ 1000000) (hu : used + 1 < n) :
    Calls Try.prog 98 #[.pointer (some ⟨b, 0, none⟩)] w fun e w' => e = .returned (.int .i32 (used + 1 : Nat)) ∧ Unused w b s f n used node tk w' := by
  have c0 := h.c0
  have c2 := h.c2
  have z2 := h.fz 2
  have HM := Lib.hid (h.use (used + 1))
  have hne : ((used : Int) + 1 == (n : Int)) = false := by simp; omega
  clear h
  have e1 : IntKind.i64.wrap ((used : Int) + 1) = (used : Int) + 1 := IntWalk.i64_in _ (by omega)
  go_enter Try.func98, Try.ntmps98
  go_wp2
  go_quiet (fail)
  go_wp2
  go_ret
  refine ⟨congrArg (fun z => Ending.returned (Value.int .i32 z)) (by omega), ((Only.refl [b] w).setCell (p := ⟨b, 2, none⟩) (by simp) _).drewN _, s, f, .inl rfl, .inl rfl, ?_⟩
  rw [if_neg (by omega)]
  exact HM.out.drewN _
theorem first_more {w : World} {b s f n used : Nat} {node : Nat → Nd} {tk : Nat → Bool} (h : Mid w b s f n used [] node tk) (hn : n ≤ 1000000) (hu : used + 1 = n) (hz : ∀ i, n ≤ i → node i = Nd.zero ∧ tk i = false) :
    Calls Try.prog 98 #[.pointer (some ⟨b, 0, none⟩)] w fun e w' => e = .returned (.int .i32 (used + 1 : Nat)) ∧ Unused w b s f n used node tk w' := by
  have c0 := h.c0
  have c2 := h.c2
  have z2 := h.fz 2
  have HM := Lib.hid (h.use (used + 1))
  have hne : ((used : Int) + 1 == (n : Int)) = true := by simp; omega
  have HZ := Lib.hid hz
  have HU := Lib.hid hu
  have hub : used ≤ 1000000 := by omega
  clear h hz hu
  have e1 : IntKind.i64.wrap ((used : Int) + 1) = (used : Int) + 1 := IntWalk.i64_in _ (by omega)
  go_enter Try.func98, Try.ntmps98
  go_wp2
  go_quiet (fail)
  go_wp2_with fail
  refine (widen_more' _ b s f n (used + 1) node tk (by omega) (HM.out.drewN nq) HZ.out).mono ?_
  rintro e w1 ⟨rfl, ho, s', f', hs', hf', hm⟩
  have k2 := hm.c2
  have HM1 := Lib.hid hm
  have HO := Lib.hid ho
  have hs1 : w.heap.size ≤ s' := by simpa [World.setCell] using hs'
  have hf1 : w.heap.size ≤ f' := by simpa [World.setCell] using hf'
  clear hm ho hs' hf' c0 c2 z2
  go_wp2
  go_ret
  refine ⟨congrArg (fun z => Ending.returned (Value.int .i32 z)) (by omega), (((Only.refl [b] w).setCell (p := ⟨b, 2, none⟩) (by simp) _).drewN nq).trans HO.out (by simp), s', f', .inr hs1, .inr hf1, ?_⟩
  rw [if_pos HU.out]
  exact HM1.out
theorem first_walk {w : World} {b s f n used : Nat} {node : Nat → Nd} {tk : Nat → Bool} (h : Mid w b s f n used [] node tk) (hn : n ≤ 1000000) (hu : used < n) (hz : ∀ i, n ≤ i → node i = Nd.zero ∧ tk i = false) :
    Calls Try.prog 98 #[.pointer (some ⟨b, 0, none⟩)] w fun e w' => e = .returned (.int .i32 (used + 1 : Nat)) ∧ Unused w b s f n used node tk w' := by
  by_cases e : used + 1 = n
  · exact first_more h hn e hz
  · exact first_room h hn (by omega)
def St.next (st : St) : Nat := if h : 0 < st.freed.length then st.freed[st.freed.length - 1]'(by omega) else st.used + 1
def St.alloc (st : St) : St :=
  if 0 < st.freed.length then { st with freed := st.freed.take (st.freed.length - 1) }
  else { n := if st.used + 1 = st.n then 2 * st.n else st.n, used := st.used + 1, freed := [], node := st.node }
def St.first (n : Nat) : St := ⟨n, 0, [], fun _ => Nd.zero⟩
theorem split_last (l : List Nat) (h : 0 < l.length) : l = l.take (l.length - 1) ++ [l[l.length - 1]'(by omega)] := by
  have h1 := List.take_succ_eq_append_getElem (l := l) (i := l.length - 1) (by omega)
  rw [show l.length - 1 + 1 = l.length by omega, List.take_length] at h1
  exact h1
theorem next_free {st : St} (h : st.Ok) : st.tk st.next = false ∧ 1 ≤ st.next ∧ st.next < st.alloc.n ∧ st.next ≤ st.used + 1 := by
  unfold St.next St.alloc
  have hr := h.room
  by_cases hp : 0 < st.freed.length
  · rw [dif_pos hp, if_pos hp]
    have hm : st.freed[st.freed.length - 1]'(by omega) ∈ st.freed := List.getElem_mem _
    have := h.mem _ hm
    exact ⟨by simp [St.tk, hm], by omega, by show _ < st.n; omega, by omega⟩
  · rw [dif_neg hp, if_neg hp]
    have := h.two
    refine ⟨by simp [St.tk]; omega, by omega, ?_, by omega⟩
    show _ < if st.used + 1 = st.n then 2 * st.n else st.n
    split <;> omega
theorem alloc_tk {st : St} (h : st.Ok) : st.alloc.tk = upd st.tk st.next true := by
  funext j
  unfold upd St.next St.alloc
  by_cases hp : 0 < st.freed.length
  · rw [dif_pos hp, if_pos hp]
    have hs := split_last st.freed hp
    have hm : st.freed[st.freed.length - 1]'(by omega) ∈ st.freed := List.getElem_mem _
    generalize st.freed[st.freed.length - 1]'(by omega) = x at hs hm ⊢
    have hb := h.mem _ hm
    have hnd := h.nodup
    generalize st.freed.take (st.freed.length - 1) = fr at hs ⊢
    rw [hs] at hnd
    have hx : x ∉ fr := by
      rw [List.nodup_append] at hnd
      intro hx
      exact hnd.2.2 x hx x (by simp) rfl
    split
    · rename_i e
      subst e
      simp [St.tk, hx, hb]
    · rename_i e
      simp [St.tk, hs, e]
  · rw [dif_neg hp, if_neg hp]
    have hf : st.freed = [] := List.eq_nil_of_length_eq_zero (by omega)
    by_cases e : j = st.used + 1
    · rw [if_pos e, e]
      simp [St.tk]
    · rw [if_neg e]
      simp only [St.tk, hf]
      congr 1
      simp
      omega
theorem alloc_ok {st : St} (h : st.Ok) : st.alloc.Ok := by
  have hz : ∀ i, st.alloc.tk i = false → st.alloc.node i = Nd.zero := fun i hi => by
    rw [alloc_tk h] at hi
    have e : st.alloc.node = st.node := by unfold St.alloc; split <;> rfl
    rw [e]
    refine h.zero i ?_
    unfold upd at hi
    split at hi
    · cases hi
    · exact hi
  revert hz
  unfold St.alloc
  by_cases hp : 0 < st.freed.length
  · rw [if_pos hp]
    intro hz
    exact ⟨h.two, h.room, h.nodup.sublist (List.take_sublist _ _), fun i hi => h.mem i (List.mem_of_mem_take hi), hz⟩
  · rw [if_neg hp]
    intro hz
    have h2 := h.two
    have hr := h.room
    refine ⟨?_, ?_, by simp, by simp, hz⟩
    · show 2 ≤ if st.used + 1 = st.n then 2 * st.n else st.n
      split <;> omega
    · show st.used + 1 < if st.used + 1 = st.n then 2 * st.n else st.n
      split <;> omega
theorem first_ok (n : Nat) (h : 2 ≤ n) : (St.first n).Ok := ⟨h, by show 0 < n; omega, by simp [St.first], by simp [St.first], fun _ _ => rfl⟩
theorem set_ok {st : St} (h : st.Ok) {i : Nat} (hi : st.tk i = true) (x : Nd) : (st.set i x).Ok :=
  ⟨h.two, h.room, h.nodup, h.mem, fun j hj => by
    have hj' : st.tk j = false := hj
    show upd st.node i x j = _
    rw [upd_other _ _ _ (fun e => by rw [e, hi] at hj'; cases hj')]
    exact h.zero j hj'⟩
theorem tk_bounds {st : St} {i : Nat} (hi : st.tk i = true) : 1 ≤ i ∧ i ≤ st.used ∧ i ∉ st.freed := by simpa [St.tk] using hi
theorem free_ok {st : St} (h : st.Ok) {i : Nat} (hi : st.tk i = true) : (st.free i).Ok := by
  obtain ⟨h1, h2, h3⟩ := tk_bounds hi
  refine ⟨h.two, h.room, ?_, fun j hj => ?_, fun j hj => ?_⟩
  · show (st.freed ++ [i]).Nodup
    rw [List.nodup_append]
    exact ⟨h.nodup, by simp, fun a ha b hb e => by simp at hb; subst hb; subst e; exact h3 ha⟩
  · have hj' : j ∈ st.freed ++ [i] := hj
    rcases List.mem_append.1 hj' with h4 | h4
    · exact h.mem j h4
    · simp at h4; subst h4; exact ⟨h1, h2⟩
  · rw [free_tk] at hj
    show upd st.node i Nd.zero j = _
    unfold upd at hj ⊢
    split
    · rfl
    · rename_i e
      rw [if_neg e] at hj
      exact h.zero j hj
def Turned (w : World) (b s f : Nat) (st : St) (w' : World) : Prop :=
  Only [b, s, f] w w' ∧ ∃ s' f', (s' = s ∨ w.heap.size ≤ s') ∧ (f' = f ∨ w.heap.size ≤ f') ∧ Ar w' b s' f' st
theorem take_ends {w w1 : World} {b s f s' f' : Nat} {st : St} (ho : st.Ok) (h1 : Only [b] w w1) (hs : s' = s ∨ w.heap.size ≤ s') (hf : f' = f ∨ w.heap.size ≤ f')
    (hm : Mid w1 b s' f' st.alloc.n st.alloc.used st.alloc.freed st.alloc.node st.tk) : Turned w b s f st.alloc (w1.setCell ⟨s', st.next * 7 + 6, none⟩ (.bool true)) := by
  have ht := hm.take st.next
  rw [← alloc_tk ho] at ht
  refine ⟨(h1.mono (T := [b, s, f]) (by simp)).setCell (p := ⟨s', st.next * 7 + 6, none⟩) ?_ _, s', f', hs, hf, ht.head, ht.slots, ht.freed⟩
  rcases hs with rfl | hs
  · exact .inl (by simp)
  · exact .inr hs
theorem alloc_walk {w : World} {b s f : Nat} {st : St} (h : Ar w b s f st) (ho : st.Ok) (hn : st.n ≤ 1000000) :
    Calls Try.prog 87 #[.pointer (some ⟨b, 0, none⟩)] w fun e w' => e = .returned (.int .i32 st.next) ∧ Turned w b s f st.alloc w' := by
  have hmid := h.mid
  obtain ⟨ht, hx1, hx2, hx3⟩ := next_free ho
  have hroom := ho.room
  have hlen := freed_le ho
  by_cases hp : 0 < st.freed.length
  · have en : st.next = st.freed[st.freed.length - 1]'(by omega) := by unfold St.next; rw [dif_pos hp]
    have ea : st.alloc = { st with freed := st.freed.take (st.freed.length - 1) } := by unfold St.alloc; rw [if_pos hp]
    have HP := Lib.hid (pop_some (k := st.freed.length - 1) hmid (by omega) (by omega) (by omega))
    rw [← en] at HP
    have HO := Lib.hid ho
    have HA := Lib.hid ea
    have hxn : st.next < st.n := by rw [ea] at hx2; exact hx2
    clear ea en ht hx2 hmid h ho
    go_enter Try.func87, Try.ntmps87
    go_wp2_with fail
    refine HP.out.mono ?_
    rintro e w1 ⟨rfl, h1, hm⟩
    have c0 := hm.c0
    have c6 := hm.slots.cell (i := st.next * 7 + 6) (by omega)
    have z6 := hm.slots.frozen (st.next * 7 + 6)
    have HE := Lib.hid (take_ends (s := s) (f := f) HO.out h1 (.inl rfl) (.inl rfl) (by rw [HA.out]; exact hm))
    clear hm h1
    go_wp2
    go_ret
    exact ⟨rfl, HE.out⟩
  · have hf : st.freed = [] := List.eq_nil_of_length_eq_zero (by omega)
    have en : st.next = st.used + 1 := by unfold St.next; rw [dif_neg hp]
    have ea : st.alloc = { n := if st.used + 1 = st.n then 2 * st.n else st.n, used := st.used + 1, freed := [], node := st.node } := by unfold St.alloc; rw [if_neg hp]
    rw [hf] at hmid
    have HP := Lib.hid (pop_none hmid)
    have HF := Lib.hid (first_walk hmid hn hroom (fun i hi => by
      have e : st.tk i = false := by simp [St.tk]; omega
      exact ⟨ho.zero i e, e⟩))
    rw [← en] at HF
    have HO := Lib.hid ho
    have HA := Lib.hid ea
    have HN := Lib.hid hx2
    have HNE := Lib.hid en
    clear ea en ht hx2 hmid h ho hf
    go_enter Try.func87, Try.ntmps87
    go_wp2_with fail
    refine HP.out.mono ?_
    rintro e w1 ⟨rfl, rfl⟩
    go_wp2_with fail
    refine HF.out.mono ?_
    rintro e w1 ⟨rfl, h1, s', f', hs', hf', hm⟩
    have hxn := HN.out
    rw [HA.out] at hxn
    have HM := Lib.hid hm
    generalize hN : (if st.used + 1 = st.n then 2 * st.n else st.n) = N at hm hxn
    have hnb : N ≤ 2000000 := by subst hN; split <;> omega
    have c0 := hm.c0
    have hxn' : st.next < N := hxn
    have c6 := hm.slots.cell (i := st.next * 7 + 6) (by omega)
    have z6 := hm.slots.frozen (st.next * 7 + 6)
    have HE := Lib.hid (take_ends (s := s) (f := f) HO.out h1 hs' hf' (by rw [HA.out]; exact HM.out))
    clear hm h1 hN hxn hs' hf'
    go_wp2
    go_ret
    exact ⟨rfl, HE.out⟩
theorem new_ends' {w w1 : World} {n : Nat} {o : Obj} (h1 : Only [w.heap.size] (w.alloc o) w1) (h : Ar w1 w.heap.size (w.alloc o).heap.size ((w.alloc o).heap.size + 1) ⟨n, 0, [], fun _ => Nd.zero⟩) :
    Only [] w w1 ∧ Ar w1 w.heap.size (w.heap.size + 1) (w.heap.size + 2) (St.first n) := by
  refine ⟨((Only.refl [] w).alloc o).trans h1 (by simp), ?_⟩
  have e : (w.alloc o).heap.size = w.heap.size + 1 := by simp
  rw [e] at h
  exact h
theorem new_least (w : World) (r : Int) (hr : r ≤ 1) :
    Calls Try.prog 40 #[.int .i64 r] w fun e w' => e = .returned (.pointer (some ⟨w.heap.size, 0, none⟩)) ∧ Only [] w w' ∧ Ar w' w.heap.size (w.heap.size + 1) (w.heap.size + 2) (St.first 2) := by
  have hb := heap_alloc_new w (.cells #[.slice none 0 0, .slice none 0 0, .int .i64 0] 95)
  have HW := Lib.hid (widen_new _ w.heap.size 2 (by decide) hb)
  clear hb
  by_cases h1 : r < 1
  · go_enter Try.func40, Try.ntmps40
    go_wp2_with fail
    refine HW.out.mono ?_
    rintro e w1 ⟨rfl, ho, ha⟩
    have HE := Lib.hid (new_ends' ho ha)
    clear ho ha
    go_wp2
    go_ret
    exact ⟨rfl, HE.out⟩
  · obtain rfl : r = 1 := by omega
    clear hr h1
    go_enter Try.func40, Try.ntmps40
    go_wp2_with fail
    refine HW.out.mono ?_
    rintro e w1 ⟨rfl, ho, ha⟩
    have HE := Lib.hid (new_ends' ho ha)
    clear ho ha
    go_wp2
    go_ret
    exact ⟨rfl, HE.out⟩
theorem new_more (w : World) (r : Nat) (hr : 1 < r) (hr2 : r ≤ 10000) :
    Calls Try.prog 40 #[.int .i64 r] w fun e w' => e = .returned (.pointer (some ⟨w.heap.size, 0, none⟩)) ∧ Only [] w w' ∧ Ar w' w.heap.size (w.heap.size + 1) (w.heap.size + 2) (St.first (1 + r)) := by
  have hb := heap_alloc_new w (.cells #[.slice none 0 0, .slice none 0 0, .int .i64 0] 95)
  have hw := widen_new _ w.heap.size (1 + r) (by omega) hb
  rw [Int.natCast_add] at hw
  have HW := Lib.hid hw
  clear hb hw
  have h1 : (1 : Int) ≤ (r : Int) := by omega
  have h1' : ¬ ((r : Int) < 1) := by omega
  have h2 : (r : Int) ≤ 1048576 := by omega
  go_enter Try.func40, Try.ntmps40
  go_wp2_with fail
  refine HW.out.mono ?_
  rintro e w1 ⟨rfl, ho, ha⟩
  have HE := Lib.hid (new_ends' ho ha)
  clear ho ha
  go_wp2
  go_ret
  exact ⟨rfl, HE.out⟩
theorem new_walk (w : World) (r : Nat) (hr : 1 ≤ r) (hr2 : r ≤ 10000) :
    Calls Try.prog 40 #[.int .i64 r] w fun e w' => e = .returned (.pointer (some ⟨w.heap.size, 0, none⟩)) ∧ Only [] w w' ∧ Ar w' w.heap.size (w.heap.size + 1) (w.heap.size + 2) (St.first (1 + r)) := by
  by_cases h : r = 1
  · subst h; exact new_least w 1 (by omega)
  · exact new_more w r (by omega) hr2
structure Held (w0 w : World) (b : Nat) (st : St) (K : List Nat) : Prop where
  below : Below w0.heap.size w0 w
  ok : st.Ok
  old : ∀ k ∈ K, k < w.heap.size
  mem : ∃ s f, w0.heap.size ≤ b ∧ w0.heap.size ≤ s ∧ w0.heap.size ≤ f ∧ b ∉ K ∧ s ∉ K ∧ f ∉ K ∧ Ar w b s f st
def Kept (K : List Nat) (w w' : World) : Prop := ∀ k ∈ K, w'.heap[k]? = w.heap[k]?
section
variable {w0 w w' : World} {b s f : Nat} {st st' : St} {K : List Nat}
theorem held_turn (h : Held w0 w b st K) (hb : w0.heap.size ≤ b) (hs : w0.heap.size ≤ s) (hf : w0.heap.size ≤ f) (kb : b ∉ K) (ks : s ∉ K) (kf : f ∉ K) (ho : st'.Ok) (ht : Turned w b s f st' w') : Held w0 w' b st' K ∧ Kept K w w' := by
  obtain ⟨h1, s', f', hs', hf', ha'⟩ := ht
  have hsz := h.below.size
  refine ⟨⟨h.below.trans (h1.below (by simp; omega) (by omega)), ho, fun k hk => Nat.lt_of_lt_of_le (h.old k hk) h1.size, s', f', hb, by omega, by omega, kb, ?_, ?_, ha'⟩, fun k hk => h1.block k (h.old k hk) ?_⟩
  · rcases hs' with rfl | hs'
    · exact ks
    · intro hk; have := h.old _ hk; omega
  · rcases hf' with rfl | hf'
    · exact kf
    · intro hk; have := h.old _ hk; omega
  · simp only [List.mem_cons, List.not_mem_nil, or_false, not_or]
    exact ⟨fun e => kb (e ▸ hk), fun e => ks (e ▸ hk), fun e => kf (e ▸ hk)⟩
theorem Held.still (h : Held w0 w b st K) (hb : Below w.heap.size w w') : Held w0 w' b st K ∧ Kept K w w' := by
  obtain ⟨s, f, h1, h2, h3, kb, ks, kf, ha⟩ := h.mem
  exact ⟨⟨h.below.trans (hb.mono h.below.size), h.ok, fun k hk => Nat.lt_of_lt_of_le (h.old k hk) hb.size, s, f, h1, h2, h3, kb, ks, kf, ha.below hb⟩, fun k hk => hb.block k (h.old k hk)⟩
theorem Held.other (h : Held w0 w b st K) (hb : Below w.heap.size w w') {K' : List Nat} (hk : ∀ k ∈ K', (k ∈ K ∨ w.heap.size ≤ k) ∧ k < w'.heap.size) : Held w0 w' b st K' := by
  obtain ⟨s, f, h1, h2, h3, kb, ks, kf, ha⟩ := h.mem
  have l1 := ha.ltb
  have l2 := ha.lts
  have l3 := ha.ltf
  refine ⟨h.below.trans (hb.mono h.below.size), h.ok, fun k g => (hk k g).2, s, f, h1, h2, h3, fun g => ?_, fun g => ?_, fun g => ?_, ha.below hb⟩
  · exact (hk _ g).1.elim kb (by omega)
  · exact (hk _ g).1.elim ks (by omega)
  · exact (hk _ g).1.elim kf (by omega)
end
def St.freeI (st : St) (i : Int) : St := if st.is i then st.free i.toNat else st
def St.setI (st : St) (i : Int) (x : Nd) : St := if st.is i then st.set i.toNat x else st
def St.live (st : St) : Nat := st.used - st.freed.length
section
variable {w0 w : World} {b : Nat} {st : St} {K : List Nat}
theorem held_alloc (h : Held w0 w b st K) (hn : st.n ≤ 1000000) :
    Calls Try.prog 87 #[.pointer (some ⟨b, 0, none⟩)] w fun e w' => e = .returned (.int .i32 st.next) ∧ Held w0 w' b st.alloc K ∧ Kept K w w' := by
  obtain ⟨s, f, h1, h2, h3, kb, ks, kf, ha⟩ := h.mem
  refine (alloc_walk ha h.ok hn).mono ?_
  rintro e w' ⟨rfl, ht⟩
  exact ⟨rfl, held_turn h h1 h2 h3 kb ks kf (alloc_ok h.ok) ht⟩
theorem held_free (h : Held w0 w b st K) (hn : st.n ≤ 1000000) (i : Int) (h32 : i ≤ 2147483647) :
    Calls Try.prog 67 #[.pointer (some ⟨b, 0, none⟩), .int .i32 i] w fun e w' => e = .returned (.bool (st.is i)) ∧ Held w0 w' b (st.freeI i) K ∧ Kept K w w' := by
  obtain ⟨s, f, h1, h2, h3, kb, ks, kf, ha⟩ := h.mem
  cases hi : st.is i
  · refine (free_false ha (by omega) i h32 hi).mono ?_
    rintro e w' ⟨rfl, rfl⟩
    have e : st.freeI i = st := by unfold St.freeI; rw [hi]; rfl
    rw [e]
    exact ⟨rfl, h, fun _ _ => rfl⟩
  · obtain ⟨k, rfl, g1, g2, g3⟩ := St.is_nat h.ok hi
    refine (free_true ha h.ok (by omega) k g3 g1).mono ?_
    rintro e w' ⟨rfl, ho, ha'⟩
    have e : st.freeI k = st.free k := by unfold St.freeI; rw [hi]; rfl
    rw [e]
    exact ⟨rfl, held_turn h h1 h2 h3 kb ks kf (free_ok h.ok g3) ⟨ho, s, f, .inl rfl, .inl rfl, ha'⟩⟩
theorem held_set (h : Held w0 w b st K) (hn : st.n ≤ 1000000) (i : Int) (h32 : i ≤ 2147483647) (x : Nd) :
    Calls Try.prog 82 #[.pointer (some ⟨b, 0, none⟩), .int .i32 i, x.v] w fun e w' => e = .returned (.bool (st.is i)) ∧ Held w0 w' b (st.setI i x) K ∧ Kept K w w' := by
  obtain ⟨s, f, h1, h2, h3, kb, ks, kf, ha⟩ := h.mem
  cases hi : st.is i
  · refine (set_false ha (by omega) i h32 x hi).mono ?_
    rintro e w' ⟨rfl, hb⟩
    have e : st.setI i x = st := by unfold St.setI; rw [hi]; rfl
    rw [e]
    exact ⟨rfl, h.still hb⟩
  · obtain ⟨k, rfl, g1, g2, g3⟩ := St.is_nat h.ok hi
    refine (set_true ha (by omega) k g3 g1 x).mono ?_
    rintro e w' ⟨rfl, ho, ha'⟩
    have e : st.setI k x = st.set k x := by unfold St.setI; rw [hi]; rfl
    rw [e]
    exact ⟨rfl, held_turn h h1 h2 h3 kb ks kf (set_ok h.ok g3 x) ⟨ho.mono (by simp), s, f, .inl rfl, .inl rfl, ha'⟩⟩
theorem held_at (h : Held w0 w b st K) (hn : st.n ≤ 1000000) (i : Int) (h32 : i ≤ 2147483647) :
    Calls Try.prog 51 #[.pointer (some ⟨b, 0, none⟩), .int .i32 i] w fun e w' => e = .returned (st.at_ i).v ∧ Below w.heap.size w w' := by
  obtain ⟨s, f, h1, h2, h3, kb, ks, kf, ha⟩ := h.mem
  exact at_walk ha h.ok (by omega) i h32
theorem held_is (h : Held w0 w b st K) (hn : st.n ≤ 1000000) (i : Int) (h32 : i ≤ 2147483647) :
    Calls Try.prog 62 #[.pointer (some ⟨b, 0, none⟩), .int .i32 i] w fun e w' => e = .returned (.bool (st.is i)) ∧ w = w' := by
  obtain ⟨s, f, h1, h2, h3, kb, ks, kf, ha⟩ := h.mem
  exact is_walk ha h.ok (by omega) i h32
end
end Go.Proofs.Ytkhikpnlpcankaa
