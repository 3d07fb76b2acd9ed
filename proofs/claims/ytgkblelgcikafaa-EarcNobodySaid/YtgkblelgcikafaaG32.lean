/- Words and walks: EaN EaNb. -/
import Derived.Test.YtgkblelgcikafaaG14
import Derived.Test.YtgkblelgcikafaaG29
namespace Go.Proofs.Ytgkblelgcikafaa
open Go Go.RowKit Go.Deep
abbrev nilX : Value := .pointer none
def NX (w : World) (xn : Nat) (c p : Int) : Prop := w.heap[xn]? = some (.cells #[.pointer none, .int .i64 c, .int .i64 p] CaT (0, 0))
abbrev N3 (xn : Nat) (c p : Int) (w : World) : Prop := w.cell? ⟨xn, 0, none⟩ = some (.pointer none) ∧ w.cell? ⟨xn, 1, none⟩ = some (.int .i64 c) ∧ w.cell? ⟨xn, 2, none⟩ = some (.int .i64 p)
theorem NX.still {w w' : World} {xn : Nat} {c p : Int} (h : NX w xn c p) (hb : Below w.heap.size w w') : NX w' xn c p := (hb.block xn (head_row h).lt).trans h
theorem NX.cells {w : World} {xn : Nat} {c p : Int} (h : NX w xn c p) : N3 xn c p w := (c3_at h).1
theorem NX.new (w : World) : NX (w.alloc (.cells nilC CaT)) w.heap.size 0 0 := heap_alloc_new w _
theorem nxHas {w : World} {xn : Nat} {c p : Int} (h : NX w xn c p) (k : Value) :
    Calls Try.prog 17 #[ptr xn, k] w fun e w' => e = .returned (.bool false) ∧ Below w.heap.size w w' := by
  have hE := Lib.hid (fun (W : World) => eopen_walk (w := W) xn)
  obtain ⟨x0, x1, x2⟩ := h.cells
  clear h
  go_enter Try.func17, Try.ntmps17
  go_wp2_with fail
  refine (hE.out w).mono ?_
  rintro e w1 ⟨rfl, rfl⟩
  go_wp2_with fail
  refine (nFind w k).mono ?_
  rintro e w2 ⟨rfl, hb2⟩
  have HB := Lib.hid hb2
  clear hb2 x0 x1 x2
  go_wp2
  go_ret
  exact ⟨rfl, HB.out⟩
set_option maxHeartbeats 4000000 in
theorem nxEvict {w : World} {xn : Nat} {c p n : Int} {g : Bool} (h : NX w xn c p) (hn1 : 0 ≤ n) (hn2 : n ≤ 1048576) :
    Calls Try.prog 47 #[ptr xn, .int .i64 n, .bool g] w fun e w' => e = .returned (.slice none 0 0) ∧ Below w.heap.size w w' := by
  have HL : Hid (∀ W q, Below w.heap.size w W → Calls Try.prog 41 #[.pointer none, .int .i64 q] W fun e w' => e = .returned (.int .i64 0) ∧ Below w.heap.size w w') := Lib.hid (fun W q hb => (nLen W q).mono (fun e w' ⟨he, hb'⟩ => ⟨he, hb.trans (hb'.mono hb.size)⟩))
  have HKC : Hid (∀ W, Below w.heap.size w W → N3 xn c p W) := Lib.hid (fun W hb => (h.still hb).cells)
  obtain ⟨x0, x1, x2⟩ := h.cells
  clear h
  have hw : IntKind.i64.wrap (-n) = -n := IntWalk.i64_in _ (by omega)
  go_enter Try.func47, Try.ntmps47
  go_upto_region 2 with fail
  go_region_held3 (fun w' => w'.cell? ⟨xn, 0, none⟩ = some (.pointer none) ∧ w'.cell? ⟨xn, 1, none⟩ = some (.int .i64 c) ∧ w'.cell? ⟨xn, 2, none⟩ = some (.int .i64 p)) (first | with_reducible exact kk5 | with_reducible exact kk6 | go_keep)
    (first
      | (go_at_call 41; refine (HL.out _ 1 hb5).mono ?_; rintro e w6 ⟨rfl, hb6⟩; have kk6 := HKC.out w6 hb6)
      | (go_at_call 41; refine (HL.out _ 0 (below_drewn (Below.refl _ _) _)).mono ?_; rintro e w5 ⟨rfl, hb5⟩; have kk5 := HKC.out w5 hb5))
  have HB := Lib.hid hb6
  clear hb5 hb6 kk5 kk6 x0 x1 x2 HL HKC
  go_wp2_with fail
  go_loopg [7, 24] 0 (fun gg s7 s24 wr => s7 = .slice none 0 0 ∧ s24 = .int .i64 0 ∧ Hid (Below w.heap.size w wr))
  case atStart => exact ⟨rfl, rfl, HB⟩
  case round =>
    obtain ⟨rfl, rfl, HI⟩ := hrel
    have hlt : ¬ (0 : Int) < -n := by omega
    go_wp2
    go_ret
    exact ⟨rfl, HI.out⟩
set_option maxHeartbeats 4000000 in
theorem nxCut {w : World} {xn : Nat} {c p n q : Int} (h : NX w xn c p) (hn1 : -1048576 ≤ n) (hn2 : n ≤ 1048576) :
    Calls Try.prog 48 #[ptr xn, .int .i64 q, .int .i64 n] w fun e w' => e = .returned (.slice none 0 0) ∧ Below w.heap.size w w' := by
  obtain ⟨x0, x1, x2⟩ := h.cells
  clear h
  have HL := Lib.hid (nLen w q)
  rcases (by omega : n < 0 ∨ n = 0 ∨ 0 < n) with h1 | rfl | h1
  all_goals
    go_enter Try.func48, Try.ntmps48
    go_wp2_with fail
    refine HL.out.mono ?_
    rintro e w5 ⟨rfl, hb5⟩
    have HB := Lib.hid hb5
    clear hb5 HL x0 x1 x2
    go_wp2_with fail
    go_loopg [7, 19] 0 (fun gg s7 s19 wr => s7 = .slice none 0 0 ∧ s19 = .int .i64 0 ∧ Hid (Below w.heap.size w wr))
    case atStart => exact ⟨rfl, rfl, HB⟩
    case round =>
      obtain ⟨rfl, rfl, HI⟩ := hrel
      try (have hlt : ¬ (0 : Int) < -n := by omega)
      go_wp2
      go_ret
      exact ⟨rfl, HI.out⟩
set_option maxHeartbeats 4000000 in
theorem nxRoom {w : World} {xn : Nat} {p : Int} (h : NX w xn 0 p) :
    Calls Try.prog 45 #[ptr xn] w fun e w' => e = .returned (.slice none 0 0) ∧ Below w.heap.size w w' := by
  have HL : Hid (∀ W q, Below w.heap.size w W → Calls Try.prog 41 #[.pointer none, .int .i64 q] W fun e w' => e = .returned (.int .i64 0) ∧ Below w.heap.size w w') := Lib.hid (fun W q hb => (nLen W q).mono (fun e w' ⟨he, hb'⟩ => ⟨he, hb.trans (hb'.mono hb.size)⟩))
  have HKC : Hid (∀ W, Below w.heap.size w W → N3 xn 0 p W) := Lib.hid (fun W hb => (h.still hb).cells)
  have HCU : Hid (∀ W, Below w.heap.size w W → Calls Try.prog 48 #[ptr xn, .int .i64 0, .int .i64 (-1)] W fun e w' => e = .returned (.slice none 0 0) ∧ Below w.heap.size w w') := Lib.hid (fun W hb => (nxCut (q := 0) (h.still hb) (by omega) (by omega)).mono (fun e w' ⟨he, hb'⟩ => ⟨he, hb.trans (hb'.mono hb.size)⟩))
  obtain ⟨x0, x1, x2⟩ := h.cells
  clear h
  go_enter Try.func45, Try.ntmps45
  go_upto_region 1 with fail
  go_region_held3 (fun w' => w'.cell? ⟨xn, 0, none⟩ = some (.pointer none) ∧ w'.cell? ⟨xn, 1, none⟩ = some (.int .i64 0) ∧ w'.cell? ⟨xn, 2, none⟩ = some (.int .i64 p)) (first | with_reducible exact kk5 | with_reducible exact kk6 | go_keep)
    (first
      | (go_at_call 41; refine (HL.out _ 2 hb5).mono ?_; rintro e w6 ⟨rfl, hb6⟩; have kk6 := HKC.out w6 hb6)
      | (go_at_call 41; refine (HL.out _ 0 (below_drewn (Below.refl _ _) _)).mono ?_; rintro e w5 ⟨rfl, hb5⟩; have kk5 := HKC.out w5 hb5))
  have HC6 := Lib.hid (HCU.out w6 hb6)
  obtain ⟨y0, y1, y2⟩ := kk6
  clear hb5 hb6 kk5 HL HKC HCU x0 x1 x2
  go_wp2_with fail
  refine HC6.out.mono ?_
  rintro e w7 ⟨rfl, hb7⟩
  have HB := Lib.hid hb7
  clear hb7 HC6 y0 y1 y2
  go_wp2
  go_ret
  exact ⟨rfl, HB.out⟩
theorem enDrop (w : World) (k : Value) :
    Calls Try.prog 25 #[nilX, k] w fun e w' => e = .returned (.tuple #[]) ∧ Below w.heap.size w w' := by
  have hE := Lib.hid (eopen_nil w)
  have hN := NX.new w
  have HL := Lib.hid (low_one w (.cells nilC CaT))
  obtain ⟨x0, x1, x2⟩ := hN.cells
  clear hN
  go_enter Try.func25, Try.ntmps25
  go_wp2_with fail
  refine hE.out.mono ?_
  rintro e w1 ⟨rfl, rfl⟩
  go_wp2_with fail
  refine (nRemove _ k).mono ?_
  rintro e w2 ⟨rfl, hb2⟩
  have HB := Lib.hid (HL.out.trans (hb2.mono HL.out.size))
  clear hb2 x0 x1 x2
  go_wp2
  exact bodyPost_end (v := .tuple #[]) (by simp [results, Try.results25, go_sem]) rfl ⟨rfl, HB.out⟩
theorem enTouch (w : World) (k : Value) :
    Calls Try.prog 24 #[nilX, k] w fun e w' => e = .returned (.tuple #[]) ∧ Below w.heap.size w w' := by
  have hE := Lib.hid (eopen_nil w)
  have HN := Lib.hid (NX.new w)
  have HL := Lib.hid (low_one w (.cells nilC CaT))
  go_enter Try.func24, Try.ntmps24
  go_wp2_with fail
  refine hE.out.mono ?_
  rintro e w1 ⟨rfl, rfl⟩
  go_wp2_with fail
  refine (nxHas HN.out k).mono ?_
  rintro e w2 ⟨rfl, hb2⟩
  have HB := Lib.hid (HL.out.trans (hb2.mono HL.out.size))
  clear hb2
  go_wp2
  exact bodyPost_end (v := .tuple #[]) (by simp [results, Try.results24, go_sem]) rfl ⟨rfl, HB.out⟩
theorem enHas (w : World) (k : Value) :
    Calls Try.prog 17 #[nilX, k] w fun e w' => e = .returned (.bool false) ∧ Below w.heap.size w w' := by
  have hE := Lib.hid (eopen_nil w)
  have hN := NX.new w
  have HL := Lib.hid (low_one w (.cells nilC CaT))
  obtain ⟨x0, x1, x2⟩ := hN.cells
  clear hN
  go_enter Try.func17, Try.ntmps17
  go_wp2_with fail
  refine hE.out.mono ?_
  rintro e w1 ⟨rfl, rfl⟩
  go_wp2_with fail
  refine (nFind _ k).mono ?_
  rintro e w2 ⟨rfl, hb2⟩
  have HB := Lib.hid (HL.out.trans (hb2.mono HL.out.size))
  clear hb2 x0 x1 x2
  go_wp2
  go_ret
  exact ⟨rfl, HB.out⟩
set_option maxHeartbeats 4000000 in
set_option maxRecDepth 4000 in
theorem enGhosts (w : World) :
    Calls Try.prog 19 #[nilX] w fun e w' => e = .returned (.int .i64 0) ∧ Below w.heap.size w w' := by
  have hE := Lib.hid (eopen_nil w)
  have hN := NX.new w
  have hL := low_one w (.cells nilC CaT)
  have HL := Lib.hid hL
  have HKC : Hid (∀ W, Below (w.alloc (.cells nilC CaT)).heap.size (w.alloc (.cells nilC CaT)) W → N3 w.heap.size 0 0 W) := Lib.hid (fun W hb => (hN.still hb).cells)
  obtain ⟨x0, x1, x2⟩ := hN.cells
  clear hN hL
  generalize hw1 : w.alloc (.cells nilC CaT) = w1 at HL HKC x0 x1 x2 hE
  clear hw1
  have HK : Hid (∀ W q, Below w1.heap.size w1 W → Calls Try.prog 41 #[.pointer none, .int .i64 q] W fun e w' => e = .returned (.int .i64 0) ∧ Below w1.heap.size w1 w') := Lib.hid (fun W q hb => (nLen W q).mono (fun e w' ⟨he, hb'⟩ => ⟨he, hb.trans (hb'.mono hb.size)⟩))
  go_enter Try.func19, Try.ntmps19
  go_wp2_with fail
  refine hE.out.mono ?_
  rintro e w1 ⟨rfl, rfl⟩
  go_upto_region 2 with fail
  go_region_held3 (fun w' => w'.cell? ⟨w.heap.size, 0, none⟩ = some (.pointer none) ∧ w'.cell? ⟨w.heap.size, 1, none⟩ = some (.int .i64 0) ∧ w'.cell? ⟨w.heap.size, 2, none⟩ = some (.int .i64 0)) (first | with_reducible exact kk5 | with_reducible exact kk6 | go_keep)
    (first
      | (go_at_call 41; refine (HK.out _ 3 hb5).mono ?_; rintro e w6 ⟨rfl, hb6⟩; have kk6 := HKC.out w6 hb6)
      | (go_at_call 41; refine (HK.out _ 2 (below_drewn (Below.refl _ _) _)).mono ?_; rintro e w5 ⟨rfl, hb5⟩; have kk5 := HKC.out w5 hb5))
  have HB : Hid (Below w.heap.size w w6) := Lib.hid (HL.out.trans (hb6.mono HL.out.size))
  clear hb5 hb6 kk5 kk6 x0 x1 x2
  go_wp2
  go_ret
  exact ⟨rfl, HB.out⟩
theorem enRooms (w : World) :
    Calls Try.prog 22 #[nilX] w fun e w' => e = .returned (.tuple #[.int .i64 0, .int .i64 0]) ∧ Below w.heap.size w w' := by
  have hE := Lib.hid (eopen_nil w)
  have hN := NX.new w
  have HL := Lib.hid (low_one w (.cells nilC CaT))
  obtain ⟨x0, x1, x2⟩ := hN.cells
  clear hN
  go_enter Try.func22, Try.ntmps22
  go_wp2_with fail
  refine hE.out.mono ?_
  rintro e w1 ⟨rfl, rfl⟩
  go_wp2_with fail
  refine (nRooms _).mono ?_
  rintro e w2 ⟨rfl, hb2⟩
  have HB := Lib.hid (HL.out.trans (hb2.mono HL.out.size))
  clear hb2 x0 x1 x2
  go_wp2
  exact bodyPost_ret (v := .tuple #[.int .i64 0, .int .i64 0]) (by simp [results, Try.results22, go_sem]) rfl ⟨rfl, HB.out⟩
set_option maxHeartbeats 4000000 in
set_option maxRecDepth 4000 in
theorem enKeys (w : World) :
    Calls Try.prog 16 #[nilX] w fun e w' => ∃ F d, e = .returned (.slice F 0 d) ∧ Below w.heap.size w w' := by
  have hE := Lib.hid (eopen_nil w)
  have hN := NX.new w
  have hL := low_one w (.cells nilC CaT)
  have HL := Lib.hid hL
  have HKC : Hid (∀ W, Below (w.alloc (.cells nilC CaT)).heap.size (w.alloc (.cells nilC CaT)) W → N3 w.heap.size 0 0 W) := Lib.hid (fun W hb => (hN.still hb).cells)
  obtain ⟨x0, x1, x2⟩ := hN.cells
  clear hN hL
  generalize hw1 : w.alloc (.cells nilC CaT) = w1 at HL HKC x0 x1 x2 hE
  clear hw1
  have HK : Hid (∀ W q, Below w1.heap.size w1 W → Calls Try.prog 38 #[.pointer none, .int .i64 q] W fun e w' => e = .returned (.slice none 0 0) ∧ Below w1.heap.size w1 w') := Lib.hid (fun W q hb => (nKeys W q).mono (fun e w' ⟨he, hb'⟩ => ⟨he, hb.trans (hb'.mono hb.size)⟩))
  have HCC : Hid (∀ W, Below w1.heap.size w1 W → Calls Try.prog 39 #[.slice (some ⟨W.heap.size, 0, none⟩) 2 2] (W.alloc (.cells #[.slice none 0 0, .slice none 0 0] 26)) fun e w' => ∃ F d, e = .returned (.slice F 0 d) ∧ Below w1.heap.size w1 w') := Lib.hid (fun W hb => by
    refine (concat_walk (KVV.two (KV.nil W) (KV.nil W) 26) (by simp) (by simp)).mono ?_
    rintro e w' ⟨v, rfl, hk⟩
    have hk8 := hk.kv
    obtain ⟨F8, d8, rfl, _⟩ := hk8.mem
    exact ⟨_, _, rfl, (hb.trans ((low_one W _).mono hb.size)).trans (hk.low.mono (Nat.le_trans hb.size (by simp)))⟩)
  go_enter Try.func16, Try.ntmps16
  go_wp2_with fail
  refine hE.out.mono ?_
  rintro e w1 ⟨rfl, rfl⟩
  go_upto_region 2 with fail
  go_region_held3 (fun w' => w'.cell? ⟨w.heap.size, 0, none⟩ = some (.pointer none) ∧ w'.cell? ⟨w.heap.size, 1, none⟩ = some (.int .i64 0) ∧ w'.cell? ⟨w.heap.size, 2, none⟩ = some (.int .i64 0)) (first | with_reducible exact kk5 | with_reducible exact kk6 | with_reducible exact kk8 | go_keep)
    (first
      | (go_at_call 39; refine (HCC.out w6 hb6).mono ?_; rintro e w7 ⟨F7, d7, rfl, hb7⟩; have kk8 := HKC.out w7 hb7)
      | (go_at_call 38; refine (HK.out _ 1 hb5).mono ?_; rintro e w6 ⟨rfl, hb6⟩; have kk6 := HKC.out w6 hb6)
      | (go_at_call 38; refine (HK.out _ 0 (below_drewn (Below.refl _ _) _)).mono ?_; rintro e w5 ⟨rfl, hb5⟩; have kk5 := HKC.out w5 hb5))
  all_goals
    have HB : Hid (Below w.heap.size w w7) := Lib.hid (HL.out.trans (hb7.mono HL.out.size))
    clear hb5 hb6 hb7 kk5 kk6 kk8 x0 x1 x2
    go_wp2
    go_ret
    exact ⟨_, _, rfl, HB.out⟩
set_option maxHeartbeats 4000000 in
set_option maxRecDepth 4000 in
theorem enAdmit (w : World) (k : Value) :
    Calls Try.prog 26 #[nilX, k] w fun e w' => e = .returned (.slice none 0 0) ∧ Below w.heap.size w w' := by
  have hE := Lib.hid (eopen_nil w)
  have hN := NX.new w
  have hL := low_one w (.cells nilC CaT)
  have HL := Lib.hid hL
  have HNX : Hid (∀ W, Below (w.alloc (.cells nilC CaT)).heap.size (w.alloc (.cells nilC CaT)) W → NX W w.heap.size 0 0) := Lib.hid (fun W hb => hN.still hb)
  obtain ⟨x0, x1, x2⟩ := hN.cells
  clear hN hL
  obtain ⟨xn, hxn⟩ : ∃ xn, w.heap.size = xn := ⟨_, rfl⟩
  rw [hxn] at hE HNX x0 x1 x2
  clear hxn
  generalize hw1 : w.alloc (.cells nilC CaT) = w1 at HL HNX x0 x1 x2 hE
  clear hw1
  have HKC : Hid (∀ W, Below w1.heap.size w1 W → N3 xn 0 0 W) := Lib.hid (fun W hb => (HNX.out W hb).cells)
  have HK : Hid (∀ W q, Below w1.heap.size w1 W → Calls Try.prog 41 #[.pointer none, .int .i64 q] W fun e w' => e = .returned (.int .i64 0) ∧ Below w1.heap.size w1 w') := Lib.hid (fun W q hb => (nLen W q).mono (fun e w' ⟨he, hb'⟩ => ⟨he, hb.trans (hb'.mono hb.size)⟩))
  go_enter Try.func26, Try.ntmps26
  go_wp2_with fail
  refine hE.out.mono ?_
  rintro e w1 ⟨rfl, rfl⟩
  go_upto_region 2 with fail
  go_region_held3 (fun w' => w'.cell? ⟨xn, 0, none⟩ = some (.pointer none) ∧ w'.cell? ⟨xn, 1, none⟩ = some (.int .i64 0) ∧ w'.cell? ⟨xn, 2, none⟩ = some (.int .i64 0)) (first | with_reducible exact kk5 | with_reducible exact kk6 | go_keep)
    (first
      | (go_at_call 41; refine (HK.out _ 3 hb5).mono ?_; rintro e w6 ⟨rfl, hb6⟩; have kk6 := HKC.out w6 hb6)
      | (go_at_call 41; refine (HK.out _ 2 (below_drewn (Below.refl _ _) _)).mono ?_; rintro e w5 ⟨rfl, hb5⟩; have kk5 := HKC.out w5 hb5))
  have HB6 := Lib.hid hb6
  obtain ⟨y0, y1, y2⟩ := kk6
  clear hb5 hb6 kk5 x0 x1 x2 HK hE
  go_wp2_with fail
  refine (nFind w6 k).mono ?_
  rintro e w7 ⟨rfl, hb7⟩
  have HB7 := Lib.hid (HB6.out.trans (hb7.mono HB6.out.size))
  clear hb7 y0 y1 y2 HB6
  go_wp2_with fail
  refine (nxRoom (HNX.out w7 HB7.out)).mono ?_
  rintro e w8 ⟨rfl, hb8⟩
  have HB8 := Lib.hid (HB7.out.trans (hb8.mono HB7.out.size))
  obtain ⟨z0, z1, z2⟩ := HKC.out w8 HB8.out
  clear hb8 HB7 HNX HKC
  go_wp2_with fail
  refine (nPushFront w8 0 k).mono ?_
  rintro e w9 ⟨rfl, hb9⟩
  have HB9 : Hid (Below w.heap.size w w9) := Lib.hid (HL.out.trans ((HB8.out.trans (hb9.mono HB8.out.size)).mono HL.out.size))
  clear hb9 HB8 z0 z1 z2
  go_wp2
  go_ret
  exact ⟨rfl, HB9.out⟩
set_option maxHeartbeats 8000000 in
set_option maxRecDepth 4000 in
theorem enResize (w : World) (n : Int) (hn1 : -9223372036854775808 ≤ n) (hn2 : n ≤ 9223372036854775807) :
    Calls Try.prog 27 #[nilX, .int .i64 n] w fun e w' => e = .returned (.slice none 0 0) ∧ Below w.heap.size w w' := by
  have hE0 := eopen_nil w
  have hN := NX.new w
  have hL := low_one w (.cells nilC CaT)
  have HB := Lib.hid (fun (W : World) => ebounded_walk (w := W) n hn1 hn2)
  have hcp := capI_pos n
  obtain ⟨c, hcc⟩ : ∃ c, capI n = c := ⟨_, rfl⟩
  rw [hcc] at HB hcp
  generalize w.alloc (.cells nilC CaT) = w1 at hE0 hN hL
  obtain ⟨xn, hxn⟩ : ∃ xn, w.heap.size = xn := ⟨_, rfl⟩
  have HXN := Lib.hid hxn
  rw [hxn] at hE0 hN
  have hset := set_one (i := 1) (v := .int .i64 (c : Nat)) hN
  have ho : Only [xn] w1 (w1.setCell ⟨xn, 1, none⟩ (.int .i64 (c : Nat))) := (Only.refl _ _).setCell (by simp) _
  have HN : Hid (NX (w1.setCell ⟨xn, 1, none⟩ (.int .i64 (c : Nat))) xn (c : Nat) 0 ∧ Below w.heap.size w (w1.setCell ⟨xn, 1, none⟩ (.int .i64 (c : Nat)))) := Lib.hid ⟨hset, hL.trans (ho.below (by simp; omega) hL.size)⟩
  have hE := Lib.hid hE0
  obtain ⟨⟨x0, x1, x2⟩, f0, f1, f2⟩ := c3_at hN
  have hlt := (head_row hN).lt
  have hcI : (c : Int) ≤ 1048576 := by omega
  have hc1 : (1 : Int) ≤ (c : Int) := by omega
  clear hN hL hcc hset ho hE0 hxn hcp
  go_enter Try.func27, Try.ntmps27
  go_wp2_with fail
  refine hE.out.mono ?_
  rintro e w2 ⟨rfl, rfl⟩
  go_wp2_with fail
  refine (HB.out _).mono ?_
  rintro e w2 ⟨rfl, rfl⟩
  go_upto_region 3 with fail
  generalize World.setCell _ ⟨xn, 1, none⟩ (.int .i64 (c : Nat)) = W at HN ⊢
  clear x0 x1 x2 f0 f1 f2 HB hlt
  have hlt := (head_row HN.out.1).lt
  have HN2 : Hid (NX (W.setCell ⟨xn, 2, none⟩ (.int .i64 0)).drew xn (c : Nat) 0 ∧ Below w.heap.size w (W.setCell ⟨xn, 2, none⟩ (.int .i64 0)).drew) := Lib.hid (by
    have hs := set_one (i := 2) (v := .int .i64 0) HN.out.1
    have ho : Only [xn] W (W.setCell ⟨xn, 2, none⟩ (.int .i64 0)) := (Only.refl _ _).setCell (by simp) _
    exact ⟨hs, below_drew17 (HN.out.2.trans (ho.below (by have := HXN.out; simp; omega) HN.out.2.size))⟩)
  obtain ⟨⟨x0, x1, x2⟩, f0, f1, f2⟩ := c3_at HN.out.1
  go_cut [] (fun wx => wx = (W.setCell ⟨xn, 2, none⟩ (.int .i64 0)).drew)
  case first =>
    go_region
    all_goals
      go_wp2_with fail
      go_meet
      first | rfl | simp
  case rest =>
    obtain ⟨wx, hwx⟩ : ∃ x, x = wc := ⟨_, rfl⟩
    subst hwx
    have HN3 : Hid (NX wx xn (c : Nat) 0 ∧ Below w.heap.size w wx) := Lib.hid (by rw [hcut]; exact HN2.out)
    clear hcut HN2 HN x0 x1 x2 f0 f1 f2 hlt
    have HKC : Hid (∀ W, Below wx.heap.size wx W → N3 xn (c : Nat) 0 W) := Lib.hid (fun W hb => (HN3.out.1.still hb).cells)
    have HK : Hid (∀ W q, Below wx.heap.size wx W → Calls Try.prog 41 #[.pointer none, .int .i64 q] W fun e w' => e = .returned (.int .i64 0) ∧ Below wx.heap.size wx w') := Lib.hid (fun W q hb => (nLen W q).mono (fun e w' ⟨he, hb'⟩ => ⟨he, hb.trans (hb'.mono hb.size)⟩))
    have HCU : Hid (∀ W q x, Below wx.heap.size wx W → x = (c : Int) → Calls Try.prog 48 #[ptr xn, .int .i64 q, .int .i64 x] W fun e w' => e = .returned (.slice none 0 0) ∧ Below wx.heap.size wx w') := Lib.hid (fun W q x hb hxx => (nxCut (q := q) (HN3.out.1.still hb) (by omega) (by omega)).mono (fun e w' ⟨he, hb'⟩ => ⟨he, hb.trans (hb'.mono hb.size)⟩))
    have HW0 : Hid (IntKind.i64.wrap ((c : Int) - 0) = (c : Int)) := Lib.hid (IntWalk.i64_in _ (by omega) |>.trans (by omega))
    have HW1 : Hid (IntKind.i64.wrap (c : Int) = (c : Int)) := Lib.hid (IntWalk.i64_in _ (by omega))
    have HEV := Lib.hid (nxEvict (n := (c : Int)) (g := false) HN3.out.1 (by omega) (by omega))
    obtain ⟨x0, x1, x2⟩ := HKC.out wx (Below.refl _ _)
    go_wp2_with fail
    refine HEV.out.mono ?_
    rintro e w4 ⟨rfl, hb4⟩
    have HB4 := Lib.hid hb4
    clear hb4 HEV x0 x1 x2
    obtain ⟨x0, x1, x2⟩ := HKC.out w4 HB4.out
    go_upto_region 5 with fail
    go_region_held3 (fun w' => w'.cell? ⟨xn, 0, none⟩ = some (.pointer none) ∧ w'.cell? ⟨xn, 1, none⟩ = some (.int .i64 (c : Nat)) ∧ w'.cell? ⟨xn, 2, none⟩ = some (.int .i64 0)) (first | with_reducible exact kk5 | with_reducible exact kk6 | go_keep)
      (first
        | (go_at_call 48; refine (HCU.out _ 2 _ hb5 (by first | (with_reducible rfl) | (with_reducible exact HW0.out) | (with_reducible exact HW1.out))).mono ?_; rintro e w6 ⟨rfl, hb6⟩; have kk6 := HKC.out w6 hb6)
        | (go_at_call 41; refine (HK.out _ 0 (below_drewn HB4.out _)).mono ?_; rintro e w5 ⟨rfl, hb5⟩; have kk5 := HKC.out w5 hb5))
    have HB6 := Lib.hid hb6
    obtain ⟨y0, y1, y2⟩ := kk6
    clear hb5 hb6 kk5 x0 x1 x2
    go_upto_region 6 with fail
    go_region_held3 (fun w' => w'.cell? ⟨xn, 0, none⟩ = some (.pointer none) ∧ w'.cell? ⟨xn, 1, none⟩ = some (.int .i64 (c : Nat)) ∧ w'.cell? ⟨xn, 2, none⟩ = some (.int .i64 0)) (first | with_reducible exact kk7 | with_reducible exact kk8 | go_keep)
      (first
        | (go_at_call 48; refine (HCU.out _ 3 _ hb7 (by first | (with_reducible rfl) | (with_reducible exact HW0.out) | (with_reducible exact HW1.out))).mono ?_; rintro e w8 ⟨rfl, hb8⟩; have kk8 := HKC.out w8 hb8)
        | (go_at_call 41; refine (HK.out _ 2 (below_drewn HB6.out _)).mono ?_; rintro e w7 ⟨rfl, hb7⟩; have kk7 := HKC.out w7 hb7))
    have HR := Lib.hid (HN3.out.2.trans (hb8.mono HN3.out.2.size))
    clear hb7 hb8 kk7 kk8 y0 y1 y2
    go_wp2
    go_ret
    exact ⟨rfl, HR.out⟩
set_option maxHeartbeats 8000000 in
set_option maxRecDepth 8000 in
theorem enState (w : World) :
    Calls Try.prog 14 #[nilX] w fun e w' => e = .returned (.agg z11) ∧ Below w.heap.size w w' := by
  have hL0 := low_one w (.cells z11 PT11)
  have hr0 := heap_alloc_new w (.cells z11 PT11)
  have hE0 := eopen_nil (w.alloc (.cells z11 PT11))
  have hN := NX.new (w.alloc (.cells z11 PT11))
  have hL := low_one (w.alloc (.cells z11 PT11)) (.cells nilC CaT)
  have hlt : w.heap.size < (w.alloc (.cells z11 PT11)).heap.size := by simp
  have HR2 := Lib.hid ((hL.block w.heap.size hlt).trans hr0)
  have HL := Lib.hid (hL0.trans (hL.mono hL0.size))
  have hne : (w.alloc (.cells z11 PT11)).heap.size ≠ w.heap.size := by simp
  obtain ⟨xn, hxn⟩ : ∃ xn, (w.alloc (.cells z11 PT11)).heap.size = xn := ⟨_, rfl⟩
  rw [hxn] at hE0 hN hlt hne
  have hE := Lib.hid hE0
  have HNN := Lib.hid hN
  clear hL0 hr0 hN hL hE0 hxn
  go_enter Try.func14, Try.ntmps14
  go_wp2_with fail
  refine hE.out.mono ?_
  rintro e w1 ⟨rfl, rfl⟩
  go_upto_region 2 with fail
  generalize ((w.alloc (.cells z11 PT11)).alloc (.cells nilC CaT)) = X at HR2 HL HNN ⊢
  clear hE
  have hltX := (head_row HNN.out).lt
  have HKC : Hid (∀ W, Below X.heap.size X W → N3 xn 0 0 W ∧ W.heap[w.heap.size]? = some (.cells z11 PT11 (0, 0))) := Lib.hid (fun W hb => ⟨(HNN.out.still hb).cells, (hb.block w.heap.size (by omega)).trans HR2.out⟩)
  have HK : Hid (∀ W q, Below X.heap.size X W → Calls Try.prog 38 #[.pointer none, .int .i64 q] W fun e w' => e = .returned (.slice none 0 0) ∧ Below X.heap.size X w') := Lib.hid (fun W q hb => (nKeys W q).mono (fun e w' ⟨he, hb'⟩ => ⟨he, hb.trans (hb'.mono hb.size)⟩))
  obtain ⟨x0, x1, x2⟩ := HNN.out.cells
  obtain ⟨⟨r0, r1, r2, r3, r4, r5⟩, rf0, rf1, rf2, rf3, rf4, rf5⟩ := c6_at HR2.out
  generalize hrb : w.heap.size = rb at HR2 hne hlt r0 r1 r2 r3 r4 r5 rf0 rf1 rf2 rf3 rf4 rf5 HKC ⊢
  have HRB := Lib.hid hrb
  clear hrb
  go_region_held3 (fun w' => w'.cell? ⟨xn, 0, none⟩ = some (.pointer none) ∧ w'.cell? ⟨xn, 1, none⟩ = some (.int .i64 0) ∧ w'.cell? ⟨xn, 2, none⟩ = some (.int .i64 0)) (first | with_reducible exact kk5.1 | with_reducible exact kk6.1 | with_reducible exact kk7.1 | with_reducible exact kk8.1 | with_reducible exact KK1 _ (c6_set kk8.2 _ _ _ _ _ _).2 | go_keep)
    (first
      | (go_at_call 38; refine (HK.out _ 3 hb7).mono ?_; rintro e w8 ⟨rfl, hb8⟩; have kk8 := HKC.out w8 hb8; obtain ⟨⟨y0, y1, y2, y3, y4, y5⟩, yf0, yf1, yf2, yf3, yf4, yf5⟩ := c6_at kk8.2; have hX8 := hb8.size; have KK1 := fun (W : World) (ho : Only [rb] w8 W) => (⟨(World.cell?_of_block (w := w8) (ho.block xn (by omega) (by simp; omega))).trans kk8.1.1, (World.cell?_of_block (w := w8) (ho.block xn (by omega) (by simp; omega))).trans kk8.1.2.1, (World.cell?_of_block (w := w8) (ho.block xn (by omega) (by simp; omega))).trans kk8.1.2.2⟩ : W.cell? ⟨xn, 0, none⟩ = some (.pointer none) ∧ W.cell? ⟨xn, 1, none⟩ = some (.int .i64 0) ∧ W.cell? ⟨xn, 2, none⟩ = some (.int .i64 0)))
      | (go_at_call 38; refine (HK.out _ 2 hb6).mono ?_; rintro e w7 ⟨rfl, hb7⟩; have kk7 := HKC.out w7 hb7)
      | (go_at_call 38; refine (HK.out _ 1 hb5).mono ?_; rintro e w6 ⟨rfl, hb6⟩; have kk6 := HKC.out w6 hb6)
      | (go_at_call 38; refine (HK.out _ 0 (below_drewn (Below.refl _ _) _)).mono ?_; rintro e w5 ⟨rfl, hb5⟩; have kk5 := HKC.out w5 hb5))
  all_goals
    have HB8 := Lib.hid hb8
    clear hb5 hb6 hb7 hb8 kk5 kk6 kk7
    go_wp2_with fail
    have HO : Hid (Only [rb] w8 ((((((w8.setCell ⟨rb, 0, none⟩ (.int .i64 0)).setCell ⟨rb, 1, none⟩ (.int .i64 0)).setCell ⟨rb, 2, none⟩ (.slice none 0 0)).setCell ⟨rb, 3, none⟩ (.slice none 0 0)).setCell ⟨rb, 4, none⟩ (.slice none 0 0)).setCell ⟨rb, 5, none⟩ (.slice none 0 0))) := Lib.hid (((((((Only.refl _ _).setCell (by simp) _).setCell (by simp) _).setCell (by simp) _).setCell (by simp) _).setCell (by simp) _).setCell (by simp) _)
    have HF := Lib.hid (HL.out.trans (HB8.out.mono HL.out.size))
    exact bodyPost_ret (v := .agg z11) (by simp [results, Try.results14, go_sem, y0, y1, y2, y3, y4, y5]) rfl ⟨rfl, HF.out.trans (HO.out.below (by have := HRB.out; simp; omega) HF.out.size)⟩
set_option maxHeartbeats 4000000 in
set_option maxRecDepth 4000 in
theorem nobody17_walk (w : World) (k : Nat) (c : Int) (hc1 : -9223372036854775808 ≤ c) (hc2 : c ≤ 9223372036854775807) : Calls Try.prog 6 #[.int .u64 (k : Nat), .int .i64 c] w (RetB w true) := by
  have HAW := Lib.hid (awake17_walk w)
  have HN : Hid (∀ W, Below w.heap.size w W → Calls Try.prog 8 #[.int .i64 c] W fun e w' => ∃ xp, e = .returned (ptr xp) ∧ EC w w' xp (L11.new c) 0) := Lib.hid (fun W hb => (enew_walk hb c hc1 hc2).mono (fun e w' ⟨xp, he, h, _⟩ => ⟨xp, he, h⟩))
  have HC := Lib.hid (fun (W : World) => rcap_walk (w := W) c hc1 hc2)
  have hfld0 : ∀ w : World, (Instr.field PT11 (.agg z11) 0).run Try.prog w = .ok (.int .i64 0) w := fun _ => by kernel_rfl
  have hfld1 : ∀ (u1 u2 u3 u4 : Value) (w : World), (Instr.field PT11 (.agg (l11C (capI c) (L11.new c).p u1 u2 u3 u4)) 0).run Try.prog w = .ok (.int .i64 (capI c : Nat)) w := fun _ _ _ _ _ => by kernel_rfl
  have HE : Hid ((L11.new c).c = capI c) := Lib.hid (L11.new_c0 c)
  go_enter Try.func6, Try.ntmps6
  go_wp2_with fail
  refine HAW.out.mono ?_
  rintro e w1 ⟨rfl, hb⟩
  have HB1 := Lib.hid hb
  clear hb HAW
  go_wp2_with fail
  refine (enTouch w1 _).mono ?_
  rintro e w2 ⟨rfl, hb⟩
  have HB2 := Lib.hid (HB1.out.trans (hb.mono HB1.out.size))
  clear hb HB1
  go_wp2_with fail
  refine (enDrop w2 _).mono ?_
  rintro e w3 ⟨rfl, hb⟩
  have HB3 := Lib.hid (HB2.out.trans (hb.mono HB2.out.size))
  clear hb HB2
  go_wp2_with fail
  refine (enRooms w3).mono ?_
  rintro e w4 ⟨rfl, hb⟩
  have HB4 := Lib.hid (HB3.out.trans (hb.mono HB3.out.size))
  clear hb HB3
  go_wp2_with fail
  refine (enAdmit w4 _).mono ?_
  rintro e w5 ⟨rfl, hb⟩
  have HB5 := Lib.hid (HB4.out.trans (hb.mono HB4.out.size))
  clear hb HB4
  go_wp2_with fail
  refine (enResize w5 c hc1 hc2).mono ?_
  rintro e w6 ⟨rfl, hb⟩
  have HB6 := Lib.hid (HB5.out.trans (hb.mono HB5.out.size))
  clear hb HB5
  go_wp2_with fail
  refine (enHas w6 _).mono ?_
  rintro e w7 ⟨rfl, hb⟩
  have HB7 := Lib.hid (HB6.out.trans (hb.mono HB6.out.size))
  clear hb HB6
  go_wp2_with fail
  refine (enKeys w7).mono ?_
  rintro e w8 ⟨F8, d8, rfl, hb⟩
  have HB8 := Lib.hid (HB7.out.trans (hb.mono HB7.out.size))
  clear hb HB7
  go_wp2_with fail
  refine (enGhosts w8).mono ?_
  rintro e w8b ⟨rfl, hb⟩
  have HB8b := Lib.hid (HB8.out.trans (hb.mono HB8.out.size))
  clear hb HB8
  go_wp2_with fail
  refine (enState w8b).mono ?_
  rintro e w9 ⟨rfl, hb⟩
  have HB9 := Lib.hid (HB8b.out.trans (hb.mono HB8b.out.size))
  clear hb HB8b
  go_wp2_with fail
  refine (HN.out w9 HB9.out).mono ?_
  rintro e wa ⟨xp, rfl, h⟩
  have HX := Lib.hid h
  clear h HN HB9
  go_wp2_with fail
  refine (estate_walk HX.out).mono ?_
  rintro e wb ⟨u1, u2, u3, u4, he, hb, _⟩
  rw [HE.out] at he
  subst he
  have HBb := Lib.hid (HX.out.below.trans (hb.mono HX.out.below.size))
  clear hb HX
  go_wp2_with fail
  refine (HC.out wb).mono ?_
  rintro e wc ⟨rfl, rfl⟩
  go_wp2
  go_ret
  exact ⟨rfl, HBb.out⟩
end Go.Proofs.Ytgkblelgcikafaa
