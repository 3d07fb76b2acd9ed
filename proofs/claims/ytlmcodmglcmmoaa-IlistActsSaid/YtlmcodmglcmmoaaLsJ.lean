/- Package ilist: setAfter, setBefore, join. -/
import Derived.Test.YtlmcodmglcmmoaaLsL
import Derived.Deep.RegionHeld3
namespace Go.Proofs.Ytlmcodmglcmmoaa
open Go Go.RowKit Go.Deep

theorem six_cells {W : World} {g : Nat} {t : TypeId} {b0 b1 b2 b3 b4 b5 : Value} (h : W.heap[g]? = some (.cells #[b0, b1, b2, b3, b4, b5] t (0, 0))) :
    W.cell? ⟨g, 0, none⟩ = some b0 ∧ W.cell? ⟨g, 1, none⟩ = some b1 ∧ W.cell? ⟨g, 2, none⟩ = some b2 ∧ W.cell? ⟨g, 3, none⟩ = some b3 ∧ W.cell? ⟨g, 4, none⟩ = some b4 ∧ W.cell? ⟨g, 5, none⟩ = some b5 :=
  ⟨(head_row h).cell (i := 0) (by simp), (head_row h).cell (i := 1) (by simp), (head_row h).cell (i := 2) (by simp), (head_row h).cell (i := 3) (by simp), (head_row h).cell (i := 4) (by simp), (head_row h).cell (i := 5) (by simp)⟩
abbrev Nd.cells (y : Nd) : Array Value := #[.int .u64 y.key, .int .u64 y.val, .int .i64 y.flag, .int .i64 y.tag, .int .i32 y.prev, .int .i32 y.next]

section
variable {w0 w w1 w2 w' : World} {p b e : Nat} {x : LSt} {K : List Nat}
/- A local variable's block beside the lists. -/
theorem HeldL.boxed (h : HeldL w0 w p b x K) (hb : Below w.heap.size w w1) (cs : Array Value) (T : TypeId) :
    HeldL w0 (w1.alloc (.cells cs T)) p b x (w1.heap.size :: K) ∧ Kept K w (w1.alloc (.cells cs T)) ∧ (w1.alloc (.cells cs T)).heap[w1.heap.size]? = some (.cells cs T (0, 0)) ∧ Below w.heap.size w (w1.alloc (.cells cs T)) := by
  have hsz := hb.size
  have hb2 := hb.alloc hsz (.cells cs T)
  refine ⟨h.other hb2 (fun k hk => ?_), (h.still hb2).2, heap_alloc_new w1 _, hb2⟩
  rcases List.mem_cons.1 hk with rfl | hk
  · exact ⟨.inr hsz, by simp⟩
  · exact ⟨.inl hk, by have := h.old k hk; simp; omega⟩
theorem HeldL.unbox {q : Nat} (h : HeldL w0 w p b x (q :: K)) : HeldL w0 w p b x K :=
  h.other (Below.refl _ _) (fun k hk => ⟨.inl (by simp [hk]), h.old k (by simp [hk])⟩)
theorem Kept.trans {w2 : World} (h : Kept K w w1) (k : Kept K w1 w2) : Kept K w w2 := fun i hi => (k i hi).trans (h i hi)
theorem Kept.tail {q : Nat} (h : Kept (q :: K) w w1) : Kept K w w1 := fun i hi => h i (by simp [hi])
theorem HeldL.c0 (h : HeldL w0 w p b x K) : w.cell? ⟨p, 0, none⟩ = some (.pointer (some ⟨b, 0, none⟩)) := by
  obtain ⟨e, hs⟩ := h.seen
  exact hs.c0
theorem HeldL.taken (h : HeldL w0 w p b x K) {i : Nat} (hi : x.st.tk i = true) : 0 < i ∧ i ≤ 1000000 ∧ x.st.is i = true ∧ x.st.at_ i = x.st.node i := by
  have h1 := tk_bounds hi
  have h2 := h.ok.room
  have h3 := h.small
  have his : x.st.is i = true := by unfold St.is; rw [decide_eq_true (by omega)]; simpa using hi
  exact ⟨by omega, by omega, his, by unfold St.at_; rw [his]; rfl⟩

theorem setAfter_end (h : HeldL w0 w p b x K) (t : Nat) (ht : t < x.n) (v : Int) :
    Calls Try.prog 56 #[.pointer (some ⟨p, 0, none⟩), .int .i64 t, .int .i32 0, .int .i32 v] w fun e w' => e = .returned (.tuple #[]) ∧ HeldL w0 w' p b (x.setEn t { x.en t with front := v }) K ∧ Kept K w w' := by
  obtain ⟨e, hs⟩ := h.seen
  have c1 := hs.c1
  have c2 := hs.en0 ht
  have z2 := hs.row.frozen (t * 3)
  have h8 := h.eight
  have HE := Lib.hid (h.store hs t 0 (by decide) { x.en t with front := v } (.int .i32 v) rfl (fun k hk hne => by
    match k, hk with
    | 0, _ => first | rfl | exact absurd rfl hne
    | 1, _ => first | rfl | exact absurd rfl hne
    | 2, _ => rfl))
  clear h hs
  go_enter Try.func56, Try.ntmps56
  go_wp2
  exact bodyPost_ret (results_none rfl _ _ _) rfl ⟨rfl, HE.out⟩

theorem setAfter_some (h : HeldL w0 w p b x K) (t : Nat) (i : Nat) (hi : x.st.tk i = true) (v : Int) :
    Calls Try.prog 56 #[.pointer (some ⟨p, 0, none⟩), .int .i64 t, .int .i32 i, .int .i32 v] w fun e w' => e = .returned (.tuple #[]) ∧ HeldL w0 w' p b (x.setNd i { x.st.node i with next := v }) K ∧ Kept K w w' := by
  obtain ⟨e, hs⟩ := h.seen
  have c0 := hs.c0
  have hp := hs.lp
  obtain ⟨hi0, hlt, _, e0⟩ := h.taken hi
  have hat := heldl_at h i (by omega)
  rw [e0] at hat
  obtain ⟨y, hy⟩ : ∃ y, x.st.node i = y := ⟨_, rfl⟩
  rw [hy] at hat ⊢
  have HAT := Lib.hid hat
  have H := Lib.hid h
  have HI := Lib.hid hi
  clear h hs hat e0 hy hi
  obtain ⟨y', hy'⟩ : ∃ y' : Nd, y' = { y with next := v } := ⟨_, rfl⟩
  rw [← hy']
  have HY := Lib.hid hy'
  clear hy'
  go_enter Try.func56, Try.ntmps56
  go_wp2_with fail
  refine HAT.out.mono ?_
  rintro e w1 ⟨rfl, hb⟩
  have c1 := (hb.cell hp).trans c0
  clear c0
  go_wp2_with fail
  have hx := H.out.boxed hb #[.int .u64 y.key, .int .u64 y.val, .int .i64 y.flag, .int .i64 y.tag, .int .i32 y.prev, .int .i32 v] 56
  have hyc : (#[.int .u64 y.key, .int .u64 y.val, .int .i64 y.flag, .int .i64 y.tag, .int .i32 y.prev, .int .i32 v] : Array Value) = y'.cells := by rw [HY.out]
  rw [hyc] at hx ⊢
  obtain ⟨q, hq⟩ : ∃ q, w1.heap.size = q := ⟨_, rfl⟩
  rw [hq] at hx ⊢
  obtain ⟨W, hW⟩ : ∃ W, w1.alloc (.cells y'.cells 56) = W := ⟨_, rfl⟩
  rw [hW] at hx ⊢
  clear hW hyc hq c1 hb
  obtain ⟨hx1, hx2, hx3, _⟩ := hx
  have HX := Lib.hid hx1
  have HK := Lib.hid hx2
  have HS := Lib.hid hx3
  have cc0 := hx1.c0
  obtain ⟨d0, d1, d2, d3, d4, d5⟩ := six_cells hx3
  clear hx1 hx2 hx3
  go_region_held3 (fun w' => w'.cell? ⟨p, 0, none⟩ = some (.pointer (some ⟨b, 0, none⟩)) ∧ w'.cell? ⟨q, 0, none⟩ = some (.int .u64 y'.key) ∧ w'.cell? ⟨q, 1, none⟩ = some (.int .u64 y'.val) ∧ w'.cell? ⟨q, 2, none⟩ = some (.int .i64 y'.flag) ∧ w'.cell? ⟨q, 3, none⟩ = some (.int .i64 y'.tag) ∧ w'.cell? ⟨q, 4, none⟩ = some (.int .i32 y'.prev) ∧ w'.cell? ⟨q, 5, none⟩ = some (.int .i32 y'.next))
    (first | go_keep | exact kk0)
    (first | (go_at_call 30; refine (heldl_set (HX.out.still (Below.refl _ _).drew).1 i HI.out y').mono ?_; rintro e w2 ⟨rfl, h1, h2⟩; have kk0 := And.intro h1.c0 (six_cells ((h2 q (by simp)).trans HS.out))))
  have H1 := Lib.hid h1.unbox
  have H2 := Lib.hid (HK.out.trans (Kept.tail h2))
  clear h1 h2 kk0
  go_wp2
  go_end0
  exact ⟨rfl, H1.out, H2.out⟩

theorem setBefore_end (h : HeldL w0 w p b x K) (t : Nat) (ht : t < x.n) (v : Int) :
    Calls Try.prog 57 #[.pointer (some ⟨p, 0, none⟩), .int .i64 t, .int .i32 0, .int .i32 v] w fun e w' => e = .returned (.tuple #[]) ∧ HeldL w0 w' p b (x.setEn t { x.en t with back := v }) K ∧ Kept K w w' := by
  obtain ⟨e, hs⟩ := h.seen
  have c1 := hs.c1
  have c2 := hs.en1 ht
  have z2 := hs.row.frozen (t * 3 + 1)
  have h8 := h.eight
  have HE := Lib.hid (h.store hs t 1 (by decide) { x.en t with back := v } (.int .i32 v) rfl (fun k hk hne => by
    match k, hk with
    | 0, _ => first | rfl | exact absurd rfl hne
    | 1, _ => first | rfl | exact absurd rfl hne
    | 2, _ => rfl))
  clear h hs
  go_enter Try.func57, Try.ntmps57
  go_wp2
  exact bodyPost_ret (results_none rfl _ _ _) rfl ⟨rfl, HE.out⟩

theorem setBefore_some (h : HeldL w0 w p b x K) (t : Nat) (i : Nat) (hi : x.st.tk i = true) (v : Int) :
    Calls Try.prog 57 #[.pointer (some ⟨p, 0, none⟩), .int .i64 t, .int .i32 i, .int .i32 v] w fun e w' => e = .returned (.tuple #[]) ∧ HeldL w0 w' p b (x.setNd i { x.st.node i with prev := v }) K ∧ Kept K w w' := by
  obtain ⟨e, hs⟩ := h.seen
  have c0 := hs.c0
  have hp := hs.lp
  obtain ⟨hi0, hlt, _, e0⟩ := h.taken hi
  have hat := heldl_at h i (by omega)
  rw [e0] at hat
  obtain ⟨y, hy⟩ : ∃ y, x.st.node i = y := ⟨_, rfl⟩
  rw [hy] at hat ⊢
  have HAT := Lib.hid hat
  have H := Lib.hid h
  have HI := Lib.hid hi
  clear h hs hat e0 hy hi
  obtain ⟨y', hy'⟩ : ∃ y' : Nd, y' = { y with prev := v } := ⟨_, rfl⟩
  rw [← hy']
  have HY := Lib.hid hy'
  clear hy'
  go_enter Try.func57, Try.ntmps57
  go_wp2_with fail
  refine HAT.out.mono ?_
  rintro e w1 ⟨rfl, hb⟩
  have c1 := (hb.cell hp).trans c0
  clear c0
  go_wp2_with fail
  have hx := H.out.boxed hb #[.int .u64 y.key, .int .u64 y.val, .int .i64 y.flag, .int .i64 y.tag, .int .i32 v, .int .i32 y.next] 56
  have hyc : (#[.int .u64 y.key, .int .u64 y.val, .int .i64 y.flag, .int .i64 y.tag, .int .i32 v, .int .i32 y.next] : Array Value) = y'.cells := by rw [HY.out]
  rw [hyc] at hx ⊢
  obtain ⟨q, hq⟩ : ∃ q, w1.heap.size = q := ⟨_, rfl⟩
  rw [hq] at hx ⊢
  obtain ⟨W, hW⟩ : ∃ W, w1.alloc (.cells y'.cells 56) = W := ⟨_, rfl⟩
  rw [hW] at hx ⊢
  clear hW hyc hq c1 hb
  obtain ⟨hx1, hx2, hx3, _⟩ := hx
  have HX := Lib.hid hx1
  have HK := Lib.hid hx2
  have HS := Lib.hid hx3
  have cc0 := hx1.c0
  obtain ⟨d0, d1, d2, d3, d4, d5⟩ := six_cells hx3
  clear hx1 hx2 hx3
  go_region_held3 (fun w' => w'.cell? ⟨p, 0, none⟩ = some (.pointer (some ⟨b, 0, none⟩)) ∧ w'.cell? ⟨q, 0, none⟩ = some (.int .u64 y'.key) ∧ w'.cell? ⟨q, 1, none⟩ = some (.int .u64 y'.val) ∧ w'.cell? ⟨q, 2, none⟩ = some (.int .i64 y'.flag) ∧ w'.cell? ⟨q, 3, none⟩ = some (.int .i64 y'.tag) ∧ w'.cell? ⟨q, 4, none⟩ = some (.int .i32 y'.prev) ∧ w'.cell? ⟨q, 5, none⟩ = some (.int .i32 y'.next))
    (first | go_keep | exact kk0)
    (first | (go_at_call 30; refine (heldl_set (HX.out.still (Below.refl _ _).drew).1 i HI.out y').mono ?_; rintro e w2 ⟨rfl, h1, h2⟩; have kk0 := And.intro h1.c0 (six_cells ((h2 q (by simp)).trans HS.out))))
  have H1 := Lib.hid h1.unbox
  have H2 := Lib.hid (HK.out.trans (Kept.tail h2))
  clear h1 h2 kk0
  go_wp2
  go_end0
  exact ⟨rfl, H1.out, H2.out⟩
end
end Go.Proofs.Ytlmcodmglcmmoaa
