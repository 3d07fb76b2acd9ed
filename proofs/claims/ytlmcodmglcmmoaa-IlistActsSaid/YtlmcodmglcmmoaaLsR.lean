/- Package ilist: PushFront, PushBack, Remove. -/
import Derived.Test.YtlmcodmglcmmoaaLsS
namespace Go.Proofs.Ytlmcodmglcmmoaa
open Go Go.RowKit Go.Deep

section
variable {w0 w w1 w2 w' : World} {p b e : Nat} {x : LSt} {K : List Nat}
theorem closFront (h : HeldL w0 w p b x K) (tag : Int) (B0 B1 : Nat) (g0 : w.cell? ⟨B0, 0, none⟩ = some (.pointer (some ⟨p, 0, none⟩))) (g1 : w.cell? ⟨B1, 0, none⟩ = some (.int .i64 tag)) :
    Calls Try.prog 48 #[.pointer (some ⟨B0, 0, none⟩), .pointer (some ⟨B1, 0, none⟩)] w fun e w' => e = .returned (.tuple #[.int .i32 0, .int .i32 (x.front tag)]) ∧ w = w' := by
  have H := Lib.hid (front_walk h tag)
  clear h
  go_enter Try.func48, Try.ntmps48
  go_wp2_with fail
  refine H.out.mono ?_
  rintro e w' ⟨rfl, rfl⟩
  go_wp2
  go_ret2
  exact ⟨rfl, rfl⟩

theorem pushFront_no (h : HeldL w0 w p b x K) (tag i : Int) (h32 : i ≤ 2147483647) (hT : 0 ≤ (x.st.at_ i).tag ∧ (x.st.at_ i).tag ≤ 8) (hno : (x.has tag && x.st.is i && decide ((x.st.at_ i).tag = 0)) = false) :
    Calls Try.prog 22 #[.pointer (some ⟨p, 0, none⟩), .int .i64 tag, .int .i32 i] w fun e w' => e = .returned (.bool false) ∧ Below w.heap.size w w' := by
  have hb : Below w.heap.size w ((w.alloc (.cells #[.pointer (some ⟨p, 0, none⟩)] 25)).alloc (.cells #[.int .i64 tag] 3)) := ((Below.refl _ _).alloc (Nat.le_refl _) _).alloc (by simp) _
  have H := Lib.hid (pushFront_not (h.still hb).1 tag i h32 hT hno w.heap.size (w.heap.size + 1))
  have HB := Lib.hid hb
  clear h hb hno hT
  go_enter Try.func22, Try.ntmps22
  go_wp2_with fail
  refine H.out.mono ?_
  rintro e w' ⟨rfl, hb2⟩
  have HB2 := Lib.hid (HB.out.trans (hb2.mono HB.out.size))
  clear hb2
  go_wp2
  go_ret
  exact ⟨rfl, HB2.out⟩

theorem pushFront_done (h : HeldL w0 w p b x K) (t i : Nat) (ht : t < x.n) (hi : x.st.tk i = true) (hT : (x.st.node i).tag = 0) (hn : 0 ≤ (x.en t).count ∧ (x.en t).count ≤ 1000000) (c : Nat) (he : (x.en t).front = c) (hc : c = 0 ∨ x.st.tk c = true) :
    Calls Try.prog 22 #[.pointer (some ⟨p, 0, none⟩), .int .i64 t, .int .i32 i] w fun e w' => e = .returned (.bool true) ∧ HeldL w0 w' p b (x.push t i 0 c) K ∧ Kept K w w' := by
  have hb1 : Below w.heap.size w (w.alloc (.cells #[.pointer (some ⟨p, 0, none⟩)] 25)) := (Below.refl _ _).alloc (Nat.le_refl _) _
  have hb : Below w.heap.size w ((w.alloc (.cells #[.pointer (some ⟨p, 0, none⟩)] 25)).alloc (.cells #[.int .i64 t] 3)) := hb1.alloc (by simp) _
  have hs := h.still hb
  have g0 : ((w.alloc (.cells #[.pointer (some ⟨p, 0, none⟩)] 25)).alloc (.cells #[.int .i64 t] 3)).cell? ⟨w.heap.size, 0, none⟩ = some (.pointer (some ⟨p, 0, none⟩)) := by
    have := (Below.heap_alloc (w.alloc (.cells #[.pointer (some ⟨p, 0, none⟩)] 25)) (.cells #[.int .i64 t] 3) w.heap.size (by simp)).trans (heap_alloc_new w _)
    exact (head_row this).cell (i := 0) (by simp)
  have g1 : ((w.alloc (.cells #[.pointer (some ⟨p, 0, none⟩)] 25)).alloc (.cells #[.int .i64 t] 3)).cell? ⟨w.heap.size + 1, 0, none⟩ = some (.int .i64 t) := by
    have := heap_alloc_new (w.alloc (.cells #[.pointer (some ⟨p, 0, none⟩)] 25)) (.cells #[.int .i64 t] 3)
    rw [World.size_alloc] at this
    exact (head_row this).cell (i := 0) (by simp)
  have hsz : ((w.alloc (.cells #[.pointer (some ⟨p, 0, none⟩)] 25)).alloc (.cells #[.int .i64 t] 3)).heap.size = w.heap.size + 2 := by simp
  have hcl : ∀ w1, Below ((w.alloc (.cells #[.pointer (some ⟨p, 0, none⟩)] 25)).alloc (.cells #[.int .i64 t] 3)).heap.size ((w.alloc (.cells #[.pointer (some ⟨p, 0, none⟩)] 25)).alloc (.cells #[.int .i64 t] 3)) w1 →
      Calls Try.prog 48 #[.pointer (some ⟨w.heap.size, 0, none⟩), .pointer (some ⟨w.heap.size + 1, 0, none⟩)] w1 fun e w' => e = .returned (.tuple #[.int .i32 (0 : Nat), .int .i32 c]) ∧ w1 = w' := fun w1 hb1 => by
    have hh := closFront (hs.1.still hb1).1 t w.heap.size (w.heap.size + 1) ((hb1.cell (by rw [hsz]; show w.heap.size < _; omega)).trans g0) ((hb1.cell (by rw [hsz]; show w.heap.size + 1 < _; omega)).trans g1)
    have e1 : x.front t = c := by unfold LSt.front; rw [LSt.has_of ht]; exact he
    rw [e1] at hh
    exact hh
  have H := Lib.hid (pushFront_yes hs.1 t i ht hi hT hn 0 c (.inl rfl) hc w.heap.size (w.heap.size + 1) hcl)
  have HK := Lib.hid hs.2
  clear h hb hb1 hs hcl g0 g1 hi hT hn hc he ht hsz
  go_enter Try.func22, Try.ntmps22
  go_wp2_with fail
  refine H.out.mono ?_
  rintro e w' ⟨rfl, h1, h2⟩
  have H1 := Lib.hid h1
  have H2 := Lib.hid (HK.out.trans h2)
  clear h1 h2
  go_wp2
  go_ret
  exact ⟨rfl, H1.out, H2.out⟩

theorem closBack (h : HeldL w0 w p b x K) (tag : Int) (B0 B1 : Nat) (g0 : w.cell? ⟨B0, 0, none⟩ = some (.pointer (some ⟨p, 0, none⟩))) (g1 : w.cell? ⟨B1, 0, none⟩ = some (.int .i64 tag)) :
    Calls Try.prog 50 #[.pointer (some ⟨B0, 0, none⟩), .pointer (some ⟨B1, 0, none⟩)] w fun e w' => e = .returned (.tuple #[.int .i32 (x.back tag), .int .i32 0]) ∧ w = w' := by
  have H := Lib.hid (back_walk h tag)
  clear h
  go_enter Try.func50, Try.ntmps50
  go_wp2_with fail
  refine H.out.mono ?_
  rintro e w' ⟨rfl, rfl⟩
  go_wp2
  go_ret2
  exact ⟨rfl, rfl⟩

theorem pushBack_no (h : HeldL w0 w p b x K) (tag i : Int) (h32 : i ≤ 2147483647) (hT : 0 ≤ (x.st.at_ i).tag ∧ (x.st.at_ i).tag ≤ 8) (hno : (x.has tag && x.st.is i && decide ((x.st.at_ i).tag = 0)) = false) :
    Calls Try.prog 26 #[.pointer (some ⟨p, 0, none⟩), .int .i64 tag, .int .i32 i] w fun e w' => e = .returned (.bool false) ∧ Below w.heap.size w w' := by
  have hb : Below w.heap.size w ((w.alloc (.cells #[.pointer (some ⟨p, 0, none⟩)] 25)).alloc (.cells #[.int .i64 tag] 3)) := ((Below.refl _ _).alloc (Nat.le_refl _) _).alloc (by simp) _
  have H := Lib.hid (pushBack_not (h.still hb).1 tag i h32 hT hno w.heap.size (w.heap.size + 1))
  have HB := Lib.hid hb
  clear h hb hno hT
  go_enter Try.func26, Try.ntmps26
  go_wp2_with fail
  refine H.out.mono ?_
  rintro e w' ⟨rfl, hb2⟩
  have HB2 := Lib.hid (HB.out.trans (hb2.mono HB.out.size))
  clear hb2
  go_wp2
  go_ret
  exact ⟨rfl, HB2.out⟩

theorem pushBack_done (h : HeldL w0 w p b x K) (t i : Nat) (ht : t < x.n) (hi : x.st.tk i = true) (hT : (x.st.node i).tag = 0) (hn : 0 ≤ (x.en t).count ∧ (x.en t).count ≤ 1000000) (c : Nat) (he : (x.en t).back = c) (hc : c = 0 ∨ x.st.tk c = true) :
    Calls Try.prog 26 #[.pointer (some ⟨p, 0, none⟩), .int .i64 t, .int .i32 i] w fun e w' => e = .returned (.bool true) ∧ HeldL w0 w' p b (x.push t i c 0) K ∧ Kept K w w' := by
  have hb1 : Below w.heap.size w (w.alloc (.cells #[.pointer (some ⟨p, 0, none⟩)] 25)) := (Below.refl _ _).alloc (Nat.le_refl _) _
  have hb : Below w.heap.size w ((w.alloc (.cells #[.pointer (some ⟨p, 0, none⟩)] 25)).alloc (.cells #[.int .i64 t] 3)) := hb1.alloc (by simp) _
  have hs := h.still hb
  have g0 : ((w.alloc (.cells #[.pointer (some ⟨p, 0, none⟩)] 25)).alloc (.cells #[.int .i64 t] 3)).cell? ⟨w.heap.size, 0, none⟩ = some (.pointer (some ⟨p, 0, none⟩)) := by
    have := (Below.heap_alloc (w.alloc (.cells #[.pointer (some ⟨p, 0, none⟩)] 25)) (.cells #[.int .i64 t] 3) w.heap.size (by simp)).trans (heap_alloc_new w _)
    exact (head_row this).cell (i := 0) (by simp)
  have g1 : ((w.alloc (.cells #[.pointer (some ⟨p, 0, none⟩)] 25)).alloc (.cells #[.int .i64 t] 3)).cell? ⟨w.heap.size + 1, 0, none⟩ = some (.int .i64 t) := by
    have := heap_alloc_new (w.alloc (.cells #[.pointer (some ⟨p, 0, none⟩)] 25)) (.cells #[.int .i64 t] 3)
    rw [World.size_alloc] at this
    exact (head_row this).cell (i := 0) (by simp)
  have hsz : ((w.alloc (.cells #[.pointer (some ⟨p, 0, none⟩)] 25)).alloc (.cells #[.int .i64 t] 3)).heap.size = w.heap.size + 2 := by simp
  have hcl : ∀ w1, Below ((w.alloc (.cells #[.pointer (some ⟨p, 0, none⟩)] 25)).alloc (.cells #[.int .i64 t] 3)).heap.size ((w.alloc (.cells #[.pointer (some ⟨p, 0, none⟩)] 25)).alloc (.cells #[.int .i64 t] 3)) w1 →
      Calls Try.prog 50 #[.pointer (some ⟨w.heap.size, 0, none⟩), .pointer (some ⟨w.heap.size + 1, 0, none⟩)] w1 fun e w' => e = .returned (.tuple #[.int .i32 c, .int .i32 (0 : Nat)]) ∧ w1 = w' := fun w1 hb1 => by
    have hh := closBack (hs.1.still hb1).1 t w.heap.size (w.heap.size + 1) ((hb1.cell (by rw [hsz]; show w.heap.size < _; omega)).trans g0) ((hb1.cell (by rw [hsz]; show w.heap.size + 1 < _; omega)).trans g1)
    have e1 : x.back t = c := by unfold LSt.back; rw [LSt.has_of ht]; exact he
    rw [e1] at hh
    exact hh
  have H := Lib.hid (pushBack_yes hs.1 t i ht hi hT hn c 0 hc (.inl rfl) w.heap.size (w.heap.size + 1) hcl)
  have HK := Lib.hid hs.2
  clear h hb hb1 hs hcl g0 g1 hi hT hn hc he ht hsz
  go_enter Try.func26, Try.ntmps26
  go_wp2_with fail
  refine H.out.mono ?_
  rintro e w' ⟨rfl, h1, h2⟩
  have H1 := Lib.hid h1
  have H2 := Lib.hid (HK.out.trans h2)
  clear h1 h2
  go_wp2
  go_ret
  exact ⟨rfl, H1.out, H2.out⟩

theorem HeldL.only {S : List Nat} (h : HeldL w0 w p b x K) (ho : Only S w w') (hS : ∀ g ∈ S, g ∈ K ∧ w0.heap.size ≤ g) : HeldL w0 w' p b x K := by
  obtain ⟨e, h1, h2, h3, h4, h5, h6, h7, h8⟩ := h.mem
  obtain ⟨s, f, m1, m2, m3, kb, ks, kf, ha⟩ := h1.mem
  have hin : ∀ g ∈ S, g ∈ p :: e :: K := fun g hg => by simp [(hS g hg).1]
  exact ⟨h.small, h.one, h.eight, e, ⟨h1.below.trans (ho.below (fun g hg => (hS g hg).2) h1.below.size), h1.ok, fun k hk => Nat.lt_of_lt_of_le (h1.old k hk) ho.size, s, f, m1, m2, m3, kb, ks, kf,
    ha.keep ho (fun g => kb (hin _ g)) (fun g => ks (hin _ g)) (fun g => kf (hin _ g))⟩, h2, h3, h4, h5, h6, (ho.block p (h1.old p (by simp)) (fun g => h5 (hS _ g).1)).trans h7, h8.of_block (ho.block e (h1.old e (by simp)) (fun g => h6 (hS _ g).1))⟩
theorem three_set {w : World} {g : Nat} {t : TypeId} {b0 b1 b2 b3 b4 b5 : Value} (h : w.heap[g]? = some (.cells #[b0, b1, b2, b3, b4, b5] t (0, 0))) (v3 v4 v5 : Value) :
    (((w.setCell ⟨g, 3, none⟩ v3).setCell ⟨g, 4, none⟩ v4).setCell ⟨g, 5, none⟩ v5).heap[g]? = some (.cells #[b0, b1, b2, v3, v4, v5] t (0, 0)) ∧
    Only [g] w (((w.setCell ⟨g, 3, none⟩ v3).setCell ⟨g, 4, none⟩ v4).setCell ⟨g, 5, none⟩ v5) := by
  refine ⟨?_, (((Only.refl [g] w).setCell (p := ⟨g, 3, none⟩) (by simp) v3).setCell (p := ⟨g, 4, none⟩) (by simp) v4).setCell (p := ⟨g, 5, none⟩) (by simp) v5⟩
  simp [World.setCell, Array.getElem?_modify, h]

theorem remove_not (h : HeldL w0 w p b x K) (i : Int) (h32 : i ≤ 2147483647) (hT : (x.st.at_ i).tag = 0) :
    Calls Try.prog 27 #[.pointer (some ⟨p, 0, none⟩), .int .i32 i] w fun e w' => e = .returned (.bool false) ∧ Below w.heap.size w w' := by
  have ht := tag_walk h i h32 (by rw [hT]; omega)
  rw [hT] at ht
  have HTG : Hid (Calls Try.prog 21 #[.pointer (some ⟨p, 0, none⟩), .int .i32 i] w fun e w' => e = .returned (.int .i64 (-1)) ∧ Below w.heap.size w w') := Lib.hid ht
  have H := Lib.hid h
  have e1 : x.has (-1) = false := by unfold LSt.has; rw [decide_eq_false (by decide)]; rfl
  have E1 := Lib.hid e1
  clear h ht hT e1
  go_enter Try.func27, Try.ntmps27
  go_wp2_with fail
  refine HTG.out.mono ?_
  rintro e w1 ⟨rfl, hb⟩
  go_wp2_with fail
  refine (lhas_walk (H.out.still hb).1 (-1)).mono ?_
  rintro e w2 ⟨rfl, rfl⟩
  rw [E1.out]
  go_wp2
  go_ret
  exact ⟨rfl, hb⟩

set_option maxHeartbeats 400000 in
theorem remove_yes (h : HeldL w0 w p b x K) (t i : Nat) (ht : t < x.n) (hi : x.st.tk i = true) (hT : (x.st.node i).tag = t + 1) (hn : 1 ≤ (x.en t).count ∧ (x.en t).count ≤ 1000000) (a c : Nat) (hpa : (x.st.node i).prev = a) (hnc : (x.st.node i).next = c) (ha : a = 0 ∨ x.st.tk a = true) (hc : c = 0 ∨ x.st.tk c = true) :
    Calls Try.prog 27 #[.pointer (some ⟨p, 0, none⟩), .int .i32 i] w fun e w' => e = .returned (.bool true) ∧ HeldL w0 w' p b (x.remove t i a c) K ∧ Kept K w w' := by
  obtain ⟨hi0, hlt, his, e0⟩ := h.taken hi
  have h8 := h.eight
  have HTG : Hid (Calls Try.prog 21 #[.pointer (some ⟨p, 0, none⟩), .int .i32 i] w fun e w' => e = .returned (.int .i64 t) ∧ Below w.heap.size w w') := by
    have hh := tag_walk h i (by omega) (by rw [e0, hT]; omega)
    rw [e0, hT, show (t : Int) + 1 - 1 = t by omega] at hh
    exact Lib.hid hh
  have HHS : Hid (∀ w1, Below w.heap.size w w1 → Calls Try.prog 45 #[.pointer (some ⟨p, 0, none⟩), .int .i64 t] w1 fun e w' => e = .returned (.bool true) ∧ w1 = w') := Lib.hid (fun w1 hb => by
    have hh := lhas_walk (h.still hb).1 t
    rw [LSt.has_of ht] at hh
    exact hh)
  have HAT : Hid (∀ w1, Below w.heap.size w w1 → Calls Try.prog 25 #[.pointer (some ⟨b, 0, none⟩), .int .i32 i] w1 fun e w' => e = .returned (x.st.node i).v ∧ Below w1.heap.size w1 w') := Lib.hid (fun w1 hb => by
    have hh := heldl_at (h.still hb).1 i (by omega)
    rw [e0] at hh
    exact hh)
  have H := Lib.hid h
  have c0 := h.c0
  have hp : p < w.heap.size := by obtain ⟨e, hs⟩ := h.seen; exact hs.lp
  have HI := Lib.hid hi
  have HA := Lib.hid ha
  have HC := Lib.hid hc
  have HT := Lib.hid ht
  have hW0 := h.below.size
  have hfin : x.remove t i a c = ((x.join t a c).setNd i { x.st.node i with tag := 0, prev := 0, next := 0 }).setEn t { ((x.join t a c).setNd i { x.st.node i with tag := 0, prev := 0, next := 0 }).en t with count := (x.en t).count - 1 } := rfl
  obtain ⟨y, hy⟩ : ∃ y, x.st.node i = y := ⟨_, rfl⟩
  rw [hy] at HAT hfin hpa hnc
  obtain ⟨y', hy'⟩ : ∃ y' : Nd, y' = { y with tag := 0, prev := 0, next := 0 } := ⟨_, rfl⟩
  rw [← hy'] at hfin
  have HY := Lib.hid hy'
  have hcnt : (((x.join t a c).setNd i y').en t).count = (x.en t).count := join_count x t t a c
  have HCN := Lib.hid hcnt
  have HF := Lib.hid hfin
  obtain ⟨n1, n2⟩ := hn
  obtain ⟨y0, y1, y2, y3, y4, y5⟩ := y
  simp only at hpa hnc
  subst hpa hnc
  clear h ht hi hT ha hc hy hy' hfin his e0 hcnt
  go_enter Try.func27, Try.ntmps27
  go_wp2_with fail
  refine HTG.out.mono ?_
  rintro e w1 ⟨rfl, hb⟩
  have c1 := (hb.cell hp).trans c0
  go_wp2_with fail
  refine (HHS.out w1 hb).mono ?_
  rintro e w2 ⟨rfl, rfl⟩
  go_wp2_with fail
  refine (HAT.out w1 hb).mono ?_
  rintro e w2 ⟨rfl, hb2⟩
  have hb3 := hb.trans (hb2.mono hb.size)
  clear c0 c1 hb hb2
  have hx := H.out.boxed hb3 #[.int .u64 y0, .int .u64 y1, .int .i64 y2, .int .i64 y3, .int .i32 a, .int .i32 c] 56
  have HX := Lib.hid hx
  clear hx
  have hsz := hb3.size
  go_wp2_with fail
  refine (join_walk HX.out.1 t HT.out a c HA.out HC.out).mono ?_
  rintro e w3 ⟨rfl, h1, h2⟩
  have hq3 := (h2 w2.heap.size (by simp)).trans HX.out.2.2.1
  obtain ⟨q, hq⟩ : ∃ q, w2.heap.size = q := ⟨_, rfl⟩
  have K3 := Lib.hid (HX.out.2.1.trans (Kept.tail h2))
  rw [hq] at h1 hq3 hsz ⊢
  clear hq HX h2 hb3
  have H3 := Lib.hid h1
  obtain ⟨d0, d1, d2, d3, d4, d5⟩ := six_cells hq3
  have z3 := (head_row hq3).frozen 3
  have z4 := (head_row hq3).frozen 4
  have z5 := (head_row hq3).frozen 5
  have lq := (head_row hq3).lt
  have H6 := Lib.hid (three_set hq3 (.int .i64 0) (.int .i32 0) (.int .i32 0))
  have hyc : (#[.int .u64 y0, .int .u64 y1, .int .i64 y2, .int .i64 0, .int .i32 0, .int .i32 0] : Array Value) = y'.cells := by rw [HY.out]
  have HYC := Lib.hid hyc
  clear h1 hq3 hyc
  go_wp2_with fail
  have h6 := H6.out
  rw [HYC.out] at h6
  obtain ⟨W, hW⟩ : ∃ W, ((w3.setCell ⟨q, 3, none⟩ (.int .i64 0)).setCell ⟨q, 4, none⟩ (.int .i32 0)).setCell ⟨q, 5, none⟩ (.int .i32 0) = W := ⟨_, rfl⟩
  rw [hW] at h6 ⊢
  clear hW d0 d1 d2 d3 d4 d5 z3 z4 z5 H6
  have hx := H3.out.only h6.2 (fun g hg => by
    obtain rfl : g = q := by simpa using hg
    exact ⟨by simp, by omega⟩)
  have HX := Lib.hid hx
  have HS := Lib.hid h6.1
  have hqK : q ∉ K := by
    intro hg
    have := H.out.old q hg
    omega
  have hk3 : Kept K w3 W := fun k hk => h6.2.block k (H3.out.old k (by simp [hk])) (by
    intro g
    obtain rfl : k = q := by simpa using g
    exact hqK hk)
  have HK := Lib.hid (K3.out.trans hk3)
  have cc0 := hx.c0
  obtain ⟨d0, d1, d2, d3, d4, d5⟩ := six_cells h6.1
  clear hx h6 hk3 hqK
  go_region_held3 (fun w' => w'.cell? ⟨p, 0, none⟩ = some (.pointer (some ⟨b, 0, none⟩)) ∧ w'.cell? ⟨q, 0, none⟩ = some (.int .u64 y'.key) ∧ w'.cell? ⟨q, 1, none⟩ = some (.int .u64 y'.val) ∧ w'.cell? ⟨q, 2, none⟩ = some (.int .i64 y'.flag) ∧ w'.cell? ⟨q, 3, none⟩ = some (.int .i64 y'.tag) ∧ w'.cell? ⟨q, 4, none⟩ = some (.int .i32 y'.prev) ∧ w'.cell? ⟨q, 5, none⟩ = some (.int .i32 y'.next))
    (first | go_keep | exact kk0)
    (first | (go_at_call 30; refine (heldl_set (HX.out.still (Below.refl _ _).drew).1 i (by rw [join_tk]; exact HI.out) y').mono ?_; rintro e w4 ⟨rfl, h1, h2⟩; have kk0 := And.intro h1.c0 (six_cells ((h2 q (by simp)).trans HS.out))))
  have h3 := h1.unbox
  have K5 := Lib.hid (HK.out.trans (Kept.tail h2))
  clear h1 h2 kk0 cc0 d0 d1 d2 d3 d4 d5 HX HK HS
  have hcn := HCN.out
  have ht' : t < ((x.join t a c).setNd i y').n := by
    show t < (x.join t a c).n
    rw [join_n]; exact HT.out
  have hn' : ((x.join t a c).setNd i y').n ≤ 8 := h3.eight
  obtain ⟨e, hs⟩ := h3.seen
  have g1 := hs.c1
  have g2 := hs.en2 ht'
  rw [hcn] at g2
  have gz := hs.row.frozen (t * 3 + 2)
  have HE := Lib.hid (h3.store hs t 2 (by decide) { ((x.join t a c).setNd i y').en t with count := (x.en t).count - 1 } (.int .i64 ((x.en t).count - 1)) rfl (fun k hk hne => by
    match k, hk with
    | 0, _ => rfl
    | 1, _ => rfl
    | 2, _ => exact absurd rfl hne))
  have e1 : IntKind.i64.wrap ((x.en t).count - 1) = (x.en t).count - 1 := IntWalk.i64_in _ (by omega)
  obtain ⟨m, hm⟩ : ∃ m, ((x.join t a c).setNd i y').n = m := ⟨_, rfl⟩
  rw [hm] at g1 ht' hn'
  obtain ⟨k, hk⟩ : ∃ k, (x.en t).count = k := ⟨_, rfl⟩
  rw [hk] at g2 e1 n1 n2 HE HF
  clear h3 hs hcn hm hk
  go_wp2
  go_ret
  exact ⟨rfl, by rw [HF.out]; exact HE.out.1, K5.out.trans HE.out.2⟩
end
end Go.Proofs.Ytlmcodmglcmmoaa
