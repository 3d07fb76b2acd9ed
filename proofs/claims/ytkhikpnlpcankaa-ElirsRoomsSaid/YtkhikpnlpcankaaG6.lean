/- Words and walks: LsR LsM. -/
import Derived.Test.YtkhikpnlpcankaaG5
namespace Go.Proofs.Ytkhikpnlpcankaa
open Go Go.RowKit Go.Deep
section
variable {w0 w w1 w2 w' : World} {p b e : Nat} {x : LSt} {K : List Nat}
theorem closFront (h : HeldL w0 w p b x K) (tag : Int) (B0 B1 : Nat) (g0 : w.cell? ⟨B0, 0, none⟩ = some (.pointer (some ⟨p, 0, none⟩))) (g1 : w.cell? ⟨B1, 0, none⟩ = some (.int .i64 tag)) :
    Calls Try.prog 90 #[.pointer (some ⟨B0, 0, none⟩), .pointer (some ⟨B1, 0, none⟩)] w fun e w' => e = .returned (.tuple #[.int .i32 0, .int .i32 (x.front tag)]) ∧ w = w' := by
  have H := Lib.hid (front_walk h tag)
  clear h
  go_enter Try.func90, Try.ntmps90
  go_wp2_with fail
  refine H.out.mono ?_
  rintro e w' ⟨rfl, rfl⟩
  go_wp2
  go_ret2
  exact ⟨rfl, rfl⟩
theorem pushFront_no (h : HeldL w0 w p b x K) (tag i : Int) (h32 : i ≤ 2147483647) (hT : 0 ≤ (x.st.at_ i).tag ∧ (x.st.at_ i).tag ≤ 8) (hno : (x.has tag && x.st.is i && decide ((x.st.at_ i).tag = 0)) = false) :
    Calls Try.prog 80 #[.pointer (some ⟨p, 0, none⟩), .int .i64 tag, .int .i32 i] w fun e w' => e = .returned (.bool false) ∧ Below w.heap.size w w' := by
  have hb : Below w.heap.size w ((w.alloc (.cells #[.pointer (some ⟨p, 0, none⟩)] 67)).alloc (.cells #[.int .i64 tag] 3)) := ((Below.refl _ _).alloc (Nat.le_refl _) _).alloc (by simp) _
  have H := Lib.hid (pushFront_not (h.still hb).1 tag i h32 hT hno w.heap.size (w.heap.size + 1))
  have HB := Lib.hid hb
  clear h hb hno hT
  go_enter Try.func80, Try.ntmps80
  go_wp2_with fail
  refine H.out.mono ?_
  rintro e w' ⟨rfl, hb2⟩
  have HB2 := Lib.hid (HB.out.trans (hb2.mono HB.out.size))
  clear hb2
  go_wp2
  go_ret
  exact ⟨rfl, HB2.out⟩
theorem pushFront_done (h : HeldL w0 w p b x K) (t i : Nat) (ht : t < x.n) (hi : x.st.tk i = true) (hT : (x.st.node i).tag = 0) (hn : 0 ≤ (x.en t).count ∧ (x.en t).count ≤ 1000000) (c : Nat) (he : (x.en t).front = c) (hc : c = 0 ∨ x.st.tk c = true) :
    Calls Try.prog 80 #[.pointer (some ⟨p, 0, none⟩), .int .i64 t, .int .i32 i] w fun e w' => e = .returned (.bool true) ∧ HeldL w0 w' p b (x.push t i 0 c) K ∧ Kept K w w' := by
  have hb1 : Below w.heap.size w (w.alloc (.cells #[.pointer (some ⟨p, 0, none⟩)] 67)) := (Below.refl _ _).alloc (Nat.le_refl _) _
  have hb : Below w.heap.size w ((w.alloc (.cells #[.pointer (some ⟨p, 0, none⟩)] 67)).alloc (.cells #[.int .i64 t] 3)) := hb1.alloc (by simp) _
  have hs := h.still hb
  have g0 : ((w.alloc (.cells #[.pointer (some ⟨p, 0, none⟩)] 67)).alloc (.cells #[.int .i64 t] 3)).cell? ⟨w.heap.size, 0, none⟩ = some (.pointer (some ⟨p, 0, none⟩)) := by
    have := (Below.heap_alloc (w.alloc (.cells #[.pointer (some ⟨p, 0, none⟩)] 67)) (.cells #[.int .i64 t] 3) w.heap.size (by simp)).trans (heap_alloc_new w _)
    exact (head_row this).cell (i := 0) (by simp)
  have g1 : ((w.alloc (.cells #[.pointer (some ⟨p, 0, none⟩)] 67)).alloc (.cells #[.int .i64 t] 3)).cell? ⟨w.heap.size + 1, 0, none⟩ = some (.int .i64 t) := by
    have := heap_alloc_new (w.alloc (.cells #[.pointer (some ⟨p, 0, none⟩)] 67)) (.cells #[.int .i64 t] 3)
    rw [World.size_alloc] at this
    exact (head_row this).cell (i := 0) (by simp)
  have hsz : ((w.alloc (.cells #[.pointer (some ⟨p, 0, none⟩)] 67)).alloc (.cells #[.int .i64 t] 3)).heap.size = w.heap.size + 2 := by simp
  have hcl : ∀ w1, Below ((w.alloc (.cells #[.pointer (some ⟨p, 0, none⟩)] 67)).alloc (.cells #[.int .i64 t] 3)).heap.size ((w.alloc (.cells #[.pointer (some ⟨p, 0, none⟩)] 67)).alloc (.cells #[.int .i64 t] 3)) w1 →
      Calls Try.prog 90 #[.pointer (some ⟨w.heap.size, 0, none⟩), .pointer (some ⟨w.heap.size + 1, 0, none⟩)] w1 fun e w' => e = .returned (.tuple #[.int .i32 (0 : Nat), .int .i32 c]) ∧ w1 = w' := fun w1 hb1 => by
    have hh := closFront (hs.1.still hb1).1 t w.heap.size (w.heap.size + 1) ((hb1.cell (by rw [hsz]; show w.heap.size < _; omega)).trans g0) ((hb1.cell (by rw [hsz]; show w.heap.size + 1 < _; omega)).trans g1)
    have e1 : x.front t = c := by unfold LSt.front; rw [LSt.has_of ht]; exact he
    rw [e1] at hh
    exact hh
  have H := Lib.hid (pushFront_yes hs.1 t i ht hi hT hn 0 c (.inl rfl) hc w.heap.size (w.heap.size + 1) hcl)
  have HK := Lib.hid hs.2
  clear h hb hb1 hs hcl g0 g1 hi hT hn hc he ht hsz
  go_enter Try.func80, Try.ntmps80
  go_wp2_with fail
  refine H.out.mono ?_
  rintro e w' ⟨rfl, h1, h2⟩
  have H1 := Lib.hid h1
  have H2 := Lib.hid (HK.out.trans h2)
  clear h1 h2
  go_wp2
  go_ret
  exact ⟨rfl, H1.out, H2.out⟩
theorem HeldL.only {S : List Nat} (h : HeldL w0 w p b x K) (ho : Only S w w') (hS : ∀ g ∈ S, g ∈ K ∧ w0.heap.size ≤ g) : HeldL w0 w' p b x K := by
  obtain ⟨e, h1, h2, h3, h4, h5, h6, h7, h8⟩ := h.mem
  obtain ⟨s, f, m1, m2, m3, kb, ks, kf, ha⟩ := h1.mem
  have hin : ∀ g ∈ S, g ∈ p :: e :: K := fun g hg => by simp [(hS g hg).1]
  exact ⟨h.small, h.one, h.eight, e, ⟨h1.below.trans (ho.below (fun g hg => (hS g hg).2) h1.below.size), h1.ok, fun k hk => Nat.lt_of_lt_of_le (h1.old k hk) ho.size, s, f, m1, m2, m3, kb, ks, kf,
    ha.keep ho (fun g => kb (hin _ g)) (fun g => ks (hin _ g)) (fun g => kf (hin _ g))⟩, h2, h3, h4, h5, h6, (ho.block p (h1.old p (by simp)) (fun g => h5 (hS _ g).1)).trans h7, h8.of_block (ho.block e (h1.old e (by simp)) (fun g => h6 (hS _ g).1))⟩
theorem three_set {w : World} {g : Nat} {t : TypeId} {b0 b1 b2 b3 b4 b5 : Value} (h : w.heap[g]? = some (.cells #[b0, b1, b2, b3, b4, b5] t (0, 0))) (v3 v4 v5 : Value) :
    (((w.setCell ⟨g, 3, none⟩ v3).setCell ⟨g, 4, none⟩ v4).setCell ⟨g, 5, none⟩ v5).heap[g]? = some (.cells #[b0, b1, b2, v3, v4, v5] t (0, 0)) ∧
    Only [g] w (((w.setCell ⟨g, 3, none⟩ v3).setCell ⟨g, 4, none⟩ v4).setCell ⟨g, 5, none⟩ v5) := by
  refine ⟨?_, (((Only.refl [g] w).setCell (p := ⟨g, 3, none⟩) (by simp) v3).setCell (p := ⟨g, 4, none⟩) (by simp) v4).setCell (p := ⟨g, 5, none⟩) (by simp) v5⟩
  simp [World.setCell, Array.getElem?_modify, h]
theorem remove_not (h : HeldL w0 w p b x K) (i : Int) (h32 : i ≤ 2147483647) (hT : (x.st.at_ i).tag = 0) :
    Calls Try.prog 66 #[.pointer (some ⟨p, 0, none⟩), .int .i32 i] w fun e w' => e = .returned (.bool false) ∧ Below w.heap.size w w' := by
  have ht := tag_walk h i h32 (by rw [hT]; omega)
  rw [hT] at ht
  have HTG : Hid (Calls Try.prog 53 #[.pointer (some ⟨p, 0, none⟩), .int .i32 i] w fun e w' => e = .returned (.int .i64 (-1)) ∧ Below w.heap.size w w') := Lib.hid ht
  have H := Lib.hid h
  have e1 : x.has (-1) = false := by unfold LSt.has; rw [decide_eq_false (by decide)]; rfl
  have E1 := Lib.hid e1
  clear h ht hT e1
  go_enter Try.func66, Try.ntmps66
  go_wp2_with fail
  refine HTG.out.mono ?_
  rintro e w1 ⟨rfl, hb⟩
  go_wp2_with fail
  refine (lhas_walk (H.out.still hb).1 (-1)).mono ?_
  rintro e w2 ⟨rfl, rfl⟩
  rw [E1.out]
  go_wp2
  go_ret
  exact ⟨rfl, hb⟩
set_option maxHeartbeats 400000 in
theorem remove_yes (h : HeldL w0 w p b x K) (t i : Nat) (ht : t < x.n) (hi : x.st.tk i = true) (hT : (x.st.node i).tag = t + 1) (hn : 1 ≤ (x.en t).count ∧ (x.en t).count ≤ 1000000) (a c : Nat) (hpa : (x.st.node i).prev = a) (hnc : (x.st.node i).next = c) (ha : a = 0 ∨ x.st.tk a = true) (hc : c = 0 ∨ x.st.tk c = true) :
    Calls Try.prog 66 #[.pointer (some ⟨p, 0, none⟩), .int .i32 i] w fun e w' => e = .returned (.bool true) ∧ HeldL w0 w' p b (x.remove t i a c) K ∧ Kept K w w' := by
  obtain ⟨hi0, hlt, his, e0⟩ := h.taken hi
  have h8 := h.eight
  have HTG : Hid (Calls Try.prog 53 #[.pointer (some ⟨p, 0, none⟩), .int .i32 i] w fun e w' => e = .returned (.int .i64 t) ∧ Below w.heap.size w w') := by
    have hh := tag_walk h i (by omega) (by rw [e0, hT]; omega)
    rw [e0, hT, show (t : Int) + 1 - 1 = t by omega] at hh
    exact Lib.hid hh
  have HHS : Hid (∀ w1, Below w.heap.size w w1 → Calls Try.prog 73 #[.pointer (some ⟨p, 0, none⟩), .int .i64 t] w1 fun e w' => e = .returned (.bool true) ∧ w1 = w') := Lib.hid (fun w1 hb => by
    have hh := lhas_walk (h.still hb).1 t
    rw [LSt.has_of ht] at hh
    exact hh)
  have HAT : Hid (∀ w1, Below w.heap.size w w1 → Calls Try.prog 51 #[.pointer (some ⟨b, 0, none⟩), .int .i32 i] w1 fun e w' => e = .returned (x.st.node i).v ∧ Below w1.heap.size w1 w') := Lib.hid (fun w1 hb => by
    have hh := heldl_at (h.still hb).1 i (by omega)
    rw [e0] at hh
    exact hh)
  have H := Lib.hid h
  have c0 := h.c0
  have hp : p < w.heap.size := by obtain ⟨e, hs⟩ := h.seen; exact hs.lp
  have HI := Lib.hid hi
  have HA := Lib.hid ha
  have HC := Lib.hid hc
  have HT := Lib.hid ht
  have hW0 := h.below.size
  have hfin : x.remove t i a c = ((x.join t a c).setNd i { x.st.node i with tag := 0, prev := 0, next := 0 }).setEn t { ((x.join t a c).setNd i { x.st.node i with tag := 0, prev := 0, next := 0 }).en t with count := (x.en t).count - 1 } := rfl
  obtain ⟨y, hy⟩ : ∃ y, x.st.node i = y := ⟨_, rfl⟩
  rw [hy] at HAT hfin hpa hnc
  obtain ⟨y', hy'⟩ : ∃ y' : Nd, y' = { y with tag := 0, prev := 0, next := 0 } := ⟨_, rfl⟩
  rw [← hy'] at hfin
  have HY := Lib.hid hy'
  have hcnt : (((x.join t a c).setNd i y').en t).count = (x.en t).count := join_count x t t a c
  have HCN := Lib.hid hcnt
  have HF := Lib.hid hfin
  obtain ⟨n1, n2⟩ := hn
  obtain ⟨y0, y1, y2, y3, y4, y5⟩ := y
  simp only at hpa hnc
  subst hpa hnc
  clear h ht hi hT ha hc hy hy' hfin his e0 hcnt
  go_enter Try.func66, Try.ntmps66
  go_wp2_with fail
  refine HTG.out.mono ?_
  rintro e w1 ⟨rfl, hb⟩
  have c1 := (hb.cell hp).trans c0
  go_wp2_with fail
  refine (HHS.out w1 hb).mono ?_
  rintro e w2 ⟨rfl, rfl⟩
  go_wp2_with fail
  refine (HAT.out w1 hb).mono ?_
  rintro e w2 ⟨rfl, hb2⟩
  have hb3 := hb.trans (hb2.mono hb.size)
  clear c0 c1 hb hb2
  have hx := H.out.boxed hb3 #[.int .u64 y0, .int .u64 y1, .int .i64 y2, .int .i64 y3, .int .i32 a, .int .i32 c] 84
  have HX := Lib.hid hx
  clear hx
  have hsz := hb3.size
  go_wp2_with fail
  refine (join_walk HX.out.1 t HT.out a c HA.out HC.out).mono ?_
  rintro e w3 ⟨rfl, h1, h2⟩
  have hq3 := (h2 w2.heap.size (by simp)).trans HX.out.2.2.1
  obtain ⟨q, hq⟩ : ∃ q, w2.heap.size = q := ⟨_, rfl⟩
  have K3 := Lib.hid (HX.out.2.1.trans (Kept.tail h2))
  rw [hq] at h1 hq3 hsz ⊢
  clear hq HX h2 hb3
  have H3 := Lib.hid h1
  obtain ⟨d0, d1, d2, d3, d4, d5⟩ := six_cells hq3
  have z3 := (head_row hq3).frozen 3
  have z4 := (head_row hq3).frozen 4
  have z5 := (head_row hq3).frozen 5
  have lq := (head_row hq3).lt
  have H6 := Lib.hid (three_set hq3 (.int .i64 0) (.int .i32 0) (.int .i32 0))
  have hyc : (#[.int .u64 y0, .int .u64 y1, .int .i64 y2, .int .i64 0, .int .i32 0, .int .i32 0] : Array Value) = y'.cells := by rw [HY.out]
  have HYC := Lib.hid hyc
  clear h1 hq3 hyc
  go_wp2_with fail
  have h6 := H6.out
  rw [HYC.out] at h6
  obtain ⟨W, hW⟩ : ∃ W, ((w3.setCell ⟨q, 3, none⟩ (.int .i64 0)).setCell ⟨q, 4, none⟩ (.int .i32 0)).setCell ⟨q, 5, none⟩ (.int .i32 0) = W := ⟨_, rfl⟩
  rw [hW] at h6 ⊢
  clear hW d0 d1 d2 d3 d4 d5 z3 z4 z5 H6
  have hx := H3.out.only h6.2 (fun g hg => by
    obtain rfl : g = q := by simpa using hg
    exact ⟨by simp, by omega⟩)
  have HX := Lib.hid hx
  have HS := Lib.hid h6.1
  have hqK : q ∉ K := by
    intro hg
    have := H.out.old q hg
    omega
  have hk3 : Kept K w3 W := fun k hk => h6.2.block k (H3.out.old k (by simp [hk])) (by
    intro g
    obtain rfl : k = q := by simpa using g
    exact hqK hk)
  have HK := Lib.hid (K3.out.trans hk3)
  have cc0 := hx.c0
  obtain ⟨d0, d1, d2, d3, d4, d5⟩ := six_cells h6.1
  clear hx h6 hk3 hqK
  go_region_held3 (fun w' => w'.cell? ⟨p, 0, none⟩ = some (.pointer (some ⟨b, 0, none⟩)) ∧ w'.cell? ⟨q, 0, none⟩ = some (.int .u64 y'.key) ∧ w'.cell? ⟨q, 1, none⟩ = some (.int .u64 y'.val) ∧ w'.cell? ⟨q, 2, none⟩ = some (.int .i64 y'.flag) ∧ w'.cell? ⟨q, 3, none⟩ = some (.int .i64 y'.tag) ∧ w'.cell? ⟨q, 4, none⟩ = some (.int .i32 y'.prev) ∧ w'.cell? ⟨q, 5, none⟩ = some (.int .i32 y'.next))
    (first | go_keep | exact kk0)
    (first | (go_at_call 82; refine (heldl_set (HX.out.still (Below.refl _ _).drew).1 i (by rw [join_tk]; exact HI.out) y').mono ?_; rintro e w4 ⟨rfl, h1, h2⟩; have kk0 := And.intro h1.c0 (six_cells ((h2 q (by simp)).trans HS.out))))
  have h3 := h1.unbox
  have K5 := Lib.hid (HK.out.trans (Kept.tail h2))
  clear h1 h2 kk0 cc0 d0 d1 d2 d3 d4 d5 HX HK HS
  have hcn := HCN.out
  have ht' : t < ((x.join t a c).setNd i y').n := by
    show t < (x.join t a c).n
    rw [join_n]; exact HT.out
  have hn' : ((x.join t a c).setNd i y').n ≤ 8 := h3.eight
  obtain ⟨e, hs⟩ := h3.seen
  have g1 := hs.c1
  have g2 := hs.en2 ht'
  rw [hcn] at g2
  have gz := hs.row.frozen (t * 3 + 2)
  have HE := Lib.hid (h3.store hs t 2 (by decide) { ((x.join t a c).setNd i y').en t with count := (x.en t).count - 1 } (.int .i64 ((x.en t).count - 1)) rfl (fun k hk hne => by
    match k, hk with
    | 0, _ => rfl
    | 1, _ => rfl
    | 2, _ => exact absurd rfl hne))
  have e1 : IntKind.i64.wrap ((x.en t).count - 1) = (x.en t).count - 1 := IntWalk.i64_in _ (by omega)
  obtain ⟨m, hm⟩ : ∃ m, ((x.join t a c).setNd i y').n = m := ⟨_, rfl⟩
  rw [hm] at g1 ht' hn'
  obtain ⟨k, hk⟩ : ∃ k, (x.en t).count = k := ⟨_, rfl⟩
  rw [hk] at g2 e1 n1 n2 HE HF
  clear h3 hs hcn hm hk
  go_wp2
  go_ret
  exact ⟨rfl, by rw [HF.out]; exact HE.out.1, K5.out.trans HE.out.2⟩
end
structure Alike (A B : St) : Prop where
  n : A.n = B.n
  used : A.used = B.used
  freed : A.freed = B.freed
  rest : ∀ j, (A.node j).key = (B.node j).key ∧ (A.node j).val = (B.node j).val ∧ (A.node j).flag = (B.node j).flag
theorem Alike.refl (A : St) : Alike A A := ⟨rfl, rfl, rfl, fun _ => ⟨rfl, rfl, rfl⟩⟩
theorem Alike.trans {A B C : St} (h : Alike A B) (k : Alike B C) : Alike A C :=
  ⟨h.n.trans k.n, h.used.trans k.used, h.freed.trans k.freed, fun j => ⟨(h.rest j).1.trans (k.rest j).1, (h.rest j).2.1.trans (k.rest j).2.1, (h.rest j).2.2.trans (k.rest j).2.2⟩⟩
theorem Alike.tk {A B : St} (h : Alike A B) (i : Nat) : A.tk i = B.tk i := by unfold St.tk; rw [h.used, h.freed]
theorem Alike.is {A B : St} (h : Alike A B) (i : Int) : A.is i = B.is i := by unfold St.is; rw [h.tk]
section
variable (x : LSt) (t i a c : Nat) (v : Int)
theorem setAfter_base : (x.setAfter t i v).st.n = x.st.n ∧ (x.setAfter t i v).st.used = x.st.used ∧ (x.setAfter t i v).st.freed = x.st.freed := by unfold LSt.setAfter; split <;> exact ⟨rfl, rfl, rfl⟩
theorem setBefore_base : (x.setBefore t i v).st.n = x.st.n ∧ (x.setBefore t i v).st.used = x.st.used ∧ (x.setBefore t i v).st.freed = x.st.freed := by unfold LSt.setBefore; split <;> exact ⟨rfl, rfl, rfl⟩
theorem join_base : (x.join t a c).st.n = x.st.n ∧ (x.join t a c).st.used = x.st.used ∧ (x.join t a c).st.freed = x.st.freed := by
  unfold LSt.join
  obtain ⟨h1, h2, h3⟩ := setAfter_base x t a c
  obtain ⟨g1, g2, g3⟩ := setBefore_base (x.setAfter t a c) t c a
  exact ⟨g1.trans h1, g2.trans h2, g3.trans h3⟩
theorem rest_parts {x y : LSt} {j : Nat} (h : x.rest j = y.rest j) : (x.st.node j).key = (y.st.node j).key ∧ (x.st.node j).val = (y.st.node j).val ∧ (x.st.node j).flag = (y.st.node j).flag := by
  unfold LSt.rest at h
  simpa using h
theorem push_alike : Alike (x.push t i a c).st x.st := by
  obtain ⟨h1, h2, h3⟩ := join_base (x.setNd i { x.st.node i with tag := t + 1 }) t a i
  obtain ⟨g1, g2, g3⟩ := join_base ((x.setNd i { x.st.node i with tag := t + 1 }).join t a i) t i c
  exact ⟨g1.trans h1, g2.trans h2, g3.trans h3, fun j => rest_parts (tg_push x t i j a c).2⟩
theorem remove_alike : Alike (x.remove t i a c).st x.st := by
  obtain ⟨h1, h2, h3⟩ := join_base x t a c
  exact ⟨h1, h2, h3, fun j => rest_parts (tg_remove x t i j a c).2⟩
end
def hasT (n : Nat) (tag : Int) : Bool := decide (0 ≤ tag) && decide (tag < n)
def tagI (n : Nat) (l : Nat → List Nat) (i : Int) : Int :=
  match (List.range n).find? (fun t => decide (0 < i) && decide (i.toNat ∈ l t)) with
  | some t => t
  | none => -1
def pushOk (n : Nat) (l : Nat → List Nat) (A : St) (tag i : Int) : Bool := hasT n tag && A.is i && decide (tagI n l i < 0)
def pushL (front : Bool) (n : Nat) (l : Nat → List Nat) (A : St) (tag i : Int) : Nat → List Nat :=
  if pushOk n l A tag i then upd l tag.toNat (if front then i.toNat :: l tag.toNat else l tag.toNat ++ [i.toNat]) else l
def remL (n : Nat) (l : Nat → List Nat) (i : Int) : Nat → List Nat :=
  if 0 ≤ tagI n l i then upd l (tagI n l i).toNat ((l (tagI n l i).toNat).erase i.toNat) else l
def moveOk (n : Nat) (l : Nat → List Nat) (tag i : Int) : Bool := hasT n tag && decide (0 ≤ tagI n l i)
def moveL (n : Nat) (l : Nat → List Nat) (tag i : Int) : Nat → List Nat :=
  if moveOk n l tag i then upd (remL n l i) tag.toNat (i.toNat :: remL n l i tag.toNat) else l
theorem tagI_out {n : Nat} {l : Nat → List Nat} {i : Int} (h : ∀ t, t < n → ¬ (0 < i ∧ i.toNat ∈ l t)) : tagI n l i = -1 := by
  unfold tagI
  rw [List.find?_eq_none.2 (fun t ht => by simpa using h t (by simpa using ht))]
theorem tagI_in {n : Nat} {l : Nat → List Nat} {i : Int} {t : Nat} (ht : t < n) (h0 : 0 < i) (hi : i.toNat ∈ l t) (ha : ∀ u, u < n → i.toNat ∈ l u → u = t) : tagI n l i = t := by
  unfold tagI
  cases hf : (List.range n).find? (fun t => decide (0 < i) && decide (i.toNat ∈ l t)) with
  | none =>
    have := List.find?_eq_none.1 hf t (by simpa using ht)
    simp [h0, hi] at this
  | some u =>
    have h1 := List.find?_some hf
    have h2 := List.mem_of_find?_eq_some hf
    simp at h1 h2
    rw [ha u h2 h1.2]
section
variable {w0 w w1 w2 w' : World} {p b e n t k : Nat} {x : LSt} {l : Nat → List Nat} {A : St} {K : List Nat}
theorem LOk.tagI (h : LOk x l) (ho : x.st.Ok) (i : Int) : tagI x.n l i = (x.st.at_ i).tag - 1 := by
  cases his : x.st.is i
  · have e : x.st.at_ i = Nd.zero := by unfold St.at_; rw [his]; rfl
    rw [e, tagI_out]
    · rfl
    · rintro t ht ⟨h0, hm⟩
      have := h.taken t ht _ hm
      unfold St.is at his
      rw [this, decide_eq_true h0] at his
      cases his
  · obtain ⟨k, rfl, h1, h2, h3⟩ := St.is_nat ho his
    have e : x.st.at_ k = x.st.node k := by unfold St.at_; rw [his]; rfl
    rw [e]
    by_cases hz : x.tg k = 0
    · have e2 : (x.st.node k).tag = 0 := hz
      rw [e2, tagI_out]
      · rfl
      · rintro t ht ⟨_, hm⟩
        exact h.out hz t ht (by simpa using hm)
    · obtain ⟨t, ht, hm, hg⟩ := h.in_ (by omega) hz
      have e2 : (x.st.node k).tag = t + 1 := hg
      rw [e2, tagI_in ht (by omega) (by simpa using hm) (fun u hu hm' => h.apart hu ht (by simpa using hm') hm)]
      omega
theorem LOk.tagged (h : LOk x l) (ho : x.st.Ok) (h8 : x.n ≤ 8) (i : Int) : 0 ≤ (x.st.at_ i).tag ∧ (x.st.at_ i).tag ≤ 8 := by
  cases his : x.st.is i
  · have e : x.st.at_ i = Nd.zero := by unfold St.at_; rw [his]; rfl
    rw [e]
    exact ⟨Int.le_refl _, by decide⟩
  · obtain ⟨k, rfl, h1, h2, h3⟩ := St.is_nat ho his
    have e : x.st.at_ k = x.st.node k := by unfold St.at_; rw [his]; rfl
    rw [e]
    exact h.bounds h8 (by omega)
def HL (w0 w : World) (p b n : Nat) (l : Nat → List Nat) (A : St) (K : List Nat) : Prop := ∃ x, HeldL w0 w p b x K ∧ LOk x l ∧ x.n = n ∧ Alike x.st A
theorem HL.still (h : HL w0 w p b n l A K) (hb : Below w.heap.size w w') : HL w0 w' p b n l A K ∧ Kept K w w' := by
  obtain ⟨x, h1, h2, h3, h4⟩ := h
  exact ⟨⟨x, (h1.still hb).1, h2, h3, h4⟩, (h1.still hb).2⟩
theorem HL.below (h : HL w0 w p b n l A K) : Below w0.heap.size w0 w := by
  obtain ⟨x, h1, _⟩ := h
  exact h1.below
theorem HL.old (h : HL w0 w p b n l A K) : ∀ k ∈ K, k < w.heap.size := by
  obtain ⟨x, h1, _⟩ := h
  exact h1.old
theorem HL.other (h : HL w0 w p b n l A K) (hb : Below w.heap.size w w') {K' : List Nat} (hk : ∀ k ∈ K', (k ∈ K ∨ w.heap.size ≤ k) ∧ k < w'.heap.size) : HL w0 w' p b n l A K' := by
  obtain ⟨x, h1, h2, h3, h4⟩ := h
  exact ⟨x, h1.other hb hk, h2, h3, h4⟩
theorem HL.num (h : HL w0 w p b n l A K) : 1 ≤ n ∧ n ≤ 8 := by
  obtain ⟨x, h1, _, rfl, _⟩ := h
  exact ⟨h1.one, h1.eight⟩
theorem HL.len (h : HL w0 w p b n l A K) (ht : t < n) : (l t).length ≤ 1000000 := by
  obtain ⟨x, h1, h2, rfl, _⟩ := h
  exact h2.len h1.ok h1.small ht
theorem HL.nodup (h : HL w0 w p b n l A K) (ht : t < n) : (l t).Nodup := by
  obtain ⟨x, h1, h2, rfl, _⟩ := h
  exact h2.nodup t ht
theorem HL.apart (h : HL w0 w p b n l A K) {i u : Nat} (ht : t < n) (hu : u < n) (hi : i ∈ l t) (hi' : i ∈ l u) : t = u := by
  obtain ⟨x, h1, h2, rfl, _⟩ := h
  exact h2.apart ht hu hi hi'
theorem HL.taken (h : HL w0 w p b n l A K) {i : Nat} (ht : t < n) (hi : i ∈ l t) : A.tk i = true := by
  obtain ⟨x, h1, h2, rfl, h4⟩ := h
  rw [← h4.tk]
  exact h2.taken t ht i hi
theorem HL.tagI_at (h : HL w0 w p b n l A K) {i : Nat} (ht : t < n) (hi : i ∈ l t) : tagI n l i = t := by
  have h0 := tk_bounds (h.taken ht hi)
  exact tagI_in ht (by omega) (by simpa using hi) (fun u hu hm => h.apart hu ht (by simpa using hm) hi)
theorem hl_has (h : HL w0 w p b n l A K) (tag : Int) :
    Calls Try.prog 73 #[.pointer (some ⟨p, 0, none⟩), .int .i64 tag] w fun e w' => e = .returned (.bool (hasT n tag)) ∧ w = w' := by
  obtain ⟨x, h1, h2, rfl, h4⟩ := h
  exact lhas_walk h1 tag
theorem hasT_nat {n : Nat} {tag : Int} (h : hasT n tag = true) : ∃ t : Nat, tag = t ∧ t < n := by
  unfold hasT at h
  simp only [Bool.and_eq_true, decide_eq_true_eq] at h
  exact ⟨tag.toNat, by omega, by omega⟩
theorem hasT_of {n t : Nat} (h : t < n) : hasT n t = true := by
  unfold hasT
  simp only [Bool.and_eq_true, decide_eq_true_eq]
  omega
def frontL (n : Nat) (l : Nat → List Nat) (tag : Int) : Nat := if hasT n tag then (l tag.toNat).headD 0 else 0
def backL (n : Nat) (l : Nat → List Nat) (tag : Int) : Nat := if hasT n tag then (l tag.toNat).getLastD 0 else 0
def lenL (n : Nat) (l : Nat → List Nat) (tag : Int) : Nat := if hasT n tag then (l tag.toNat).length else 0
theorem hl_front (h : HL w0 w p b n l A K) (tag : Int) :
    Calls Try.prog 75 #[.pointer (some ⟨p, 0, none⟩), .int .i64 tag] w fun e w' => e = .returned (.int .i32 (frontL n l tag)) ∧ w = w' := by
  obtain ⟨x, h1, h2, rfl, h4⟩ := h
  have hh := front_walk h1 tag
  have e : x.front tag = (frontL x.n l tag : Nat) := by
    unfold LSt.front frontL
    cases ht : x.has tag
    · have ht' : hasT x.n tag = false := ht
      rw [ht']; rfl
    · have ht' : hasT x.n tag = true := ht
      obtain ⟨t, rfl, htn⟩ := LSt.has_nat ht
      rw [ht', if_pos rfl, if_pos rfl]
      have hs := seg_head _ _ (h2.seg t htn)
      unfold LSt.nx at hs
      rw [if_pos rfl] at hs
      exact hs
  rw [e] at hh
  exact hh
theorem hl_back (h : HL w0 w p b n l A K) (tag : Int) :
    Calls Try.prog 71 #[.pointer (some ⟨p, 0, none⟩), .int .i64 tag] w fun e w' => e = .returned (.int .i32 (backL n l tag)) ∧ w = w' := by
  obtain ⟨x, h1, h2, rfl, h4⟩ := h
  have hh := back_walk h1 tag
  have e : x.back tag = (backL x.n l tag : Nat) := by
    unfold LSt.back backL
    cases ht : x.has tag
    · have ht' : hasT x.n tag = false := ht
      rw [ht']; rfl
    · have ht' : hasT x.n tag = true := ht
      obtain ⟨t, rfl, htn⟩ := LSt.has_nat ht
      rw [ht', if_pos rfl, if_pos rfl]
      have hs := seg_last _ _ (h2.seg t htn)
      unfold LSt.pv at hs
      rw [if_pos rfl] at hs
      exact hs
  rw [e] at hh
  exact hh
theorem hl_len (h : HL w0 w p b n l A K) (tag : Int) :
    Calls Try.prog 59 #[.pointer (some ⟨p, 0, none⟩), .int .i64 tag] w fun e w' => e = .returned (.int .i64 (lenL n l tag)) ∧ w = w' := by
  obtain ⟨x, h1, h2, rfl, h4⟩ := h
  have hh := count_walk h1 tag
  have e : x.count tag = (lenL x.n l tag : Nat) := by
    unfold LSt.count lenL
    cases ht : x.has tag
    · have ht' : hasT x.n tag = false := ht
      rw [ht']; rfl
    · have ht' : hasT x.n tag = true := ht
      obtain ⟨t, rfl, htn⟩ := LSt.has_nat ht
      rw [ht', if_pos rfl, if_pos rfl]
      exact h2.count t htn
  rw [e] at hh
  exact hh
theorem hl_tag (h : HL w0 w p b n l A K) (i : Int) (h32 : i ≤ 2147483647) :
    Calls Try.prog 53 #[.pointer (some ⟨p, 0, none⟩), .int .i32 i] w fun e w' => e = .returned (.int .i64 (tagI n l i)) ∧ Below w.heap.size w w' := by
  obtain ⟨x, h1, h2, rfl, h4⟩ := h
  rw [h2.tagI h1.ok]
  exact tag_walk h1 i h32 (h2.tagged h1.ok h1.eight i)
theorem LOk.near (h : LOk x l) (ht : t < x.n) (hk : k < (l t).length) : (x.st.node (l t)[k]).next = (((l t).drop (k + 1)).headD 0 : Nat) ∧ (x.st.node (l t)[k]).prev = (((l t).take k).getLastD 0 : Nat) := by
  have hs := h.seg t ht
  have hi : (l t)[k] ≠ 0 := h.pos ht (List.getElem_mem hk)
  have e : l t = (l t).take k ++ (l t)[k] :: (l t).drop (k + 1) := by simp
  obtain ⟨i, hie⟩ : ∃ i, (l t)[k] = i := ⟨_, rfl⟩
  rw [hie] at e hi ⊢
  rw [e, seg_append] at hs
  have h1 := seg_last _ _ hs.1
  have h2 := seg_head _ _ hs.2
  unfold LSt.pv at h1
  unfold LSt.nx at h2
  rw [if_neg hi] at h1 h2
  exact ⟨h2, h1⟩
theorem hl_after (h : HL w0 w p b n l A K) (ht : t < n) (hk : k < (l t).length) :
    Calls Try.prog 76 #[.pointer (some ⟨p, 0, none⟩), .int .i32 ((l t)[k] : Nat)] w fun e w' => e = .returned (.int .i32 (((l t).drop (k + 1)).headD 0 : Nat)) ∧ Below w.heap.size w w' := by
  obtain ⟨x, h1, h2, rfl, h4⟩ := h
  obtain ⟨g1, g2, g3, g4⟩ := h1.taken (h2.taken t ht _ (List.getElem_mem hk))
  have hh := after_walk h1 ((l t)[k] : Nat) (by omega)
  rw [g4, (h2.near ht hk).1] at hh
  exact hh
theorem hl_pushFront (h : HL w0 w p b n l A K) (tag i : Int) (h32 : i ≤ 2147483647) :
    Calls Try.prog 80 #[.pointer (some ⟨p, 0, none⟩), .int .i64 tag, .int .i32 i] w fun e w' => e = .returned (.bool (pushOk n l A tag i)) ∧ HL w0 w' p b n (pushL true n l A tag i) A K ∧ Kept K w w' := by
  have h0 := h
  obtain ⟨x, h1, h2, rfl, h4⟩ := h
  have hT := h2.tagged h1.ok h1.eight i
  have htg := h2.tagI h1.ok i
  unfold pushL
  cases hok : pushOk x.n l A tag i
  · refine (pushFront_no h1 tag i h32 hT ?_).mono ?_
    · unfold pushOk at hok
      rw [← h4.is, htg] at hok
      rw [← hok]
      show (x.has tag && x.st.is i && _) = (x.has tag && x.st.is i && _)
      congr 1
      simp only [decide_eq_decide]
      omega
    · rintro e w' ⟨rfl, hb⟩
      rw [if_neg (by simp)]
      exact ⟨rfl, h0.still hb⟩
  · unfold pushOk at hok
    rw [← h4.is, htg] at hok
    simp only [Bool.and_eq_true, decide_eq_true_eq] at hok
    obtain ⟨⟨hh, hi⟩, hz⟩ := hok
    obtain ⟨t, rfl, ht⟩ := hasT_nat hh
    obtain ⟨k, rfl, k1, k2, k3⟩ := St.is_nat h1.ok hi
    have e0 := (h1.taken k3).2.2.2
    rw [e0] at hz hT
    have hzk : (x.st.node k).tag = 0 := by omega
    have hs := h2.seg t ht
    have hcnt := h2.count t ht
    have hlen := h2.len h1.ok h1.small ht
    rw [if_pos rfl]
    refine (pushFront_done h1 t k ht k3 hzk (by omega) ((l t).headD 0) (by
      have g := seg_head _ _ hs
      unfold LSt.nx at g
      rw [if_pos rfl] at g
      exact g) ?_).mono ?_
    · rcases headD_mem' (l t) 0 with g | g
      · exact .inl g
      · exact .inr (h2.taken t ht _ g)
    · rintro e w' ⟨rfl, g1, g2⟩
      refine ⟨rfl, ⟨_, g1, ?_, push_n _ _ _ _ _, (push_alike _ _ _ _ _).trans h4⟩, g2⟩
      have := push_ok h2 ht k3 hzk (l1 := []) (l2 := l t) rfl rfl rfl
      simpa using this
theorem hl_remove (h : HL w0 w p b n l A K) (i : Int) (h32 : i ≤ 2147483647) :
    Calls Try.prog 66 #[.pointer (some ⟨p, 0, none⟩), .int .i32 i] w fun e w' => e = .returned (.bool (decide (0 ≤ tagI n l i))) ∧ HL w0 w' p b n (remL n l i) A K ∧ Kept K w w' := by
  have h0 := h
  obtain ⟨x, h1, h2, rfl, h4⟩ := h
  have hT := h2.tagged h1.ok h1.eight i
  have htg := h2.tagI h1.ok i
  unfold remL
  by_cases hz : (x.st.at_ i).tag = 0
  · refine (remove_not h1 i h32 hz).mono ?_
    rintro e w' ⟨rfl, hb⟩
    rw [if_neg (by rw [htg, hz]; decide), decide_eq_false (by rw [htg, hz]; decide)]
    exact ⟨rfl, h0.still hb⟩
  · have hi : x.st.is i = true := by
      cases his : x.st.is i
      · have e : x.st.at_ i = Nd.zero := by unfold St.at_; rw [his]; rfl
        rw [e] at hz
        exact absurd rfl hz
      · rfl
    obtain ⟨k, rfl, k1, k2, k3⟩ := St.is_nat h1.ok hi
    have e0 := (h1.taken k3).2.2.2
    rw [e0] at hz hT htg
    obtain ⟨t, ht, hm, hg⟩ := h2.in_ (i := k) (by omega) hz
    have hg' : (x.st.node k).tag = t + 1 := hg
    have hti : tagI x.n l k = t := by rw [htg, hg']; omega
    rw [hti, if_pos (by omega), decide_eq_true (by omega)]
    obtain ⟨l1, l2, hn1, hl, her⟩ := List.exists_erase_eq hm
    have hs := h2.seg t ht
    rw [hl, seg_append] at hs
    have s1 := seg_last _ _ hs.1
    have s2 := seg_head _ _ hs.2
    unfold LSt.pv at s1
    unfold LSt.nx at s2
    rw [if_neg (by omega)] at s1 s2
    have hcnt := h2.count t ht
    have hlen := h2.len h1.ok h1.small ht
    have hlen1 : 1 ≤ (l t).length := by rw [hl]; simp; omega
    refine (remove_yes h1 t k ht k3 hg' (by omega) (l1.getLastD 0) (l2.headD 0) s1 s2 ?_ ?_).mono ?_
    · rcases getLastD_mem' l1 0 with g | g
      · exact .inl g
      · exact .inr (h2.taken t ht _ (by rw [hl]; exact List.mem_append.2 (.inl g)))
    · rcases headD_mem' l2 0 with g | g
      · exact .inl g
      · exact .inr (h2.taken t ht _ (by rw [hl]; exact List.mem_append.2 (.inr (List.mem_cons.2 (.inr g)))))
    · rintro e w' ⟨rfl, g1, g2⟩
      refine ⟨rfl, ⟨_, g1, ?_, remove_n _ _ _ _ _, (remove_alike _ _ _ _ _).trans h4⟩, g2⟩
      have := remove_ok h2 ht hl rfl rfl
      rw [← her] at this
      exact this
theorem tagI_rem (h : HL w0 w p b n l A K) {i : Nat} (ht : t < n) (hi : i ∈ l t) : tagI n (remL n l i) i = -1 := by
  have e := h.tagI_at ht hi
  unfold remL
  rw [e, if_pos (by omega)]
  refine tagI_out ?_
  rintro u hu ⟨_, hm⟩
  have e1 : ((t : Int)).toNat = t := by omega
  have e2 : ((i : Int)).toNat = i := by omega
  rw [e1, e2] at hm
  by_cases hut : u = t
  · subst hut
    rw [upd_same] at hm
    exact (h.nodup hu).not_mem_erase hm
  · rw [upd_other _ _ _ hut] at hm
    exact hut (h.apart hu ht hm hi)
theorem hl_moveFront (h : HL w0 w p b n l A K) (tag i : Int) (h32 : i ≤ 2147483647) :
    Calls Try.prog 72 #[.pointer (some ⟨p, 0, none⟩), .int .i64 tag, .int .i32 i] w fun e w' => e = .returned (.bool (moveOk n l tag i)) ∧ HL w0 w' p b n (moveL n l tag i) A K ∧ Kept K w w' := by
  have H := Lib.hid h
  unfold moveL moveOk
  cases hh : hasT n tag
  · have HH := Lib.hid hh
    clear h hh
    go_enter Try.func72, Try.ntmps72
    go_wp2_with fail
    refine (hl_has H.out tag).mono ?_
    rintro e w1 ⟨rfl, rfl⟩
    rw [HH.out]
    go_wp2
    go_ret
    exact ⟨rfl, H.out, fun _ _ => rfl⟩
  · have HH := Lib.hid hh
    by_cases ht : 0 ≤ tagI n l i
    · have HR : Hid (Calls Try.prog 66 #[.pointer (some ⟨p, 0, none⟩), .int .i32 i] w fun e w' => e = .returned (.bool true) ∧ HL w0 w' p b n (remL n l i) A K ∧ Kept K w w') := by
        have g := hl_remove h i h32
        rw [decide_eq_true ht] at g
        exact Lib.hid g
      obtain ⟨t, rfl, htn⟩ := hasT_nat hh
      obtain ⟨k, u, rfl, hu, hku⟩ : ∃ k u : Nat, i = k ∧ u < n ∧ k ∈ l u := by
        unfold tagI at ht
        cases hf : (List.range n).find? (fun t => decide (0 < i) && decide (i.toNat ∈ l t)) with
        | none => rw [hf] at ht; simp at ht
        | some u =>
          have g1 := List.find?_some hf
          have g2 := List.mem_of_find?_eq_some hf
          simp at g1 g2
          exact ⟨i.toNat, u, by omega, g2, g1.2⟩
      have e1 := tagI_rem h hu hku
      have his : A.is k = true := by
        have g := h.taken hu hku
        have g' := tk_bounds g
        unfold St.is
        rw [decide_eq_true (by omega)]
        simpa using g
      have eo : pushOk n (remL n l k) A t k = true := by
        unfold pushOk
        rw [hh, his, e1]; rfl
      have HP : Hid (∀ w1, HL w0 w1 p b n (remL n l k) A K → Calls Try.prog 80 #[.pointer (some ⟨p, 0, none⟩), .int .i64 t, .int .i32 k] w1 fun e w' => e = .returned (.bool true) ∧ HL w0 w' p b n (upd (remL n l k) t (k :: remL n l k t)) A K ∧ Kept K w1 w') := Lib.hid (fun w1 g => by
        have g1 := hl_pushFront g t k h32
        unfold pushL at g1
        rw [eo] at g1
        exact g1)
      rw [decide_eq_true ht]
      simp only [Bool.and_self, if_true]
      have e2 : ((t : Int)).toNat = t := by omega
      have e3 : ((k : Int)).toNat = k := by omega
      rw [e2, e3]
      clear h hh ht hku hu e1 his eo e2 e3 htn
      go_enter Try.func72, Try.ntmps72
      go_wp2_with fail
      refine (hl_has H.out t).mono ?_
      rintro e w1 ⟨rfl, rfl⟩
      rw [HH.out]
      go_wp2_with fail
      refine HR.out.mono ?_
      rintro e w1 ⟨rfl, h1, h2⟩
      have H1 := Lib.hid h1
      have K1 := Lib.hid h2
      clear h1 h2
      go_wp2_with fail
      refine (HP.out w1 H1.out).mono ?_
      rintro e w2 ⟨rfl, h1, h2⟩
      have H2 := Lib.hid h1
      have K2 := Lib.hid (K1.out.trans h2)
      clear h1 h2
      go_wp2
      go_ret
      exact ⟨rfl, H2.out, K2.out⟩
    · have HR : Hid (Calls Try.prog 66 #[.pointer (some ⟨p, 0, none⟩), .int .i32 i] w fun e w' => e = .returned (.bool false) ∧ HL w0 w' p b n l A K ∧ Kept K w w') := by
        have g := hl_remove h i h32
        unfold remL at g
        rw [decide_eq_false ht, if_neg ht] at g
        exact Lib.hid g
      rw [decide_eq_false ht]
      clear h hh ht
      go_enter Try.func72, Try.ntmps72
      go_wp2_with fail
      refine (hl_has H.out tag).mono ?_
      rintro e w1 ⟨rfl, rfl⟩
      rw [HH.out]
      go_wp2_with fail
      refine HR.out.mono ?_
      rintro e w1 ⟨rfl, h1, h2⟩
      have H1 := Lib.hid h1
      have K1 := Lib.hid h2
      clear h1 h2
      go_wp2
      go_ret
      exact ⟨rfl, H1.out, K1.out⟩
end
end Go.Proofs.Ytkhikpnlpcankaa
