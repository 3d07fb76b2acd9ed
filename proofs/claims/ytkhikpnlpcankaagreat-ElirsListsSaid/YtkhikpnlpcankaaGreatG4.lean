/- Words and walks: LsB LsL LsJ LsP. -/
import Derived.Test.YtkhikpnlpcankaaGreatG3
import Derived.Deep.RegionHeld3
namespace Go.Proofs.YtkhikpnlpcankaaGreat
open Go Go.RowKit Go.Deep
structure En where
  front : Int
  back : Int
  count : Int
def enCell (x : En) (j : Nat) : Value :=
  match j with
  | 0 => .int .i32 x.front
  | 1 => .int .i32 x.back
  | _ => .int .i64 x.count
def enV (en : Nat → En) (p : Nat) : Value := enCell (en (p / 3)) (p % 3)
theorem enV_at (en : Nat → En) (i j : Nat) (hj : j < 3) : enV en (i * 3 + j) = enCell (en i) j := by
  unfold enV
  rw [show (i * 3 + j) / 3 = i by omega, show (i * 3 + j) % 3 = j by omega]
structure LSt where
  st : St
  n : Nat
  en : Nat → En
def LSt.has (x : LSt) (tag : Int) : Bool := decide (0 ≤ tag) && decide (tag < x.n)
theorem LSt.has_nat {x : LSt} {tag : Int} (h : x.has tag = true) : ∃ t : Nat, tag = t ∧ t < x.n := by
  unfold LSt.has at h
  simp only [Bool.and_eq_true, decide_eq_true_eq] at h
  exact ⟨tag.toNat, by omega, by omega⟩
theorem LSt.has_of {x : LSt} {t : Nat} (h : t < x.n) : x.has t = true := by
  unfold LSt.has
  simp only [Bool.and_eq_true, decide_eq_true_eq]
  omega
abbrev lsCells (b e n : Nat) : Array Value := #[.pointer (some ⟨b, 0, none⟩), .slice (some ⟨e, 0, none⟩) n n]
structure HeldL (w0 w : World) (p b : Nat) (x : LSt) (K : List Nat) : Prop where
  small : x.st.n ≤ 1000000
  one : 1 ≤ x.n
  eight : x.n ≤ 8
  mem : ∃ e, Held w0 w b x.st (p :: e :: K) ∧ w0.heap.size ≤ p ∧ w0.heap.size ≤ e ∧ p ≠ e ∧ p ∉ K ∧ e ∉ K ∧ w.heap[p]? = some (.cells (lsCells b e x.n) 142 (0, 0)) ∧ w.rowIs e 157 (x.n * 3) (enV x.en)
section
variable {w0 w w' : World} {p b e : Nat} {x : LSt} {K : List Nat}
theorem HeldL.still (h : HeldL w0 w p b x K) (hb : Below w.heap.size w w') : HeldL w0 w' p b x K ∧ Kept K w w' := by
  obtain ⟨e, h1, h2, h3, h4, h5, h6, h7, h8⟩ := h.mem
  obtain ⟨g1, g2⟩ := h1.still hb
  exact ⟨⟨h.small, h.one, h.eight, e, g1, h2, h3, h4, h5, h6, (hb.block p (h1.old p (by simp))).trans h7, h8.of_block (hb.block e (h1.old e (by simp)))⟩, fun k hk => g2 k (by simp [hk])⟩
theorem HeldL.below (h : HeldL w0 w p b x K) : Below w0.heap.size w0 w := by
  obtain ⟨e, h1, _⟩ := h.mem
  exact h1.below
theorem HeldL.ok (h : HeldL w0 w p b x K) : x.st.Ok := by
  obtain ⟨e, h1, _⟩ := h.mem
  exact h1.ok
theorem HeldL.old (h : HeldL w0 w p b x K) : ∀ k ∈ K, k < w.heap.size := by
  obtain ⟨e, h1, _⟩ := h.mem
  exact fun k hk => h1.old k (by simp [hk])
theorem HeldL.other (h : HeldL w0 w p b x K) (hb : Below w.heap.size w w') {K' : List Nat} (hk : ∀ k ∈ K', (k ∈ K ∨ w.heap.size ≤ k) ∧ k < w'.heap.size) : HeldL w0 w' p b x K' := by
  obtain ⟨e, h1, h2, h3, h4, h5, h6, h7, h8⟩ := h.mem
  have l1 := h1.old p (by simp)
  have l2 := h1.old e (by simp)
  have hsz := hb.size
  refine ⟨h.small, h.one, h.eight, e, h1.other hb ?_, h2, h3, h4, fun g => (hk _ g).1.elim h5 (by omega), fun g => (hk _ g).1.elim h6 (by omega), (hb.block p l1).trans h7, h8.of_block (hb.block e l2)⟩
  intro k hk'
  rcases List.mem_cons.1 hk' with rfl | hk'
  · exact ⟨.inl (by simp), by omega⟩
  · rcases List.mem_cons.1 hk' with rfl | hk'
    · exact ⟨.inl (by simp), by omega⟩
    · exact ⟨(hk _ hk').1.imp (fun g => by simp [g]) id, (hk _ hk').2⟩
structure Seen (w : World) (p b e : Nat) (x : LSt) : Prop where
  c0 : w.cell? ⟨p, 0, none⟩ = some (.pointer (some ⟨b, 0, none⟩))
  c1 : w.cell? ⟨p, 1, none⟩ = some (.slice (some ⟨e, 0, none⟩) x.n x.n)
  row : w.rowIs e 157 (x.n * 3) (enV x.en)
  lp : p < w.heap.size
theorem HeldL.seen (h : HeldL w0 w p b x K) : ∃ e, Seen w p b e x := by
  obtain ⟨e, h1, _, _, _, _, _, h7, h8⟩ := h.mem
  exact ⟨e, (head_row h7).cell (i := 0) (by simp), (head_row h7).cell (i := 1) (by simp), h8, h1.old p (by simp)⟩
theorem Seen.en (h : Seen w p b e x) {t j : Nat} (ht : t < x.n) (hj : j < 3) : w.cell? ⟨e, t * 3 + j, none⟩ = some (enCell (x.en t) j) := by
  rw [← enV_at _ _ _ hj]; exact h.row.cell (by omega)
theorem Seen.en0 (h : Seen w p b e x) {t : Nat} (ht : t < x.n) : w.cell? ⟨e, t * 3, none⟩ = some (.int .i32 (x.en t).front) := h.en (j := 0) ht (by decide)
theorem Seen.en1 (h : Seen w p b e x) {t : Nat} (ht : t < x.n) : w.cell? ⟨e, t * 3 + 1, none⟩ = some (.int .i32 (x.en t).back) := h.en (j := 1) ht (by decide)
theorem Seen.en2 (h : Seen w p b e x) {t : Nat} (ht : t < x.n) : w.cell? ⟨e, t * 3 + 2, none⟩ = some (.int .i64 (x.en t).count) := h.en (j := 2) ht (by decide)
theorem lhas_walk (h : HeldL w0 w p b x K) (tag : Int) :
    Calls Tryz.prog 118 #[.pointer (some ⟨p, 0, none⟩), .int .i64 tag] w fun e w' => e = .returned (.bool (x.has tag)) ∧ w = w' := by
  obtain ⟨e, hs⟩ := h.seen
  have c1 := hs.c1
  have h8 := h.eight
  clear h hs
  unfold LSt.has
  by_cases h0 : 0 ≤ tag
  · by_cases h1 : tag < x.n
    · rw [decide_eq_true h0, decide_eq_true h1]
      go_enter Tryz.func118, Tryz.ntmps118
      go_wp2
      go_ret
      exact ⟨rfl, rfl⟩
    · rw [decide_eq_true h0, decide_eq_false h1]
      go_enter Tryz.func118, Tryz.ntmps118
      go_wp2
      go_ret
      exact ⟨rfl, rfl⟩
  · rw [decide_eq_false h0]
    go_enter Tryz.func118, Tryz.ntmps118
    go_wp2
    go_ret
    exact ⟨rfl, rfl⟩
def LSt.front (x : LSt) (tag : Int) : Int := if x.has tag then (x.en tag.toNat).front else 0
def LSt.back (x : LSt) (tag : Int) : Int := if x.has tag then (x.en tag.toNat).back else 0
def LSt.count (x : LSt) (tag : Int) : Int := if x.has tag then (x.en tag.toNat).count else 0
theorem front_walk (h : HeldL w0 w p b x K) (tag : Int) :
    Calls Tryz.prog 133 #[.pointer (some ⟨p, 0, none⟩), .int .i64 tag] w fun e w' => e = .returned (.int .i32 (x.front tag)) ∧ w = w' := by
  obtain ⟨e, hs⟩ := h.seen
  have H := Lib.hid h
  have hp := hs.lp
  unfold LSt.front
  cases ht : x.has tag
  · have HT := Lib.hid ht
    clear h hs ht
    go_enter Tryz.func133, Tryz.ntmps133
    go_wp2_with fail
    refine (lhas_walk H.out tag).mono ?_
    rintro e w' ⟨rfl, rfl⟩
    rw [HT.out]
    go_wp2
    go_ret
    exact ⟨rfl, rfl⟩
  · obtain ⟨t, rfl, htn⟩ := LSt.has_nat ht
    have c1 := hs.c1
    have c2 := hs.en0 htn
    have h8 := h.eight
    have HT := Lib.hid ht
    clear h hs ht
    go_enter Tryz.func133, Tryz.ntmps133
    go_wp2_with fail
    refine (lhas_walk H.out t).mono ?_
    rintro e w' ⟨rfl, rfl⟩
    rw [HT.out]
    go_wp2
    go_ret
    exact ⟨rfl, rfl⟩
theorem back_walk (h : HeldL w0 w p b x K) (tag : Int) :
    Calls Tryz.prog 128 #[.pointer (some ⟨p, 0, none⟩), .int .i64 tag] w fun e w' => e = .returned (.int .i32 (x.back tag)) ∧ w = w' := by
  obtain ⟨e, hs⟩ := h.seen
  have H := Lib.hid h
  have hp := hs.lp
  unfold LSt.back
  cases ht : x.has tag
  · have HT := Lib.hid ht
    clear h hs ht
    go_enter Tryz.func128, Tryz.ntmps128
    go_wp2_with fail
    refine (lhas_walk H.out tag).mono ?_
    rintro e w' ⟨rfl, rfl⟩
    rw [HT.out]
    go_wp2
    go_ret
    exact ⟨rfl, rfl⟩
  · obtain ⟨t, rfl, htn⟩ := LSt.has_nat ht
    have c1 := hs.c1
    have c2 := hs.en1 htn
    have h8 := h.eight
    have HT := Lib.hid ht
    clear h hs ht
    go_enter Tryz.func128, Tryz.ntmps128
    go_wp2_with fail
    refine (lhas_walk H.out t).mono ?_
    rintro e w' ⟨rfl, rfl⟩
    rw [HT.out]
    go_wp2
    go_ret
    exact ⟨rfl, rfl⟩
theorem count_walk (h : HeldL w0 w p b x K) (tag : Int) :
    Calls Tryz.prog 92 #[.pointer (some ⟨p, 0, none⟩), .int .i64 tag] w fun e w' => e = .returned (.int .i64 (x.count tag)) ∧ w = w' := by
  obtain ⟨e, hs⟩ := h.seen
  have H := Lib.hid h
  have hp := hs.lp
  unfold LSt.count
  cases ht : x.has tag
  · have HT := Lib.hid ht
    clear h hs ht
    go_enter Tryz.func92, Tryz.ntmps92
    go_wp2_with fail
    refine (lhas_walk H.out tag).mono ?_
    rintro e w' ⟨rfl, rfl⟩
    rw [HT.out]
    go_wp2
    go_ret
    exact ⟨rfl, rfl⟩
  · obtain ⟨t, rfl, htn⟩ := LSt.has_nat ht
    have c1 := hs.c1
    have c2 := hs.en2 htn
    have h8 := h.eight
    have HT := Lib.hid ht
    clear h hs ht
    go_enter Tryz.func92, Tryz.ntmps92
    go_wp2_with fail
    refine (lhas_walk H.out t).mono ?_
    rintro e w' ⟨rfl, rfl⟩
    rw [HT.out]
    go_wp2
    go_ret
    exact ⟨rfl, rfl⟩
end
section
variable {w0 w w' : World} {p b e : Nat} {x : LSt} {K : List Nat}
theorem heldl_at (h : HeldL w0 w p b x K) (i : Int) (h32 : i ≤ 2147483647) :
    Calls Tryz.prog 89 #[.pointer (some ⟨b, 0, none⟩), .int .i32 i] w fun e w' => e = .returned (x.st.at_ i).v ∧ Below w.heap.size w w' := by
  obtain ⟨e, h1, _⟩ := h.mem
  exact held_at h1 h.small i h32
theorem heldl_is (h : HeldL w0 w p b x K) (i : Int) (h32 : i ≤ 2147483647) :
    Calls Tryz.prog 116 #[.pointer (some ⟨b, 0, none⟩), .int .i32 i] w fun e w' => e = .returned (.bool (x.st.is i)) ∧ w = w' := by
  obtain ⟨e, h1, _⟩ := h.mem
  exact held_is h1 h.small i h32
theorem after_walk (h : HeldL w0 w p b x K) (i : Int) (h32 : i ≤ 2147483647) :
    Calls Tryz.prog 134 #[.pointer (some ⟨p, 0, none⟩), .int .i32 i] w fun e w' => e = .returned (.int .i32 (x.st.at_ i).next) ∧ Below w.heap.size w w' := by
  obtain ⟨e, hs⟩ := h.seen
  have c0 := hs.c0
  have HA := Lib.hid (heldl_at h i h32)
  clear h hs
  obtain ⟨y, hy⟩ : ∃ y, x.st.at_ i = y := ⟨_, rfl⟩
  rw [hy] at HA ⊢
  clear hy
  have hfld : ∀ w : World, (Instr.field 117 y.v 5).run Tryz.prog w = .ok (.int .i32 y.next) w := fun _ => by kernel_rfl
  go_enter Tryz.func134, Tryz.ntmps134
  go_wp2_with fail
  refine HA.out.mono ?_
  rintro e w' ⟨rfl, hb⟩
  go_wp2
  go_ret
  exact ⟨rfl, hb⟩
theorem tag_walk (h : HeldL w0 w p b x K) (i : Int) (h32 : i ≤ 2147483647) (ht : 0 ≤ (x.st.at_ i).tag ∧ (x.st.at_ i).tag ≤ 8) :
    Calls Tryz.prog 91 #[.pointer (some ⟨p, 0, none⟩), .int .i32 i] w fun e w' => e = .returned (.int .i64 ((x.st.at_ i).tag - 1)) ∧ Below w.heap.size w w' := by
  obtain ⟨e, hs⟩ := h.seen
  have c0 := hs.c0
  have HA := Lib.hid (heldl_at h i h32)
  clear h hs
  obtain ⟨y, hy⟩ : ∃ y, x.st.at_ i = y := ⟨_, rfl⟩
  rw [hy] at HA ht ⊢
  clear hy
  have hfld : ∀ w : World, (Instr.field 117 y.v 3).run Tryz.prog w = .ok (.int .i64 y.tag) w := fun _ => by kernel_rfl
  obtain ⟨t1, t2⟩ := ht
  have e1 : IntKind.i64.wrap (y.tag - 1) = y.tag - 1 := IntWalk.i64_in _ (by omega)
  go_enter Tryz.func91, Tryz.ntmps91
  go_wp2_with fail
  refine HA.out.mono ?_
  rintro e w' ⟨rfl, hb⟩
  go_wp2
  go_ret
  exact ⟨rfl, hb⟩
def LSt.setEn (x : LSt) (t : Nat) (E : En) : LSt := { x with en := upd x.en t E }
def LSt.setNd (x : LSt) (i : Nat) (y : Nd) : LSt := { x with st := x.st.set i y }
theorem heldl_set (h : HeldL w0 w p b x K) (i : Nat) (hi : x.st.tk i = true) (y : Nd) :
    Calls Tryz.prog 138 #[.pointer (some ⟨b, 0, none⟩), .int .i32 i, y.v] w fun e w' => e = .returned (.bool true) ∧ HeldL w0 w' p b (x.setNd i y) K ∧ Kept K w w' := by
  obtain ⟨e, h1, h2, h3, h4, h5, h6, h7, h8⟩ := h.mem
  have his : x.st.is i = true := by unfold St.is; rw [decide_eq_true (by have := tk_bounds hi; omega)]; simpa using hi
  have hlt : i < x.st.n := by have := tk_bounds hi; have := h1.ok.room; omega
  have hsm := h.small
  refine (held_set h1 h.small i (by omega) y).mono ?_
  rintro e' w' ⟨rfl, g1, g2⟩
  rw [his]
  have e1 : x.st.setI i y = x.st.set i y := by unfold St.setI; rw [his]; rfl
  rw [e1] at g1
  exact ⟨rfl, ⟨h.small, h.one, h.eight, e, g1, h2, h3, h4, h5, h6, (g2 p (by simp)).trans h7, h8.of_block (g2 e (by simp))⟩, fun k hk => g2 k (by simp [hk])⟩
theorem row_en {w : World} {e : Nat} {t : TypeId} {n : Nat} {en : Nat → En} (h : w.rowIs e t (n * 3) (enV en)) (i j : Nat) (hj : j < 3) (E : En) (v : Value) (hv : v = enCell E j) (ho : ∀ k, k < 3 → k ≠ j → enCell E k = enCell (en i) k) :
    (w.setCell ⟨e, i * 3 + j, none⟩ v).rowIs e t (n * 3) (enV (upd en i E)) := by
  refine (h.set _ _).congr fun q _ => ?_
  by_cases hq : q / 3 = i
  · obtain ⟨k, hk, rfl⟩ : ∃ k, k < 3 ∧ q = i * 3 + k := ⟨q % 3, by omega, by omega⟩
    rw [enV_at (upd en i E) _ _ hk, upd_same]
    by_cases e1 : k = j
    · subst e1; rw [if_pos rfl, hv]
    · rw [if_neg (by omega), enV_at _ _ _ hk, ho k hk e1]
  · rw [if_neg (by omega)]
    unfold enV
    rw [upd_other _ _ _ hq]
theorem HeldL.store (h : HeldL w0 w p b x K) (hs : Seen w p b e x) (t j : Nat) (hj : j < 3) (E : En) (v : Value) (hv : v = enCell E j) (ho : ∀ k, k < 3 → k ≠ j → enCell E k = enCell (x.en t) k) :
    HeldL w0 (w.setCell ⟨e, t * 3 + j, none⟩ v) p b (x.setEn t E) K ∧ Kept K w (w.setCell ⟨e, t * 3 + j, none⟩ v) := by
  obtain ⟨e', h1, h2, h3, h4, h5, h6, h7, h8⟩ := h.mem
  have c1 := hs.c1
  rw [(head_row h7).cell (i := 1) (by simp)] at c1
  simp at c1
  subst c1
  have hold := h1.old
  have ho' : Only [e'] w (w.setCell ⟨e', t * 3 + j, none⟩ v) := (Only.refl [e'] w).setCell (p := ⟨e', t * 3 + j, none⟩) (by simp) v
  have g := h1.mem
  obtain ⟨s, f, m1, m2, m3, kb, ks, kf, ha⟩ := g
  refine ⟨⟨h.small, h.one, h.eight, e', ⟨?_, h1.ok, fun k hk => Nat.lt_of_lt_of_le (hold k hk) ho'.size, s, f, m1, m2, m3, kb, ks, kf, ?_⟩, h2, h3, h4, h5, h6, ?_, row_en h8 t j hj E v hv ho⟩, ?_⟩
  · exact h1.below.trans (ho'.below (by simpa using h3) h1.below.size)
  · exact ha.keep ho' (fun g => kb (by simp at g; simp [g])) (fun g => ks (by simp at g; simp [g])) (fun g => kf (by simp at g; simp [g]))
  · exact (ho'.block p (hold p (by simp)) (by simpa using h4)).trans h7
  · intro k hk
    exact ho'.block k (hold k (by simp [hk])) (by simp; intro g; exact h6 (g ▸ hk))
end
theorem six_cells {W : World} {g : Nat} {t : TypeId} {b0 b1 b2 b3 b4 b5 : Value} (h : W.heap[g]? = some (.cells #[b0, b1, b2, b3, b4, b5] t (0, 0))) :
    W.cell? ⟨g, 0, none⟩ = some b0 ∧ W.cell? ⟨g, 1, none⟩ = some b1 ∧ W.cell? ⟨g, 2, none⟩ = some b2 ∧ W.cell? ⟨g, 3, none⟩ = some b3 ∧ W.cell? ⟨g, 4, none⟩ = some b4 ∧ W.cell? ⟨g, 5, none⟩ = some b5 :=
  ⟨(head_row h).cell (i := 0) (by simp), (head_row h).cell (i := 1) (by simp), (head_row h).cell (i := 2) (by simp), (head_row h).cell (i := 3) (by simp), (head_row h).cell (i := 4) (by simp), (head_row h).cell (i := 5) (by simp)⟩
abbrev Nd.cells (y : Nd) : Array Value := #[.int .u64 y.key, .int .u64 y.val, .int .i64 y.flag, .int .i64 y.tag, .int .i32 y.prev, .int .i32 y.next]
section
variable {w0 w w1 w2 w' : World} {p b e : Nat} {x : LSt} {K : List Nat}
theorem HeldL.boxed (h : HeldL w0 w p b x K) (hb : Below w.heap.size w w1) (cs : Array Value) (T : TypeId) :
    HeldL w0 (w1.alloc (.cells cs T)) p b x (w1.heap.size :: K) ∧ Kept K w (w1.alloc (.cells cs T)) ∧ (w1.alloc (.cells cs T)).heap[w1.heap.size]? = some (.cells cs T (0, 0)) ∧ Below w.heap.size w (w1.alloc (.cells cs T)) := by
  have hsz := hb.size
  have hb2 := hb.alloc hsz (.cells cs T)
  refine ⟨h.other hb2 (fun k hk => ?_), (h.still hb2).2, heap_alloc_new w1 _, hb2⟩
  rcases List.mem_cons.1 hk with rfl | hk
  · exact ⟨.inr hsz, by simp⟩
  · exact ⟨.inl hk, by have := h.old k hk; simp; omega⟩
theorem HeldL.unbox {q : Nat} (h : HeldL w0 w p b x (q :: K)) : HeldL w0 w p b x K :=
  h.other (Below.refl _ _) (fun k hk => ⟨.inl (by simp [hk]), h.old k (by simp [hk])⟩)
theorem Kept.trans {w2 : World} (h : Kept K w w1) (k : Kept K w1 w2) : Kept K w w2 := fun i hi => (k i hi).trans (h i hi)
theorem Kept.tail {q : Nat} (h : Kept (q :: K) w w1) : Kept K w w1 := fun i hi => h i (by simp [hi])
theorem HeldL.c0 (h : HeldL w0 w p b x K) : w.cell? ⟨p, 0, none⟩ = some (.pointer (some ⟨b, 0, none⟩)) := by
  obtain ⟨e, hs⟩ := h.seen
  exact hs.c0
theorem HeldL.taken (h : HeldL w0 w p b x K) {i : Nat} (hi : x.st.tk i = true) : 0 < i ∧ i ≤ 1000000 ∧ x.st.is i = true ∧ x.st.at_ i = x.st.node i := by
  have h1 := tk_bounds hi
  have h2 := h.ok.room
  have h3 := h.small
  have his : x.st.is i = true := by unfold St.is; rw [decide_eq_true (by omega)]; simpa using hi
  exact ⟨by omega, by omega, his, by unfold St.at_; rw [his]; rfl⟩
theorem setAfter_end (h : HeldL w0 w p b x K) (t : Nat) (ht : t < x.n) (v : Int) :
    Calls Tryz.prog 145 #[.pointer (some ⟨p, 0, none⟩), .int .i64 t, .int .i32 0, .int .i32 v] w fun e w' => e = .returned (.tuple #[]) ∧ HeldL w0 w' p b (x.setEn t { x.en t with front := v }) K ∧ Kept K w w' := by
  obtain ⟨e, hs⟩ := h.seen
  have c1 := hs.c1
  have c2 := hs.en0 ht
  have z2 := hs.row.frozen (t * 3)
  have h8 := h.eight
  have HE := Lib.hid (h.store hs t 0 (by decide) { x.en t with front := v } (.int .i32 v) rfl (fun k hk hne => by
    match k, hk with
    | 0, _ => first | rfl | exact absurd rfl hne
    | 1, _ => first | rfl | exact absurd rfl hne
    | 2, _ => rfl))
  clear h hs
  go_enter Tryz.func145, Tryz.ntmps145
  go_wp2
  exact bodyPost_ret (results_none rfl _ _ _) rfl ⟨rfl, HE.out⟩
theorem setAfter_some (h : HeldL w0 w p b x K) (t : Nat) (i : Nat) (hi : x.st.tk i = true) (v : Int) :
    Calls Tryz.prog 145 #[.pointer (some ⟨p, 0, none⟩), .int .i64 t, .int .i32 i, .int .i32 v] w fun e w' => e = .returned (.tuple #[]) ∧ HeldL w0 w' p b (x.setNd i { x.st.node i with next := v }) K ∧ Kept K w w' := by
  obtain ⟨e, hs⟩ := h.seen
  have c0 := hs.c0
  have hp := hs.lp
  obtain ⟨hi0, hlt, _, e0⟩ := h.taken hi
  have hat := heldl_at h i (by omega)
  rw [e0] at hat
  obtain ⟨y, hy⟩ : ∃ y, x.st.node i = y := ⟨_, rfl⟩
  rw [hy] at hat ⊢
  have HAT := Lib.hid hat
  have H := Lib.hid h
  have HI := Lib.hid hi
  clear h hs hat e0 hy hi
  obtain ⟨y', hy'⟩ : ∃ y' : Nd, y' = { y with next := v } := ⟨_, rfl⟩
  rw [← hy']
  have HY := Lib.hid hy'
  clear hy'
  go_enter Tryz.func145, Tryz.ntmps145
  go_wp2_with fail
  refine HAT.out.mono ?_
  rintro e w1 ⟨rfl, hb⟩
  have c1 := (hb.cell hp).trans c0
  clear c0
  go_wp2_with fail
  have hx := H.out.boxed hb #[.int .u64 y.key, .int .u64 y.val, .int .i64 y.flag, .int .i64 y.tag, .int .i32 y.prev, .int .i32 v] 117
  have hyc : (#[.int .u64 y.key, .int .u64 y.val, .int .i64 y.flag, .int .i64 y.tag, .int .i32 y.prev, .int .i32 v] : Array Value) = y'.cells := by rw [HY.out]
  rw [hyc] at hx ⊢
  obtain ⟨q, hq⟩ : ∃ q, w1.heap.size = q := ⟨_, rfl⟩
  rw [hq] at hx ⊢
  obtain ⟨W, hW⟩ : ∃ W, w1.alloc (.cells y'.cells 117) = W := ⟨_, rfl⟩
  rw [hW] at hx ⊢
  clear hW hyc hq c1 hb
  obtain ⟨hx1, hx2, hx3, _⟩ := hx
  have HX := Lib.hid hx1
  have HK := Lib.hid hx2
  have HS := Lib.hid hx3
  have cc0 := hx1.c0
  obtain ⟨d0, d1, d2, d3, d4, d5⟩ := six_cells hx3
  clear hx1 hx2 hx3
  go_region_held3 (fun w' => w'.cell? ⟨p, 0, none⟩ = some (.pointer (some ⟨b, 0, none⟩)) ∧ w'.cell? ⟨q, 0, none⟩ = some (.int .u64 y'.key) ∧ w'.cell? ⟨q, 1, none⟩ = some (.int .u64 y'.val) ∧ w'.cell? ⟨q, 2, none⟩ = some (.int .i64 y'.flag) ∧ w'.cell? ⟨q, 3, none⟩ = some (.int .i64 y'.tag) ∧ w'.cell? ⟨q, 4, none⟩ = some (.int .i32 y'.prev) ∧ w'.cell? ⟨q, 5, none⟩ = some (.int .i32 y'.next))
    (first | go_keep | exact kk0)
    (first | (go_at_call 138; refine (heldl_set (HX.out.still (Below.refl _ _).drew).1 i HI.out y').mono ?_; rintro e w2 ⟨rfl, h1, h2⟩; have kk0 := And.intro h1.c0 (six_cells ((h2 q (by simp)).trans HS.out))))
  have H1 := Lib.hid h1.unbox
  have H2 := Lib.hid (HK.out.trans (Kept.tail h2))
  clear h1 h2 kk0
  go_wp2
  go_end0
  exact ⟨rfl, H1.out, H2.out⟩
theorem setBefore_end (h : HeldL w0 w p b x K) (t : Nat) (ht : t < x.n) (v : Int) :
    Calls Tryz.prog 146 #[.pointer (some ⟨p, 0, none⟩), .int .i64 t, .int .i32 0, .int .i32 v] w fun e w' => e = .returned (.tuple #[]) ∧ HeldL w0 w' p b (x.setEn t { x.en t with back := v }) K ∧ Kept K w w' := by
  obtain ⟨e, hs⟩ := h.seen
  have c1 := hs.c1
  have c2 := hs.en1 ht
  have z2 := hs.row.frozen (t * 3 + 1)
  have h8 := h.eight
  have HE := Lib.hid (h.store hs t 1 (by decide) { x.en t with back := v } (.int .i32 v) rfl (fun k hk hne => by
    match k, hk with
    | 0, _ => first | rfl | exact absurd rfl hne
    | 1, _ => first | rfl | exact absurd rfl hne
    | 2, _ => rfl))
  clear h hs
  go_enter Tryz.func146, Tryz.ntmps146
  go_wp2
  exact bodyPost_ret (results_none rfl _ _ _) rfl ⟨rfl, HE.out⟩
theorem setBefore_some (h : HeldL w0 w p b x K) (t : Nat) (i : Nat) (hi : x.st.tk i = true) (v : Int) :
    Calls Tryz.prog 146 #[.pointer (some ⟨p, 0, none⟩), .int .i64 t, .int .i32 i, .int .i32 v] w fun e w' => e = .returned (.tuple #[]) ∧ HeldL w0 w' p b (x.setNd i { x.st.node i with prev := v }) K ∧ Kept K w w' := by
  obtain ⟨e, hs⟩ := h.seen
  have c0 := hs.c0
  have hp := hs.lp
  obtain ⟨hi0, hlt, _, e0⟩ := h.taken hi
  have hat := heldl_at h i (by omega)
  rw [e0] at hat
  obtain ⟨y, hy⟩ : ∃ y, x.st.node i = y := ⟨_, rfl⟩
  rw [hy] at hat ⊢
  have HAT := Lib.hid hat
  have H := Lib.hid h
  have HI := Lib.hid hi
  clear h hs hat e0 hy hi
  obtain ⟨y', hy'⟩ : ∃ y' : Nd, y' = { y with prev := v } := ⟨_, rfl⟩
  rw [← hy']
  have HY := Lib.hid hy'
  clear hy'
  go_enter Tryz.func146, Tryz.ntmps146
  go_wp2_with fail
  refine HAT.out.mono ?_
  rintro e w1 ⟨rfl, hb⟩
  have c1 := (hb.cell hp).trans c0
  clear c0
  go_wp2_with fail
  have hx := H.out.boxed hb #[.int .u64 y.key, .int .u64 y.val, .int .i64 y.flag, .int .i64 y.tag, .int .i32 v, .int .i32 y.next] 117
  have hyc : (#[.int .u64 y.key, .int .u64 y.val, .int .i64 y.flag, .int .i64 y.tag, .int .i32 v, .int .i32 y.next] : Array Value) = y'.cells := by rw [HY.out]
  rw [hyc] at hx ⊢
  obtain ⟨q, hq⟩ : ∃ q, w1.heap.size = q := ⟨_, rfl⟩
  rw [hq] at hx ⊢
  obtain ⟨W, hW⟩ : ∃ W, w1.alloc (.cells y'.cells 117) = W := ⟨_, rfl⟩
  rw [hW] at hx ⊢
  clear hW hyc hq c1 hb
  obtain ⟨hx1, hx2, hx3, _⟩ := hx
  have HX := Lib.hid hx1
  have HK := Lib.hid hx2
  have HS := Lib.hid hx3
  have cc0 := hx1.c0
  obtain ⟨d0, d1, d2, d3, d4, d5⟩ := six_cells hx3
  clear hx1 hx2 hx3
  go_region_held3 (fun w' => w'.cell? ⟨p, 0, none⟩ = some (.pointer (some ⟨b, 0, none⟩)) ∧ w'.cell? ⟨q, 0, none⟩ = some (.int .u64 y'.key) ∧ w'.cell? ⟨q, 1, none⟩ = some (.int .u64 y'.val) ∧ w'.cell? ⟨q, 2, none⟩ = some (.int .i64 y'.flag) ∧ w'.cell? ⟨q, 3, none⟩ = some (.int .i64 y'.tag) ∧ w'.cell? ⟨q, 4, none⟩ = some (.int .i32 y'.prev) ∧ w'.cell? ⟨q, 5, none⟩ = some (.int .i32 y'.next))
    (first | go_keep | exact kk0)
    (first | (go_at_call 138; refine (heldl_set (HX.out.still (Below.refl _ _).drew).1 i HI.out y').mono ?_; rintro e w2 ⟨rfl, h1, h2⟩; have kk0 := And.intro h1.c0 (six_cells ((h2 q (by simp)).trans HS.out))))
  have H1 := Lib.hid h1.unbox
  have H2 := Lib.hid (HK.out.trans (Kept.tail h2))
  clear h1 h2 kk0
  go_wp2
  go_end0
  exact ⟨rfl, H1.out, H2.out⟩
end
def LSt.setAfter (x : LSt) (t i : Nat) (v : Int) : LSt := if i = 0 then x.setEn t { x.en t with front := v } else x.setNd i { x.st.node i with next := v }
def LSt.setBefore (x : LSt) (t i : Nat) (v : Int) : LSt := if i = 0 then x.setEn t { x.en t with back := v } else x.setNd i { x.st.node i with prev := v }
def LSt.join (x : LSt) (t a c : Nat) : LSt := (x.setAfter t a c).setBefore t c a
def LSt.tk (x : LSt) (i : Nat) : Bool := x.st.tk i
section
variable (x : LSt) (t i u : Nat) (v : Int)
theorem setAfter_tk : (x.setAfter t u v).st.tk i = x.st.tk i := by unfold LSt.setAfter; split <;> rfl
theorem setBefore_tk : (x.setBefore t u v).st.tk i = x.st.tk i := by unfold LSt.setBefore; split <;> rfl
theorem setAfter_n : (x.setAfter t i v).n = x.n := by unfold LSt.setAfter; split <;> rfl
theorem setBefore_n : (x.setBefore t i v).n = x.n := by unfold LSt.setBefore; split <;> rfl
theorem setAfter_count : ((x.setAfter t i v).en u).count = (x.en u).count := by
  unfold LSt.setAfter
  split
  · show (upd x.en t _ u).count = _
    unfold upd; split
    · rename_i e; subst e; rfl
    · rfl
  · rfl
theorem setBefore_count : ((x.setBefore t i v).en u).count = (x.en u).count := by
  unfold LSt.setBefore
  split
  · show (upd x.en t _ u).count = _
    unfold upd; split
    · rename_i e; subst e; rfl
    · rfl
  · rfl
theorem join_tk (a c : Nat) : (x.join t a c).st.tk i = x.st.tk i := by unfold LSt.join; rw [setBefore_tk, setAfter_tk]
theorem join_n (a c : Nat) : (x.join t a c).n = x.n := by unfold LSt.join; rw [setBefore_n, setAfter_n]
theorem join_count (a c : Nat) : ((x.join t a c).en u).count = (x.en u).count := by unfold LSt.join; rw [setBefore_count, setAfter_count]
end
section
variable {w0 w w1 w2 w' : World} {p b e : Nat} {x : LSt} {K : List Nat}
theorem setAfter_walk (h : HeldL w0 w p b x K) (t : Nat) (ht : t < x.n) (i : Nat) (hi : i = 0 ∨ x.st.tk i = true) (v : Int) :
    Calls Tryz.prog 145 #[.pointer (some ⟨p, 0, none⟩), .int .i64 t, .int .i32 i, .int .i32 v] w fun e w' => e = .returned (.tuple #[]) ∧ HeldL w0 w' p b (x.setAfter t i v) K ∧ Kept K w w' := by
  unfold LSt.setAfter
  by_cases h0 : i = 0
  · subst h0; rw [if_pos rfl]; exact setAfter_end h t ht v
  · rw [if_neg h0]; exact setAfter_some h t i (hi.resolve_left h0) v
theorem setBefore_walk (h : HeldL w0 w p b x K) (t : Nat) (ht : t < x.n) (i : Nat) (hi : i = 0 ∨ x.st.tk i = true) (v : Int) :
    Calls Tryz.prog 146 #[.pointer (some ⟨p, 0, none⟩), .int .i64 t, .int .i32 i, .int .i32 v] w fun e w' => e = .returned (.tuple #[]) ∧ HeldL w0 w' p b (x.setBefore t i v) K ∧ Kept K w w' := by
  unfold LSt.setBefore
  by_cases h0 : i = 0
  · subst h0; rw [if_pos rfl]; exact setBefore_end h t ht v
  · rw [if_neg h0]; exact setBefore_some h t i (hi.resolve_left h0) v
theorem join_walk (h : HeldL w0 w p b x K) (t : Nat) (ht : t < x.n) (a c : Nat) (ha : a = 0 ∨ x.st.tk a = true) (hc : c = 0 ∨ x.st.tk c = true) :
    Calls Tryz.prog 137 #[.pointer (some ⟨p, 0, none⟩), .int .i64 t, .int .i32 a, .int .i32 c] w fun e w' => e = .returned (.tuple #[]) ∧ HeldL w0 w' p b (x.join t a c) K ∧ Kept K w w' := by
  have H := Lib.hid h
  have HA := Lib.hid ha
  have HC := Lib.hid hc
  have HT := Lib.hid ht
  clear h ha hc ht
  go_enter Tryz.func137, Tryz.ntmps137
  go_wp2_with fail
  refine (setAfter_walk H.out t HT.out a HA.out c).mono ?_
  rintro e w1 ⟨rfl, h1, h2⟩
  have H1 := Lib.hid h1
  have K1 := Lib.hid h2
  clear h1 h2
  go_wp2_with fail
  refine (setBefore_walk H1.out t (by rw [setAfter_n]; exact HT.out) c (by rw [setAfter_tk]; exact HC.out) a).mono ?_
  rintro e w2 ⟨rfl, h1, h2⟩
  have H2 := Lib.hid h1
  have K2 := Lib.hid h2
  clear h1 h2
  go_wp2
  go_end0
  exact ⟨rfl, H2.out, K1.out.trans K2.out⟩
def LSt.push3 (x : LSt) (t i a c : Nat) : LSt := ((x.setNd i { x.st.node i with tag := t + 1 }).join t a i).join t i c
def LSt.push (x : LSt) (t i a c : Nat) : LSt := (x.push3 t i a c).setEn t { (x.push3 t i a c).en t with count := (x.en t).count + 1 }
theorem push3_count (x : LSt) (t i a c u : Nat) : ((x.push3 t i a c).en u).count = (x.en u).count := by
  unfold LSt.push3
  rw [join_count, join_count]; rfl
theorem push3_n (x : LSt) (t i a c : Nat) : (x.push3 t i a c).n = x.n := by
  unfold LSt.push3
  rw [join_n, join_n]; rfl
theorem pushFront_not (h : HeldL w0 w p b x K) (tag i : Int) (h32 : i ≤ 2147483647) (hT : 0 ≤ (x.st.at_ i).tag ∧ (x.st.at_ i).tag ≤ 8) (hno : (x.has tag && x.st.is i && decide ((x.st.at_ i).tag = 0)) = false) (B0 B1 : Nat) :
    Calls Tryz.prog 150 #[.pointer (some ⟨p, 0, none⟩), .int .i64 tag, .int .i32 i, .func (.func 151) #[] #[.pointer (some ⟨B0, 0, none⟩), .pointer (some ⟨B1, 0, none⟩)]] w fun e w' => e = .returned (.bool false) ∧ Below w.heap.size w w' := by
  have H := Lib.hid h
  have c0 := h.c0
  cases ht : x.has tag
  · have HT := Lib.hid ht
    clear h ht hno hT
    go_enter Tryz.func150, Tryz.ntmps150
    go_wp2_with fail
    refine (lhas_walk H.out tag).mono ?_
    rintro e w1 ⟨rfl, rfl⟩
    rw [HT.out]
    go_wp2
    go_ret
    exact ⟨rfl, Below.refl _ _⟩
  · have HT := Lib.hid ht
    cases hi : x.st.is i
    · have HI := Lib.hid hi
      clear h ht hno hi hT
      go_enter Tryz.func150, Tryz.ntmps150
      go_wp2_with fail
      refine (lhas_walk H.out tag).mono ?_
      rintro e w1 ⟨rfl, rfl⟩
      rw [HT.out]
      go_wp2_with fail
      refine (heldl_is H.out i h32).mono ?_
      rintro e w1 ⟨rfl, rfl⟩
      rw [HI.out]
      go_wp2
      go_ret
      exact ⟨rfl, Below.refl _ _⟩
    · have HI := Lib.hid hi
      have HTG := Lib.hid (tag_walk H.out i h32 hT)
      rw [ht, hi] at hno
      simp only [Bool.and_self, Bool.true_and, decide_eq_false_iff_not] at hno
      obtain ⟨g, hg⟩ : ∃ g, (x.st.at_ i).tag = g := ⟨_, rfl⟩
      rw [hg] at HTG hT hno
      have hge : (0 : Int) ≤ g - 1 := by omega
      have hle : g ≤ 8 := hT.2
      clear h ht hno hi hT hg
      go_enter Tryz.func150, Tryz.ntmps150
      go_wp2_with fail
      refine (lhas_walk H.out tag).mono ?_
      rintro e w1 ⟨rfl, rfl⟩
      rw [HT.out]
      go_wp2_with fail
      refine (heldl_is H.out i h32).mono ?_
      rintro e w1 ⟨rfl, rfl⟩
      rw [HI.out]
      go_wp2_with fail
      refine HTG.out.mono ?_
      rintro e w1 ⟨rfl, hb⟩
      go_wp2
      go_ret
      exact ⟨rfl, hb⟩
set_option maxHeartbeats 400000 in
theorem pushFront_yes (h : HeldL w0 w p b x K) (t i : Nat) (ht : t < x.n) (hi : x.st.tk i = true) (hT : (x.st.node i).tag = 0) (hn : 0 ≤ (x.en t).count ∧ (x.en t).count ≤ 1000000) (a c : Nat) (ha : a = 0 ∨ x.st.tk a = true) (hc : c = 0 ∨ x.st.tk c = true) (B0 B1 : Nat)
    (hcl : ∀ w1, Below w.heap.size w w1 → Calls Tryz.prog 151 #[.pointer (some ⟨B0, 0, none⟩), .pointer (some ⟨B1, 0, none⟩)] w1 fun e w' => e = .returned (.tuple #[.int .i32 a, .int .i32 c]) ∧ w1 = w') :
    Calls Tryz.prog 150 #[.pointer (some ⟨p, 0, none⟩), .int .i64 t, .int .i32 i, .func (.func 151) #[] #[.pointer (some ⟨B0, 0, none⟩), .pointer (some ⟨B1, 0, none⟩)]] w fun e w' => e = .returned (.bool true) ∧ HeldL w0 w' p b (x.push t i a c) K ∧ Kept K w w' := by
  obtain ⟨hi0, hlt, his, e0⟩ := h.taken hi
  have HTG : Hid (Calls Tryz.prog 91 #[.pointer (some ⟨p, 0, none⟩), .int .i32 i] w fun e w' => e = .returned (.int .i64 (-1)) ∧ Below w.heap.size w w') := by
    have hh := tag_walk h i (by omega) (by rw [e0, hT]; omega)
    rw [e0, hT] at hh
    exact Lib.hid hh
  have HHS : Hid (Calls Tryz.prog 118 #[.pointer (some ⟨p, 0, none⟩), .int .i64 t] w fun e w' => e = .returned (.bool true) ∧ w = w') := by
    have hh := lhas_walk h t
    rw [LSt.has_of ht] at hh
    exact Lib.hid hh
  have HIS : Hid (Calls Tryz.prog 116 #[.pointer (some ⟨b, 0, none⟩), .int .i32 i] w fun e w' => e = .returned (.bool true) ∧ w = w') := by
    have hh := heldl_is h i (by omega)
    rw [his] at hh
    exact Lib.hid hh
  have HAT : Hid (∀ w1, Below w.heap.size w w1 → Calls Tryz.prog 89 #[.pointer (some ⟨b, 0, none⟩), .int .i32 i] w1 fun e w' => e = .returned (x.st.node i).v ∧ Below w1.heap.size w1 w') := Lib.hid (fun w1 hb => by
    have hh := heldl_at (h.still hb).1 i (by omega)
    rw [e0] at hh
    exact hh)
  have H := Lib.hid h
  have c0 := h.c0
  have hp : p < w.heap.size := by obtain ⟨e, hs⟩ := h.seen; exact hs.lp
  have HCL := Lib.hid hcl
  have HI := Lib.hid hi
  have HA := Lib.hid ha
  have HC := Lib.hid hc
  have HT := Lib.hid ht
  have h8 := h.eight
  have ht8 : t < 8 := by omega
  have hPU := (rfl : x.push t i a c = x.push t i a c)
  have hp3 : x.push3 t i a c = ((x.setNd i { x.st.node i with tag := t + 1 }).join t a i).join t i c := rfl
  revert HAT
  intro HAT
  obtain ⟨y, hy⟩ : ∃ y, x.st.node i = y := ⟨_, rfl⟩
  rw [hy] at HAT hp3
  obtain ⟨y', hy'⟩ : ∃ y' : Nd, y' = { y with tag := t + 1 } := ⟨_, rfl⟩
  have HY := Lib.hid hy'
  have hp3' : x.push3 t i a c = ((x.setNd i y').join t a i).join t i c := by rw [hy', hp3]
  have HP3 := Lib.hid hp3'
  have hcnt : ((((x.setNd i y').join t a i).join t i c).en t).count = (x.en t).count := by rw [join_count, join_count]; rfl
  have HCN := Lib.hid hcnt
  obtain ⟨n1, n2⟩ := hn
  clear h ht hi hT ha hc hcl hy hy' hp3 hp3' his e0 hPU hcnt
  go_enter Tryz.func150, Tryz.ntmps150
  go_wp2_with fail
  refine HHS.out.mono ?_
  rintro e w1 ⟨rfl, rfl⟩
  go_wp2_with fail
  refine HIS.out.mono ?_
  rintro e w1 ⟨rfl, rfl⟩
  go_wp2_with fail
  refine HTG.out.mono ?_
  rintro e w1 ⟨rfl, hb⟩
  have c1 := (hb.cell hp).trans c0
  have hp1 : p < w1.heap.size := Nat.lt_of_lt_of_le hp hb.size
  go_wp2_with fail
  refine (HCL.out w1 hb).mono ?_
  rintro e w2 ⟨rfl, rfl⟩
  go_wp2_with fail
  refine (HAT.out w1 hb).mono ?_
  rintro e w2 ⟨rfl, hb2⟩
  have hb3 := hb.trans (hb2.mono hb.size)
  have c2 := (hb3.cell hp).trans c0
  clear c0 c1 hb hb2
  go_wp2_with fail
  have hx := H.out.boxed hb3 #[.int .u64 y.key, .int .u64 y.val, .int .i64 y.flag, .int .i64 (t + 1), .int .i32 y.prev, .int .i32 y.next] 117
  have hyc : (#[.int .u64 y.key, .int .u64 y.val, .int .i64 y.flag, .int .i64 (t + 1), .int .i32 y.prev, .int .i32 y.next] : Array Value) = y'.cells := by rw [HY.out]
  rw [hyc] at hx ⊢
  obtain ⟨q, hq⟩ : ∃ q, w2.heap.size = q := ⟨_, rfl⟩
  rw [hq] at hx ⊢
  obtain ⟨W, hW⟩ : ∃ W, w2.alloc (.cells y'.cells 117) = W := ⟨_, rfl⟩
  rw [hW] at hx ⊢
  clear hW hyc hq c2 hb3
  obtain ⟨hx1, hx2, hx3, _⟩ := hx
  have HX := Lib.hid hx1
  have HK := Lib.hid hx2
  have HS := Lib.hid hx3
  have cc0 := hx1.c0
  obtain ⟨d0, d1, d2, d3, d4, d5⟩ := six_cells hx3
  clear hx1 hx2 hx3
  go_region_held3 (fun w' => w'.cell? ⟨p, 0, none⟩ = some (.pointer (some ⟨b, 0, none⟩)) ∧ w'.cell? ⟨q, 0, none⟩ = some (.int .u64 y'.key) ∧ w'.cell? ⟨q, 1, none⟩ = some (.int .u64 y'.val) ∧ w'.cell? ⟨q, 2, none⟩ = some (.int .i64 y'.flag) ∧ w'.cell? ⟨q, 3, none⟩ = some (.int .i64 y'.tag) ∧ w'.cell? ⟨q, 4, none⟩ = some (.int .i32 y'.prev) ∧ w'.cell? ⟨q, 5, none⟩ = some (.int .i32 y'.next))
    (first | go_keep | exact kk0)
    (first | (go_at_call 138; refine (heldl_set (HX.out.still (Below.refl _ _).drew).1 i HI.out y').mono ?_; rintro e w3 ⟨rfl, h1, h2⟩; have kk0 := And.intro h1.c0 (six_cells ((h2 q (by simp)).trans HS.out))))
  have H1 := Lib.hid h1.unbox
  have H2 := Lib.hid (HK.out.trans (Kept.tail h2))
  clear h1 h2 kk0 cc0 d0 d1 d2 d3 d4 d5 HX HK HS
  go_wp2_with fail
  refine (join_walk H1.out t HT.out a i HA.out (.inr HI.out)).mono ?_
  rintro e w4 ⟨rfl, h1, h2⟩
  have H3 := Lib.hid h1
  have K3 := Lib.hid (H2.out.trans h2)
  clear h1 h2
  go_wp2_with fail
  refine (join_walk H3.out t (by rw [join_n]; exact HT.out) i c (by rw [join_tk]; exact .inr HI.out) (by rw [join_tk]; exact HC.out)).mono ?_
  rintro e w5 ⟨rfl, h1, h2⟩
  rw [← HP3.out] at h1
  have hcn := HCN.out
  rw [← HP3.out] at hcn
  have ht' : t < (x.push3 t i a c).n := by rw [push3_n]; exact HT.out
  have hn' : (x.push3 t i a c).n ≤ 8 := h1.eight
  obtain ⟨e, hs⟩ := h1.seen
  have g1 := hs.c1
  have g2 := hs.en2 ht'
  rw [hcn] at g2
  have gz := hs.row.frozen (t * 3 + 2)
  have HE := Lib.hid (h1.store hs t 2 (by decide) { (x.push3 t i a c).en t with count := (x.en t).count + 1 } (.int .i64 ((x.en t).count + 1)) rfl (fun k hk hne => by
    match k, hk with
    | 0, _ => rfl
    | 1, _ => rfl
    | 2, _ => exact absurd rfl hne))
  have K5 := Lib.hid (K3.out.trans h2)
  have e1 : IntKind.i64.wrap ((x.en t).count + 1) = (x.en t).count + 1 := IntWalk.i64_in _ (by omega)
  obtain ⟨m, hm⟩ : ∃ m, (x.push3 t i a c).n = m := ⟨_, rfl⟩
  rw [hm] at g1 ht' hn'
  obtain ⟨k, hk⟩ : ∃ k, (x.en t).count = k := ⟨_, rfl⟩
  have hfin : x.push t i a c = (x.push3 t i a c).setEn t { (x.push3 t i a c).en t with count := (x.en t).count + 1 } := rfl
  have HF := Lib.hid hfin
  rw [hk] at g2 e1 n1 n2 HE HF
  clear h1 h2 hs hcn hm hk hfin
  go_wp2
  go_ret
  exact ⟨rfl, by rw [HF.out]; exact HE.out.1, K5.out.trans HE.out.2⟩
end
end Go.Proofs.YtkhikpnlpcankaaGreat
