/- Package ilist: lists in memory; has, Front, Back, Len, which only look. -/
import Derived.Test.YtlmcodmglcmmoaaHeld
namespace Go.Proofs.Ytlmcodmglcmmoaa
open Go Go.RowKit Go.Deep

/- A list's ends, and how many it has. -/
structure En where
  front : Int
  back : Int
  count : Int
def enCell (x : En) (j : Nat) : Value :=
  match j with
  | 0 => .int .i32 x.front
  | 1 => .int .i32 x.back
  | _ => .int .i64 x.count
def enV (en : Nat → En) (p : Nat) : Value := enCell (en (p / 3)) (p % 3)
theorem enV_at (en : Nat → En) (i j : Nat) (hj : j < 3) : enV en (i * 3 + j) = enCell (en i) j := by
  unfold enV
  rw [show (i * 3 + j) / 3 = i by omega, show (i * 3 + j) % 3 = j by omega]

/- Lists' state: their arena's, how many they are, their ends. -/
structure LSt where
  st : St
  n : Nat
  en : Nat → En
def LSt.has (x : LSt) (tag : Int) : Bool := decide (0 ≤ tag) && decide (tag < x.n)
theorem LSt.has_nat {x : LSt} {tag : Int} (h : x.has tag = true) : ∃ t : Nat, tag = t ∧ t < x.n := by
  unfold LSt.has at h
  simp only [Bool.and_eq_true, decide_eq_true_eq] at h
  exact ⟨tag.toNat, by omega, by omega⟩
theorem LSt.has_of {x : LSt} {t : Nat} (h : t < x.n) : x.has t = true := by
  unfold LSt.has
  simp only [Bool.and_eq_true, decide_eq_true_eq]
  omega

abbrev lsCells (b e n : Nat) : Array Value := #[.pointer (some ⟨b, 0, none⟩), .slice (some ⟨e, 0, none⟩) n n]
/- Lists that the law's own memory has, with their arena. -/
structure HeldL (w0 w : World) (p b : Nat) (x : LSt) (K : List Nat) : Prop where
  small : x.st.n ≤ 1000000
  one : 1 ≤ x.n
  eight : x.n ≤ 8
  mem : ∃ e, Held w0 w b x.st (p :: e :: K) ∧ w0.heap.size ≤ p ∧ w0.heap.size ≤ e ∧ p ≠ e ∧ p ∉ K ∧ e ∉ K ∧ w.heap[p]? = some (.cells (lsCells b e x.n) 84 (0, 0)) ∧ w.rowIs e 87 (x.n * 3) (enV x.en)

section
variable {w0 w w' : World} {p b e : Nat} {x : LSt} {K : List Nat}
theorem HeldL.still (h : HeldL w0 w p b x K) (hb : Below w.heap.size w w') : HeldL w0 w' p b x K ∧ Kept K w w' := by
  obtain ⟨e, h1, h2, h3, h4, h5, h6, h7, h8⟩ := h.mem
  obtain ⟨g1, g2⟩ := h1.still hb
  exact ⟨⟨h.small, h.one, h.eight, e, g1, h2, h3, h4, h5, h6, (hb.block p (h1.old p (by simp))).trans h7, h8.of_block (hb.block e (h1.old e (by simp)))⟩, fun k hk => g2 k (by simp [hk])⟩
theorem HeldL.below (h : HeldL w0 w p b x K) : Below w0.heap.size w0 w := by
  obtain ⟨e, h1, _⟩ := h.mem
  exact h1.below
theorem HeldL.ok (h : HeldL w0 w p b x K) : x.st.Ok := by
  obtain ⟨e, h1, _⟩ := h.mem
  exact h1.ok
theorem HeldL.old (h : HeldL w0 w p b x K) : ∀ k ∈ K, k < w.heap.size := by
  obtain ⟨e, h1, _⟩ := h.mem
  exact fun k hk => h1.old k (by simp [hk])
theorem HeldL.other (h : HeldL w0 w p b x K) (hb : Below w.heap.size w w') {K' : List Nat} (hk : ∀ k ∈ K', (k ∈ K ∨ w.heap.size ≤ k) ∧ k < w'.heap.size) : HeldL w0 w' p b x K' := by
  obtain ⟨e, h1, h2, h3, h4, h5, h6, h7, h8⟩ := h.mem
  have l1 := h1.old p (by simp)
  have l2 := h1.old e (by simp)
  have hsz := hb.size
  refine ⟨h.small, h.one, h.eight, e, h1.other hb ?_, h2, h3, h4, fun g => (hk _ g).1.elim h5 (by omega), fun g => (hk _ g).1.elim h6 (by omega), (hb.block p l1).trans h7, h8.of_block (hb.block e l2)⟩
  intro k hk'
  rcases List.mem_cons.1 hk' with rfl | hk'
  · exact ⟨.inl (by simp), by omega⟩
  · rcases List.mem_cons.1 hk' with rfl | hk'
    · exact ⟨.inl (by simp), by omega⟩
    · exact ⟨(hk _ hk').1.imp (fun g => by simp [g]) id, (hk _ hk').2⟩
/- The cells that a walk reads. -/
structure Seen (w : World) (p b e : Nat) (x : LSt) : Prop where
  c0 : w.cell? ⟨p, 0, none⟩ = some (.pointer (some ⟨b, 0, none⟩))
  c1 : w.cell? ⟨p, 1, none⟩ = some (.slice (some ⟨e, 0, none⟩) x.n x.n)
  row : w.rowIs e 87 (x.n * 3) (enV x.en)
  lp : p < w.heap.size
theorem HeldL.seen (h : HeldL w0 w p b x K) : ∃ e, Seen w p b e x := by
  obtain ⟨e, h1, _, _, _, _, _, h7, h8⟩ := h.mem
  exact ⟨e, (head_row h7).cell (i := 0) (by simp), (head_row h7).cell (i := 1) (by simp), h8, h1.old p (by simp)⟩
theorem Seen.en (h : Seen w p b e x) {t j : Nat} (ht : t < x.n) (hj : j < 3) : w.cell? ⟨e, t * 3 + j, none⟩ = some (enCell (x.en t) j) := by
  rw [← enV_at _ _ _ hj]; exact h.row.cell (by omega)
theorem Seen.en0 (h : Seen w p b e x) {t : Nat} (ht : t < x.n) : w.cell? ⟨e, t * 3, none⟩ = some (.int .i32 (x.en t).front) := h.en (j := 0) ht (by decide)
theorem Seen.en1 (h : Seen w p b e x) {t : Nat} (ht : t < x.n) : w.cell? ⟨e, t * 3 + 1, none⟩ = some (.int .i32 (x.en t).back) := h.en (j := 1) ht (by decide)
theorem Seen.en2 (h : Seen w p b e x) {t : Nat} (ht : t < x.n) : w.cell? ⟨e, t * 3 + 2, none⟩ = some (.int .i64 (x.en t).count) := h.en (j := 2) ht (by decide)

theorem lhas_walk (h : HeldL w0 w p b x K) (tag : Int) :
    Calls Try.prog 45 #[.pointer (some ⟨p, 0, none⟩), .int .i64 tag] w fun e w' => e = .returned (.bool (x.has tag)) ∧ w = w' := by
  obtain ⟨e, hs⟩ := h.seen
  have c1 := hs.c1
  have h8 := h.eight
  clear h hs
  unfold LSt.has
  by_cases h0 : 0 ≤ tag
  · by_cases h1 : tag < x.n
    · rw [decide_eq_true h0, decide_eq_true h1]
      go_enter Try.func45, Try.ntmps45
      go_wp2
      go_ret
      exact ⟨rfl, rfl⟩
    · rw [decide_eq_true h0, decide_eq_false h1]
      go_enter Try.func45, Try.ntmps45
      go_wp2
      go_ret
      exact ⟨rfl, rfl⟩
  · rw [decide_eq_false h0]
    go_enter Try.func45, Try.ntmps45
    go_wp2
    go_ret
    exact ⟨rfl, rfl⟩

def LSt.front (x : LSt) (tag : Int) : Int := if x.has tag then (x.en tag.toNat).front else 0
def LSt.back (x : LSt) (tag : Int) : Int := if x.has tag then (x.en tag.toNat).back else 0
def LSt.count (x : LSt) (tag : Int) : Int := if x.has tag then (x.en tag.toNat).count else 0
theorem front_walk (h : HeldL w0 w p b x K) (tag : Int) :
    Calls Try.prog 19 #[.pointer (some ⟨p, 0, none⟩), .int .i64 tag] w fun e w' => e = .returned (.int .i32 (x.front tag)) ∧ w = w' := by
  obtain ⟨e, hs⟩ := h.seen
  have H := Lib.hid h
  have hp := hs.lp
  unfold LSt.front
  cases ht : x.has tag
  · have HT := Lib.hid ht
    clear h hs ht
    go_enter Try.func19, Try.ntmps19
    go_wp2_with fail
    refine (lhas_walk H.out tag).mono ?_
    rintro e w' ⟨rfl, rfl⟩
    rw [HT.out]
    go_wp2
    go_ret
    exact ⟨rfl, rfl⟩
  · obtain ⟨t, rfl, htn⟩ := LSt.has_nat ht
    have c1 := hs.c1
    have c2 := hs.en0 htn
    have h8 := h.eight
    have HT := Lib.hid ht
    clear h hs ht
    go_enter Try.func19, Try.ntmps19
    go_wp2_with fail
    refine (lhas_walk H.out t).mono ?_
    rintro e w' ⟨rfl, rfl⟩
    rw [HT.out]
    go_wp2
    go_ret
    exact ⟨rfl, rfl⟩

theorem back_walk (h : HeldL w0 w p b x K) (tag : Int) :
    Calls Try.prog 23 #[.pointer (some ⟨p, 0, none⟩), .int .i64 tag] w fun e w' => e = .returned (.int .i32 (x.back tag)) ∧ w = w' := by
  obtain ⟨e, hs⟩ := h.seen
  have H := Lib.hid h
  have hp := hs.lp
  unfold LSt.back
  cases ht : x.has tag
  · have HT := Lib.hid ht
    clear h hs ht
    go_enter Try.func23, Try.ntmps23
    go_wp2_with fail
    refine (lhas_walk H.out tag).mono ?_
    rintro e w' ⟨rfl, rfl⟩
    rw [HT.out]
    go_wp2
    go_ret
    exact ⟨rfl, rfl⟩
  · obtain ⟨t, rfl, htn⟩ := LSt.has_nat ht
    have c1 := hs.c1
    have c2 := hs.en1 htn
    have h8 := h.eight
    have HT := Lib.hid ht
    clear h hs ht
    go_enter Try.func23, Try.ntmps23
    go_wp2_with fail
    refine (lhas_walk H.out t).mono ?_
    rintro e w' ⟨rfl, rfl⟩
    rw [HT.out]
    go_wp2
    go_ret
    exact ⟨rfl, rfl⟩

theorem count_walk (h : HeldL w0 w p b x K) (tag : Int) :
    Calls Try.prog 18 #[.pointer (some ⟨p, 0, none⟩), .int .i64 tag] w fun e w' => e = .returned (.int .i64 (x.count tag)) ∧ w = w' := by
  obtain ⟨e, hs⟩ := h.seen
  have H := Lib.hid h
  have hp := hs.lp
  unfold LSt.count
  cases ht : x.has tag
  · have HT := Lib.hid ht
    clear h hs ht
    go_enter Try.func18, Try.ntmps18
    go_wp2_with fail
    refine (lhas_walk H.out tag).mono ?_
    rintro e w' ⟨rfl, rfl⟩
    rw [HT.out]
    go_wp2
    go_ret
    exact ⟨rfl, rfl⟩
  · obtain ⟨t, rfl, htn⟩ := LSt.has_nat ht
    have c1 := hs.c1
    have c2 := hs.en2 htn
    have h8 := h.eight
    have HT := Lib.hid ht
    clear h hs ht
    go_enter Try.func18, Try.ntmps18
    go_wp2_with fail
    refine (lhas_walk H.out t).mono ?_
    rintro e w' ⟨rfl, rfl⟩
    rw [HT.out]
    go_wp2
    go_ret
    exact ⟨rfl, rfl⟩
end
end Go.Proofs.Ytlmcodmglcmmoaa
