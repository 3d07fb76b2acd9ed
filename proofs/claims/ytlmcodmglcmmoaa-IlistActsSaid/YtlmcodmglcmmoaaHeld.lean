/- An arena that the law's own memory has: each call by one contract. -/
import Derived.Test.YtlmcodmglcmmoaaArN
namespace Go.Proofs.Ytlmcodmglcmmoaa
open Go Go.RowKit Go.Deep

/- w0: the law's first world; K: blocks that the arena has nothing to do with. -/
structure Held (w0 w : World) (b : Nat) (st : St) (K : List Nat) : Prop where
  below : Below w0.heap.size w0 w
  ok : st.Ok
  old : ∀ k ∈ K, k < w.heap.size
  mem : ∃ s f, w0.heap.size ≤ b ∧ w0.heap.size ≤ s ∧ w0.heap.size ≤ f ∧ b ∉ K ∧ s ∉ K ∧ f ∉ K ∧ Ar w b s f st
def Kept (K : List Nat) (w w' : World) : Prop := ∀ k ∈ K, w'.heap[k]? = w.heap[k]?

section
variable {w0 w w' : World} {b s f : Nat} {st st' : St} {K : List Nat}
theorem held_turn (h : Held w0 w b st K) (hb : w0.heap.size ≤ b) (hs : w0.heap.size ≤ s) (hf : w0.heap.size ≤ f) (kb : b ∉ K) (ks : s ∉ K) (kf : f ∉ K) (ho : st'.Ok) (ht : Turned w b s f st' w') : Held w0 w' b st' K ∧ Kept K w w' := by
  obtain ⟨h1, s', f', hs', hf', ha'⟩ := ht
  have hsz := h.below.size
  refine ⟨⟨h.below.trans (h1.below (by simp; omega) (by omega)), ho, fun k hk => Nat.lt_of_lt_of_le (h.old k hk) h1.size, s', f', hb, by omega, by omega, kb, ?_, ?_, ha'⟩, fun k hk => h1.block k (h.old k hk) ?_⟩
  · rcases hs' with rfl | hs'
    · exact ks
    · intro hk; have := h.old _ hk; omega
  · rcases hf' with rfl | hf'
    · exact kf
    · intro hk; have := h.old _ hk; omega
  · simp only [List.mem_cons, List.not_mem_nil, or_false, not_or]
    exact ⟨fun e => kb (e ▸ hk), fun e => ks (e ▸ hk), fun e => kf (e ▸ hk)⟩
theorem Held.still (h : Held w0 w b st K) (hb : Below w.heap.size w w') : Held w0 w' b st K ∧ Kept K w w' := by
  obtain ⟨s, f, h1, h2, h3, kb, ks, kf, ha⟩ := h.mem
  exact ⟨⟨h.below.trans (hb.mono h.below.size), h.ok, fun k hk => Nat.lt_of_lt_of_le (h.old k hk) hb.size, s, f, h1, h2, h3, kb, ks, kf, ha.below hb⟩, fun k hk => hb.block k (h.old k hk)⟩
/- Blocks that are made later are none of the arena's. -/
theorem Held.other (h : Held w0 w b st K) (hb : Below w.heap.size w w') {K' : List Nat} (hk : ∀ k ∈ K', (k ∈ K ∨ w.heap.size ≤ k) ∧ k < w'.heap.size) : Held w0 w' b st K' := by
  obtain ⟨s, f, h1, h2, h3, kb, ks, kf, ha⟩ := h.mem
  have l1 := ha.ltb
  have l2 := ha.lts
  have l3 := ha.ltf
  refine ⟨h.below.trans (hb.mono h.below.size), h.ok, fun k g => (hk k g).2, s, f, h1, h2, h3, fun g => ?_, fun g => ?_, fun g => ?_, ha.below hb⟩
  · exact (hk _ g).1.elim kb (by omega)
  · exact (hk _ g).1.elim ks (by omega)
  · exact (hk _ g).1.elim kf (by omega)
theorem below_drewN' (w : World) (n : Nat) : Below w.heap.size w (w.drewN n) := ⟨rfl, rfl, rfl, Nat.le_refl _, fun _ _ => rfl⟩
end

theorem held_new {w0 w : World} (hb : Below w0.heap.size w0 w) (r : Nat) (hr : 1 ≤ r) (hr2 : r ≤ 10000) :
    Calls Try.prog 13 #[.int .i64 r] w fun e w' => e = .returned (.pointer (some ⟨w.heap.size, 0, none⟩)) ∧ Held w0 w' w.heap.size (St.first (1 + r)) [] := by
  refine (new_walk w r hr hr2).mono ?_
  rintro e w' ⟨rfl, ho, ha⟩
  have hsz := hb.size
  exact ⟨rfl, hb.trans (ho.nil_below.mono hsz), first_ok _ (by omega), by simp, _, _, by omega, by omega, by omega, by simp, by simp, by simp, ha⟩
theorem held_new_least {w0 w : World} (hb : Below w0.heap.size w0 w) (r : Int) (hr : r ≤ 1) :
    Calls Try.prog 13 #[.int .i64 r] w fun e w' => e = .returned (.pointer (some ⟨w.heap.size, 0, none⟩)) ∧ Held w0 w' w.heap.size (St.first 2) [] := by
  refine (new_least w r hr).mono ?_
  rintro e w' ⟨rfl, ho, ha⟩
  have hsz := hb.size
  exact ⟨rfl, hb.trans (ho.nil_below.mono hsz), first_ok _ (by omega), by simp, _, _, by omega, by omega, by omega, by simp, by simp, by simp, ha⟩

def St.freeI (st : St) (i : Int) : St := if st.is i then st.free i.toNat else st
def St.setI (st : St) (i : Int) (x : Nd) : St := if st.is i then st.set i.toNat x else st
def St.live (st : St) : Nat := st.used - st.freed.length

section
variable {w0 w : World} {b : Nat} {st : St} {K : List Nat}
theorem held_alloc (h : Held w0 w b st K) (hn : st.n ≤ 1000000) :
    Calls Try.prog 14 #[.pointer (some ⟨b, 0, none⟩)] w fun e w' => e = .returned (.int .i32 st.next) ∧ Held w0 w' b st.alloc K ∧ Kept K w w' := by
  obtain ⟨s, f, h1, h2, h3, kb, ks, kf, ha⟩ := h.mem
  refine (alloc_walk ha h.ok hn).mono ?_
  rintro e w' ⟨rfl, ht⟩
  exact ⟨rfl, held_turn h h1 h2 h3 kb ks kf (alloc_ok h.ok) ht⟩
theorem held_free (h : Held w0 w b st K) (hn : st.n ≤ 1000000) (i : Int) (h32 : i ≤ 2147483647) :
    Calls Try.prog 33 #[.pointer (some ⟨b, 0, none⟩), .int .i32 i] w fun e w' => e = .returned (.bool (st.is i)) ∧ Held w0 w' b (st.freeI i) K ∧ Kept K w w' := by
  obtain ⟨s, f, h1, h2, h3, kb, ks, kf, ha⟩ := h.mem
  cases hi : st.is i
  · refine (free_false ha (by omega) i h32 hi).mono ?_
    rintro e w' ⟨rfl, rfl⟩
    have e : st.freeI i = st := by unfold St.freeI; rw [hi]; rfl
    rw [e]
    exact ⟨rfl, h, fun _ _ => rfl⟩
  · obtain ⟨k, rfl, g1, g2, g3⟩ := St.is_nat h.ok hi
    refine (free_true ha h.ok (by omega) k g3 g1).mono ?_
    rintro e w' ⟨rfl, ho, ha'⟩
    have e : st.freeI k = st.free k := by unfold St.freeI; rw [hi]; rfl
    rw [e]
    exact ⟨rfl, held_turn h h1 h2 h3 kb ks kf (free_ok h.ok g3) ⟨ho, s, f, .inl rfl, .inl rfl, ha'⟩⟩
theorem held_set (h : Held w0 w b st K) (hn : st.n ≤ 1000000) (i : Int) (h32 : i ≤ 2147483647) (x : Nd) :
    Calls Try.prog 30 #[.pointer (some ⟨b, 0, none⟩), .int .i32 i, x.v] w fun e w' => e = .returned (.bool (st.is i)) ∧ Held w0 w' b (st.setI i x) K ∧ Kept K w w' := by
  obtain ⟨s, f, h1, h2, h3, kb, ks, kf, ha⟩ := h.mem
  cases hi : st.is i
  · refine (set_false ha (by omega) i h32 x hi).mono ?_
    rintro e w' ⟨rfl, hb⟩
    have e : st.setI i x = st := by unfold St.setI; rw [hi]; rfl
    rw [e]
    exact ⟨rfl, h.still hb⟩
  · obtain ⟨k, rfl, g1, g2, g3⟩ := St.is_nat h.ok hi
    refine (set_true ha (by omega) k g3 g1 x).mono ?_
    rintro e w' ⟨rfl, ho, ha'⟩
    have e : st.setI k x = st.set k x := by unfold St.setI; rw [hi]; rfl
    rw [e]
    exact ⟨rfl, held_turn h h1 h2 h3 kb ks kf (set_ok h.ok g3 x) ⟨ho.mono (by simp), s, f, .inl rfl, .inl rfl, ha'⟩⟩
theorem held_at (h : Held w0 w b st K) (hn : st.n ≤ 1000000) (i : Int) (h32 : i ≤ 2147483647) :
    Calls Try.prog 25 #[.pointer (some ⟨b, 0, none⟩), .int .i32 i] w fun e w' => e = .returned (st.at_ i).v ∧ Below w.heap.size w w' := by
  obtain ⟨s, f, h1, h2, h3, kb, ks, kf, ha⟩ := h.mem
  exact at_walk ha h.ok (by omega) i h32
theorem held_is (h : Held w0 w b st K) (hn : st.n ≤ 1000000) (i : Int) (h32 : i ≤ 2147483647) :
    Calls Try.prog 49 #[.pointer (some ⟨b, 0, none⟩), .int .i32 i] w fun e w' => e = .returned (.bool (st.is i)) ∧ w = w' := by
  obtain ⟨s, f, h1, h2, h3, kb, ks, kf, ha⟩ := h.mem
  exact is_walk ha h.ok (by omega) i h32
end
end Go.Proofs.Ytlmcodmglcmmoaa
