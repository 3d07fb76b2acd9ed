/- Package arena: what only looks: Is, At. -/
import Derived.Test.YtlmcodmglcmmoaaArB
import Derived.Deep.QuietTactic
import Derived.BigQuiet
import Derived.BigRegion
import Derived.Outline
import Derived.WalkSpells
import Derived.WalkLawsBesides
namespace Go.Proofs.Ytlmcodmglcmmoaa
open Go Go.RowKit Go.Deep

theorem is_yes {w : World} {b s f : Nat} {st : St} (h : Ar w b s f st) (hn : st.n ≤ 1000000000) (i : Nat) (hi : i < st.n) (ht : st.tk i = true) :
    Calls Try.prog 49 #[.pointer (some ⟨b, 0, none⟩), .int .i32 i] w fun e w' => e = .returned (.bool true) ∧ w = w' := by
  have h0 := h.c0
  have hc := h.sl (j := 6) hi (by decide)
  simp only [cellOf, ht] at hc
  have hp : 0 < i := by simp only [St.tk, decide_eq_true_eq] at ht; omega
  have H := Lib.hid h
  have HT := Lib.hid ht
  clear h ht
  go_enter Try.func49, Try.ntmps49
  go_wp2
  go_ret
  exact ⟨rfl, rfl⟩

theorem is_out {w : World} {b s f : Nat} {st : St} (h : Ar w b s f st) (i : Int) (h32 : i ≤ 2147483647) (hi : i ≤ 0 ∨ (st.n : Int) ≤ i) :
    Calls Try.prog 49 #[.pointer (some ⟨b, 0, none⟩), .int .i32 i] w fun e w' => e = .returned (.bool false) ∧ w = w' := by
  have h0 := h.c0
  have H := Lib.hid h
  clear h
  by_cases hp : 0 < i
  · have hi' : (st.n : Int) ≤ i := by omega
    clear hi
    go_enter Try.func49, Try.ntmps49
    go_wp2
    go_ret
    exact ⟨rfl, rfl⟩
  · have hi' : i ≤ 0 := by omega
    clear hi
    go_enter Try.func49, Try.ntmps49
    go_wp2
    go_ret
    exact ⟨rfl, rfl⟩

theorem is_not {w : World} {b s f : Nat} {st : St} (h : Ar w b s f st) (hn : st.n ≤ 1000000000) (i : Nat) (hi : i < st.n) (h0i : 0 < i) (ht : st.tk i = false) :
    Calls Try.prog 49 #[.pointer (some ⟨b, 0, none⟩), .int .i32 i] w fun e w' => e = .returned (.bool false) ∧ w = w' := by
  have h0 := h.c0
  have hc := h.sl (j := 6) hi (by decide)
  simp only [cellOf, ht] at hc
  have H := Lib.hid h
  have HT := Lib.hid ht
  clear h ht
  go_enter Try.func49, Try.ntmps49
  go_wp2
  go_ret
  exact ⟨rfl, rfl⟩

/- Whether a number is a slot that is taken. -/
def St.is (st : St) (i : Int) : Bool := decide (0 < i) && st.tk i.toNat
theorem St.is_nat {st : St} {i : Int} (ho : st.Ok) (h : st.is i = true) : ∃ k : Nat, i = k ∧ k < st.n ∧ 0 < k ∧ st.tk k = true := by
  unfold St.is at h
  simp only [Bool.and_eq_true, decide_eq_true_eq] at h
  obtain ⟨h1, h2⟩ := h
  refine ⟨i.toNat, by omega, ?_, by omega, h2⟩
  have := ho.room
  simp only [St.tk, decide_eq_true_eq] at h2
  omega
theorem is_true {w : World} {b s f : Nat} {st : St} (h : Ar w b s f st) (ho : st.Ok) (hn : st.n ≤ 1000000000) (i : Int) (hi : st.is i = true) :
    Calls Try.prog 49 #[.pointer (some ⟨b, 0, none⟩), .int .i32 i] w fun e w' => e = .returned (.bool true) ∧ w = w' := by
  obtain ⟨k, rfl, h1, h2, h3⟩ := St.is_nat ho hi
  exact is_yes h hn k h1 h3
theorem is_false {w : World} {b s f : Nat} {st : St} (h : Ar w b s f st) (hn : st.n ≤ 1000000000) (i : Int) (h32 : i ≤ 2147483647) (hi : st.is i = false) :
    Calls Try.prog 49 #[.pointer (some ⟨b, 0, none⟩), .int .i32 i] w fun e w' => e = .returned (.bool false) ∧ w = w' := by
  by_cases h1 : i ≤ 0 ∨ (st.n : Int) ≤ i
  · exact is_out h i h32 h1
  · obtain ⟨k, rfl⟩ : ∃ k : Nat, i = k := ⟨i.toNat, by omega⟩
    refine is_not h hn k (by omega) (by omega) ?_
    unfold St.is at hi
    rw [decide_eq_true (by omega), Bool.true_and] at hi
    simpa using hi

/- What a number's slot has. -/
def St.at_ (st : St) (i : Int) : Nd := if st.is i then st.node i.toNat else Nd.zero

theorem at_false {w : World} {b s f : Nat} {st : St} (h : Ar w b s f st) (hn : st.n ≤ 1000000000) (i : Int) (h32 : i ≤ 2147483647) (hi : st.is i = false) :
    Calls Try.prog 25 #[.pointer (some ⟨b, 0, none⟩), .int .i32 i] w fun e w' => e = .returned Nd.zero.v ∧ Below w.heap.size w w' := by
  have H := Lib.hid (h.below ((Below.refl _ _).alloc (Nat.le_refl _) (.cells #[.int .u64 0, .int .u64 0, .int .i64 0, .int .i64 0, .int .i32 0, .int .i32 0] 56)))
  have HI := Lib.hid hi
  clear h hi
  go_enter Try.func25, Try.ntmps25
  go_wp2_with fail
  refine (is_false H.out hn i h32 HI.out).mono ?_
  rintro e w' ⟨rfl, rfl⟩
  go_wp2
  exact bodyPost_ret (v := Nd.zero.v) (by simp [results, Try.results25, go_sem, Nd.zero]) rfl ⟨rfl, (Below.refl _ _).alloc (Nat.le_refl _) _⟩

theorem at_true {w : World} {b s f : Nat} {st : St} (h : Ar w b s f st) (hn : st.n ≤ 1000000000) (i : Nat) (hi : st.tk i = true) (hin : i < st.n) :
    Calls Try.prog 25 #[.pointer (some ⟨b, 0, none⟩), .int .i32 i] w fun e w' => e = .returned (st.node i).v ∧ Below w.heap.size w w' := by
  have h' := h.below ((Below.refl _ _).alloc (Nat.le_refl _) (.cells #[.int .u64 0, .int .u64 0, .int .i64 0, .int .i64 0, .int .i32 0, .int .i32 0] 56))
  have H := Lib.hid h'
  have HI := Lib.hid hi
  have h0 := h.c0
  have l0 := h.ltb
  have l1 := h.lts
  have x0 := h.sl (j := 0) hin (by decide)
  have x1 := h.sl (j := 1) hin (by decide)
  have x2 := h.sl (j := 2) hin (by decide)
  have x3 := h.sl (j := 3) hin (by decide)
  have x4 := h.sl (j := 4) hin (by decide)
  have x5 := h.sl (j := 5) hin (by decide)
  simp only [cellOf, Nat.add_zero] at x0 x1 x2 x3 x4 x5
  clear h hi h'
  go_enter Try.func25, Try.ntmps25
  go_wp2_with fail
  refine (is_yes H.out hn i hin HI.out).mono ?_
  rintro e w' ⟨rfl, rfl⟩
  go_wp2
  exact bodyPost_ret (v := (st.node i).v) (by simp [results, Try.results25, go_sem]) rfl ⟨rfl, (Below.refl _ _).alloc (Nat.le_refl _) _⟩

theorem at_walk {w : World} {b s f : Nat} {st : St} (h : Ar w b s f st) (ho : st.Ok) (hn : st.n ≤ 1000000000) (i : Int) (h32 : i ≤ 2147483647) :
    Calls Try.prog 25 #[.pointer (some ⟨b, 0, none⟩), .int .i32 i] w fun e w' => e = .returned (st.at_ i).v ∧ Below w.heap.size w w' := by
  cases hi : st.is i
  · have e : st.at_ i = Nd.zero := by unfold St.at_; rw [hi]; rfl
    rw [e]
    exact at_false h hn i h32 hi
  · obtain ⟨k, rfl, h1, h2, h3⟩ := St.is_nat ho hi
    have e : st.at_ k = st.node k := by unfold St.at_; rw [hi]; rfl
    rw [e]
    exact at_true h hn k h3 h1
theorem is_walk {w : World} {b s f : Nat} {st : St} (h : Ar w b s f st) (ho : st.Ok) (hn : st.n ≤ 1000000000) (i : Int) (h32 : i ≤ 2147483647) :
    Calls Try.prog 49 #[.pointer (some ⟨b, 0, none⟩), .int .i32 i] w fun e w' => e = .returned (.bool (st.is i)) ∧ w = w' := by
  cases hi : st.is i
  · exact is_false h hn i h32 hi
  · exact is_true h ho hn i hi
end Go.Proofs.Ytlmcodmglcmmoaa
