/- Package config's small functions: Unwrap, Errno's text, May and its closure. -/
import Derived.Test.YtmebobflemfnfaaDoorProg
import Derived.WalkKit
namespace Go.Proofs.YtmebobflemfnfaaDoor
open Go Go.RowKit

theorem heap_alloc_new (w : World) (o : Obj) (k : Nat) (h : k = w.heap.size) : (w.alloc o).heap[k]? = some o := by
  subst h
  show (w.heap.push o)[w.heap.size]? = some o
  simp

/- A *Bad of these fields at block a. -/
def BadAt (w : World) (a : Nat) (f : ByteArray) (n : Int) (e : Value) : Prop :=
  w.heap[a]? = some (.cells #[.string f, .int .i64 n, e] 40 (0, 0))

theorem BadAt.c0 {w : World} {a : Nat} {f : ByteArray} {n : Int} {e : Value} (h : BadAt w a f n e) : w.cell? ⟨a, 0, none⟩ = some (.string f) := by
  unfold BadAt at h; simp [World.cell?, h]
theorem BadAt.c1 {w : World} {a : Nat} {f : ByteArray} {n : Int} {e : Value} (h : BadAt w a f n e) : w.cell? ⟨a, 1, none⟩ = some (.int .i64 n) := by
  unfold BadAt at h; simp [World.cell?, h]
theorem BadAt.c2 {w : World} {a : Nat} {f : ByteArray} {n : Int} {e : Value} (h : BadAt w a f n e) : w.cell? ⟨a, 2, none⟩ = some e := by
  unfold BadAt at h; simp [World.cell?, h]
theorem BadAt.lt {w : World} {a : Nat} {f : ByteArray} {n : Int} {e : Value} (h : BadAt w a f n e) : a < w.heap.size := by
  rcases Nat.lt_or_ge a w.heap.size with h' | h'
  · exact h'
  · unfold BadAt at h; simp [Array.getElem?_eq_none h'] at h
theorem BadAt.below {w w' : World} {a B : Nat} {f : ByteArray} {n : Int} {e : Value} (h : BadAt w a f n e) (hb : Below B w w') (hB : a < B) : BadAt w' a f n e := by
  unfold BadAt at *; rw [hb.block a hB]; exact h

theorem unwrap_nil (w : World) : Calls Tryd.prog 19 #[.pointer none] w fun e w' => e = .returned .nilIface ∧ w = w' := by
  go_enter Tryd.func19, Tryd.ntmps19
  go_wp2
  go_ret
  exact ⟨rfl, rfl⟩
theorem unwrap_bad (w : World) (a : Nat) (v : Value) (h : w.cell? ⟨a, 2, none⟩ = some v) : Calls Tryd.prog 19 #[.pointer (some ⟨a, 0, none⟩)] w fun e w' => e = .returned v ∧ w = w' := by
  go_enter Tryd.func19, Tryd.ntmps19
  go_wp2
  go_ret
  exact ⟨rfl, rfl⟩

/- Errno's text. -/
def enText (c : Int) : ByteArray := if c = 1 then ⟨#[99, 111, 110, 102, 105, 103]⟩ else if c = 2 then ⟨#[111, 112]⟩ else ⟨#[102, 111, 114, 109]⟩
theorem errno_text (w : World) (c : Int) (h : c = 1 ∨ c = 2 ∨ c = 3) : Calls Tryd.prog 18 #[.int .i64 c] w fun e w' => e = .returned (.string (enText c)) ∧ w = w' := by
  rcases h with h | h | h <;> subst h
  all_goals
    go_enter Tryd.func18, Tryd.ntmps18
    go_wp2
    go_ret
    exact ⟨rfl, rfl⟩

theorem lt_of_cell {w : World} {p : Addr} {v : Value} (h : w.cell? p = some v) : p.block < w.heap.size := by
  rcases Nat.lt_or_ge p.block w.heap.size with h' | h'
  · exact h'
  · simp [World.cell?, Array.getElem?_eq_none h'] at h

/- The closure of May: nothing is told where something is wrong already, or the number is in its bounds. -/
theorem ask_told (w : World) (p : Addr) (f : ByteArray) (n m : Int) (v : Value) (hv : w.cell? p = some (.iface 38 v)) :
    Calls Tryd.prog 20 #[.string f, .int .i64 n, .int .i64 m, .pointer (some p)] w fun e w' => e = .returned (.tuple #[]) ∧ w = w' := by
  go_enter Tryd.func20, Tryd.ntmps20
  go_wp2
  go_end0
  exact ⟨rfl, rfl⟩
theorem ask_ok (w : World) (p : Addr) (f : ByteArray) (n m : Int) (hv : w.cell? p = some .nilIface) (h1 : ¬ n < 1) (h2 : ¬ m < n) :
    Calls Tryd.prog 20 #[.string f, .int .i64 n, .int .i64 m, .pointer (some p)] w fun e w' => e = .returned (.tuple #[]) ∧ w = w' := by
  go_enter Tryd.func20, Tryd.ntmps20
  go_wp2
  go_end0
  exact ⟨rfl, rfl⟩
theorem ask_bad (w : World) (p : Addr) (f : ByteArray) (n m : Int) (hv : w.cell? p = some .nilIface) (hf : w.frozen? p = false) (h : n < 1 ∨ m < n) :
    Calls Tryd.prog 20 #[.string f, .int .i64 n, .int .i64 m, .pointer (some p)] w fun e w' => e = .returned (.tuple #[]) ∧ w' = (w.alloc (.cells #[.string f, .int .i64 n, .iface 32 (.int .i64 1)] 40)).setCell p (.iface 38 (.pointer (some ⟨w.heap.size, 0, none⟩))) := by
  have hp := lt_of_cell hv
  have hv2 := fun o => (World.cell?_alloc_lt w o p hp).trans hv
  have hf2 := fun o => (World.frozen?_alloc_old w o p (Nat.ne_of_lt hp)).trans hf
  by_cases h1 : n < 1
  · go_enter Tryd.func20, Tryd.ntmps20
    go_wp2
    go_end0
    exact ⟨rfl, rfl⟩
  · have h2 : m < n := by omega
    go_enter Tryd.func20, Tryd.ntmps20
    go_wp2
    go_end0
    exact ⟨rfl, rfl⟩

/- What May tells of a cache that may not be. -/
def MayBad (w : World) (f : ByteArray) (n : Int) (e : Ending) (w' : World) : Prop :=
  e = .returned (.iface 38 (.pointer (some ⟨w.heap.size + 1, 0, none⟩))) ∧ BadAt w' (w.heap.size + 1) f n (.iface 32 (.int .i64 1)) ∧ Below w.heap.size w w' ∧ w'.heap.size = w.heap.size + 2

def sPolicy : ByteArray := ⟨#[112, 111, 108, 105, 99, 121]⟩
def sCapacity : ByteArray := ⟨#[99, 97, 112, 97, 99, 105, 116, 121]⟩

theorem may_ok (w : World) (p c : Int) (h1 : 1 ≤ p) (h2 : p ≤ 5) (h3 : 1 ≤ c) (h4 : c ≤ 1048576) :
    Calls Tryd.prog 9 #[.int .i64 p, .int .i64 c] w fun e w' => e = .returned .nilIface ∧ Below w.heap.size w w' := by
  have hmf : ∀ (fn : Fn) (first cap : Array Value) (w : World), (Instr.makeFunc fn first cap).run Tryd.prog w = .ok (.func fn first cap) w := fun _ _ _ _ => rfl
  go_enter Tryd.func9, Tryd.ntmps9
  go_wp2_with fail
  refine (ask_ok _ _ _ _ _ (by simp) (by omega) (by omega)).mono ?_
  rintro e w' ⟨rfl, rfl⟩
  go_wp2_with fail
  refine (ask_ok _ _ _ _ _ (by simp) (by omega) (by omega)).mono ?_
  rintro e w' ⟨rfl, rfl⟩
  go_wp2
  go_ret
  exact ⟨rfl, (Below.refl _ _).alloc (Nat.le_refl _) _⟩

/- The two blocks that a May makes where it tells something wrong. -/
theorem mayBad_of (w : World) (f : ByteArray) (n : Int) : MayBad w f n (.returned (.iface 38 (.pointer (some ⟨w.heap.size + 1, 0, none⟩)))) ((w.alloc (.cells #[.iface 38 (.pointer (some ⟨w.heap.size + 1, 0, none⟩))] 24)).alloc (.cells #[.string f, .int .i64 n, .iface 32 (.int .i64 1)] 40)) := by
  refine ⟨rfl, ?_, ((Below.refl _ _).alloc (Nat.le_refl _) _).alloc (by simp) _, by simp⟩
  exact heap_alloc_new _ _ _ (by simp)

theorem may_policy (w : World) (p c : Int) (h : p < 1 ∨ 5 < p) :
    Calls Tryd.prog 9 #[.int .i64 p, .int .i64 c] w (MayBad w sPolicy p) := by
  have hmf : ∀ (fn : Fn) (first cap : Array Value) (w : World), (Instr.makeFunc fn first cap).run Tryd.prog w = .ok (.func fn first cap) w := fun _ _ _ _ => rfl
  go_enter Tryd.func9, Tryd.ntmps9
  go_wp2_with fail
  refine (ask_bad _ _ _ _ _ (by simp) (by simp) h).mono ?_
  rintro e w' ⟨rfl, rfl⟩
  go_wp2_with fail
  refine (ask_told _ _ _ _ _ _ (by simp; rfl)).mono ?_
  rintro e w' ⟨rfl, rfl⟩
  go_wp2
  go_ret
  exact mayBad_of w sPolicy p

theorem may_capacity (w : World) (p c : Int) (h1 : 1 ≤ p) (h2 : p ≤ 5) (h : c < 1 ∨ 1048576 < c) :
    Calls Tryd.prog 9 #[.int .i64 p, .int .i64 c] w (MayBad w sCapacity c) := by
  have hmf : ∀ (fn : Fn) (first cap : Array Value) (w : World), (Instr.makeFunc fn first cap).run Tryd.prog w = .ok (.func fn first cap) w := fun _ _ _ _ => rfl
  go_enter Tryd.func9, Tryd.ntmps9
  go_wp2_with fail
  refine (ask_ok _ _ _ _ _ (by simp) (by omega) (by omega)).mono ?_
  rintro e w' ⟨rfl, rfl⟩
  go_wp2_with fail
  refine (ask_bad _ _ _ _ _ (by simp) (by simp) h).mono ?_
  rintro e w' ⟨rfl, rfl⟩
  go_wp2
  go_ret
  exact mayBad_of w sCapacity c
end Go.Proofs.YtmebobflemfnfaaDoor
