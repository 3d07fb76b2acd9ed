/- Words for an arena in memory: nodes, slots, the arena's three blocks; worlds that differ in few blocks alone. -/
import Derived.Test.YtlmcodmglcmmoaaProg
import Derived.WalkKit
import Derived.RowKit3
import Derived.Below
import Derived.Lib.Hide
import Derived.Deep.OwnRows
import Derived.Deep.Draws
namespace Go.Proofs.Ytlmcodmglcmmoaa
open Go Go.RowKit Go.Deep

/- What a node has. -/
structure Nd where
  key : Int
  val : Int
  flag : Int
  tag : Int
  prev : Int
  next : Int
deriving DecidableEq

def Nd.zero : Nd := ⟨0, 0, 0, 0, 0, 0⟩
abbrev Nd.v (x : Nd) : Value := .agg #[.int .u64 x.key, .int .u64 x.val, .int .i64 x.flag, .int .i64 x.tag, .int .i32 x.prev, .int .i32 x.next]
def cellOf (x : Nd) (t : Bool) (j : Nat) : Value :=
  match j with
  | 0 => .int .u64 x.key
  | 1 => .int .u64 x.val
  | 2 => .int .i64 x.flag
  | 3 => .int .i64 x.tag
  | 4 => .int .i32 x.prev
  | 5 => .int .i32 x.next
  | _ => .bool t
def slotV (nd : Nat → Nd) (tk : Nat → Bool) (p : Nat) : Value := cellOf (nd (p / 7)) (tk (p / 7)) (p % 7)
theorem slotV_at (nd : Nat → Nd) (tk : Nat → Bool) (i j : Nat) (hj : j < 7) : slotV nd tk (i * 7 + j) = cellOf (nd i) (tk i) j := by
  unfold slotV
  rw [show (i * 7 + j) / 7 = i by omega, show (i * 7 + j) % 7 = j by omega]

def upd {α : Type} (f : Nat → α) (i : Nat) (x : α) (j : Nat) : α := if j = i then x else f j
theorem upd_same {α : Type} (f : Nat → α) (i : Nat) (x : α) : upd f i x i = x := if_pos rfl
theorem upd_other {α : Type} (f : Nat → α) (i : Nat) (x : α) {j : Nat} (h : j ≠ i) : upd f i x j = f j := if_neg h
theorem split7 (p i : Nat) : p / 7 ≠ i ∨ p = i * 7 ∨ p = i * 7 + 1 ∨ p = i * 7 + 2 ∨ p = i * 7 + 3 ∨ p = i * 7 + 4 ∨ p = i * 7 + 5 ∨ p = i * 7 + 6 := by omega
theorem slotV_other {nd nd' : Nat → Nd} {tk tk' : Nat → Bool} {p i : Nat} (h : p / 7 ≠ i) (h1 : ∀ j, j ≠ i → nd' j = nd j) (h2 : ∀ j, j ≠ i → tk' j = tk j) : slotV nd' tk' p = slotV nd tk p := by
  unfold slotV; rw [h1 _ h, h2 _ h]
theorem slotV_at0 (nd : Nat → Nd) (tk : Nat → Bool) (i : Nat) : slotV nd tk (i * 7) = cellOf (nd i) (tk i) 0 := slotV_at nd tk i 0 (by decide)
theorem row_node {w : World} {s : Nat} {t : TypeId} {n : Nat} {nd : Nat → Nd} {tk : Nat → Bool} (h : w.rowIs s t (n * 7) (slotV nd tk)) (i : Nat) (x : Nd) :
    ((((((w.setCell ⟨s, i * 7, none⟩ (.int .u64 x.key)).setCell ⟨s, i * 7 + 1, none⟩ (.int .u64 x.val)).setCell ⟨s, i * 7 + 2, none⟩ (.int .i64 x.flag)).setCell ⟨s, i * 7 + 3, none⟩ (.int .i64 x.tag)).setCell
      ⟨s, i * 7 + 4, none⟩ (.int .i32 x.prev)).setCell ⟨s, i * 7 + 5, none⟩ (.int .i32 x.next)).rowIs s t (n * 7) (slotV (upd nd i x) tk) := by
  refine ((((((h.set _ _).set _ _).set _ _).set _ _).set _ _).set _ _).congr fun p _ => ?_
  have key : ∀ j, j < 7 → slotV (upd nd i x) tk (i * 7 + j) = cellOf x (tk i) j := fun j hj => by rw [slotV_at _ _ _ _ hj, upd_same]
  rcases split7 p i with h1 | rfl | rfl | rfl | rfl | rfl | rfl | rfl
  · rw [slotV_other (nd := nd) (tk := tk) h1 (fun j hj => upd_other _ _ _ hj) (fun _ _ => rfl)]
    rw [if_neg (by omega), if_neg (by omega), if_neg (by omega), if_neg (by omega), if_neg (by omega), if_neg (by omega)]
  · rw [show i * 7 = i * 7 + 0 from rfl, key 0 (by decide)]; simp [cellOf]
  · rw [key 1 (by decide)]; simp [cellOf]
  · rw [key 2 (by decide)]; simp [cellOf]
  · rw [key 3 (by decide)]; simp [cellOf]
  · rw [key 4 (by decide)]; simp [cellOf]
  · rw [key 5 (by decide)]; simp [cellOf]
  · rw [key 6 (by decide), slotV_at _ _ _ _ (by decide)]; simp [cellOf]
theorem row_taken {w : World} {s : Nat} {t : TypeId} {n : Nat} {nd : Nat → Nd} {tk : Nat → Bool} (h : w.rowIs s t (n * 7) (slotV nd tk)) (i : Nat) (b : Bool) :
    (w.setCell ⟨s, i * 7 + 6, none⟩ (.bool b)).rowIs s t (n * 7) (slotV nd (upd tk i b)) := by
  refine (h.set _ _).congr fun p _ => ?_
  rcases split7 p i with h1 | rfl | rfl | rfl | rfl | rfl | rfl | rfl
  · rw [slotV_other (nd := nd) (tk := tk) h1 (fun _ _ => rfl) (fun j hj => upd_other _ _ _ hj), if_neg (by omega)]
  · rw [if_neg (by omega), slotV_at0, slotV_at0]; rfl
  · rw [if_neg (by omega), slotV_at _ _ _ _ (by decide), slotV_at _ _ _ _ (by decide)]; rfl
  · rw [if_neg (by omega), slotV_at _ _ _ _ (by decide), slotV_at _ _ _ _ (by decide)]; rfl
  · rw [if_neg (by omega), slotV_at _ _ _ _ (by decide), slotV_at _ _ _ _ (by decide)]; rfl
  · rw [if_neg (by omega), slotV_at _ _ _ _ (by decide), slotV_at _ _ _ _ (by decide)]; rfl
  · rw [if_neg (by omega), slotV_at _ _ _ _ (by decide), slotV_at _ _ _ _ (by decide)]; rfl
  · rw [if_pos rfl, slotV_at _ _ _ _ (by decide), upd_same]; rfl

/- How far a change reaches: of the blocks that were there, those of the list alone. -/
structure Only (S : List Nat) (w w' : World) : Prop where
  os : w'.os = w.os
  tape : w'.tape = w.tape
  output : w'.output = w.output
  size : w.heap.size ≤ w'.heap.size
  block : ∀ k, k < w.heap.size → k ∉ S → w'.heap[k]? = w.heap[k]?

section
variable {S T : List Nat} {w w' w'' : World}
theorem Only.refl (S : List Nat) (w : World) : Only S w w := ⟨rfl, rfl, rfl, Nat.le_refl _, fun _ _ _ => rfl⟩
theorem Only.trans (h : Only S w w') (k : Only T w' w'') (hT : ∀ g ∈ T, g ∈ S ∨ w.heap.size ≤ g) : Only S w w'' :=
  ⟨k.os.trans h.os, k.tape.trans h.tape, k.output.trans h.output, Nat.le_trans h.size k.size, fun i hi hS =>
    (k.block i (Nat.lt_of_lt_of_le hi h.size) (fun hi' => (hT i hi').elim hS (fun h1 => by omega))).trans (h.block i hi hS)⟩
theorem Only.mono (h : Only S w w') (hT : ∀ g ∈ S, g ∈ T) : Only T w w' := ⟨h.os, h.tape, h.output, h.size, fun i hi hS => h.block i hi (fun h' => hS (hT i h'))⟩
theorem Only.alloc (h : Only S w w') (o : Obj) : Only S w (w'.alloc o) :=
  ⟨h.os, h.tape, h.output, Nat.le_trans h.size (by simp), fun i hi hS => (Below.heap_alloc w' o i (Nat.lt_of_lt_of_le hi h.size)).trans (h.block i hi hS)⟩
theorem Only.setCell (h : Only S w w') {p : Addr} (hp : p.block ∈ S ∨ w.heap.size ≤ p.block) (u : Value) : Only S w (w'.setCell p u) :=
  ⟨h.os, h.tape, h.output, by simpa [World.setCell] using h.size, fun i hi hS => (Below.heap_setCell w' p u i (by
    rintro rfl
    rcases hp with hp | hp
    · exact hS hp
    · omega)).trans (h.block i hi hS)⟩
theorem Only.drew (h : Only S w w') : Only S w w'.drew := ⟨h.os, h.tape, h.output, h.size, h.block⟩
theorem Only.drewN (h : Only S w w') (n : Nat) : Only S w (w'.drewN n) := ⟨h.os, h.tape, h.output, h.size, h.block⟩
theorem Only.of_below (h : Below w.heap.size w w') : Only S w w' := ⟨h.os, h.tape, h.output, h.size, fun i hi _ => h.block i hi⟩
theorem Only.nil_below (h : Only [] w w') : Below w.heap.size w w' := ⟨h.os, h.tape, h.output, h.size, fun i hi => h.block i hi (by simp)⟩
theorem Only.below {B : Nat} (h : Only S w w') (hS : ∀ g ∈ S, B ≤ g) (hB : B ≤ w.heap.size) : Below B w w' :=
  ⟨h.os, h.tape, h.output, h.size, fun i hi => h.block i (by omega) (fun h' => by have := hS i h'; omega)⟩
theorem Only.row {b : Nat} {t : TypeId} {n : Nat} {f : Nat → Value} (h : Only S w w') (hr : w.rowIs b t n f) (hb : b ∉ S) : w'.rowIs b t n f :=
  hr.of_block (h.block b hr.lt hb)
end

/- An arena's state: how many slots there are, how many were ever taken, those that were freed since, what each has. -/
structure St where
  n : Nat
  used : Nat
  freed : List Nat
  node : Nat → Nd

def St.tk (st : St) (i : Nat) : Bool := decide (1 ≤ i ∧ i ≤ st.used ∧ i ∉ st.freed)

structure St.Ok (st : St) : Prop where
  two : 2 ≤ st.n
  room : st.used < st.n
  nodup : st.freed.Nodup
  mem : ∀ i ∈ st.freed, 1 ≤ i ∧ i ≤ st.used
  zero : ∀ i, st.tk i = false → st.node i = Nd.zero

abbrev headOf (s f n k u : Nat) : Array Value := #[.slice (some ⟨s, 0, none⟩) n n, .slice (some ⟨f, 0, none⟩) k n, .int .i64 u]

structure Ar (w : World) (b s f : Nat) (st : St) : Prop where
  head : w.heap[b]? = some (.cells (headOf s f st.n st.freed.length st.used) 76 (0, 0))
  slots : w.rowIs s 81 (st.n * 7) (slotV st.node st.tk)
  freed : ∃ F : Nat → Value, w.rowIs f 21 st.n F ∧ ∀ i (h : i < st.freed.length), F i = .int .i32 (st.freed[i] : Nat)

theorem block_ne {w : World} {a b : Nat} {t u : TypeId} {n m : Nat} {f g : Nat → Value} (h : w.rowIs a t n f) (k : w.rowIs b u m g) (hne : t ≠ u) : a ≠ b := by
  rintro rfl
  obtain ⟨c, h1, _⟩ := h
  obtain ⟨d, k1, _⟩ := k
  rw [h1] at k1
  injection k1 with k1
  injection k1 with _ k2
  exact hne k2
theorem head_row {w : World} {b : Nat} {cs : Array Value} {t : TypeId} (h : w.heap[b]? = some (.cells cs t (0, 0))) : w.rowIs b t cs.size (fun i => cs.getD i undef) :=
  ⟨cs, h, rfl, fun i hi => by rw [Array.getElem?_eq_getElem hi]; simp [Array.getD, hi]⟩

section
variable {w w' : World} {b s f : Nat} {st : St}
theorem Ar.ltb (h : Ar w b s f st) : b < w.heap.size := (head_row h.head).lt
theorem Ar.lts (h : Ar w b s f st) : s < w.heap.size := h.slots.lt
theorem Ar.ltf (h : Ar w b s f st) : f < w.heap.size := by obtain ⟨F, hF, _⟩ := h.freed; exact hF.lt
theorem Ar.bs (h : Ar w b s f st) : b ≠ s := block_ne (head_row h.head) h.slots (by decide)
theorem Ar.bf (h : Ar w b s f st) : b ≠ f := by obtain ⟨F, hF, _⟩ := h.freed; exact block_ne (head_row h.head) hF (by decide)
theorem Ar.sf (h : Ar w b s f st) : s ≠ f := by obtain ⟨F, hF, _⟩ := h.freed; exact block_ne h.slots hF (by decide)
theorem Ar.c0 (h : Ar w b s f st) : w.cell? ⟨b, 0, none⟩ = some (.slice (some ⟨s, 0, none⟩) st.n st.n) := (head_row h.head).cell (i := 0) (by simp)
theorem Ar.c1 (h : Ar w b s f st) : w.cell? ⟨b, 1, none⟩ = some (.slice (some ⟨f, 0, none⟩) st.freed.length st.n) := (head_row h.head).cell (i := 1) (by simp)
theorem Ar.c2 (h : Ar w b s f st) : w.cell? ⟨b, 2, none⟩ = some (.int .i64 st.used) := (head_row h.head).cell (i := 2) (by simp)
theorem Ar.fz (h : Ar w b s f st) (i : Nat) : w.frozen? ⟨b, i, none⟩ = false := (head_row h.head).frozen i
theorem Ar.sl (h : Ar w b s f st) {i j : Nat} (hi : i < st.n) (hj : j < 7) : w.cell? ⟨s, i * 7 + j, none⟩ = some (cellOf (st.node i) (st.tk i) j) := by
  rw [← slotV_at _ _ _ _ hj]; exact h.slots.cell (by omega)
theorem Ar.fr (h : Ar w b s f st) {i : Nat} (hi : i < st.freed.length) (hn : st.freed.length ≤ st.n) : w.cell? ⟨f, i, none⟩ = some (.int .i32 (st.freed[i] : Nat)) := by
  obtain ⟨F, hF, he⟩ := h.freed
  rw [hF.cell (by omega), he i hi]
/- An arena that no change has reached. -/
theorem Ar.keep {S : List Nat} (h : Ar w b s f st) (k : Only S w w') (hb : b ∉ S) (hs : s ∉ S) (hf : f ∉ S) : Ar w' b s f st := by
  refine ⟨(k.block b h.ltb hb).trans h.head, k.row h.slots hs, ?_⟩
  obtain ⟨F, hF, he⟩ := h.freed
  exact ⟨F, k.row hF hf, he⟩
theorem Ar.below (h : Ar w b s f st) (k : Below w.heap.size w w') : Ar w' b s f st := h.keep (Only.of_below (S := []) k) (by simp) (by simp) (by simp)
end

theorem nodup_len : ∀ (m : Nat) (l : List Nat), l.Nodup → (∀ i ∈ l, 1 ≤ i ∧ i ≤ m) → l.length ≤ m
  | 0, l, _, h => by
    cases l with
    | nil => simp
    | cons a r => have := h a (by simp); omega
  | m + 1, l, hn, h => by
    have h1 := nodup_len m (l.erase (m + 1)) (hn.erase _) (fun i hi => by
      have h2 := h i (List.mem_of_mem_erase hi)
      have h3 : i ≠ m + 1 := fun e => by
        rw [e] at hi
        exact hn.not_mem_erase hi
      omega)
    by_cases hm : m + 1 ∈ l
    · rw [List.length_erase_of_mem hm] at h1; omega
    · rw [List.erase_of_not_mem hm] at h1; omega
theorem freed_le {st : St} (h : st.Ok) : st.freed.length ≤ st.used := nodup_len _ _ h.nodup h.mem
end Go.Proofs.Ytlmcodmglcmmoaa
