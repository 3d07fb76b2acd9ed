/- Words and walks: ArB Ar Ops ArW. -/
import Derived.Test.YtkhikpnlpcankaaGreatG0
import Derived.WalkKit
import Derived.RowKit3
import Derived.Below
import Derived.Lib.Hide
import Derived.Deep.OwnRows
import Derived.Deep.Draws
import Derived.Deep.QuietTactic
import Derived.BigQuiet
import Derived.BigRegion
import Derived.Outline
import Derived.WalkSpells
import Derived.WalkLawsBesides
import Derived.ArgAppend
import Derived.Laws.CopyRow
import Derived.OwnWalk
import Derived.Laws.MakeOwn
import Derived.RegionTactic
import Derived.Deep.DeepCutAuto
import Derived.Deep.RegionLaw
import Derived.Deep.AppendLies
namespace Go.Proofs.YtkhikpnlpcankaaGreat
open Go Go.RowKit Go.Deep
structure Nd where
  key : Int
  val : Int
  flag : Int
  tag : Int
  prev : Int
  next : Int
deriving DecidableEq
def Nd.zero : Nd := ⟨0, 0, 0, 0, 0, 0⟩
abbrev Nd.v (x : Nd) : Value := .agg #[.int .u64 x.key, .int .u64 x.val, .int .i64 x.flag, .int .i64 x.tag, .int .i32 x.prev, .int .i32 x.next]
def cellOf (x : Nd) (t : Bool) (j : Nat) : Value :=
  match j with
  | 0 => .int .u64 x.key
  | 1 => .int .u64 x.val
  | 2 => .int .i64 x.flag
  | 3 => .int .i64 x.tag
  | 4 => .int .i32 x.prev
  | 5 => .int .i32 x.next
  | _ => .bool t
def slotV (nd : Nat → Nd) (tk : Nat → Bool) (p : Nat) : Value := cellOf (nd (p / 7)) (tk (p / 7)) (p % 7)
theorem slotV_at (nd : Nat → Nd) (tk : Nat → Bool) (i j : Nat) (hj : j < 7) : slotV nd tk (i * 7 + j) = cellOf (nd i) (tk i) j := by
  unfold slotV
  rw [show (i * 7 + j) / 7 = i by omega, show (i * 7 + j) % 7 = j by omega]
theorem split7 (p i : Nat) : p / 7 ≠ i ∨ p = i * 7 ∨ p = i * 7 + 1 ∨ p = i * 7 + 2 ∨ p = i * 7 + 3 ∨ p = i * 7 + 4 ∨ p = i * 7 + 5 ∨ p = i * 7 + 6 := by omega
theorem slotV_other {nd nd' : Nat → Nd} {tk tk' : Nat → Bool} {p i : Nat} (h : p / 7 ≠ i) (h1 : ∀ j, j ≠ i → nd' j = nd j) (h2 : ∀ j, j ≠ i → tk' j = tk j) : slotV nd' tk' p = slotV nd tk p := by
  unfold slotV; rw [h1 _ h, h2 _ h]
theorem slotV_at0 (nd : Nat → Nd) (tk : Nat → Bool) (i : Nat) : slotV nd tk (i * 7) = cellOf (nd i) (tk i) 0 := slotV_at nd tk i 0 (by decide)
theorem row_node {w : World} {s : Nat} {t : TypeId} {n : Nat} {nd : Nat → Nd} {tk : Nat → Bool} (h : w.rowIs s t (n * 7) (slotV nd tk)) (i : Nat) (x : Nd) :
    ((((((w.setCell ⟨s, i * 7, none⟩ (.int .u64 x.key)).setCell ⟨s, i * 7 + 1, none⟩ (.int .u64 x.val)).setCell ⟨s, i * 7 + 2, none⟩ (.int .i64 x.flag)).setCell ⟨s, i * 7 + 3, none⟩ (.int .i64 x.tag)).setCell
      ⟨s, i * 7 + 4, none⟩ (.int .i32 x.prev)).setCell ⟨s, i * 7 + 5, none⟩ (.int .i32 x.next)).rowIs s t (n * 7) (slotV (upd nd i x) tk) := by
  refine ((((((h.set _ _).set _ _).set _ _).set _ _).set _ _).set _ _).congr fun p _ => ?_
  have key : ∀ j, j < 7 → slotV (upd nd i x) tk (i * 7 + j) = cellOf x (tk i) j := fun j hj => by rw [slotV_at _ _ _ _ hj, upd_same]
  rcases split7 p i with h1 | rfl | rfl | rfl | rfl | rfl | rfl | rfl
  · rw [slotV_other (nd := nd) (tk := tk) h1 (fun j hj => upd_other _ _ _ hj) (fun _ _ => rfl)]
    rw [if_neg (by omega), if_neg (by omega), if_neg (by omega), if_neg (by omega), if_neg (by omega), if_neg (by omega)]
  · rw [show i * 7 = i * 7 + 0 from rfl, key 0 (by decide)]; simp [cellOf]
  · rw [key 1 (by decide)]; simp [cellOf]
  · rw [key 2 (by decide)]; simp [cellOf]
  · rw [key 3 (by decide)]; simp [cellOf]
  · rw [key 4 (by decide)]; simp [cellOf]
  · rw [key 5 (by decide)]; simp [cellOf]
  · rw [key 6 (by decide), slotV_at _ _ _ _ (by decide)]; simp [cellOf]
theorem row_taken {w : World} {s : Nat} {t : TypeId} {n : Nat} {nd : Nat → Nd} {tk : Nat → Bool} (h : w.rowIs s t (n * 7) (slotV nd tk)) (i : Nat) (b : Bool) :
    (w.setCell ⟨s, i * 7 + 6, none⟩ (.bool b)).rowIs s t (n * 7) (slotV nd (upd tk i b)) := by
  refine (h.set _ _).congr fun p _ => ?_
  rcases split7 p i with h1 | rfl | rfl | rfl | rfl | rfl | rfl | rfl
  · rw [slotV_other (nd := nd) (tk := tk) h1 (fun _ _ => rfl) (fun j hj => upd_other _ _ _ hj), if_neg (by omega)]
  · rw [if_neg (by omega), slotV_at0, slotV_at0]; rfl
  · rw [if_neg (by omega), slotV_at _ _ _ _ (by decide), slotV_at _ _ _ _ (by decide)]; rfl
  · rw [if_neg (by omega), slotV_at _ _ _ _ (by decide), slotV_at _ _ _ _ (by decide)]; rfl
  · rw [if_neg (by omega), slotV_at _ _ _ _ (by decide), slotV_at _ _ _ _ (by decide)]; rfl
  · rw [if_neg (by omega), slotV_at _ _ _ _ (by decide), slotV_at _ _ _ _ (by decide)]; rfl
  · rw [if_neg (by omega), slotV_at _ _ _ _ (by decide), slotV_at _ _ _ _ (by decide)]; rfl
  · rw [if_pos rfl, slotV_at _ _ _ _ (by decide), upd_same]; rfl
structure St where
  n : Nat
  used : Nat
  freed : List Nat
  node : Nat → Nd
def St.tk (st : St) (i : Nat) : Bool := decide (1 ≤ i ∧ i ≤ st.used ∧ i ∉ st.freed)
structure St.Ok (st : St) : Prop where
  two : 2 ≤ st.n
  room : st.used < st.n
  nodup : st.freed.Nodup
  mem : ∀ i ∈ st.freed, 1 ≤ i ∧ i ≤ st.used
  zero : ∀ i, st.tk i = false → st.node i = Nd.zero
abbrev headOf (s f n k u : Nat) : Array Value := #[.slice (some ⟨s, 0, none⟩) n n, .slice (some ⟨f, 0, none⟩) k n, .int .i64 u]
structure Ar (w : World) (b s f : Nat) (st : St) : Prop where
  head : w.heap[b]? = some (.cells (headOf s f st.n st.freed.length st.used) 138 (0, 0))
  slots : w.rowIs s 152 (st.n * 7) (slotV st.node st.tk)
  freed : ∃ F : Nat → Value, w.rowIs f 21 st.n F ∧ ∀ i (h : i < st.freed.length), F i = .int .i32 (st.freed[i] : Nat)
section
variable {w w' : World} {b s f : Nat} {st : St}
theorem Ar.ltb (h : Ar w b s f st) : b < w.heap.size := (head_row h.head).lt
theorem Ar.lts (h : Ar w b s f st) : s < w.heap.size := h.slots.lt
theorem Ar.ltf (h : Ar w b s f st) : f < w.heap.size := by obtain ⟨F, hF, _⟩ := h.freed; exact hF.lt
theorem Ar.bs (h : Ar w b s f st) : b ≠ s := block_ne (head_row h.head) h.slots (by decide)
theorem Ar.bf (h : Ar w b s f st) : b ≠ f := by obtain ⟨F, hF, _⟩ := h.freed; exact block_ne (head_row h.head) hF (by decide)
theorem Ar.sf (h : Ar w b s f st) : s ≠ f := by obtain ⟨F, hF, _⟩ := h.freed; exact block_ne h.slots hF (by decide)
theorem Ar.c0 (h : Ar w b s f st) : w.cell? ⟨b, 0, none⟩ = some (.slice (some ⟨s, 0, none⟩) st.n st.n) := (head_row h.head).cell (i := 0) (by simp)
theorem Ar.c1 (h : Ar w b s f st) : w.cell? ⟨b, 1, none⟩ = some (.slice (some ⟨f, 0, none⟩) st.freed.length st.n) := (head_row h.head).cell (i := 1) (by simp)
theorem Ar.c2 (h : Ar w b s f st) : w.cell? ⟨b, 2, none⟩ = some (.int .i64 st.used) := (head_row h.head).cell (i := 2) (by simp)
theorem Ar.fz (h : Ar w b s f st) (i : Nat) : w.frozen? ⟨b, i, none⟩ = false := (head_row h.head).frozen i
theorem Ar.sl (h : Ar w b s f st) {i j : Nat} (hi : i < st.n) (hj : j < 7) : w.cell? ⟨s, i * 7 + j, none⟩ = some (cellOf (st.node i) (st.tk i) j) := by
  rw [← slotV_at _ _ _ _ hj]; exact h.slots.cell (by omega)
theorem Ar.fr (h : Ar w b s f st) {i : Nat} (hi : i < st.freed.length) (hn : st.freed.length ≤ st.n) : w.cell? ⟨f, i, none⟩ = some (.int .i32 (st.freed[i] : Nat)) := by
  obtain ⟨F, hF, he⟩ := h.freed
  rw [hF.cell (by omega), he i hi]
theorem Ar.keep {S : List Nat} (h : Ar w b s f st) (k : Only S w w') (hb : b ∉ S) (hs : s ∉ S) (hf : f ∉ S) : Ar w' b s f st := by
  refine ⟨(k.block b h.ltb hb).trans h.head, k.row h.slots hs, ?_⟩
  obtain ⟨F, hF, he⟩ := h.freed
  exact ⟨F, k.row hF hf, he⟩
theorem Ar.below (h : Ar w b s f st) (k : Below w.heap.size w w') : Ar w' b s f st := h.keep (Only.of_below (S := []) k) (by simp) (by simp) (by simp)
end
theorem nodup_len : ∀ (m : Nat) (l : List Nat), l.Nodup → (∀ i ∈ l, 1 ≤ i ∧ i ≤ m) → l.length ≤ m
  | 0, l, _, h => by
    cases l with
    | nil => simp
    | cons a r => have := h a (by simp); omega
  | m + 1, l, hn, h => by
    have h1 := nodup_len m (l.erase (m + 1)) (hn.erase _) (fun i hi => by
      have h2 := h i (List.mem_of_mem_erase hi)
      have h3 : i ≠ m + 1 := fun e => by
        rw [e] at hi
        exact hn.not_mem_erase hi
      omega)
    by_cases hm : m + 1 ∈ l
    · rw [List.length_erase_of_mem hm] at h1; omega
    · rw [List.erase_of_not_mem hm] at h1; omega
theorem freed_le {st : St} (h : st.Ok) : st.freed.length ≤ st.used := nodup_len _ _ h.nodup h.mem
theorem is_yes {w : World} {b s f : Nat} {st : St} (h : Ar w b s f st) (hn : st.n ≤ 1000000000) (i : Nat) (hi : i < st.n) (ht : st.tk i = true) :
    Calls Tryz.prog 116 #[.pointer (some ⟨b, 0, none⟩), .int .i32 i] w fun e w' => e = .returned (.bool true) ∧ w = w' := by
  have h0 := h.c0
  have hc := h.sl (j := 6) hi (by decide)
  simp only [cellOf, ht] at hc
  have hp : 0 < i := by simp only [St.tk, decide_eq_true_eq] at ht; omega
  have H := Lib.hid h
  have HT := Lib.hid ht
  clear h ht
  go_enter Tryz.func116, Tryz.ntmps116
  go_wp2
  go_ret
  exact ⟨rfl, rfl⟩
theorem is_out {w : World} {b s f : Nat} {st : St} (h : Ar w b s f st) (i : Int) (h32 : i ≤ 2147483647) (hi : i ≤ 0 ∨ (st.n : Int) ≤ i) :
    Calls Tryz.prog 116 #[.pointer (some ⟨b, 0, none⟩), .int .i32 i] w fun e w' => e = .returned (.bool false) ∧ w = w' := by
  have h0 := h.c0
  have H := Lib.hid h
  clear h
  by_cases hp : 0 < i
  · have hi' : (st.n : Int) ≤ i := by omega
    clear hi
    go_enter Tryz.func116, Tryz.ntmps116
    go_wp2
    go_ret
    exact ⟨rfl, rfl⟩
  · have hi' : i ≤ 0 := by omega
    clear hi
    go_enter Tryz.func116, Tryz.ntmps116
    go_wp2
    go_ret
    exact ⟨rfl, rfl⟩
theorem is_not {w : World} {b s f : Nat} {st : St} (h : Ar w b s f st) (hn : st.n ≤ 1000000000) (i : Nat) (hi : i < st.n) (h0i : 0 < i) (ht : st.tk i = false) :
    Calls Tryz.prog 116 #[.pointer (some ⟨b, 0, none⟩), .int .i32 i] w fun e w' => e = .returned (.bool false) ∧ w = w' := by
  have h0 := h.c0
  have hc := h.sl (j := 6) hi (by decide)
  simp only [cellOf, ht] at hc
  have H := Lib.hid h
  have HT := Lib.hid ht
  clear h ht
  go_enter Tryz.func116, Tryz.ntmps116
  go_wp2
  go_ret
  exact ⟨rfl, rfl⟩
def St.is (st : St) (i : Int) : Bool := decide (0 < i) && st.tk i.toNat
theorem St.is_nat {st : St} {i : Int} (ho : st.Ok) (h : st.is i = true) : ∃ k : Nat, i = k ∧ k < st.n ∧ 0 < k ∧ st.tk k = true := by
  unfold St.is at h
  simp only [Bool.and_eq_true, decide_eq_true_eq] at h
  obtain ⟨h1, h2⟩ := h
  refine ⟨i.toNat, by omega, ?_, by omega, h2⟩
  have := ho.room
  simp only [St.tk, decide_eq_true_eq] at h2
  omega
theorem is_true {w : World} {b s f : Nat} {st : St} (h : Ar w b s f st) (ho : st.Ok) (hn : st.n ≤ 1000000000) (i : Int) (hi : st.is i = true) :
    Calls Tryz.prog 116 #[.pointer (some ⟨b, 0, none⟩), .int .i32 i] w fun e w' => e = .returned (.bool true) ∧ w = w' := by
  obtain ⟨k, rfl, h1, h2, h3⟩ := St.is_nat ho hi
  exact is_yes h hn k h1 h3
theorem is_false {w : World} {b s f : Nat} {st : St} (h : Ar w b s f st) (hn : st.n ≤ 1000000000) (i : Int) (h32 : i ≤ 2147483647) (hi : st.is i = false) :
    Calls Tryz.prog 116 #[.pointer (some ⟨b, 0, none⟩), .int .i32 i] w fun e w' => e = .returned (.bool false) ∧ w = w' := by
  by_cases h1 : i ≤ 0 ∨ (st.n : Int) ≤ i
  · exact is_out h i h32 h1
  · obtain ⟨k, rfl⟩ : ∃ k : Nat, i = k := ⟨i.toNat, by omega⟩
    refine is_not h hn k (by omega) (by omega) ?_
    unfold St.is at hi
    rw [decide_eq_true (by omega), Bool.true_and] at hi
    simpa using hi
def St.at_ (st : St) (i : Int) : Nd := if st.is i then st.node i.toNat else Nd.zero
theorem at_false {w : World} {b s f : Nat} {st : St} (h : Ar w b s f st) (hn : st.n ≤ 1000000000) (i : Int) (h32 : i ≤ 2147483647) (hi : st.is i = false) :
    Calls Tryz.prog 89 #[.pointer (some ⟨b, 0, none⟩), .int .i32 i] w fun e w' => e = .returned Nd.zero.v ∧ Below w.heap.size w w' := by
  have H := Lib.hid (h.below ((Below.refl _ _).alloc (Nat.le_refl _) (.cells #[.int .u64 0, .int .u64 0, .int .i64 0, .int .i64 0, .int .i32 0, .int .i32 0] 117)))
  have HI := Lib.hid hi
  clear h hi
  go_enter Tryz.func89, Tryz.ntmps89
  go_wp2_with fail
  refine (is_false H.out hn i h32 HI.out).mono ?_
  rintro e w' ⟨rfl, rfl⟩
  go_wp2
  exact bodyPost_ret (v := Nd.zero.v) (by simp [results, Tryz.results89, go_sem, Nd.zero]) rfl ⟨rfl, (Below.refl _ _).alloc (Nat.le_refl _) _⟩
theorem at_true {w : World} {b s f : Nat} {st : St} (h : Ar w b s f st) (hn : st.n ≤ 1000000000) (i : Nat) (hi : st.tk i = true) (hin : i < st.n) :
    Calls Tryz.prog 89 #[.pointer (some ⟨b, 0, none⟩), .int .i32 i] w fun e w' => e = .returned (st.node i).v ∧ Below w.heap.size w w' := by
  have h' := h.below ((Below.refl _ _).alloc (Nat.le_refl _) (.cells #[.int .u64 0, .int .u64 0, .int .i64 0, .int .i64 0, .int .i32 0, .int .i32 0] 117))
  have H := Lib.hid h'
  have HI := Lib.hid hi
  have h0 := h.c0
  have l0 := h.ltb
  have l1 := h.lts
  have x0 := h.sl (j := 0) hin (by decide)
  have x1 := h.sl (j := 1) hin (by decide)
  have x2 := h.sl (j := 2) hin (by decide)
  have x3 := h.sl (j := 3) hin (by decide)
  have x4 := h.sl (j := 4) hin (by decide)
  have x5 := h.sl (j := 5) hin (by decide)
  simp only [cellOf, Nat.add_zero] at x0 x1 x2 x3 x4 x5
  clear h hi h'
  go_enter Tryz.func89, Tryz.ntmps89
  go_wp2_with fail
  refine (is_yes H.out hn i hin HI.out).mono ?_
  rintro e w' ⟨rfl, rfl⟩
  go_wp2
  exact bodyPost_ret (v := (st.node i).v) (by simp [results, Tryz.results89, go_sem]) rfl ⟨rfl, (Below.refl _ _).alloc (Nat.le_refl _) _⟩
theorem at_walk {w : World} {b s f : Nat} {st : St} (h : Ar w b s f st) (ho : st.Ok) (hn : st.n ≤ 1000000000) (i : Int) (h32 : i ≤ 2147483647) :
    Calls Tryz.prog 89 #[.pointer (some ⟨b, 0, none⟩), .int .i32 i] w fun e w' => e = .returned (st.at_ i).v ∧ Below w.heap.size w w' := by
  cases hi : st.is i
  · have e : st.at_ i = Nd.zero := by unfold St.at_; rw [hi]; rfl
    rw [e]
    exact at_false h hn i h32 hi
  · obtain ⟨k, rfl, h1, h2, h3⟩ := St.is_nat ho hi
    have e : st.at_ k = st.node k := by unfold St.at_; rw [hi]; rfl
    rw [e]
    exact at_true h hn k h3 h1
theorem is_walk {w : World} {b s f : Nat} {st : St} (h : Ar w b s f st) (ho : st.Ok) (hn : st.n ≤ 1000000000) (i : Int) (h32 : i ≤ 2147483647) :
    Calls Tryz.prog 116 #[.pointer (some ⟨b, 0, none⟩), .int .i32 i] w fun e w' => e = .returned (.bool (st.is i)) ∧ w = w' := by
  cases hi : st.is i
  · exact is_false h hn i h32 hi
  · exact is_true h ho hn i hi
theorem wpList_append_one {P : Program} {w : World} {ops : Array Oper} {rest : List Oper} {o : Oper} {a : Act} {Q : Exit → Act → World → Prop} (hgd : o.guard = none) (s x : Operand) (t : TypeId)
    (ho : o.op = .call { callee := .builtin .append, args := #[s, x], argTypes := #[t, t] }) (e : TypeId) (z : Value) (bytes : Nat) (ht : P.underlying t = some (.slice e))
    (hinfo : (P.info? e).map (fun i => (i.zero, i.size, i.bytes)) = some (some z, 1, bytes)) (f k n p c : Nat) (hs : a.eval s = .slice (some ⟨f, 0, none⟩) k n) (hx : a.eval x = .slice (some ⟨p, 0, none⟩) 1 c)
    (u : Value) (hu : w.cell? ⟨p, 0, none⟩ = some u) (h1 : u.oneCell' = true) (hroom : k + 1 ≤ n) (hc : (w.cell? ⟨f, k, none⟩).isSome = true) (hf : w.frozen? ⟨f, k, none⟩ = false)
    (h : wpList P ops Q rest (a.put o.dst (.slice (some ⟨f, 0, none⟩) (k + 1) n)) (w.setCell ⟨f, k, none⟩ u)) : wpList P ops Q (o :: rest) a w := by
  obtain ⟨i, hi, hzz⟩ := Option.map_eq_some_iff.1 hinfo
  simp only [Prod.mk.injEq] at hzz
  obtain ⟨_, hs1, _⟩ := hzz
  have hrun := run_append_room_cells (P := P) w t o.type e i ht hi f 0 k n ⟨p, 0, none⟩ 1 c [u] (by simp [hs1])
    (fun j v hv => by
      cases j with
      | zero => simp only [List.getElem?_cons_zero, Option.some.injEq] at hv; subst hv; exact hu
      | succ j => simp at hv)
    (by simpa using h1) hroom (fun j hj => by
      have : j = 0 := by simpa using hj
      subst this; simpa [hs1] using hc) (fun j hj => by
      have : j = 0 := by simpa using hj
      subst this; simpa [hs1] using hf)
  have hw : w.setCells f (0 + k * i.size) [u] = w.setCell ⟨f, k, none⟩ u := by simp [World.setCells, hs1]
  rw [hw] at hrun
  refine wpList_plain hgd fun K' hK' => ?_
  unfold Oper.wp
  simp [execOp, ho, resolve, invoke, builtin, hs, hx, hrun, Result.andThen]
  exact hK' _ _ h
theorem run_copy_rows {P : Program} (w : World) (dT sT ty elem : TypeId) (hu : P.underlying dT = some (.slice elem)) (size : Nat) (hsz : (P.info? elem).map (·.size) = some size) (g r dLen dCap sLen sCap : Nat) (hle : sLen ≤ dLen)
    (t u : TypeId) (nd ns : Nat) (fd fs : Nat → Value) (hg : w.rowIs g t nd fd) (hr : w.rowIs r u ns fs) (hns : sLen * size ≤ ns) (hnd : sLen * size ≤ nd) (h1 : ∀ j, j < sLen * size → (fs j).oneCell' = true) :
    ∃ w', (Builtin.copy_ #[dT, sT] ty #[.slice (some ⟨g, 0, none⟩) dLen dCap, .slice (some ⟨r, 0, none⟩) sLen sCap]).run P w = .ok (goInt sLen) w' ∧
      w'.rowIs g t nd (fun j => if j < sLen * size then fs j else fd j) ∧ Only [g] w w' := by
  obtain ⟨cur, hb, hn, hcur⟩ := hg
  have hm : Nat.min sLen dLen = sLen := Nat.min_eq_left hle
  have hsrc : ∀ j v, ((List.range (sLen * size)).map fs)[j]? = some v → w.cell? ((⟨r, 0, none⟩ : Addr).add j) = some v := by
    intro j v hv
    rw [List.getElem?_map] at hv
    have hj : j < sLen * size := by
      rcases Nat.lt_or_ge j (sLen * size) with h | h
      · exact h
      · rw [List.getElem?_eq_none (by simpa using h)] at hv; cases hv
    rw [List.getElem?_range hj] at hv
    simp only [Option.map_some, Option.some.injEq] at hv
    subst hv
    have := hr.cell (i := j) (by omega)
    simpa [Addr.add_lit] using this
  have hl := run_loadCells_list (P := P) w ⟨r, 0, none⟩ ((List.range (sLen * size)).map fs) hsrc
  have hst := run_storeCells_at P g 0 t ((List.range (sLen * size)).map fs) 0 cur w hb (by simp; omega) (fun v hv => by
    obtain ⟨j, hj, rfl⟩ := List.mem_map.1 hv
    exact h1 j (List.mem_range.1 hj))
  simp only [Nat.zero_add, List.take_zero, List.nil_append, List.length_map, List.length_range] at hst
  generalize hnew : ((List.range (sLen * size)).map fs ++ cur.toList.drop (sLen * size)).toArray = new at hst
  refine ⟨w.setRow g new, ?_, ⟨new, setRow_heap w g cur _ t _ hb, ?_, fun i hi => ?_⟩, ?_⟩
  rotate_left
  · subst hnew; simp; omega
  · subst hnew
    rw [List.getElem?_toArray]
    show _ = some (if i < sLen * size then fs i else fd i)
    by_cases hj : i < sLen * size
    · rw [if_pos hj, List.getElem?_append_left (by simpa using hj), List.getElem?_map, List.getElem?_range hj]; rfl
    · rw [if_neg hj, List.getElem?_append_right (by simpa using hj), List.getElem?_drop]
      rw [show sLen * size + (i - ((List.range (sLen * size)).map fs).length) = i by simp; omega]
      rw [Array.getElem?_toList]; exact hcur i hi
  · exact ⟨rfl, rfl, rfl, by simp [World.setRow], fun k hk hne => setRow_other w g k _ (by simpa using hne)⟩
  · cases hq : P.info? elem with
    | none => simp [hq] at hsz
    | some i =>
      have hi : i.size = size := by simpa [hq] using hsz
      have hl' : (loadCells ⟨r, 0, none⟩ (sLen * size)).run P w = .ok ((List.range (sLen * size)).map fs).toArray w := by simpa using hl
      simp [Builtin.copy_, run_underlying hu, Builtin.lenOf, Builtin.firstCells, sizeOf, typeInfo, hq, hi, hm, hl', hst]
theorem wpList_copy_rows {P : Program} {w : World} {ops : Array Oper} {rest : List Oper} {o : Oper} {a : Act} {Q : Exit → Act → World → Prop} (hgd : o.guard = none) (d s : Operand) (dT sT : TypeId)
    (ho : o.op = .call { callee := .builtin .copy, args := #[d, s], argTypes := #[dT, sT] }) (elem : TypeId) (hu : P.underlying dT = some (.slice elem)) (size : Nat) (hsz : (P.info? elem).map (·.size) = some size)
    (g r dLen dCap sLen sCap : Nat) (hle : sLen ≤ dLen) (hd : a.eval d = .slice (some ⟨g, 0, none⟩) dLen dCap) (hs : a.eval s = .slice (some ⟨r, 0, none⟩) sLen sCap)
    (t u : TypeId) (nd ns : Nat) (fd fs : Nat → Value) (hg : w.rowIs g t nd fd) (hr : w.rowIs r u ns fs) (hns : sLen * size ≤ ns) (hnd : sLen * size ≤ nd) (h1 : ∀ j, j < sLen * size → (fs j).oneCell' = true)
    (h : ∀ w', w'.rowIs g t nd (fun j => if j < sLen * size then fs j else fd j) → Only [g] w w' → wpList P ops Q rest (a.put o.dst (goInt sLen)) w') : wpList P ops Q (o :: rest) a w := by
  obtain ⟨w', hrun, h2, h3⟩ := run_copy_rows (P := P) w dT sT o.type elem hu size hsz g r dLen dCap sLen sCap hle t u nd ns fd fs hg hr hns hnd h1
  refine wpList_plain hgd fun K' hK' => ?_
  unfold Oper.wp
  simp [execOp, ho, resolve, invoke, builtin, hd, hs, hrun, Result.andThen]
  exact hK' _ _ (h w' h2 h3)
theorem wpList_copy_nilrow {P : Program} {w : World} {ops : Array Oper} {rest : List Oper} {o : Oper} {a : Act} {Q : Exit → Act → World → Prop} (hgd : o.guard = none) (d s : Operand) (dT sT : TypeId)
    (ho : o.op = .call { callee := .builtin .copy, args := #[d, s], argTypes := #[dT, sT] }) (elem : TypeId) (hu : P.underlying dT = some (.slice elem)) (hsz : ((P.info? elem).map (·.size)).isSome = true)
    (p : Addr) (dLen dCap : Nat) (hd : a.eval d = .slice (some p) dLen dCap) (hs : a.eval s = .slice none 0 0)
    (h : wpList P ops Q rest (a.put o.dst (goInt 0)) w) : wpList P ops Q (o :: rest) a w := by
  have hrun := run_copy_nil (P := P) w dT sT o.type elem p dLen dCap hu hsz
  refine wpList_plain hgd fun K' hK' => ?_
  unfold Oper.wp
  simp [execOp, ho, resolve, invoke, builtin, hd, hs, hrun, Result.andThen]
  exact hK' _ _ h
theorem make_slots (n : Nat) (hn : n ≤ 1000000000) (w : World) :
    ∃ cs : Array Value, (Instr.makeSlice 136 (.int .i64 n) (.int .i64 n)).run Tryz.prog w = .ok (.slice (some ⟨w.heap.size, 0, none⟩) n n) (w.alloc (.cells cs 152)) ∧
      cs.size = n * 7 ∧ ∀ p, p < cs.size → cs[p]? = some (slotV (fun _ => Nd.zero) (fun _ => false) p) := by
  have hinfo : (Tryz.prog.info? 152).map (fun i => (i.zero, i.size, i.bytes)) = some (some (.agg #[.int .u64 0, .int .u64 0, .int .i64 0, .int .i64 0, .int .i32 0, .int .i32 0, .bool false]), 7, 48) := by kernel_rfl
  obtain ⟨i, hi, hz0, hz1, hz2⟩ := info_parts hinfo
  have hr := run_make (P := Tryz.prog) w 136 152 i _ (by kernel_rfl) hi hz0 .i64 .i64 n n (by omega) (by omega) (by rw [hz2]; omega) (by omega)
  refine ⟨_, by simpa using hr, ?_⟩
  rw [hz1]
  refine ⟨size_madeCells _ _, fun p hp => ?_⟩
  rw [size_madeCells] at hp
  have hp7 : p % 7 < 7 := Nat.mod_lt _ (by decide)
  simp only [madeCells, Value.cells, Array.getElem?_map]
  rw [Array.getElem?_range, if_pos hp]
  simp only [Option.map_some, Option.some.injEq, slotV]
  generalize p % 7 = j at hp7
  match j, hp7 with
  | 0, _ => rfl
  | 1, _ => rfl
  | 2, _ => rfl
  | 3, _ => rfl
  | 4, _ => rfl
  | 5, _ => rfl
  | 6, _ => rfl
theorem set_false {w : World} {b s f : Nat} {st : St} (h : Ar w b s f st) (hn : st.n ≤ 1000000000) (i : Int) (h32 : i ≤ 2147483647) (x : Nd) (hi : st.is i = false) :
    Calls Tryz.prog 138 #[.pointer (some ⟨b, 0, none⟩), .int .i32 i, x.v] w fun e w' => e = .returned (.bool false) ∧ Below w.heap.size w w' := by
  have H := Lib.hid (h.below ((Below.refl _ _).alloc (Nat.le_refl _) (.cells #[.int .u64 x.key, .int .u64 x.val, .int .i64 x.flag, .int .i64 x.tag, .int .i32 x.prev, .int .i32 x.next] 117)))
  have HI := Lib.hid hi
  clear h hi
  go_enter Tryz.func138, Tryz.ntmps138
  go_wp2_with fail
  refine (is_false H.out hn i h32 HI.out).mono ?_
  rintro e w' ⟨rfl, rfl⟩
  go_wp2
  go_ret
  exact ⟨rfl, (Below.refl _ _).alloc (Nat.le_refl _) _⟩
def St.set (st : St) (i : Nat) (x : Nd) : St := { st with node := upd st.node i x }
def St.free (st : St) (i : Nat) : St := { st with freed := st.freed ++ [i], node := upd st.node i Nd.zero }
theorem free_tk (st : St) (i : Nat) : (st.free i).tk = upd st.tk i false := by
  funext j
  unfold upd
  split
  · rename_i e
    subst e
    simp [St.tk, St.free]
  · rename_i e
    simp [St.tk, St.free, e]
theorem set_ends {w : World} {b s f : Nat} {st : St} (h : Ar w b s f st) (i : Nat) (x : Nd) (o : Obj) :
    Only [s] w (((((((w.setCell ⟨s, i * 7, none⟩ (.int .u64 x.key)).setCell ⟨s, i * 7 + 1, none⟩ (.int .u64 x.val)).setCell ⟨s, i * 7 + 2, none⟩ (.int .i64 x.flag)).setCell ⟨s, i * 7 + 3, none⟩ (.int .i64 x.tag)).setCell
      ⟨s, i * 7 + 4, none⟩ (.int .i32 x.prev)).setCell ⟨s, i * 7 + 5, none⟩ (.int .i32 x.next)).alloc o).drew ∧
    Ar (((((((w.setCell ⟨s, i * 7, none⟩ (.int .u64 x.key)).setCell ⟨s, i * 7 + 1, none⟩ (.int .u64 x.val)).setCell ⟨s, i * 7 + 2, none⟩ (.int .i64 x.flag)).setCell ⟨s, i * 7 + 3, none⟩ (.int .i64 x.tag)).setCell
      ⟨s, i * 7 + 4, none⟩ (.int .i32 x.prev)).setCell ⟨s, i * 7 + 5, none⟩ (.int .i32 x.next)).alloc o).drew b s f (st.set i x) := by
  have ho := (((((((((Only.refl [s] w).setCell (p := ⟨s, i * 7, none⟩) (by simp) (.int .u64 x.key)).setCell (p := ⟨s, i * 7 + 1, none⟩) (by simp) (.int .u64 x.val)).setCell
    (p := ⟨s, i * 7 + 2, none⟩) (by simp) (.int .i64 x.flag)).setCell (p := ⟨s, i * 7 + 3, none⟩) (by simp) (.int .i64 x.tag)).setCell (p := ⟨s, i * 7 + 4, none⟩) (by simp) (.int .i32 x.prev)).setCell
    (p := ⟨s, i * 7 + 5, none⟩) (by simp) (.int .i32 x.next)).alloc o).drew)
  have hr := ((row_node h.slots i x).alloc o).drew
  refine ⟨ho, (ho.block b h.ltb (by simpa using h.bs)).trans h.head, hr, ?_⟩
  obtain ⟨F, hF, he⟩ := h.freed
  exact ⟨F, ho.row hF (by simpa using h.sf.symm), he⟩
theorem set_true {w : World} {b s f : Nat} {st : St} (h : Ar w b s f st) (hn : st.n ≤ 1000000000) (i : Nat) (hi : st.tk i = true) (hin : i < st.n) (x : Nd) :
    Calls Tryz.prog 138 #[.pointer (some ⟨b, 0, none⟩), .int .i32 i, x.v] w fun e w' => e = .returned (.bool true) ∧ Only [s] w w' ∧ Ar w' b s f (st.set i x) := by
  have hends := Lib.hid (set_ends h i x)
  have h' := h.below ((Below.refl _ _).alloc (Nat.le_refl _) (.cells #[.int .u64 x.key, .int .u64 x.val, .int .i64 x.flag, .int .i64 x.tag, .int .i32 x.prev, .int .i32 x.next] 117))
  have H := Lib.hid h'
  have HI := Lib.hid hi
  have h0 := h.c0
  have l0 := h.ltb
  have l1 := h.lts
  have z0 := h.slots.frozen (i * 7)
  have z1 := h.slots.frozen (i * 7 + 1)
  have z2 := h.slots.frozen (i * 7 + 2)
  have z3 := h.slots.frozen (i * 7 + 3)
  have z4 := h.slots.frozen (i * 7 + 4)
  have z5 := h.slots.frozen (i * 7 + 5)
  have x0 := h.sl (j := 0) hin (by decide)
  have x1 := h.sl (j := 1) hin (by decide)
  have x2 := h.sl (j := 2) hin (by decide)
  have x3 := h.sl (j := 3) hin (by decide)
  have x4 := h.sl (j := 4) hin (by decide)
  have x5 := h.sl (j := 5) hin (by decide)
  simp only [cellOf, Nat.add_zero] at x0 x1 x2 x3 x4 x5
  clear h hi h'
  go_enter Tryz.func138, Tryz.ntmps138
  go_wp2_with fail
  refine (is_yes H.out hn i hin HI.out).mono ?_
  rintro e w' ⟨rfl, rfl⟩
  go_wp2
  go_region
  go_wp2
  go_ret
  exact ⟨rfl, hends.out _⟩
def Cleared (w : World) (s i : Nat) (st : St) (wx : World) : Prop := Only [s] w wx ∧ wx.rowIs s 152 (st.n * 7) (slotV (upd st.node i Nd.zero) (upd st.tk i false))
theorem cleared_mk {w : World} {b s f : Nat} {st : St} (h : Ar w b s f st) (i : Nat) : Cleared w s i st (((((((w.setCell ⟨s, i * 7, none⟩ (.int .u64 0)).setCell ⟨s, i * 7 + 1, none⟩ (.int .u64 0)).setCell ⟨s, i * 7 + 2, none⟩ (.int .i64 0)).setCell
      ⟨s, i * 7 + 3, none⟩ (.int .i64 0)).setCell ⟨s, i * 7 + 4, none⟩ (.int .i32 0)).setCell ⟨s, i * 7 + 5, none⟩ (.int .i32 0)).setCell ⟨s, i * 7 + 6, none⟩ (.bool false)) :=
  ⟨((((((((Only.refl [s] w).setCell (p := ⟨s, i * 7, none⟩) (by simp) (.int .u64 0)).setCell (p := ⟨s, i * 7 + 1, none⟩) (by simp) (.int .u64 0)).setCell
    (p := ⟨s, i * 7 + 2, none⟩) (by simp) (.int .i64 0)).setCell (p := ⟨s, i * 7 + 3, none⟩) (by simp) (.int .i64 0)).setCell (p := ⟨s, i * 7 + 4, none⟩) (by simp) (.int .i32 0)).setCell
    (p := ⟨s, i * 7 + 5, none⟩) (by simp) (.int .i32 0)).setCell (p := ⟨s, i * 7 + 6, none⟩) (by simp) (.bool false)), row_taken (row_node h.slots i Nd.zero) i false⟩
theorem free_ends {w wc : World} {b s f : Nat} {st : St} (h : Ar w b s f st) {i : Nat} (hc : Cleared w s i st wc) (o : Obj) :
    Only [b, s, f] w (((wc.setCell ⟨f, st.freed.length, none⟩ (.int .i32 i)).setCell ⟨b, 1, none⟩ (.slice (some ⟨f, 0, none⟩) (st.freed.length + 1) st.n)).alloc o) ∧
    Ar (((wc.setCell ⟨f, st.freed.length, none⟩ (.int .i32 i)).setCell ⟨b, 1, none⟩ (.slice (some ⟨f, 0, none⟩) (st.freed.length + 1) st.n)).alloc o) b s f (st.free i) := by
  obtain ⟨ho, hrow⟩ := hc
  have n1 := h.bs
  have n2 := h.bf
  have n3 := h.sf
  have hb : wc.heap[b]? = some (.cells (headOf s f st.n st.freed.length st.used) 138 (0, 0)) := (ho.block b h.ltb (by simpa using n1)).trans h.head
  obtain ⟨F, hF, he⟩ := h.freed
  have hF1 := (((ho.row hF (by simpa using n3.symm)).set st.freed.length (.int .i32 i)).setOther (a := ⟨b, 1, none⟩) (by simpa using n2.symm) (.slice (some ⟨f, 0, none⟩) (st.freed.length + 1) st.n)).alloc o
  have hb1 : (((wc.setCell ⟨f, st.freed.length, none⟩ (.int .i32 i)).setCell ⟨b, 1, none⟩ (.slice (some ⟨f, 0, none⟩) (st.freed.length + 1) st.n)).alloc o).heap[b]? =
      some (.cells (headOf s f st.n (st.freed.length + 1) st.used) 138 (0, 0)) := by
    have hlt : b < wc.heap.size := Nat.lt_of_lt_of_le h.ltb ho.size
    rw [Below.heap_alloc _ _ _ (by simpa [World.setCell] using hlt)]
    have e1 : (wc.setCell ⟨f, st.freed.length, none⟩ (.int .i32 i)).heap[b]? = some (.cells (headOf s f st.n st.freed.length st.used) 138 (0, 0)) := by
      rw [Below.heap_setCell _ _ _ _ (by simpa using n2)]; exact hb
    generalize wc.setCell ⟨f, st.freed.length, none⟩ (.int .i32 i) = W at e1 ⊢
    simp [World.setCell, Array.getElem?_modify, e1, headOf]
  refine ⟨(((ho.mono (T := [b, s, f]) (by simp)).setCell (p := ⟨f, st.freed.length, none⟩) (by simp) _).setCell (p := ⟨b, 1, none⟩) (by simp) _).alloc o, ?_, ?_, ?_⟩
  · simpa [St.free] using hb1
  · have := ((hrow.setOther (a := ⟨f, st.freed.length, none⟩) (by simpa using n3) (.int .i32 i)).setOther (a := ⟨b, 1, none⟩) (by simpa using n1.symm) (.slice (some ⟨f, 0, none⟩) (st.freed.length + 1) st.n)).alloc o
    rw [free_tk]
    exact this
  · refine ⟨_, hF1, fun j hj => ?_⟩
    simp only [St.free, List.length_append, List.length_cons, List.length_nil] at hj ⊢
    by_cases e : j = st.freed.length
    · subst e; simp
    · rw [if_neg e, he j (by omega)]
      rw [List.getElem_append_left (by omega)]
theorem free_true {w : World} {b s f : Nat} {st : St} (h : Ar w b s f st) (ho : st.Ok) (hn : st.n ≤ 1000000000) (i : Nat) (hi : st.tk i = true) (hin : i < st.n) :
    Calls Tryz.prog 125 #[.pointer (some ⟨b, 0, none⟩), .int .i32 i] w fun e w' => e = .returned (.bool true) ∧ Only [b, s, f] w w' ∧ Ar w' b s f (st.free i) := by
  have H := Lib.hid h
  have HI := Lib.hid hi
  have h0 := h.c0
  have h1 := h.c1
  have z0 := h.slots.frozen (i * 7)
  have z1 := h.slots.frozen (i * 7 + 1)
  have z2 := h.slots.frozen (i * 7 + 2)
  have z3 := h.slots.frozen (i * 7 + 3)
  have z4 := h.slots.frozen (i * 7 + 4)
  have z5 := h.slots.frozen (i * 7 + 5)
  have z6 := h.slots.frozen (i * 7 + 6)
  have x0 := h.sl (j := 0) hin (by decide)
  have x1 := h.sl (j := 1) hin (by decide)
  have x2 := h.sl (j := 2) hin (by decide)
  have x3 := h.sl (j := 3) hin (by decide)
  have x4 := h.sl (j := 4) hin (by decide)
  have x5 := h.sl (j := 5) hin (by decide)
  have x6 := h.sl (j := 6) hin (by decide)
  simp only [cellOf, Nat.add_zero] at x0 x1 x2 x3 x4 x5 x6
  have n1 := h.bs
  clear h hi
  go_enter Tryz.func125, Tryz.ntmps125
  go_wp2_with fail
  refine (is_yes H.out hn i hin HI.out).mono ?_
  rintro e w' ⟨rfl, rfl⟩
  go_upto_region 3 with fail
  go_cut [4] (fun s4 wx => s4 = Value.bool false ∧ Cleared w s i st wx)
  case first =>
    go_wp2
    go_meet
    exact ⟨rfl, cleared_mk H.out i⟩
  case rest =>
    obtain ⟨rfl, hcl⟩ := hcut
    have hF : st.freed.length + 1 ≤ st.n := by have := freed_le ho; have := ho.room; omega
    clear z0 z1 z2 z3 z4 z5 z6 x0 x1 x2 x3 x4 x5 x6 h0
    have hh := H.out
    obtain ⟨F, hrF, _⟩ := hh.freed
    have hrc := (hcl.1.row hrF (by simpa using hh.sf.symm))
    have g1 : wc.cell? ⟨b, 1, none⟩ = some (.slice (some ⟨f, 0, none⟩) st.freed.length st.n) := by rw [← h1]; exact World.cell?_of_block (hcl.1.block b hh.ltb (by simpa using n1))
    have g2 : wc.frozen? ⟨b, 1, none⟩ = false := by rw [← hh.fz 1]; exact World.frozen?_of_block (hcl.1.block b hh.ltb (by simpa using n1))
    have g3 := hrc.cell (i := st.freed.length) (by omega)
    have g4 := hrc.frozen st.freed.length
    have g5 : f < wc.heap.size := hrc.lt
    have g6 : b < wc.heap.size := Nat.lt_of_lt_of_le hh.ltb hcl.1.size
    have g7 := hh.bf
    have HC := Lib.hid hcl
    have s1 : Hid (((wc.alloc (.cells #[.int .i32 i] 21)).cell? ⟨f, st.freed.length, none⟩).isSome = true) := Lib.hid (by rw [World.cell?_alloc_lt _ _ _ g5, g3]; rfl)
    have s2 : Hid ((wc.alloc (.cells #[.int .i32 i] 21)).frozen? ⟨f, st.freed.length, none⟩ = false) := Lib.hid (hrc.alloc _ |>.frozen _)
    have s3 : Hid ((wc.alloc (.cells #[.int .i32 i] 21)).cell? ⟨wc.heap.size, 0, none⟩ = some (.int .i32 i)) := Lib.hid (by simp [World.cell?_alloc_new])
    clear hh hrc hrF hcl h1
    go_wp2_with (at_builtin; refine wpList_append_one rfl _ _ 114 rfl 21 (.int .i32 0) 4 (by kernel_rfl) (by kernel_rfl) f st.freed.length st.n wc.heap.size 1 rfl rfl (.int .i32 i) s3.out rfl hF s1.out s2.out ?_)
    go_ret
    exact ⟨rfl, free_ends H.out HC.out _⟩
theorem free_false {w : World} {b s f : Nat} {st : St} (h : Ar w b s f st) (hn : st.n ≤ 1000000000) (i : Int) (h32 : i ≤ 2147483647) (hi : st.is i = false) :
    Calls Tryz.prog 125 #[.pointer (some ⟨b, 0, none⟩), .int .i32 i] w fun e w' => e = .returned (.bool false) ∧ w = w' := by
  have H := Lib.hid h
  have HI := Lib.hid hi
  clear h hi
  go_enter Tryz.func125, Tryz.ntmps125
  go_wp2_with fail
  refine (is_false H.out hn i h32 HI.out).mono ?_
  rintro e w' ⟨rfl, rfl⟩
  go_wp2
  go_ret
  exact ⟨rfl, rfl⟩
end Go.Proofs.YtkhikpnlpcankaaGreat
