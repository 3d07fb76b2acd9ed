/- Words and walks for layer 6: SrA SrB SrG SrW SrE SrK. -/
import Derived.Test.YtnacmhljbnpdpaaGH2
import Derived.IntWalk
import Derived.Laws.AppendOwnNone
/- The document's own store: its value in memory; place. -/
namespace Go.Proofs.Ytnacmhljbnpdpaa
open Go Go.RowKit Go.Deep

structure Ent where
  key : Nat
  val : Nat
  flag : Int
def EntAt (w : World) (b i : Nat) (e : Ent) : Prop := w.cell? ⟨b, i * 3, none⟩ = some (.int .u64 (e.key : Nat)) ∧ w.cell? ⟨b, i * 3 + 1, none⟩ = some (.int .u64 (e.val : Nat)) ∧ w.cell? ⟨b, i * 3 + 2, none⟩ = some (.int .i64 e.flag)
/- A row of entries: nil, or one of its own; K: the blocks of all of a value. -/
structure EntRow (w : World) (F : Option Addr) (xs : List Ent) (c : Nat) (K : List Nat) : Prop where
  cap : xs.length ≤ c
  mem : F = none ∧ xs = [] ∧ c = 0 ∨ ∃ b, F = some ⟨b, 0, none⟩ ∧ b ∈ K ∧ ∀ i (h : i < xs.length), EntAt w b i xs[i]
structure QAt (w : World) (o n : Nat) (Q : Nat → List Ent) (K : List Nat) : Prop where
  kin : o ∈ K
  row : ∀ t, t < n → ∃ F c, w.cell? ⟨o, t, none⟩ = some (.slice F (Q t).length c) ∧ EntRow w F (Q t) c K
abbrev refSC (o n oc m g tn c : Nat) : Array Value := #[.slice (some ⟨o, 0, none⟩) n oc, .int .i64 (m : Nat), .slice (some ⟨g, 0, none⟩) tn c]
/- The document's own store, as a value: n queues, m slots for nodes, the keys' table T. -/
structure RSA (w : World) (o n oc m g c : Nat) (Q : Nat → List Ent) (T : Tb) (K : List Nat) : Prop where
  n8 : n ≤ 8
  cap : n ≤ oc
  q : QAt w o n Q K
  t : RefT w T g
  gin : g ∈ K
  old : ∀ k ∈ K, k < w.heap.size
  len : ∀ t, t < n → (Q t).length ≤ 1000000
  room : m ≤ 1000000
def RS (w : World) (v : Value) (n : Nat) (Q : Nat → List Ent) (m : Nat) (T : Tb) (K : List Nat) : Prop := ∃ o oc g c, v = .agg (refSC o n oc m g T.n c) ∧ RSA w o n oc m g c Q T K

section
variable {w w' : World} {F : Option Addr} {xs : List Ent} {o n oc m g c : Nat} {Q : Nat → List Ent} {T : Tb} {K K' : List Nat}
theorem EntAt.kept {b i : Nat} {e : Ent} (h : EntAt w b i e) (hb : w'.heap[b]? = w.heap[b]?) : EntAt w' b i e := by
  have q := fun (j : Nat) => World.cell?_of_block (w := w) (w' := w') (a := ⟨b, j, none⟩) hb
  exact ⟨(q _).trans h.1, (q _).trans h.2.1, (q _).trans h.2.2⟩
theorem EntRow.kept (h : EntRow w F xs c K) (hk : ∀ k ∈ K, w'.heap[k]? = w.heap[k]?) (hK : ∀ k ∈ K, k ∈ K') : EntRow w' F xs c K' :=
  ⟨h.cap, h.mem.imp id (fun ⟨b, q1, q2, q3⟩ => ⟨b, q1, hK b q2, fun i hi => (q3 i hi).kept (hk b q2)⟩)⟩
theorem QAt.kept (h : QAt w o n Q K) (hk : ∀ k ∈ K, w'.heap[k]? = w.heap[k]?) : QAt w' o n Q K :=
  ⟨h.kin, fun t ht => by
    obtain ⟨F, c, h1, h2⟩ := h.row t ht
    exact ⟨F, c, (World.cell?_of_block (a := ⟨o, t, none⟩) (hk o h.kin)).trans h1, h2.kept hk (fun _ => id)⟩⟩
theorem RSA.kept (h : RSA w o n oc m g c Q T K) (hk : ∀ k ∈ K, w'.heap[k]? = w.heap[k]?) (hz : ∀ k ∈ K, k < w'.heap.size) : RSA w' o n oc m g c Q T K :=
  ⟨h.n8, h.cap, h.q.kept hk, ⟨hz g h.gin, fun i hi => by
    obtain ⟨q0, q1, q2⟩ := h.t.sl i hi
    have e := fun (j : Nat) => World.cell?_of_block (w := w) (w' := w') (a := ⟨g, j, none⟩) (hk g h.gin)
    exact ⟨(e _).trans q0, (e _).trans q1, (e _).trans q2⟩⟩, h.gin, hz, h.len, h.room⟩
theorem RSA.below (h : RSA w o n oc m g c Q T K) (hb : Below w.heap.size w w') : RSA w' o n oc m g c Q T K :=
  h.kept (fun k hk => hb.block k (h.old k hk)) (fun k hk => Nat.lt_of_lt_of_le (h.old k hk) hb.size)
/- Entry i of a queue that has it: where it lies. -/
theorem EntRow.at_ (h : EntRow w F xs c K) {i : Nat} (hi : i < xs.length) : ∃ b, F = some ⟨b, 0, none⟩ ∧ EntAt w b i xs[i] := by
  rcases h.mem with ⟨_, e, _⟩ | ⟨b, e, _, hc⟩
  · rw [e] at hi; simp at hi
  · exact ⟨b, e, hc i hi⟩

set_option maxHeartbeats 1000000 in
theorem splace_in (h : RSA w o n oc m g c Q T K) (t0 i0 : Nat) (ht0 : t0 < n) (hi0 : i0 < (Q t0).length) (hu : ∀ t i (_ : t < n) (hi : i < (Q t).length), ((Q t)[i]).key = ((Q t0)[i0]).key → t = t0 ∧ i = i0) :
    Calls Try.prog 38 #[.agg (refSC o n oc m g T.n c), .int .u64 (((Q t0)[i0]).key : Nat)] w fun e w' => e = .returned (.tuple #[.int .i64 (t0 : Nat), .int .i64 (i0 : Nat)]) ∧ Below w.heap.size w w' := by
  have HB := Lib.hid ((Below.refl w.heap.size w).alloc (Nat.le_refl _) (.cells (refSC o n oc m g T.n c) 30))
  have HR := Lib.hid (h.below HB.out).q
  have ho := h.old o h.q.kin
  have hnI : (n : Int) ≤ 8 := by have := h.n8; omega
  have HLEN := Lib.hid h.len
  obtain ⟨k, hk⟩ : ∃ k, ((Q t0)[i0]).key = k := ⟨_, rfl⟩
  have HK := Lib.hid hk
  rw [hk] at hu ⊢
  have HU := Lib.hid hu
  clear h hu hk
  go_enter Try.func38, Try.ntmps38
  go_wp2_with fail
  go_loopg [6] t0 (fun gg s6 wr => ∃ t : Nat, t + gg = t0 ∧ s6 = .int .i64 (t : Nat) ∧ wr = w.alloc (.cells (refSC o n oc m g T.n c) 30))
  case atStart => exact ⟨0, by omega, rfl, rfl⟩
  case round =>
    obtain ⟨t, ht, rfl, rfl⟩ := hrel
    have htn : t < n := by omega
    have htI : (t : Int) < (n : Int) := by omega
    obtain ⟨F, cf, hc, hf⟩ := HR.out.row t htn
    have hl := HLEN.out t htn
    have HF := Lib.hid hf
    clear hf
    by_cases he : t = t0
    · subst he
      go_wp2_with fail
      go_loopg [7] i0 (fun gg s7 wr => ∃ i : Nat, i + gg = i0 ∧ s7 = .int .i64 (i : Nat) ∧ wr = w.alloc (.cells (refSC o n oc m g T.n c) 30))
      case atStart => exact ⟨0, by omega, rfl, rfl⟩
      case round =>
        obtain ⟨i, hi, rfl, rfl⟩ := hrel
        have hil : i < (Q t).length := by omega
        have hiI : (i : Int) < ((Q t).length : Int) := by omega
        obtain ⟨b, hF, q0, _, _⟩ := HF.out.at_ hil
        subst hF
        by_cases hii : i = i0
        · subst hii
          rw [HK.out] at q0
          go_wp2
          exact bodyPost_ret (v := .tuple #[.int .i64 (t : Nat), .int .i64 (i : Nat)]) (by simp [results, Try.results38, go_sem]) rfl ⟨rfl, HB.out⟩
        · have hne : ((((Q t)[i]).key : Int) == (k : Int)) = false := by
            rw [beq_eq_false_iff_ne]
            intro e
            exact hii (HU.out t i htn hil (by omega)).2
          go_wp2
          go_roundg (gk - 1)
          case measure => omega
          case rel => exact ⟨i + 1, by omega, by go_num, rfl⟩
    · go_wp2_with fail
      go_loopg [7] (Q t).length (fun gg s7 wr => ∃ i : Nat, i + gg = (Q t).length ∧ s7 = .int .i64 (i : Nat) ∧ wr = w.alloc (.cells (refSC o n oc m g T.n c) 30))
      case atStart => exact ⟨0, by omega, rfl, rfl⟩
      case round =>
        obtain ⟨i, hi, rfl, rfl⟩ := hrel
        by_cases hil : i < (Q t).length
        · have hiI : (i : Int) < ((Q t).length : Int) := by omega
          obtain ⟨b, hF, q0, _, _⟩ := HF.out.at_ hil
          subst hF
          have hne : ((((Q t)[i]).key : Int) == (k : Int)) = false := by
            rw [beq_eq_false_iff_ne]
            intro e
            exact he (HU.out t i htn hil (by omega)).1
          go_wp2
          go_roundg (gk - 1)
          case measure => omega
          case rel => exact ⟨i + 1, by omega, by go_num, rfl⟩
        · have hiI : ¬ (i : Int) < ((Q t).length : Int) := by omega
          go_wp2
          go_roundg (t0 - t - 1)
          case measure => omega
          case rel => exact ⟨t + 1, by omega, by go_num, rfl⟩
end
end Go.Proofs.Ytnacmhljbnpdpaa
/- The document's own store: place where there is none; Find, Get, Total. -/
namespace Go.Proofs.Ytnacmhljbnpdpaa
open Go Go.RowKit Go.Deep

/- No key twice. -/
def Uq (n : Nat) (Q : Nat → List Ent) : Prop := ∀ t u i j (_ : t < n) (_ : u < n) (hi : i < (Q t).length) (hj : j < (Q u).length), ((Q t)[i]).key = ((Q u)[j]).key → t = u ∧ i = j
def NoKey (n : Nat) (Q : Nat → List Ent) (k : Nat) : Prop := ∀ t i (_ : t < n) (hi : i < (Q t).length), ((Q t)[i]).key ≠ k
def sumE (Q : Nat → List Ent) : Nat → Nat
  | 0 => 0
  | t + 1 => sumE Q t + (Q t).length
theorem sumE_le {Q : Nat → List Ent} {b : Nat} : ∀ n, (∀ t, t < n → (Q t).length ≤ b) → sumE Q n ≤ n * b
  | 0, _ => by unfold sumE; omega
  | n + 1, h => by
    have h1 := sumE_le n (fun t ht => h t (by omega))
    have h2 := h n (by omega)
    unfold sumE
    rw [Nat.succ_mul]
    omega

section
variable {w w' : World} {o n oc m g c : Nat} {Q : Nat → List Ent} {T : Tb} {K : List Nat}
set_option maxHeartbeats 1000000 in
theorem splace_out (h : RSA w o n oc m g c Q T K) (k : Nat) (hu : NoKey n Q k) :
    Calls Try.prog 38 #[.agg (refSC o n oc m g T.n c), .int .u64 (k : Nat)] w fun e w' => e = .returned (.tuple #[.int .i64 (-1), .int .i64 (-1)]) ∧ Below w.heap.size w w' := by
  have HB := Lib.hid ((Below.refl w.heap.size w).alloc (Nat.le_refl _) (.cells (refSC o n oc m g T.n c) 30))
  have HR := Lib.hid (h.below HB.out).q
  have ho := h.old o h.q.kin
  have hnI : (n : Int) ≤ 8 := by have := h.n8; omega
  have HLEN := Lib.hid h.len
  have HU := Lib.hid hu
  clear h hu
  go_enter Try.func38, Try.ntmps38
  go_wp2_with fail
  go_loopg [6] n (fun gg s6 wr => ∃ t : Nat, t + gg = n ∧ s6 = .int .i64 (t : Nat) ∧ wr = w.alloc (.cells (refSC o n oc m g T.n c) 30))
  case atStart => exact ⟨0, by omega, rfl, rfl⟩
  case round =>
    obtain ⟨t, ht, rfl, rfl⟩ := hrel
    by_cases htn : t < n
    · have htI : (t : Int) < (n : Int) := by omega
      obtain ⟨F, cf, hc, hf⟩ := HR.out.row t htn
      have hl := HLEN.out t htn
      have HF := Lib.hid hf
      clear hf
      go_wp2_with fail
      go_loopg [7] (Q t).length (fun gg s7 wr => ∃ i : Nat, i + gg = (Q t).length ∧ s7 = .int .i64 (i : Nat) ∧ wr = w.alloc (.cells (refSC o n oc m g T.n c) 30))
      case atStart => exact ⟨0, by omega, rfl, rfl⟩
      case round =>
        obtain ⟨i, hi, rfl, rfl⟩ := hrel
        by_cases hil : i < (Q t).length
        · have hiI : (i : Int) < ((Q t).length : Int) := by omega
          obtain ⟨b, hF, q0, _, _⟩ := HF.out.at_ hil
          subst hF
          have hne : ((((Q t)[i]).key : Int) == (k : Int)) = false := by
            rw [beq_eq_false_iff_ne]
            intro e
            exact HU.out t i htn hil (by omega)
          go_wp2
          go_roundg (gk - 1)
          case measure => omega
          case rel => exact ⟨i + 1, by omega, by go_num, rfl⟩
        · have hiI : ¬ (i : Int) < ((Q t).length : Int) := by omega
          go_wp2
          go_roundg (n - t - 1)
          case measure => omega
          case rel => exact ⟨t + 1, by omega, by go_num, rfl⟩
    · have htI : ¬ (t : Int) < (n : Int) := by omega
      go_wp2
      exact bodyPost_ret (v := .tuple #[.int .i64 (-1), .int .i64 (-1)]) (by simp [results, Try.results38, go_sem]) rfl ⟨rfl, HB.out⟩

theorem sfind_in (h : RSA w o n oc m g c Q T K) (hq : Uq n Q) (t0 i0 : Nat) (ht0 : t0 < n) (hi0 : i0 < (Q t0).length) :
    Calls Try.prog 12 #[.agg (refSC o n oc m g T.n c), .int .u64 (((Q t0)[i0]).key : Nat)] w fun e w' => e = .returned (.tuple #[.int .i64 (t0 : Nat), .bool true]) ∧ Below w.heap.size w w' := by
  have HB := Lib.hid ((Below.refl w.heap.size w).alloc (Nat.le_refl _) (.cells (refSC o n oc m g T.n c) 30))
  have HP := Lib.hid (splace_in (h.below HB.out) t0 i0 ht0 hi0 (fun t i ht hi e => hq t t0 i i0 ht ht0 hi hi0 e))
  have h8 := h.n8
  clear h hq
  go_enter Try.func12, Try.ntmps12
  go_wp2_with fail
  refine HP.out.mono ?_
  rintro e w1 ⟨rfl, hb⟩
  have HB1 := Lib.hid (HB.out.trans (hb.mono HB.out.size))
  clear hb HP
  have h0 : ¬ ((t0 : Int) < 0) := by omega
  go_wp2
  all_goals exact bodyPost_ret (v := .tuple #[.int .i64 (t0 : Nat), .bool true]) (by simp [results, Try.results12, go_sem]) rfl ⟨rfl, HB1.out⟩
theorem sfind_out (h : RSA w o n oc m g c Q T K) (k : Nat) (hu : NoKey n Q k) :
    Calls Try.prog 12 #[.agg (refSC o n oc m g T.n c), .int .u64 (k : Nat)] w fun e w' => e = .returned (.tuple #[.int .i64 0, .bool false]) ∧ Below w.heap.size w w' := by
  have HB := Lib.hid ((Below.refl w.heap.size w).alloc (Nat.le_refl _) (.cells (refSC o n oc m g T.n c) 30))
  have HP := Lib.hid (splace_out (h.below HB.out) k hu)
  clear h hu
  go_enter Try.func12, Try.ntmps12
  go_wp2_with fail
  refine HP.out.mono ?_
  rintro e w1 ⟨rfl, hb⟩
  have HB1 := Lib.hid (HB.out.trans (hb.mono HB.out.size))
  clear hb HP
  go_wp2
  all_goals exact bodyPost_ret (v := .tuple #[.int .i64 0, .bool false]) (by simp [results, Try.results12, go_sem]) rfl ⟨rfl, HB1.out⟩

abbrev entV (e : Ent) : Value := .agg #[.int .u64 (e.key : Nat), .int .u64 (e.val : Nat), .int .i64 e.flag]
set_option maxHeartbeats 1000000 in
theorem stotal_walk (h : RSA w o n oc m g c Q T K) :
    Calls Try.prog 34 #[.agg (refSC o n oc m g T.n c)] w fun e w' => e = .returned (.int .i64 (sumE Q n : Nat)) ∧ Below w.heap.size w w' := by
  have HB := Lib.hid ((Below.refl w.heap.size w).alloc (Nat.le_refl _) (.cells (refSC o n oc m g T.n c) 30))
  have HR := Lib.hid (h.below HB.out).q
  have hnI : (n : Int) ≤ 8 := by have := h.n8; omega
  have HLEN := Lib.hid h.len
  clear h
  go_enter Try.func34, Try.ntmps34
  go_wp2_with fail
  go_loopg [3, 4] n (fun gg s3 s4 wr => ∃ t a : Nat, t + gg = n ∧ Hid (a = sumE Q t) ∧ a ≤ t * 1000000 ∧ s3 = .int .i64 (a : Nat) ∧ s4 = .int .i64 (t : Nat) ∧ wr = w.alloc (.cells (refSC o n oc m g T.n c) 30))
  case atStart => exact ⟨0, 0, by omega, Lib.hid rfl, by omega, rfl, rfl, rfl⟩
  case round =>
    obtain ⟨t, a, ht, HA, ha, rfl, rfl, rfl⟩ := hrel
    by_cases htn : t < n
    · have htI : (t : Int) < (n : Int) := by omega
      obtain ⟨F, cf, hc, _⟩ := HR.out.row t htn
      have hl := HLEN.out t htn
      have haI : (a : Int) ≤ 8000000 := by omega
      have hlI : ((Q t).length : Int) ≤ 1000000 := by omega
      go_wp2
      go_roundg (gk - 1)
      case measure => omega
      case rel => exact ⟨t + 1, a + (Q t).length, by omega, Lib.hid (by rw [HA.out]; rfl), by omega, by go_num, by go_num, rfl⟩
    · have htI : ¬ (t : Int) < (n : Int) := by omega
      obtain rfl : t = n := by omega
      go_wp2
      go_ret
      exact ⟨congrArg (fun z : Nat => Ending.returned (Value.int .i64 (z : Int))) HA.out, HB.out⟩
end
end Go.Proofs.Ytnacmhljbnpdpaa
/- The document's own store: Get, with. -/
namespace Go.Proofs.Ytnacmhljbnpdpaa
open Go Go.RowKit Go.Deep

theorem three_heap {w1 : World} {g : Nat} {t : TypeId} {a0 a1 a2 : Value} (hB : w1.heap[g]? = some (.cells #[a0, a1, a2] t (0, 0))) (b0 b1 b2 : Value) :
    (((w1.setCell ⟨g, 0, none⟩ b0).setCell ⟨g, 1, none⟩ b1).setCell ⟨g, 2, none⟩ b2).heap[g]? = some (.cells #[b0, b1, b2] t (0, 0)) ∧ Only [g] w1 (((w1.setCell ⟨g, 0, none⟩ b0).setCell ⟨g, 1, none⟩ b1).setCell ⟨g, 2, none⟩ b2) :=
  ⟨by simp [World.setCell, Array.getElem?_modify, hB], (((Only.refl [g] w1).setCell (by simp) _).setCell (by simp) _).setCell (by simp) _⟩
theorem three_at {w : World} {g : Nat} {t : TypeId} {a0 a1 a2 : Value} (h : w.heap[g]? = some (.cells #[a0, a1, a2] t (0, 0))) :
    (w.cell? ⟨g, 0, none⟩ = some a0 ∧ w.cell? ⟨g, 1, none⟩ = some a1 ∧ w.cell? ⟨g, 2, none⟩ = some a2) ∧ w.frozen? ⟨g, 0, none⟩ = false ∧ w.frozen? ⟨g, 1, none⟩ = false ∧ w.frozen? ⟨g, 2, none⟩ = false :=
  ⟨⟨(head_row h).cell (i := 0) (by simp), (head_row h).cell (i := 1) (by simp), (head_row h).cell (i := 2) (by simp)⟩, (head_row h).frozen 0, (head_row h).frozen 1, (head_row h).frozen 2⟩

section
variable {w w' : World} {o n oc m g c : Nat} {Q : Nat → List Ent} {T : Tb} {K : List Nat}
set_option maxHeartbeats 1000000 in
theorem sget_in (h : RSA w o n oc m g c Q T K) (hq : Uq n Q) (t0 i0 : Nat) (ht0 : t0 < n) (hi0 : i0 < (Q t0).length) :
    Calls Try.prog 13 #[.agg (refSC o n oc m g T.n c), .int .u64 (((Q t0)[i0]).key : Nat)] w fun e w' => e = .returned (entV ((Q t0)[i0])) ∧ Below w.heap.size w w' := by
  have HB := Lib.hid (((Below.refl w.heap.size w).alloc (Nat.le_refl _) (.cells (refSC o n oc m g T.n c) 30)).alloc (by simp) (.cells #[.int .u64 0, .int .u64 0, .int .i64 0] 40))
  have HP := Lib.hid (splace_in (h.below HB.out) t0 i0 ht0 hi0 (fun t i ht hi e => hq t t0 i i0 ht ht0 hi hi0 e))
  have HX := Lib.hid h
  have h8 := h.n8
  have hl := h.len t0 ht0
  have htI : (t0 : Int) < (n : Int) := by omega
  have hiI : (i0 : Int) < ((Q t0).length : Int) := by omega
  have hnI : (n : Int) ≤ 8 := by omega
  clear h hq
  obtain ⟨x, hx⟩ : ∃ x, (Q t0)[i0] = x := ⟨_, rfl⟩
  have HE := Lib.hid hx
  rw [hx] at HP ⊢
  clear hx
  go_enter Try.func13, Try.ntmps13
  go_wp2_with fail
  refine HP.out.mono ?_
  rintro e w1 ⟨rfl, hb⟩
  obtain ⟨hb1, hs1, hB0, hB1⟩ := two_blocks hb
  obtain ⟨⟨a0, a1, a2⟩, _⟩ := three_at hB0
  obtain ⟨⟨y0, y1, y2⟩, f0, f1, f2⟩ := three_at hB1
  obtain ⟨F, cf, hc, hf⟩ := (HX.out.below hb1).q.row t0 ht0
  obtain ⟨b, hF, q0, q1, q2⟩ := hf.at_ hi0
  subst hF
  rw [HE.out] at q0 q1 q2
  have HT := Lib.hid (three_heap hB1 (.int .u64 (x.key : Nat)) (.int .u64 (x.val : Nat)) (.int .i64 x.flag))
  have HB1 := Lib.hid hb1
  have hs0 : w.heap.size < w1.heap.size := by omega
  clear hb hb1 hB0 hB1 hf HP
  have h0 : ¬ ((t0 : Int) < 0) := by omega
  go_wp2_with fail
  obtain ⟨t1, o1⟩ := HT.out
  generalize (((w1.setCell ⟨w.heap.size + 1, 0, none⟩ (.int .u64 (x.key : Nat))).setCell ⟨w.heap.size + 1, 1, none⟩ (.int .u64 (x.val : Nat))).setCell ⟨w.heap.size + 1, 2, none⟩ (.int .i64 x.flag)) = V at t1 o1 ⊢
  obtain ⟨⟨v0, v1, v2⟩, _⟩ := three_at t1
  exact bodyPost_ret (v := entV x) (by simp [results, Try.results13, go_sem, v0, v1, v2]) rfl ⟨rfl, HB1.out.trans (o1.below (B := w.heap.size) (by simp) HB1.out.size)⟩
theorem sget_out (h : RSA w o n oc m g c Q T K) (k : Nat) (hu : NoKey n Q k) :
    Calls Try.prog 13 #[.agg (refSC o n oc m g T.n c), .int .u64 (k : Nat)] w fun e w' => e = .returned (entV ⟨0, 0, 0⟩) ∧ Below w.heap.size w w' := by
  have HB := Lib.hid (((Below.refl w.heap.size w).alloc (Nat.le_refl _) (.cells (refSC o n oc m g T.n c) 30)).alloc (by simp) (.cells #[.int .u64 0, .int .u64 0, .int .i64 0] 40))
  have HP := Lib.hid (splace_out (h.below HB.out) k hu)
  clear h hu
  go_enter Try.func13, Try.ntmps13
  go_wp2_with fail
  refine HP.out.mono ?_
  rintro e w1 ⟨rfl, hb⟩
  obtain ⟨hb1, hs1, hB0, hB1⟩ := two_blocks hb
  obtain ⟨⟨y0, y1, y2⟩, f0, f1, f2⟩ := three_at hB1
  have HT := Lib.hid (three_heap hB1 (.int .u64 0) (.int .u64 0) (.int .i64 0))
  have HB1 := Lib.hid hb1
  clear hb hb1 hB0 hB1 HP
  go_wp2_with fail
  obtain ⟨t1, o1⟩ := HT.out
  generalize (((w1.setCell ⟨w.heap.size + 1, 0, none⟩ (.int .u64 0)).setCell ⟨w.heap.size + 1, 1, none⟩ (.int .u64 0)).setCell ⟨w.heap.size + 1, 2, none⟩ (.int .i64 0)) = V at t1 o1 ⊢
  obtain ⟨⟨v0, v1, v2⟩, _⟩ := three_at t1
  exact bodyPost_ret (v := entV ⟨0, 0, 0⟩) (by simp [results, Try.results13, go_sem, v0, v1, v2]) rfl ⟨rfl, HB1.out.trans (o1.below (B := w.heap.size) (by simp) HB1.out.size)⟩
end
end Go.Proofs.Ytnacmhljbnpdpaa
/- The document's own store: with. -/
namespace Go.Proofs.Ytnacmhljbnpdpaa
open Go Go.RowKit Go.Deep

def qVals (w : World) (o n : Nat) : List Value := (List.range n).map (fun t => (w.cell? ⟨o, t, none⟩).getD undef)
theorem qVals_len (w : World) (o n : Nat) : (qVals w o n).length = n := by simp [qVals]
theorem QAt.vals {w : World} {o n : Nat} {Q : Nat → List Ent} {K : List Nat} (h : QAt w o n Q K) {t : Nat} (ht : t < n) : (qVals w o n)[t]? = w.cell? ⟨o, t, none⟩ ∧ ∃ F c, (qVals w o n)[t]? = some (.slice F (Q t).length c) ∧ EntRow w F (Q t) c K := by
  obtain ⟨F, c, h1, h2⟩ := h.row t ht
  have e : (qVals w o n)[t]? = w.cell? ⟨o, t, none⟩ := by
    unfold qVals
    rw [List.getElem?_map, List.getElem?_range ht, h1]
    simp [h1]
  exact ⟨e, F, c, e.trans h1, h2⟩
theorem QAt.one {w : World} {o n : Nat} {Q : Nat → List Ent} {K : List Nat} (h : QAt w o n Q K) : ∀ u ∈ qVals w o n, u.oneCell' = true := fun u hu => by
  obtain ⟨j, hj, rfl⟩ := List.getElem_of_mem hu
  rw [qVals_len] at hj
  obtain ⟨_, F, c, e, _⟩ := h.vals hj
  rw [List.getElem?_eq_getElem (by rw [qVals_len]; exact hj)] at e
  injection e with e
  rw [e]; rfl
theorem QAt.src {w w' : World} {o n oc : Nat} {Q : Nat → List Ent} {K : List Nat} (h : QAt w o n Q K) (ho : o < w.heap.size) (hb : Below w.heap.size w w') : (some (⟨o, 0, none⟩ : Addr) = none ∧ n = 0 ∧ oc = 0 ∧ qVals w o n = []) ∨ ∃ ad, some (⟨o, 0, none⟩ : Addr) = some ad ∧ (qVals w o n).length = n * 1 ∧ ∀ j u, (qVals w o n)[j]? = some u → w'.cell? (ad.add j) = some u := by
  refine .inr ⟨_, rfl, by rw [qVals_len, Nat.mul_one], fun j u hu => ?_⟩
  rcases Nat.lt_or_ge j n with hj | hj
  · have := (h.vals hj).1
    rw [hu] at this
    rw [show (⟨o, 0, none⟩ : Addr).add j = ⟨o, j, none⟩ by simp [Addr.add_lit], hb.cell (p := ⟨o, j, none⟩) ho]
    exact this.symm
  · rw [List.getElem?_eq_none (by rw [qVals_len]; exact hj)] at hu; cases hu
/- A row of its own: what it holds, free to be written. -/
theorem own_cur {w : World} {B : Nat} {e : TypeId} {size n : Nat} {v : Value} {xs : List Value} (h : w.ownsRow B e size v n xs) (hn : 0 < n) : ∃ g cap cur, v = .slice (some ⟨g, 0, none⟩) n cap ∧ B ≤ g ∧ g < w.heap.size ∧ n ≤ cap ∧ w.heap[g]? = some (.cells cur e (0, 0)) ∧ ∀ j (hj : j < xs.length), w.cell? ⟨g, j, none⟩ = some xs[j] := by
  rcases h.2 with ⟨_, h0⟩ | ⟨g, cap, cur, e1, hB, hg, hle, _⟩
  · omega
  · subst e1
    refine ⟨g, cap, cur, rfl, hB, (head_row hg).lt, hle, hg, fun j hj => ?_⟩
    have := h.cells (g := g) rfl j _ (List.getElem?_eq_getElem hj)
    simpa [Addr.add_lit] using this

theorem swith_set {w : World} {g B0 B1 t : Nat} {Ty : TypeId} {c0 c1 c2 : Value} (h1 : w.heap[B1]? = some (.cells #[c0, c1, c2] Ty (0, 0))) (n1 : g ≠ B0) (n2 : g ≠ B1) (n3 : B0 ≠ B1) (x y b0 b1 b2 : Value) :
    (((((w.setCell ⟨g, t, none⟩ x).setCell ⟨B0, 0, none⟩ y).setCell ⟨B1, 0, none⟩ b0).setCell ⟨B1, 1, none⟩ b1).setCell ⟨B1, 2, none⟩ b2).heap[B1]? = some (.cells #[b0, b1, b2] Ty (0, 0)) ∧
    Only [g, B0, B1] w (((((w.setCell ⟨g, t, none⟩ x).setCell ⟨B0, 0, none⟩ y).setCell ⟨B1, 0, none⟩ b0).setCell ⟨B1, 1, none⟩ b1).setCell ⟨B1, 2, none⟩ b2) ∧
    (((((w.setCell ⟨g, t, none⟩ x).setCell ⟨B0, 0, none⟩ y).setCell ⟨B1, 0, none⟩ b0).setCell ⟨B1, 1, none⟩ b1).setCell ⟨B1, 2, none⟩ b2).heap[g]? = (w.setCell ⟨g, t, none⟩ x).heap[g]? := by
  have k1 : ((w.setCell ⟨g, t, none⟩ x).setCell ⟨B0, 0, none⟩ y).heap[B1]? = some (.cells #[c0, c1, c2] Ty (0, 0)) :=
    (Below.heap_setCell _ _ _ _ (by simpa using n3.symm)).trans ((Below.heap_setCell _ _ _ _ (by simpa using n2.symm)).trans h1)
  have ho1 : Only [g, B0, B1] w ((w.setCell ⟨g, t, none⟩ x).setCell ⟨B0, 0, none⟩ y) := ((Only.refl _ w).setCell (p := ⟨g, t, none⟩) (by simp) x).setCell (p := ⟨B0, 0, none⟩) (by simp) y
  obtain ⟨k2, k3⟩ := three_heap k1 b0 b1 b2
  refine ⟨k2, ho1.trans k3 (by simp), ?_⟩
  have hg : ∀ (W : World) (j : Nat) (u : Value), (W.setCell ⟨B1, j, none⟩ u).heap[g]? = W.heap[g]? := fun W j u => Below.heap_setCell _ _ _ _ (by simpa using n2)
  rw [hg, hg, hg, Below.heap_setCell _ _ _ _ (by simpa using n1)]

set_option maxHeartbeats 1000000 in
theorem swith_walk {w : World} {o n oc m g c : Nat} {Q : Nat → List Ent} {T : Tb} {K Kx : List Nat} (h : RSA w o n oc m g c Q T K) (t : Nat) (ht : t < n) (F : Option Addr) (xs : List Ent) (cx : Nat) (hx : EntRow w F xs cx Kx) (hKx : ∀ k ∈ Kx, k < w.heap.size) (hl : xs.length ≤ 1000000) :
    Calls Try.prog 70 #[.agg (refSC o n oc m g T.n c), .int .i64 (t : Nat), .slice F xs.length cx] w fun e w' => ∃ o' oc' K', e = .returned (.agg (refSC o' n oc' m g T.n c)) ∧ Below w.heap.size w w' ∧ RSA w' o' n oc' m g c (upd Q t xs) T K' ∧ ∀ k ∈ K', k ∈ K ∨ k ∈ Kx ∨ w.heap.size ≤ k := by
  have ho : o < w.heap.size := h.old o h.q.kin
  have h8 := h.n8
  have htI : (t : Int) < (n : Int) := by omega
  have HR := Lib.hid h
  have HX := Lib.hid hx
  have HKX := Lib.hid hKx
  have HL := Lib.hid hl
  obtain ⟨O0, hO0⟩ : ∃ O0, Obj.cells (refSC o n oc m g T.n c) 30 = O0 := ⟨_, rfl⟩
  obtain ⟨O1, hO1⟩ : ∃ O1, Obj.cells #[.slice none 0 0, .int .i64 0, .slice none 0 0] 30 = O1 := ⟨_, rfl⟩
  have hown : (((w.alloc O0).alloc O1).alloc (.cells #[] 77)).ownsRow (w.heap.size + 1 + 1) 77 1 (.slice (some ⟨w.heap.size + 1 + 1, 0, none⟩) 0 0) 0 [] := by
    have := World.ownsRow_lit (base := w.heap.size + 1 + 1) (e := 77) (size := 1) ((w.alloc O0).alloc O1) #[] 0 (by simp) (by unfold maxLen; omega) rfl
    simpa using this
  have hbA : Below w.heap.size w (((w.alloc O0).alloc O1).alloc (.cells #[] 77)) := (((Below.refl _ _).alloc (Nat.le_refl _) _).alloc (by simp) _).alloc (by simp; omega) _
  have hb00 : (((w.alloc O0).alloc O1).alloc (.cells #[] 77)).heap[w.heap.size]? = some O0 := (Below.heap_alloc _ _ _ (by simp; omega)).trans ((Below.heap_alloc _ _ _ (by simp)).trans (heap_alloc_new w O0))
  have hb11 : (((w.alloc O0).alloc O1).alloc (.cells #[] 77)).heap[w.heap.size + 1]? = some O1 := (Below.heap_alloc _ _ _ (by simp)).trans (by have := heap_alloc_new (w.alloc O0) O1; rwa [World.size_alloc] at this)
  have hszA : (((w.alloc O0).alloc O1).alloc (.cells #[] 77)).heap.size = w.heap.size + 3 := by simp
  have hsrc := h.q.src (oc := oc) ho hbA
  subst hO0 hO1
  have HOWN := Lib.hid hown
  have HBA := Lib.hid hbA
  have HB00 := Lib.hid hb00
  have HB11 := Lib.hid hb11
  have HSZ := Lib.hid hszA
  have HSRC := Lib.hid hsrc
  have HONE := Lib.hid h.q.one
  clear hown hbA hb00 hb11 hszA hsrc h hx hKx hl
  go_enter Try.func70, Try.ntmps70
  go_wp2_with (at_builtin; refine wpList_append_src rfl (.tmp 8) (.tmp 10) 25 rfl (w.heap.size + 1 + 1) 77 (.slice none 0 0) 1 24 (by kernel_rfl) (by kernel_rfl) rfl (by decide) _ 0 _ rfl HOWN.out (some ⟨o, 0, none⟩) n oc (qVals w o n) rfl HSRC.out HONE.out (by omega) (by omega) (by simp) ?_)
  intro v2 w2 hown2 hgrow2
  have hbl2 := below_grown (Below.refl (w.heap.size + 1 + 1) _) HOWN.out hgrow2 (by simp)
  obtain ⟨g2, cap, cur, rfl, hg1, hg2, hcap, hcur, hcells⟩ := own_cur hown2 (by omega)
  have hb0 := (hbl2.block w.heap.size (by omega)).trans HB00.out
  have hb1 := (hbl2.block (w.heap.size + 1) (by omega)).trans HB11.out
  have hs2 := hbl2.size
  rw [HSZ.out] at hs2
  obtain ⟨⟨b0, b1, b2⟩, f0, f1, f2⟩ := three_at hb0
  obtain ⟨⟨x0, x1, x2⟩, z0, z1, z2⟩ := three_at hb1
  have hgt : w2.cell? ⟨g2, t, none⟩ = some ((qVals w o n)[t]'(by rw [qVals_len]; exact ht)) := hcells t (by simp [qVals_len]; exact ht)
  have hgf : w2.frozen? ⟨g2, t, none⟩ = false := (head_row hcur).frozen t
  have n1 : g2 ≠ w.heap.size := by omega
  have n2 : g2 ≠ w.heap.size + 1 := by omega
  have HWS := Lib.hid (swith_set (g := g2) (B0 := w.heap.size) (t := t) hb1 n1 n2 (by omega) (.slice F xs.length cx) (.slice (some ⟨g2, 0, none⟩) n cap) (.slice (some ⟨g2, 0, none⟩) n cap) (.int .i64 (m : Nat)) (.slice (some ⟨g, 0, none⟩) T.n c))
  have HCE := Lib.hid hcells
  have HGT := Lib.hid hgt
  have HBL2 := Lib.hid (HBA.out.trans (hbl2.mono (by omega)))
  have hlt1 : w.heap.size + 1 < w2.heap.size := by omega
  have hne0 : w.heap.size ≠ w.heap.size + 1 := by omega
  have HG1 := Lib.hid hg1
  clear hown2 hgrow2 hbl2 hb0 hb1 hcur HOWN HSRC HONE HB00 HB11 hs2 hg1 hcells
  go_wp2
  have hws := HWS.out
  generalize (((((w2.setCell ⟨g2, t, none⟩ (.slice F xs.length cx)).setCell ⟨w.heap.size, 0, none⟩ (.slice (some ⟨g2, 0, none⟩) n cap)).setCell ⟨w.heap.size + 1, 0, none⟩ (.slice (some ⟨g2, 0, none⟩) n cap)).setCell ⟨w.heap.size + 1, 1, none⟩ (.int .i64 (m : Nat))).setCell ⟨w.heap.size + 1, 2, none⟩ (.slice (some ⟨g, 0, none⟩) T.n c)) = W at hws ⊢
  clear x0 x1 x2 z0 z1 z2 b0 b1 b2 f0 f1 f2
  obtain ⟨⟨y0, y1, y2⟩, _⟩ := three_at hws.1
  have hW2 := hws.2.1.size
  have hbW : Below w.heap.size w W := HBL2.out.trans (hws.2.1.below (by simp; have := HG1.out; omega) (by omega))
  have hR := HR.out.below hbW
  refine bodyPost_ret (v := .agg (refSC g2 n cap m g T.n c)) (by simp [results, Try.results70, go_sem, y0, y1, y2]) rfl ⟨g2, cap, g2 :: (Kx ++ K), rfl, hbW, ⟨h8, hcap, ⟨by simp, fun j hj => ?_⟩, hR.t, by simp [hR.gin], fun x hx => ?_, fun j hj => ?_, hR.room⟩, fun x hx => ?_⟩
  · have hcell : W.cell? ⟨g2, j, none⟩ = (w2.setCell ⟨g2, t, none⟩ (.slice F xs.length cx)).cell? ⟨g2, j, none⟩ := World.cell?_of_block hws.2.2
    by_cases e : j = t
    · subst e
      refine ⟨F, cx, ?_, ?_⟩
      · rw [upd_same, hcell, World.cell?_setCell_same' _ _ _ (by rw [HGT.out]; rfl)]
      · rw [upd_same]
        exact HX.out.kept (fun k hk => hbW.block k (HKX.out k hk)) (fun k hk => by simp [hk])
    · obtain ⟨_, F', c', e2, hf⟩ := HR.out.q.vals hj
      refine ⟨F', c', ?_, ?_⟩
      · rw [upd_other _ _ _ e, hcell]
        have h1 := HCE.out j (by rw [qVals_len]; exact hj)
        rw [World.cell?_setCell_other _ _ _ _ (by simp), h1]
        rw [List.getElem?_eq_getElem (by rw [qVals_len]; exact hj)] at e2
        simpa using e2
      · rw [upd_other _ _ _ e]
        exact hf.kept (fun k hk => hbW.block k (HR.out.old k hk)) (fun k hk => by simp [hk])
  · rcases List.mem_cons.1 hx with rfl | hx
    · omega
    · rcases List.mem_append.1 hx with hx | hx
      · exact Nat.lt_of_lt_of_le (HKX.out x hx) hbW.size
      · exact hR.old x hx
  · by_cases e : j = t
    · rw [e, upd_same]; exact HL.out
    · rw [upd_other _ _ _ e]; exact hR.len j hj
  · rcases List.mem_cons.1 hx with rfl | hx
    · exact .inr (.inr (by have := HG1.out; omega))
    · rcases List.mem_append.1 hx with hx | hx
      · exact .inr (.inl hx)
      · exact .inl hx
end Go.Proofs.Ytnacmhljbnpdpaa
/- Rows of entries, as cells. -/
namespace Go.Proofs.Ytnacmhljbnpdpaa
open Go Go.RowKit Go.Deep

def eC (e : Ent) (j : Nat) : Value := match j with
  | 0 => .int .u64 (e.key : Nat)
  | 1 => .int .u64 (e.val : Nat)
  | _ => .int .i64 e.flag
def entL : List Ent → List Value
  | [] => []
  | e :: xs => eC e 0 :: eC e 1 :: eC e 2 :: entL xs
theorem entL_len : ∀ xs : List Ent, (entL xs).length = xs.length * 3
  | [] => rfl
  | e :: xs => by
    show (entL xs).length + 1 + 1 + 1 = (xs.length + 1) * 3
    rw [entL_len xs]
    omega
theorem entL_append : ∀ xs ys : List Ent, entL xs ++ entL ys = entL (xs ++ ys)
  | [], _ => rfl
  | e :: xs, ys => by
    show eC e 0 :: eC e 1 :: eC e 2 :: (entL xs ++ entL ys) = eC e 0 :: eC e 1 :: eC e 2 :: entL (xs ++ ys)
    rw [entL_append xs ys]
theorem entL_get : ∀ (xs : List Ent) (i : Nat) (hi : i < xs.length) (j : Nat), j < 3 → (entL xs)[i * 3 + j]? = some (eC xs[i] j)
  | [], i, hi, _, _ => by simp at hi
  | e :: xs, 0, _, j, hj => by
    match j, hj with
    | 0, _ => rfl
    | 1, _ => rfl
    | 2, _ => rfl
  | e :: xs, i + 1, hi, j, hj => by
    have ih := entL_get xs i (by simpa using hi) j hj
    show (eC e 0 :: eC e 1 :: eC e 2 :: entL xs)[(i + 1) * 3 + j]? = _
    rw [show (i + 1) * 3 + j = i * 3 + j + 1 + 1 + 1 by omega]
    simp only [List.getElem?_cons_succ, List.getElem_cons_succ]
    exact ih
theorem entL_one : ∀ xs : List Ent, ∀ u ∈ entL xs, u.oneCell' = true
  | [], u, h => by simp [entL] at h
  | e :: xs, u, h => by
    unfold entL at h
    simp only [List.mem_cons] at h
    rcases h with rfl | rfl | rfl | h
    · rfl
    · rfl
    · rfl
    · exact entL_one xs u h
theorem EntAt.cell {w : World} {b i : Nat} {e : Ent} (h : EntAt w b i e) (j : Nat) (hj : j < 3) : w.cell? ⟨b, i * 3 + j, none⟩ = some (eC e j) := by
  match j, hj with
  | 0, _ => exact h.1
  | 1, _ => exact h.2.1
  | 2, _ => exact h.2.2
/- Entries from d on, m of them, as a source. -/
theorem ent_src {w : World} {b d m : Nat} {xs : List Ent} (hc : ∀ i (hi : i < xs.length), EntAt w b i xs[i]) (hd : d + m ≤ xs.length) : (entL ((xs.drop d).take m)).length = m * 3 ∧ ∀ j u, (entL ((xs.drop d).take m))[j]? = some u → w.cell? ((⟨b, d * 3, none⟩ : Addr).add j) = some u := by
  have hl : ((xs.drop d).take m).length = m := by simp; omega
  refine ⟨by rw [entL_len, hl], fun j u hu => ?_⟩
  rcases Nat.lt_or_ge j (m * 3) with hj | hj
  · have h1 := entL_get ((xs.drop d).take m) (j / 3) (by rw [hl]; omega) (j % 3) (Nat.mod_lt _ (by decide))
    rw [show j / 3 * 3 + j % 3 = j by omega, hu] at h1
    injection h1 with h1
    subst h1
    have h2 := (hc (d + j / 3) (by omega)).cell (j % 3) (Nat.mod_lt _ (by decide))
    rw [show (⟨b, d * 3, none⟩ : Addr).add j = ⟨b, (d + j / 3) * 3 + j % 3, none⟩ by rw [Addr.add_lit]; congr 1; omega, h2]
    simp
  · rw [List.getElem?_eq_none (by rw [entL_len, hl]; exact hj)] at hu; cases hu
theorem EntRow.src {w w' : World} {F : Option Addr} {xs : List Ent} {c : Nat} {K : List Nat} (h : EntRow w F xs c K) (hk : ∀ k ∈ K, w'.heap[k]? = w.heap[k]?) : (F = none ∧ xs.length = 0 ∧ c = 0 ∧ entL xs = []) ∨ ∃ ad, F = some ad ∧ (entL xs).length = xs.length * 3 ∧ ∀ j u, (entL xs)[j]? = some u → w'.cell? (ad.add j) = some u := by
  rcases h.mem with ⟨rfl, rfl, rfl⟩ | ⟨b, rfl, hb, hc⟩
  · exact .inl ⟨rfl, rfl, rfl, rfl⟩
  · have := ent_src (d := 0) (m := xs.length) (fun i hi => (hc i hi).kept (hk b hb)) (by omega)
    rw [List.drop_zero, List.take_length] at this
    exact .inr ⟨_, rfl, this⟩
theorem own_ent {w : World} {B : Nat} {v : Value} {xs : List Ent} (h : w.ownsRow B 40 3 v xs.length (entL xs)) : ∃ F c Kx, v = .slice F xs.length c ∧ EntRow w F xs c Kx ∧ ∀ k ∈ Kx, B ≤ k ∧ k < w.heap.size := by
  rcases Nat.eq_zero_or_pos xs.length with h0 | h0
  · rcases h.2 with ⟨rfl, _⟩ | ⟨g, cap, cur, rfl, hg, hc, hle, _⟩
    · exact ⟨none, 0, [], by rw [h0], ⟨by omega, .inl ⟨rfl, List.eq_nil_of_length_eq_zero h0, rfl⟩⟩, by simp⟩
    · exact ⟨_, _, [g], rfl, ⟨hle, .inr ⟨g, rfl, by simp, fun i hi => by omega⟩⟩, fun k hk => by
        obtain rfl : k = g := by simpa using hk
        exact ⟨hg, (head_row hc).lt⟩⟩
  · obtain ⟨g, cap, cur, rfl, hB, hlt, hle, _, hcell⟩ := own_cur h h0
    refine ⟨_, _, [g], rfl, ⟨hle, .inr ⟨g, rfl, by simp, fun i hi => ?_⟩⟩, fun k hk => by
      obtain rfl : k = g := by simpa using hk
      exact ⟨hB, hlt⟩⟩
    have key : ∀ j, j < 3 → w.cell? ⟨g, i * 3 + j, none⟩ = some (eC xs[i] j) := fun j hj => by
      have h1 := hcell (i * 3 + j) (by rw [entL_len]; omega)
      have h2 := entL_get xs i hi j hj
      rw [List.getElem?_eq_getElem (by rw [entL_len]; omega)] at h2
      injection h2 with h2
      rw [h1, h2]
    exact ⟨key 0 (by decide), key 1 (by decide), key 2 (by decide)⟩
/- What stays of a queue without its ith. -/
def cutE (xs : List Ent) (i : Nat) : List Ent := xs.take i ++ xs.drop (i + 1)
end Go.Proofs.Ytnacmhljbnpdpaa
/- The document's own store: take. -/
namespace Go.Proofs.Ytnacmhljbnpdpaa
open Go Go.RowKit Go.Deep

/- A store that comes back: the table and the nodes' slots stay. -/
def SNext (w : World) (n m g c : Nat) (Q : Nat → List Ent) (T : Tb) (K : List Nat) (f : Value → Value) (e : Ending) (w' : World) : Prop :=
  ∃ o' oc' K', e = .returned (f (.agg (refSC o' n oc' m g T.n c))) ∧ Below w.heap.size w w' ∧ RSA w' o' n oc' m g c Q T K' ∧ ∀ k ∈ K', k ∈ K ∨ w.heap.size ≤ k
theorem RSA.only {S : List Nat} {w w' : World} {o n oc m g c : Nat} {Q : Nat → List Ent} {T : Tb} {K : List Nat} (h : RSA w o n oc m g c Q T K) (ho : Only S w w') (hS : ∀ k ∈ K, k ∉ S) : RSA w' o n oc m g c Q T K :=
  h.kept (fun k hk => ho.block k (h.old k hk) (hS k hk)) (fun k hk => Nat.lt_of_lt_of_le (h.old k hk) ho.size)
/- The result's three cells, written last. -/
theorem sres_fin {w w5 : World} {B1 o n oc m g c : Nat} {Q : Nat → List Ent} {T : Tb} {K5 K : List Nat} {a0 a1 a2 : Value} (hB : w5.heap[B1]? = some (.cells #[a0, a1, a2] 30 (0, 0))) (hb : Below w.heap.size w w5) (h1 : w.heap.size ≤ B1) (hr : RSA w5 o n oc m g c Q T K5) (hne : B1 ∉ K5) (hK : ∀ k ∈ K5, k ∈ K ∨ w.heap.size ≤ k) (f : Value → Value) :
    ∀ V, V = ((w5.setCell ⟨B1, 0, none⟩ (.slice (some ⟨o, 0, none⟩) n oc)).setCell ⟨B1, 1, none⟩ (.int .i64 (m : Nat))).setCell ⟨B1, 2, none⟩ (.slice (some ⟨g, 0, none⟩) T.n c) →
      (V.cell? ⟨B1, 0, none⟩ = some (.slice (some ⟨o, 0, none⟩) n oc) ∧ V.cell? ⟨B1, 1, none⟩ = some (.int .i64 (m : Nat)) ∧ V.cell? ⟨B1, 2, none⟩ = some (.slice (some ⟨g, 0, none⟩) T.n c)) ∧ SNext w n m g c Q T K f (.returned (f (.agg (refSC o n oc m g T.n c)))) V := by
  rintro V rfl
  obtain ⟨t1, o1⟩ := three_heap hB (.slice (some ⟨o, 0, none⟩) n oc) (.int .i64 (m : Nat)) (.slice (some ⟨g, 0, none⟩) T.n c)
  exact ⟨(three_at t1).1, o, oc, K5, rfl, hb.trans (o1.below (B := w.heap.size) (by simpa using h1) hb.size), hr.only o1 (fun k hk => by simp; exact fun e => hne (e ▸ hk)), hK⟩

section
variable {w : World} {o n oc m g c : Nat} {Q : Nat → List Ent} {T : Tb} {K : List Nat}
set_option maxHeartbeats 2000000 in
theorem stake_walk (h : RSA w o n oc m g c Q T K) (hq : Uq n Q) (t0 i0 : Nat) (ht0 : t0 < n) (hi0 : i0 < (Q t0).length) :
    Calls Try.prog 71 #[.agg (refSC o n oc m g T.n c), .int .u64 (((Q t0)[i0]).key : Nat)] w (SNext w n m g c (upd Q t0 (cutE (Q t0) i0)) T K id) := by
  have hbA := ((Below.refl w.heap.size w).alloc (Nat.le_refl _) (.cells (refSC o n oc m g T.n c) 30)).alloc (by simp) (.cells #[.slice none 0 0, .int .i64 0, .slice none 0 0] 30)
  have HP := Lib.hid (splace_in (h.below hbA) t0 i0 ht0 hi0 (fun t i ht hi e => hq t t0 i i0 ht ht0 hi hi0 e))
  have HR := Lib.hid h
  have h8 := h.n8
  have hl := h.len t0 ht0
  have htI : (t0 : Int) < (n : Int) := by omega
  have hnI : (n : Int) ≤ 8 := by omega
  have ho := h.old o h.q.kin
  have HWT := Lib.hid (fun (w3 : World) (hb : Below w.heap.size w w3) (F : Option Addr) (ys : List Ent) (cx : Nat) (Kx : List Nat) (hx : EntRow w3 F ys cx Kx) (hKx : ∀ k ∈ Kx, k < w3.heap.size) (hly : ys.length ≤ 1000000) => swith_walk (h.below hb) t0 ht0 F ys cx hx hKx hly)
  obtain ⟨k, hk⟩ : ∃ k, ((Q t0)[i0]).key = k := ⟨_, rfl⟩
  rw [hk] at HP ⊢
  clear h hq hbA hk
  obtain ⟨xs, hxs⟩ : ∃ xs, Q t0 = xs := ⟨_, rfl⟩
  have HXS := Lib.hid hxs
  rw [hxs] at hl hi0 ⊢
  clear hxs
  have hiI : (i0 : Int) < (xs.length : Int) := by omega
  go_enter Try.func71, Try.ntmps71
  go_wp2_with fail
  refine HP.out.mono ?_
  rintro e w1 ⟨rfl, hb⟩
  obtain ⟨hb1, hs1, hB0, hB1⟩ := two_blocks hb
  obtain ⟨⟨a0, a1, a2⟩, _⟩ := three_at hB0
  obtain ⟨F, cf, hc, hf⟩ := (HR.out.below hb1).q.row t0 ht0
  rw [HXS.out] at hc hf
  have hcap := hf.cap
  obtain ⟨b, hF, _⟩ := hf.at_ hi0
  subst hF
  have hbb : b ∈ K ∧ ∀ i (hi : i < xs.length), EntAt w1 b i xs[i] := by
    rcases hf.mem with ⟨e, _⟩ | ⟨b', e, q1, q2⟩
    · cases e
    · injection e with e
      injection e with e
      subst e
      exact ⟨q1, q2⟩
  have hbl : b < w1.heap.size := (HR.out.below hb1).old b hbb.1
  have HE := Lib.hid hbb.2
  have HB1 := Lib.hid hb1
  have HBB0 := Lib.hid hB0
  have HBB1 := Lib.hid hB1
  have hs0 : w.heap.size < w1.heap.size := by omega
  have hso : o < w1.heap.size := by omega
  have hal := (Below.refl w1.heap.size w1).alloc (Nat.le_refl _) (.cells #[] 40)
  have hown := World.ownsRow_lit (base := w1.heap.size) (e := 40) (size := 3) w1 #[] 0 (Nat.le_refl _) (by unfold maxLen; omega) rfl
  have HOWN := Lib.hid hown
  have HAL := Lib.hid hal
  have HSRC : Hid ((some (⟨b, 0, none⟩ : Addr) = none ∧ i0 = 0 ∧ cf = 0 ∧ entL (xs.take i0) = []) ∨ ∃ ad, some (⟨b, 0, none⟩ : Addr) = some ad ∧ (entL (xs.take i0)).length = i0 * 3 ∧ ∀ j u, (entL (xs.take i0))[j]? = some u → (w1.alloc (.cells #[] 40)).cell? (ad.add j) = some u) := Lib.hid (.inr ⟨_, rfl, by
    have := ent_src (w := w1.alloc (.cells #[] 40)) (b := b) (d := 0) (m := i0) (fun i hi => (hbb.2 i hi).kept (hal.block b hbl)) (by omega)
    rw [List.drop_zero] at this
    exact this⟩)
  have HONE := Lib.hid (entL_one (xs.take i0))
  have hcI : (xs.length : Int) ≤ (cf : Int) := by omega
  clear hb hb1 hB0 hB1 hf hbb hal hown HP
  go_wp2_with (at_builtin; refine wpList_append_src rfl (.tmp 14) (.tmp 21) 77 rfl w1.heap.size 40 (.agg #[.int .u64 0, .int .u64 0, .int .i64 0]) 3 24 (by kernel_rfl) (by kernel_rfl) rfl (by decide) _ 0 _ rfl HOWN.out (some ⟨b, 0, none⟩) i0 cf (entL (xs.take i0)) rfl HSRC.out HONE.out (by omega) (by omega) (by simp) ?_)
  intro v2 w2 hown2 hgrow2
  have hbl2 : Below w1.heap.size w1 w2 := below_grown HAL.out HOWN.out hgrow2 (by simp)
  have hs2 := hbl2.size
  have hB02 := (hbl2.block w.heap.size hs0).trans HBB0.out
  clear a0 a1 a2
  obtain ⟨⟨a0, a1, a2⟩, _⟩ := three_at hB02
  have hc2 := (hbl2.cell (p := ⟨o, t0, none⟩) hso).trans hc
  have HBL2 := Lib.hid hbl2
  have HOWN2 := Lib.hid hown2
  have HSRC2 : Hid (((if cf = i0 + 1 then some (⟨b, 0, none⟩ : Addr) else some ⟨b, (i0 + 1) * 3, none⟩) = none ∧ xs.length - (i0 + 1) = 0 ∧ cf - (i0 + 1) = 0 ∧ entL (xs.drop (i0 + 1)) = []) ∨ ∃ ad, (if cf = i0 + 1 then some (⟨b, 0, none⟩ : Addr) else some ⟨b, (i0 + 1) * 3, none⟩) = some ad ∧ (entL (xs.drop (i0 + 1))).length = (xs.length - (i0 + 1)) * 3 ∧ ∀ j u, (entL (xs.drop (i0 + 1)))[j]? = some u → w2.cell? (ad.add j) = some u) := Lib.hid (.inr (by
    by_cases e : cf = i0 + 1
    · have he : xs.drop (i0 + 1) = [] := List.drop_eq_nil_of_le (by omega)
      rw [he]
      exact ⟨_, if_pos e, by show 0 = _; omega, fun j u hu => by cases hu⟩
    · refine ⟨_, if_neg e, ?_⟩
      have := ent_src (w := w2) (b := b) (d := i0 + 1) (m := xs.length - (i0 + 1)) (fun i hi => (HE.out i hi).kept (hbl2.block b hbl)) (by omega)
      rw [List.take_of_length_le (by simp)] at this
      exact this))
  have HONE2 := Lib.hid (entL_one (xs.drop (i0 + 1)))
  have hsb : w1.heap.size ≤ w2.heap.size := hs2
  have hs02 : w.heap.size < w2.heap.size := by omega
  obtain ⟨A2, hA2⟩ : ∃ A2, (if cf = i0 + 1 then some (⟨b, 0, none⟩ : Addr) else some ⟨b, (i0 + 1) * 3, none⟩) = A2 := ⟨_, rfl⟩
  rw [hA2] at HSRC2
  have hk1I : (i0 : Int) + 1 ≤ (xs.length : Int) := by omega
  clear hown2 hgrow2 hbl2 hB02 hc HOWN HSRC HONE HAL
  go_wp2_with (at_builtin; refine wpList_append_src rfl (.tmp 23) (.tmp 31) 77 rfl w1.heap.size 40 (.agg #[.int .u64 0, .int .u64 0, .int .i64 0]) 3 24 (by kernel_rfl) (by kernel_rfl) rfl (by decide) v2 i0 _ rfl HOWN2.out A2 (xs.length - (i0 + 1)) (cf - (i0 + 1)) (entL (xs.drop (i0 + 1))) rfl HSRC2.out HONE2.out (by omega) (by omega) hsb ?_)
  intro v3 w3 hown3 hgrow3
  clear hA2
  have hbl3 : Below w1.heap.size w1 w3 := below_grown HBL2.out HOWN2.out hgrow3 hsb
  have hs3 := hbl3.size
  have hB03 := (hbl3.block w.heap.size hs0).trans HBB0.out
  have hB13 := (hbl3.block (w.heap.size + 1) hs1).trans HBB1.out
  have hys : (cutE xs i0).length = i0 + (xs.length - (i0 + 1)) := by unfold cutE; simp; omega
  have hsl : entL (xs.take i0) ++ entL (xs.drop (i0 + 1)) = entL (cutE xs i0) := entL_append _ _
  rw [hsl, ← hys] at hown3
  obtain ⟨F3, c3, Kx, rfl, hx3, hKx⟩ := own_ent hown3
  have hbl03 : Below w.heap.size w w3 := HB1.out.trans (hbl3.mono (by omega))
  have HW3 := Lib.hid (HWT.out w3 hbl03 F3 _ c3 Kx hx3 (fun y hy => (hKx y hy).2) (by omega))
  have HKX := Lib.hid hKx
  have HBL03 := Lib.hid hbl03
  have HBB13 := Lib.hid hB13
  have hs13 : w.heap.size + 1 < w3.heap.size := by omega
  clear a0 a1 a2 hc2
  obtain ⟨⟨a0, a1, a2⟩, _⟩ := three_at hB03
  obtain ⟨ys, hye⟩ : ∃ ys, cutE xs i0 = ys := ⟨_, rfl⟩
  rw [hye] at HW3 ⊢
  have HYE := Lib.hid hye
  clear hown3 hgrow3 hbl3 hB03 hB13 hx3 hKx hbl03 hys hsl HSRC2 HONE2 HBL2 HOWN2 HWT hye HE
  go_wp2_with fail
  refine HW3.out.mono ?_
  rintro e w4 ⟨o4, oc4, K4, rfl, hb4, hr4, hk4⟩
  have hB14 := (hb4.block (w.heap.size + 1) hs13).trans HBB13.out
  have hbW := HBL03.out.trans (hb4.mono HBL03.out.size)
  have hs1K : ∀ k ∈ K4, k ∈ K ∨ w1.heap.size ≤ k := fun k hk => by
    rcases hk4 k hk with q | q | q
    · exact .inl q
    · exact .inr (HKX.out k q).1
    · right; omega
  have HF := Lib.hid (sres_fin (f := id) hB14 hbW (by omega) hr4 (fun hk => by
    rcases hs1K _ hk with q | q
    · have := HR.out.old _ q; omega
    · omega) (fun k hk => (hs1K k hk).imp (fun q => q) (fun q => by omega)))
  obtain ⟨⟨x0, x1, x2⟩, z0, z1, z2⟩ := three_at hB14
  clear hb4 hr4 hk4 hB14 hbW hs1K a0 a1 a2
  go_wp2
  obtain ⟨⟨y0, y1, y2⟩, hP⟩ := HF.out _ rfl
  generalize (((w4.setCell ⟨w.heap.size + 1, 0, none⟩ (.slice (some ⟨o4, 0, none⟩) n oc4)).setCell ⟨w.heap.size + 1, 1, none⟩ (.int .i64 (m : Nat))).setCell ⟨w.heap.size + 1, 2, none⟩ (.slice (some ⟨g, 0, none⟩) T.n c)) = V at y0 y1 y2 hP ⊢
  exact bodyPost_ret (v := .agg (refSC o4 n oc4 m g T.n c)) (by simp [results, Try.results71, go_sem, y0, y1, y2]) rfl (by rw [HYE.out]; exact hP)
end
end Go.Proofs.Ytnacmhljbnpdpaa
