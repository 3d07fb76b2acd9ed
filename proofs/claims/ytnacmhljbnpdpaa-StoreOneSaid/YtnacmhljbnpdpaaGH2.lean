/- Words and walks for layer 6: HxM HxR HxW HxI HxP HxIL HxIS. -/
import Derived.Test.YtnacmhljbnpdpaaGH0
import Derived.Test.YtnacmhljbnpdpaaGH1
import Derived.Test.YtnacmhljbnpdpaaProg
import Derived.WalkKit
import Derived.RowKit3
import Derived.Laws.Bits64
import Derived.Laws.Shifts
import Derived.Lib.Hide
import Derived.Deep.LoopGhost
import Derived.Below
import Derived.Deep.OwnRows
import Derived.Deep.Draws
import Derived.Deep.DeepCutAuto
import Derived.Laws.MakeOwn
/- Package mix's Home, and the document's own, for what calls them. -/
namespace Go.Proofs.Ytnacmhljbnpdpaa
open Go Go.RowKit

def fold (x : Nat) : Nat := x ^^^ x / 4294967296
def mixN (k : Nat) : Nat := fold (k * 11400714819323198485 % 18446744073709551616)

theorem fold_lt (x : Nat) (h : x < 18446744073709551616) : fold x < 18446744073709551616 :=
  Nat.xor_lt_two_pow (n := 64) h (Nat.lt_of_le_of_lt (Nat.div_le_self _ _) h)
theorem mixN_lt (k : Nat) : mixN k < 18446744073709551616 := fold_lt _ (Nat.mod_lt _ (by decide))

theorem xor32 (x : Nat) (h : x < 18446744073709551616) : bits .xor .u64 (x : Int) ((x : Int) / 4294967296) = ((fold x : Nat) : Int) := xorShift_u64 x 4294967296 h
theorem wrapMul (k c : Nat) : IntKind.u64.wrap ((k : Int) * (c : Int)) = ((k * c % 18446744073709551616 : Nat) : Int) := by
  rw [IntKind.wrap_u64, Int.natCast_emod, Int.natCast_mul]; rfl
theorem wrapF (k : Nat) : IntKind.u64.wrap ((k : Int) * 11400714819323198485) = ((k * 11400714819323198485 % 18446744073709551616 : Nat) : Int) := wrapMul k 11400714819323198485

theorem fold_walk (w : World) (x : Nat) (hx : x < 18446744073709551616) (p : Addr) (hp : w.cell? p = some (.int .i64 32)) :
    Calls Try.prog 105 #[.int .u64 (x : Int), .pointer (some p)] w fun e w' => e = .returned (.int .u64 (fold x : Int)) ∧ w = w' := by
  go_enter Try.func105, Try.ntmps105
  go_wp2
  go_ret
  exact ⟨congrArg (fun z => Ending.returned (Value.int .u64 z)) (xor32 x hx), rfl⟩

theorem foldBy_walk (w : World) :
    Calls Try.prog 102 #[.int .i64 32] w fun e w' => e = .returned (.func (.func 105) #[] #[.pointer (some ⟨w.heap.size, 0, none⟩)]) ∧ w' = w.alloc (.cells #[.int .i64 32] 3) := by
  have hmf : ∀ (fn : Fn) (first cap : Array Value) (w : World), (Instr.makeFunc fn first cap).run Try.prog w = .ok (.func fn first cap) w := fun _ _ _ _ => rfl
  go_enter Try.func102, Try.ntmps102
  go_wp2
  go_ret
  exact ⟨rfl, rfl⟩

theorem mix_walk (w : World) (k : Nat) :
    Calls Try.prog 100 #[.int .u64 (k : Int)] w fun e w' => e = .returned (.int .u64 (mixN k : Int)) ∧ w' = w.alloc (.cells #[.int .i64 32] 3) := by
  go_enter Try.func100, Try.ntmps100
  go_wp2_with fail
  refine (foldBy_walk _).mono ?_
  rintro e w' ⟨rfl, rfl⟩
  go_wp2_with fail
  rw [wrapF]
  refine (fold_walk _ _ (Nat.mod_lt _ (by decide)) _ (by simp)).mono ?_
  rintro e w' ⟨rfl, rfl⟩
  go_wp2
  go_ret
  exact ⟨rfl, rfl⟩

theorem refMix_walk (w : World) (k : Nat) :
    Calls Try.prog 104 #[.int .u64 (k : Int)] w fun e w' => e = .returned (.int .u64 (mixN k : Int)) ∧ w = w' := by
  go_enter Try.func104, Try.ntmps104
  go_wp2
  go_ret
  refine ⟨congrArg (fun z => Ending.returned (Value.int .u64 z)) ?_, rfl⟩
  have hm : k * 11400714819323198485 % 18446744073709551616 < 18446744073709551616 := Nat.mod_lt _ (by decide)
  rw [wrapF, mixN]
  generalize k * 11400714819323198485 % 18446744073709551616 = x at hm ⊢
  rw [Int.tdiv_eq_ediv_of_nonneg (by omega), show IntKind.u64.wrap ((x : Int) / 4294967296) = (x : Int) / 4294967296 by rw [IntKind.wrap_u64]; omega]
  exact xor32 x hm

def isSz (s : Int) : Bool := (List.range 31).any fun i => s == 2 ^ i
theorem isSz_iff (s : Int) : isSz s = true ↔ ∃ i, i < 31 ∧ s = 2 ^ i := by simp [isSz]
theorem isSz_yes {s : Int} {k : Nat} (hk : k < 31) (h : s = 2 ^ k) : isSz s = true := (isSz_iff s).2 ⟨k, hk, h⟩
theorem isSz_no {s : Int} (h : ∀ j, j < 31 → s ≠ 2 ^ j) : isSz s = false := by
  cases e : isSz s
  · rfl
  · obtain ⟨i, hi, hs⟩ := (isSz_iff s).1 e
    exact absurd hs (h i hi)
theorem wrap64_pow : ∀ k, k < 31 → wrap64 ((2 : Int) ^ k) = 2 ^ k := by decide +kernel
theorem pow_le30 : ∀ k, k < 31 → (2 : Int) ^ k ≤ 1073741824 := by decide +kernel
theorem pow_pos2 (k : Nat) : (0 : Int) < 2 ^ k := Int.pow_pos (by decide)
theorem pow_lt {i j : Nat} (h : i < j) : (2 : Int) ^ i < 2 ^ j := Int.pow_lt_pow_of_lt (by decide) h

theorem isSz_at {s x : Int} {k : Nat} (hk : k < 31) (hx : x = 2 ^ k) (hN : ∀ j, j < k → (2 : Int) ^ j < s) (h : s ≤ x ∨ 1073741824 ≤ x) : (s == x) = isSz s := by
  by_cases e : s = x
  · rw [isSz_yes hk (e.trans hx), e]; exact beq_self_eq_true x
  · rw [isSz_no, beq_eq_false_iff_ne.2 e]
    intro j hj hs
    rcases Nat.lt_trichotomy j k with h1 | h1 | h1
    · have := hN j h1; omega
    · subst h1; exact e (hs.trans hx.symm)
    · have h2 := pow_lt h1
      rcases h with h | h
      · omega
      · have := pow_le30 j hj; omega

theorem isSize_walk (w : World) (s : Int) :
    Calls Try.prog 99 #[.int .i64 s] w fun e w' => e = .returned (.bool (isSz s)) ∧ w = w' := by
  go_enter Try.func99, Try.ntmps99
  go_wp2
  go_loop [4] (fun i => ∃ k : Nat, k ≤ 31 ∧ i = .int .i64 k ∧ Hid (∀ j, j < k → s ≠ 2 ^ j)) (fun i => 31 - (intOf i).toNat)
  case atStart => exact ⟨0, by omega, rfl, Lib.hid (fun j hj => by omega)⟩
  case round =>
    obtain ⟨k, hk, rfl, hN⟩ := hrel
    go_wp2
    · have hlt : k < 31 := by omega
      have hq : (s == wrap64 (2 ^ k)) = true := by assumption
      rw [wrap64_pow k hlt] at hq
      have hy := isSz_yes hlt (by simpa using hq)
      go_ret
      exact ⟨congrArg (fun b => Ending.returned (Value.bool b)) hy.symm, rfl⟩
    · have hlt : k < 31 := by omega
      have hq : (s == wrap64 (2 ^ k)) = false := by assumption
      rw [wrap64_pow k hlt] at hq
      go_round
      case rel =>
        refine ⟨k + 1, by omega, by go_num, Lib.hid fun j hj => ?_⟩
        rcases Nat.lt_or_ge j k with h | h
        · exact hN.out j h
        · obtain rfl : j = k := by omega
          simpa using hq
      case measure => simp only [intOf]; omega
    · have hge : ¬ ((k : Int) < 31) := by first | assumption | omega
      obtain rfl : k = 31 := by omega
      have hy := isSz_no hN.out
      go_ret
      exact ⟨congrArg (fun b => Ending.returned (Value.bool b)) hy.symm, rfl⟩

theorem size_walk (w : World) (s : Int) :
    Calls Try.prog 103 #[.int .i64 s] w fun e w' => e = .returned (.bool (isSz s)) ∧ w = w' := by
  go_enter Try.func103, Try.ntmps103
  go_wp2
  go_loopg [3] 30 (fun g p wr => ∃ (k : Nat) (x : Int), k + g = 30 ∧ p = .int .i64 x ∧ 1 ≤ x ∧ x ≤ 1073741824 ∧ Hid (x = 2 ^ k ∧ ∀ j, j < k → (2 : Int) ^ j < s) ∧ wr = w)
  case atStart => exact ⟨0, 1, by omega, rfl, by omega, by omega, Lib.hid ⟨rfl, fun j hj => by omega⟩, rfl⟩
  case round =>
    obtain ⟨k, x, hk, rfl, hx1, hx2, hN, rfl⟩ := hrel
    go_wp2
    · have h1 : x < s := by assumption
      have h2 : x < 1073741824 := by assumption
      obtain ⟨hx, hj⟩ := hN.out
      have hk30 : k < 30 := by
        rcases Nat.lt_or_ge k 30 with h | h
        · exact h
        · obtain rfl : k = 30 := by omega
          have : (2 : Int) ^ 30 = 1073741824 := by decide
          omega
      go_roundg (gk - 1)
      case measure => omega
      case rel =>
        refine ⟨k + 1, 2 * x, by omega, rfl, by omega, by have := pow_le30 (k + 1) (by omega); rw [Int.pow_succ] at this; omega, Lib.hid ⟨by rw [hx, Int.pow_succ, Int.mul_comm], fun j h => ?_⟩, rfl⟩
        rcases Nat.lt_or_ge j k with h3 | h3
        · exact hj j h3
        · obtain rfl : j = k := by omega
          omega
    all_goals
      obtain ⟨hx, hj⟩ := hN.out
      have hy := isSz_at (by omega) hx hj (by omega)
      go_ret
      exact ⟨congrArg (fun b => Ending.returned (Value.bool b)) hy, rfl⟩

def box : Obj := .cells #[.int .i64 32] 3

theorem isSz_bounds {s : Int} (h : isSz s = true) : 1 ≤ s ∧ s ≤ 1073741824 := by
  obtain ⟨i, hi, rfl⟩ := (isSz_iff s).1 h
  have := pow_pos2 i
  exact ⟨by omega, pow_le30 i hi⟩

theorem isSize_is (w : World) (s : Int) (b : Bool) (h : isSz s = b) :
    Calls Try.prog 99 #[.int .i64 s] w fun e w' => e = .returned (.bool b) ∧ w = w' := h ▸ isSize_walk w s
theorem size_is (w : World) (s : Int) (b : Bool) (h : isSz s = b) :
    Calls Try.prog 103 #[.int .i64 s] w fun e w' => e = .returned (.bool b) ∧ w = w' := h ▸ size_walk w s

theorem home_no (w : World) (k : Nat) (s : Int) (h : isSz s = false) :
    Calls Try.prog 82 #[.int .u64 (k : Int), .int .i64 s] w fun e w' => e = .returned (.int .i64 0) ∧ w = w' := by
  have H := Lib.hid h
  clear h
  go_enter Try.func82, Try.ntmps82
  go_wp2_with fail
  refine (isSize_is _ _ false H.out).mono ?_
  rintro e w' ⟨rfl, rfl⟩
  go_wp2
  go_ret
  exact ⟨rfl, rfl⟩

theorem home_yes (w : World) (k : Nat) (s : Int) (h : isSz s = true) :
    Calls Try.prog 82 #[.int .u64 (k : Int), .int .i64 s] w fun e w' => e = .returned (.int .i64 ((mixN k : Int) % s)) ∧ w' = w.alloc box := by
  obtain ⟨h1, h2⟩ := isSz_bounds h
  have H := Lib.hid h
  clear h
  have hm := mixN_lt k
  have e1 : IntKind.u64.wrap s = s := by rw [IntKind.wrap_u64]; omega
  have e2 : (mixN k : Int).tmod s = (mixN k : Int) % s := Int.tmod_eq_emod_of_nonneg (by omega)
  have e3 : 0 ≤ (mixN k : Int) % s := Int.emod_nonneg _ (by omega)
  have e4 : (mixN k : Int) % s < s := Int.emod_lt_of_pos _ (by omega)
  go_enter Try.func82, Try.ntmps82
  go_wp2_with fail
  refine (isSize_is _ _ true H.out).mono ?_
  rintro e w' ⟨rfl, rfl⟩
  go_wp2_with fail
  refine (mix_walk _ k).mono ?_
  rintro e w' ⟨rfl, rfl⟩
  go_wp2
  go_ret
  exact ⟨rfl, rfl⟩

theorem rhome_no (w : World) (k : Nat) (s : Int) (h : isSz s = false) :
    Calls Try.prog 101 #[.int .u64 (k : Int), .int .i64 s] w fun e w' => e = .returned (.int .i64 0) ∧ w = w' := by
  have H := Lib.hid h
  clear h
  go_enter Try.func101, Try.ntmps101
  go_wp2_with fail
  refine (size_is _ _ false H.out).mono ?_
  rintro e w' ⟨rfl, rfl⟩
  go_wp2
  go_ret
  exact ⟨rfl, rfl⟩

theorem rhome_yes (w : World) (k : Nat) (s : Int) (h : isSz s = true) :
    Calls Try.prog 101 #[.int .u64 (k : Int), .int .i64 s] w fun e w' => e = .returned (.int .i64 ((mixN k : Int) % s)) ∧ w = w' := by
  obtain ⟨h1, h2⟩ := isSz_bounds h
  have H := Lib.hid h
  clear h
  have hm := mixN_lt k
  have e1 : IntKind.u64.wrap s = s := by rw [IntKind.wrap_u64]; omega
  have e2 : (mixN k : Int).tmod s = (mixN k : Int) % s := Int.tmod_eq_emod_of_nonneg (by omega)
  have e3 : 0 ≤ (mixN k : Int) % s := Int.emod_nonneg _ (by omega)
  have e4 : (mixN k : Int) % s < s := Int.emod_lt_of_pos _ (by omega)
  go_enter Try.func101, Try.ntmps101
  go_wp2_with fail
  refine (size_is _ _ true H.out).mono ?_
  rintro e w' ⟨rfl, rfl⟩
  go_wp2_with fail
  refine (refMix_walk _ k).mono ?_
  rintro e w' ⟨rfl, rfl⟩
  go_wp2
  go_ret
  exact ⟨rfl, rfl⟩
theorem sz8 : isSz 8 = true := by decide
end Go.Proofs.Ytnacmhljbnpdpaa
/- The document's own table: to look for a key, Get, Probes. -/
namespace Go.Proofs.Ytnacmhljbnpdpaa
open Go Go.RowKit Go.Deep

def SlAt (w : World) (g i : Nat) (s : Sl) : Prop := w.cell? ⟨g, i * 3, none⟩ = some (.int .u64 (s.key : Nat)) ∧ w.cell? ⟨g, i * 3 + 1, none⟩ = some (.int .i32 s.n) ∧ w.cell? ⟨g, i * 3 + 2, none⟩ = some (.bool s.full)
/- The document's own table, as a value: its slots lie in block g. -/
structure RefT (w : World) (T : Tb) (g : Nat) : Prop where
  lt : g < w.heap.size
  sl : ∀ i, i < T.n → SlAt w g i (T.sl i)
abbrev tabV (g n c : Nat) : Value := .agg #[.slice (some ⟨g, 0, none⟩) n c]
theorem RefT.below {w w' : World} {T : Tb} {g : Nat} (h : RefT w T g) (hb : Below w.heap.size w w') : RefT w' T g :=
  ⟨Nat.lt_of_lt_of_le h.lt hb.size, fun i hi => by
    obtain ⟨h1, h2, h3⟩ := h.sl i hi
    exact ⟨(hb.cell h.lt).trans h1, (hb.cell h.lt).trans h2, (hb.cell h.lt).trans h3⟩⟩
theorem hm_mixN (k n : Nat) : hm k n = mixN k % n := hm_eq k n
theorem go_zero (T : Tb) (k : Nat) (hp : 0 < T.n) : ((mixN k : Nat) : Int) % (T.n : Int) = ((T.go k 0 : Nat) : Int) := by
  unfold Tb.go
  rw [Nat.add_zero, Nat.mod_eq_of_lt (hm_lt k hp), hm_mixN]
  exact (Int.natCast_emod _ _).symm
theorem go_succ (T : Tb) (k i : Nat) : (T.go k i + 1) % T.n = T.go k (i + 1) := by
  unfold Tb.go
  rw [Nat.mod_add_mod, Nat.add_assoc]

set_option maxHeartbeats 1000000 in
theorem rlook_walk {w : World} {T : Tb} {g : Nat} (h : RefT w T g) (ok : T.Ok) (hs : isSz T.n = true) (k c : Nat) (hk : k < 18446744073709551616) :
    Calls Try.prog 89 #[tabV g T.n c, .int .u64 (k : Int)] w fun e w' => e = .returned (.tuple #[.int .i64 (T.look k : Nat), .int .i64 ((T.steps k : Nat) + 1)]) ∧ Below w.heap.size w w' := by
  have hp := ok.pos
  obtain ⟨_, hsz⟩ := isSz_bounds hs
  have HB := Lib.hid ((Below.refl w.heap.size w).alloc (Nat.le_refl _) (.cells #[.slice (some ⟨g, 0, none⟩) T.n c] 28))
  have HSL : Hid (∀ i, i < T.n → SlAt (w.alloc (.cells #[.slice (some ⟨g, 0, none⟩) T.n c] 28)) g i (T.sl i)) := Lib.hid (h.below HB.out).sl
  have hh := rhome_yes (w.alloc (.cells #[.slice (some ⟨g, 0, none⟩) T.n c] 28)) k T.n hs
  rw [go_zero T k hp] at hh
  have HH := Lib.hid hh
  have HOK := Lib.hid ok
  have HST := Lib.hid (ok.steps_lt k)
  have HLK : Hid (T.look k = T.go k (T.steps k)) := Lib.hid rfl
  clear h hs ok hh
  go_enter Try.func89, Try.ntmps89
  go_wp2_with fail
  refine HH.out.mono ?_
  rintro e w' ⟨rfl, rfl⟩
  go_wp2_with fail
  go_loopg [6, 7] (T.steps k) (fun gg s6 s7 wr => ∃ i : Nat, i + gg = T.steps k ∧ s6 = .int .i64 (T.go k i : Nat) ∧ s7 = .int .i64 ((i : Int) + 1) ∧ wr = w.alloc (.cells #[.slice (some ⟨g, 0, none⟩) T.n c] 28))
  case atStart => exact ⟨0, by omega, rfl, rfl, rfl⟩
  case round =>
    obtain ⟨i, hi, rfl, rfl, rfl⟩ := hrel
    have hst := HST.out
    have hil : (i : Int) + 1 ≤ (T.n : Int) := by omega
    obtain ⟨x, hx⟩ : ∃ x, T.go k i = x := ⟨_, rfl⟩
    have hxn : x < T.n := hx ▸ T.go_lt hp k i
    obtain ⟨c0, _, c2⟩ := HSL.out x hxn
    by_cases hii : i = T.steps k
    · have hlk : T.look k = x := by rw [HLK.out, ← hii, hx]
      have hstp := HOK.out.look_stops k
      rw [hlk] at hstp
      have HE : Hid (T.look k = x ∧ T.steps k = i) := Lib.hid ⟨hlk, hii.symm⟩
      have HSP := Lib.hid hstp
      rw [hx]
      obtain ⟨sx, hsx⟩ : ∃ sx, T.sl x = sx := ⟨_, rfl⟩
      rw [hsx] at c0 c2 HSP
      obtain ⟨sk, sn, sf⟩ := sx
      clear hsx hstp hlk hii hi hx
      cases sf
      · simp only at c0 c2
        go_wp2
        exact bodyPost_ret (v := .tuple #[.int .i64 (x : Nat), .int .i64 ((i : Nat) + 1)]) (by simp [results, Try.results89, go_sem]) rfl ⟨by rw [HE.out.1, HE.out.2], HB.out⟩
      · obtain rfl : sk = k := by
          rcases HSP.out with q | q
          · exact absurd q (by simp)
          · exact q
        simp only at c0 c2
        go_wp2
        exact bodyPost_ret (v := .tuple #[.int .i64 (x : Nat), .int .i64 ((i : Nat) + 1)]) (by simp [results, Try.results89, go_sem]) rfl ⟨by rw [HE.out.1, HE.out.2], HB.out⟩
    · have hlt : i < T.steps k := by omega
      obtain ⟨hf, hne⟩ := T.path k hlt
      have hnx := go_succ T k i
      rw [hx] at hf hne hnx ⊢
      obtain ⟨sx, hsx⟩ : ∃ sx, T.sl x = sx := ⟨_, rfl⟩
      rw [hsx] at c0 c2 hf hne
      obtain ⟨sk, sn, sf⟩ := sx
      simp only at c0 c2 hf hne
      subst hf
      clear hsx hx
      have hneI : ((sk : Int) == (k : Int)) = false := by rw [beq_eq_false_iff_ne]; omega
      go_wp2
      go_roundg (gk - 1)
      case measure => omega
      case rel => exact ⟨i + 1, by omega, congrArg (Value.int .i64) (by rw [← hnx, Int.natCast_emod]; rfl), by go_num, rfl⟩

/- What a Get answers. -/
noncomputable def Tb.get (T : Tb) (k : Nat) : Int × Bool := ((T.sl (T.look k)).n, T.there k)
theorem rget_walk {w : World} {T : Tb} {g : Nat} (h : RefT w T g) (ok : T.Ok) (hs : isSz T.n = true) (k c : Nat) (hk : k < 18446744073709551616) :
    Calls Try.prog 86 #[tabV g T.n c, .int .u64 (k : Int)] w fun e w' => e = .returned (.tuple #[.int .i32 (T.get k).1, .bool (T.get k).2]) ∧ Below w.heap.size w w' := by
  have HB := Lib.hid ((Below.refl w.heap.size w).alloc (Nat.le_refl _) (.cells #[.slice (some ⟨g, 0, none⟩) T.n c] 28))
  have hl := rlook_walk (h.below HB.out) ok hs k c hk
  have HL := Lib.hid hl
  have HR := Lib.hid h
  have hlk := ok.look_lt k
  have HGET : Hid (T.get k = ((T.sl (T.look k)).n, (T.sl (T.look k)).full)) := Lib.hid rfl
  clear h hl hs ok
  go_enter Try.func86, Try.ntmps86
  go_wp2_with fail
  refine HL.out.mono ?_
  rintro e w2 ⟨rfl, hb⟩
  have hb2 : Below w.heap.size w w2 := HB.out.trans (hb.mono HB.out.size)
  obtain ⟨c0, c1, c2⟩ := (HR.out.below hb2).sl _ hlk
  have q0 : w2.cell? ⟨w.heap.size, 0, none⟩ = some (.slice (some ⟨g, 0, none⟩) T.n c) := (hb.cell (p := ⟨w.heap.size, 0, none⟩) (by simp)).trans (by simp)
  have HB2 := Lib.hid hb2
  clear hb hb2 c0
  obtain ⟨x, hx⟩ : ∃ x, T.look k = x := ⟨_, rfl⟩
  rw [hx] at c1 c2 hlk HGET ⊢
  clear hx
  go_wp2_with fail
  go_region
  go_wp2
  exact bodyPost_ret (v := .tuple #[.int .i32 (T.sl x).n, .bool (T.sl x).full]) (by simp [results, Try.results86, go_sem]) rfl ⟨by rw [HGET.out], HB2.out.drew⟩
theorem rlen_walk {w : World} {T : Tb} {g : Nat} (h : RefT w T g) (hn : T.n ≤ 1073741824) (c : Nat) :
    Calls Try.prog 87 #[tabV g T.n c] w fun e w' => e = .returned (.int .i64 (T.cnt : Nat)) ∧ Below w.heap.size w w' := by
  have HB := Lib.hid ((Below.refl w.heap.size w).alloc (Nat.le_refl _) (.cells #[.slice (some ⟨g, 0, none⟩) T.n c] 28))
  have HSL := Lib.hid (h.below HB.out).sl
  have hnI : (T.n : Int) ≤ 1073741824 := by omega
  have HC : Hid (T.cnt = cntB (fun i => (T.sl i).full) T.n) := Lib.hid rfl
  clear h
  go_enter Try.func87, Try.ntmps87
  go_wp2_with fail
  go_loopg [3, 4] T.n (fun gg s3 s4 wr => ∃ i m : Nat, i + gg = T.n ∧ m ≤ i ∧ Hid (m = cntB (fun i => (T.sl i).full) i) ∧ s3 = .int .i64 (m : Nat) ∧ s4 = .int .i64 (i : Nat) ∧ wr = w.alloc (.cells #[.slice (some ⟨g, 0, none⟩) T.n c] 28))
  case atStart => exact ⟨0, 0, by omega, by omega, Lib.hid rfl, rfl, rfl, rfl⟩
  case round =>
    obtain ⟨i, m, hi, hm, HM, rfl, rfl, rfl⟩ := hrel
    by_cases hlt : i < T.n
    · have hltI : (i : Int) < (T.n : Int) := by omega
      obtain ⟨_, _, c2⟩ := HSL.out i hlt
      obtain ⟨b, hb⟩ : ∃ b, (T.sl i).full = b := ⟨_, rfl⟩
      rw [hb] at c2
      have HBB := Lib.hid hb
      clear hb
      cases b
      · go_wp2
        go_roundg (gk - 1)
        case measure => omega
        case rel => exact ⟨i + 1, m, by omega, by omega, Lib.hid (by rw [HM.out]; show _ = cntB _ i + (if (T.sl i).full = true then 1 else 0); rw [HBB.out]; rfl), rfl, by go_num, rfl⟩
      · go_wp2
        go_roundg (gk - 1)
        case measure => omega
        case rel => exact ⟨i + 1, m + 1, by omega, by omega, Lib.hid (by rw [HM.out]; show _ = cntB _ i + (if (T.sl i).full = true then 1 else 0); rw [HBB.out]; rfl), by go_num, by go_num, rfl⟩
    · have hge : ¬ (i : Int) < (T.n : Int) := by omega
      obtain rfl : i = T.n := by omega
      go_wp2
      go_ret
      exact ⟨congrArg (fun z : Nat => Ending.returned (Value.int .i64 (z : Int))) (HM.out.trans HC.out.symm), HB.out⟩
end Go.Proofs.Ytnacmhljbnpdpaa
/- The document's own table: to lay a slot's key. -/
namespace Go.Proofs.Ytnacmhljbnpdpaa
open Go Go.RowKit Go.Deep

def slotW (s : Sl) (j : Nat) : Value := match j with
  | 0 => .int .u64 (s.key : Nat)
  | 1 => .int .i32 s.n
  | _ => .bool s.full
def slV (sl : Nat → Sl) (p : Nat) : Value := slotW (sl (p / 3)) (p % 3)
theorem slV_at (sl : Nat → Sl) (i j : Nat) (hj : j < 3) : slV sl (i * 3 + j) = slotW (sl i) j := by
  unfold slV
  rw [show (i * 3 + j) / 3 = i by omega, show (i * 3 + j) % 3 = j by omega]
theorem split3 (p i : Nat) : p / 3 ≠ i ∨ p = i * 3 ∨ p = i * 3 + 1 ∨ p = i * 3 + 2 := by omega
theorem RefT.cell {w : World} {T : Tb} {g : Nat} (h : RefT w T g) (p : Nat) (hp : p < T.n * 3) : w.cell? ⟨g, p, none⟩ = some (slV T.sl p) := by
  obtain ⟨h0, h1, h2⟩ := h.sl (p / 3) (by omega)
  have e : p = p / 3 * 3 + p % 3 := by omega
  have hm : p % 3 < 3 := Nat.mod_lt _ (by decide)
  unfold slV
  generalize p / 3 = i at e h0 h1 h2
  generalize p % 3 = j at e hm
  subst e
  match j, hm with
  | 0, _ => exact h0
  | 1, _ => exact h1
  | 2, _ => exact h2
theorem RefT.src {w : World} {T : Tb} {g c : Nat} (h : RefT w T g) :
    (some (⟨g, 0, none⟩ : Addr) = none ∧ T.n = 0 ∧ c = 0 ∧ (List.range (T.n * 3)).map (slV T.sl) = []) ∨ ∃ ad, some (⟨g, 0, none⟩ : Addr) = some ad ∧ ((List.range (T.n * 3)).map (slV T.sl)).length = T.n * 3 ∧ ∀ j u, ((List.range (T.n * 3)).map (slV T.sl))[j]? = some u → w.cell? (ad.add j) = some u := by
  refine .inr ⟨_, rfl, by simp, fun j u hu => ?_⟩
  rw [List.getElem?_map] at hu
  rcases Nat.lt_or_ge j (T.n * 3) with hj | hj
  · rw [List.getElem?_range hj] at hu
    simp only [Option.map_some, Option.some.injEq] at hu
    subst hu
    have := h.cell j hj
    simpa [Addr.add_lit] using this
  · rw [List.getElem?_eq_none (by simpa using hj)] at hu; cases hu
theorem oneCell_sl (sl : Nat → Sl) (p : Nat) : (slV sl p).oneCell' = true := by
  unfold slV
  generalize p % 3 = j
  unfold slotW
  split <;> rfl

/- A row of slots of the call's own, one of them laid anew. -/
def TabRow (w : World) (g m : Nat) (sl : Nat → Sl) : Prop := ∃ (N : Nat) (F : Nat → Value), w.rowIs g 140 N F ∧ m * 3 ≤ N ∧ ∀ p, p < m * 3 → F p = slV sl p
theorem tabRow_put {w : World} {g m : Nat} {sl : Nat → Sl} (h : TabRow w g m sl) (i : Nat) (s : Sl) :
    TabRow (((w.setCell ⟨g, i * 3, none⟩ (.int .u64 (s.key : Nat))).setCell ⟨g, i * 3 + 1, none⟩ (.int .i32 s.n)).setCell ⟨g, i * 3 + 2, none⟩ (.bool s.full)) g m (fun j => if j = i then s else sl j) ∧
    Only [g] w (((w.setCell ⟨g, i * 3, none⟩ (.int .u64 (s.key : Nat))).setCell ⟨g, i * 3 + 1, none⟩ (.int .i32 s.n)).setCell ⟨g, i * 3 + 2, none⟩ (.bool s.full)) := by
  obtain ⟨N, F, hF, hN, hv⟩ := h
  refine ⟨⟨N, _, ((hF.set _ _).set _ _).set _ _, hN, fun p hp => ?_⟩, ((((Only.refl [g] w).setCell (by simp) _).setCell (by simp) _).setCell (by simp) _)⟩
  have key : ∀ j, j < 3 → slV (fun j => if j = i then s else sl j) (i * 3 + j) = slotW s j := fun j hj => by rw [slV_at _ _ _ hj, if_pos rfl]
  rcases split3 p i with h1 | rfl | rfl | rfl
  · have e : slV (fun j => if j = i then s else sl j) p = slV sl p := by unfold slV; show slotW (if p / 3 = i then s else sl (p / 3)) (p % 3) = _; rw [if_neg h1]
    rw [e, ← hv p hp]
    rw [if_neg (by omega), if_neg (by omega), if_neg (by omega)]
  · rw [show i * 3 = i * 3 + 0 from rfl, key 0 (by decide)]; simp [slotW]
  · rw [key 1 (by decide)]; simp [slotW]
  · rw [key 2 (by decide)]; simp [slotW]
theorem tabRow_own {w : World} {B m cap g : Nat} {sl : Nat → Sl} {l : List Value} (h : w.ownsRow B 140 3 (.slice (some ⟨g, 0, none⟩) m cap) m l) (hl : ∀ p, p < m * 3 → l[p]? = some (slV sl p)) : TabRow w g m sl := by
  rcases h.2 with ⟨e, _⟩ | ⟨g', cap', cur, e, _, hb, hle, _, hsz, htk⟩
  · cases e
  · injection e with e1 _ e3
    injection e1 with e1
    injection e1 with e1
    subst e1 e3
    refine ⟨_, _, head_row hb, by rw [hsz]; exact Nat.mul_le_mul_right 3 hle, fun p hp => ?_⟩
    have h1 := hl p hp
    rw [← htk, List.getElem?_take, if_pos hp, Array.getElem?_toList] at h1
    simp [Array.getD_eq_getD_getElem?, h1]
theorem TabRow.only {S : List Nat} {w w' : World} {g m : Nat} {sl : Nat → Sl} (h : TabRow w g m sl) (ho : Only S w w') (hg : g ∉ S) : TabRow w' g m sl := by
  obtain ⟨N, F, hF, hN, hv⟩ := h
  exact ⟨N, F, ho.row hF hg, hN, hv⟩
theorem TabRow.cell {w : World} {g m : Nat} {sl : Nat → Sl} (h : TabRow w g m sl) (p : Nat) (hp : p < m * 3) : w.cell? ⟨g, p, none⟩ = some (slV sl p) ∧ w.frozen? ⟨g, p, none⟩ = false := by
  obtain ⟨N, F, hF, hN, hv⟩ := h
  rw [← hv p hp]
  exact ⟨hF.cell (by omega), hF.frozen p⟩
theorem TabRow.lt {w : World} {g m : Nat} {sl : Nat → Sl} (h : TabRow w g m sl) : g < w.heap.size := by obtain ⟨N, F, hF, _⟩ := h; exact hF.lt
theorem TabRow.ref {w : World} {g : Nat} {T : Tb} (h : TabRow w g T.n T.sl) : RefT w T g :=
  ⟨h.lt, fun i hi => ⟨by have := (h.cell (i * 3 + 0) (by omega)).1; rw [slV_at _ _ _ (by decide)] at this; exact this, by have := (h.cell (i * 3 + 1) (by omega)).1; rw [slV_at _ _ _ (by decide)] at this; exact this, by have := (h.cell (i * 3 + 2) (by omega)).1; rw [slV_at _ _ _ (by decide)] at this; exact this⟩⟩

theorem one_set {w1 : World} {g : Nat} {t : TypeId} {a0 : Value} (hB : w1.heap[g]? = some (.cells #[a0] t (0, 0))) (b0 : Value) :
    (w1.setCell ⟨g, 0, none⟩ b0).cell? ⟨g, 0, none⟩ = some b0 ∧ Only [g] w1 (w1.setCell ⟨g, 0, none⟩ b0) := by
  refine ⟨?_, (Only.refl [g] w1).setCell (by simp) _⟩
  have h := (head_row hB).set 0 b0
  have := h.cell (i := 0) (by simp)
  simpa using this

/- A table, as a call hands it back. -/
def TabPost (w : World) (T : Tb) (f : Value → Value) (e : Ending) (w' : World) : Prop := ∃ g c, e = .returned (f (tabV g T.n c)) ∧ Below w.heap.size w w' ∧ RefT w' T g ∧ w.heap.size ≤ g

set_option maxHeartbeats 1000000 in
theorem rlay_walk {w : World} {T : Tb} {g : Nat} (h : RefT w T g) (ok : T.Ok) (hs : isSz T.n = true) (hn : T.n ≤ 1000000) (c : Nat) (s : Sl) (hk : s.key < 18446744073709551616) :
    Calls Try.prog 88 #[tabV g T.n c, .agg #[.int .u64 (s.key : Nat), .int .i32 s.n, .bool s.full]] w (TabPost w (T.lay s) id) := by
  have hp := ok.pos
  obtain ⟨_, hsz⟩ := isSz_bounds hs
  have hlk := ok.look_lt s.key
  have HL := Lib.hid (fun w' (hb : Below w.heap.size w w') => rlook_walk (h.below hb) ok hs s.key c hk)
  have HR := Lib.hid h
  have hb3 := (((Below.refl w.heap.size w).alloc (Nat.le_refl _) (.cells #[.slice (some ⟨g, 0, none⟩) T.n c] 28)).alloc (by simp) (.cells #[.int .u64 (s.key : Nat), .int .i32 s.n, .bool s.full] 140)).alloc (by simp; omega) (.cells #[.slice none 0 0] 28)
  have HB3 := Lib.hid hb3
  have HT : Hid ((T.lay s).n = T.n ∧ (T.lay s).sl = fun j => if j = T.look s.key then s else T.sl j) := Lib.hid ⟨rfl, rfl⟩
  clear h hs ok hb3
  obtain ⟨lk, hlkE⟩ : ∃ lk, T.look s.key = lk := ⟨_, rfl⟩
  rw [hlkE] at hlk HL HT
  clear hlkE
  go_enter Try.func88, Try.ntmps88
  go_wp2_with fail
  refine (HL.out _ HB3.out).mono ?_
  rintro e w1 ⟨rfl, hb⟩
  obtain ⟨hb1, hs1, hB0, hB1, hB2⟩ := three_blocks hb
  have c0 : w1.cell? ⟨w.heap.size, 0, none⟩ = some (.slice (some ⟨g, 0, none⟩) T.n c) := (head_row hB0).cell (i := 0) (by simp)
  have hs0 : w.heap.size < w1.heap.size := by omega
  have HB := Lib.hid hb1
  have hal := (Below.refl w1.heap.size w1).alloc (Nat.le_refl _) (.cells #[] 140)
  have HS := Lib.hid (RefT.src (c := c) (HR.out.below (hb1.trans (hal.mono hb1.size))))
  have hown := World.ownsRow_lit (base := w1.heap.size) (e := 140) (size := 3) w1 #[] 0 (Nat.le_refl _) (by unfold maxLen; omega) rfl
  have HO := Lib.hid hown
  have HAL := Lib.hid hal
  have h0s : Hid (∀ u ∈ (List.range (T.n * 3)).map (slV T.sl), u.oneCell' = true) := Lib.hid (by simp; exact fun _ _ => oneCell_sl _ _)
  clear hb hb1 hal hown
  go_wp2_with (at_builtin; refine wpList_append_src rfl (.tmp 15) (.tmp 17) 26 rfl w1.heap.size 140 (.agg #[.int .u64 0, .int .i32 0, .bool false]) 3 16 (by kernel_rfl) (by kernel_rfl) rfl (by decide) _ 0 _ rfl HO.out (some ⟨g, 0, none⟩) T.n c ((List.range (T.n * 3)).map (slV T.sl)) rfl HS.out h0s.out (by omega) (by omega) (by simp) ?_)
  intro v2 w2 hown2 hgrow2
  have hbl2 := below_grown HAL.out HO.out hgrow2 (by simp)
  have hs2 := hbl2.size
  obtain ⟨g2, cap, rfl, hg1, hg2⟩ : ∃ g2 cap, v2 = .slice (some ⟨g2, 0, none⟩) T.n cap ∧ w1.heap.size ≤ g2 ∧ g2 < w2.heap.size := by
    rcases hown2.2 with ⟨_, e⟩ | ⟨g2, cap, cur, e, hg1, hb, _⟩
    · omega
    · exact ⟨g2, cap, e.trans (by congr 1), hg1, (head_row hb).lt⟩
  have hrow := tabRow_own (sl := T.sl) hown2 (fun p hp => by rw [List.getElem?_map, List.getElem?_range hp]; rfl)
  have k1 : w2.heap[w.heap.size + 1]? = _ := (hbl2.block (w.heap.size + 1) (by omega)).trans hB1
  have k2 : w2.heap[w.heap.size + 2]? = _ := (hbl2.block (w.heap.size + 2) hs1).trans hB2
  have HW := Lib.hid (tabRow_put hrow lk s)
  have HBL2 := Lib.hid hbl2
  obtain ⟨q0, p0⟩ := hrow.cell (lk * 3) (by omega)
  obtain ⟨q1, p1⟩ := hrow.cell (lk * 3 + 1) (by omega)
  obtain ⟨q2, p2⟩ := hrow.cell (lk * 3 + 2) (by omega)
  have b0 : w2.cell? ⟨w.heap.size + 1, 0, none⟩ = some (.int .u64 (s.key : Nat)) := (head_row k1).cell (i := 0) (by simp)
  have b1 : w2.cell? ⟨w.heap.size + 1, 1, none⟩ = some (.int .i32 s.n) := (head_row k1).cell (i := 1) (by simp)
  have b2 : w2.cell? ⟨w.heap.size + 1, 2, none⟩ = some (.bool s.full) := (head_row k1).cell (i := 2) (by simp)
  have HK2 := Lib.hid k2
  clear hown2 hgrow2 hbl2 HS HO HAL hrow k1 k2 hB0 hB1 hB2 c0
  go_upto_region 4 with fail
  have hw := HW.out
  generalize (((w2.setCell ⟨g2, lk * 3, none⟩ (.int .u64 (s.key : Nat))).setCell ⟨g2, lk * 3 + 1, none⟩ (.int .i32 s.n)).setCell ⟨g2, lk * 3 + 2, none⟩ (.bool s.full)) = W at hw ⊢
  clear q0 q1 q2 p0 p1 p2 b0 b1 b2 HW
  have k2 : W.heap[w.heap.size + 2]? = _ := (hw.2.block (w.heap.size + 2) (by omega) (by simp; omega)).trans HK2.out
  have z0 : W.frozen? ⟨w.heap.size + 2, 0, none⟩ = false := (head_row k2).frozen 0
  have x0 : W.cell? ⟨w.heap.size + 2, 0, none⟩ = some (.slice none 0 0) := (head_row k2).cell (i := 0) (by simp)
  have HS1 := Lib.hid (one_set k2 (.slice (some ⟨g2, 0, none⟩) T.n cap))
  have hsW := hw.2.size
  have HRW := Lib.hid hw.1
  have HON := Lib.hid hw.2
  clear hw k2
  go_wp2_with fail
  have h1 := HS1.out
  generalize W.setCell ⟨w.heap.size + 2, 0, none⟩ (.slice (some ⟨g2, 0, none⟩) T.n cap) = W2 at h1 ⊢
  clear x0 z0
  obtain ⟨y0, h1⟩ := h1
  have hb2 : Below w.heap.size w w2 := HB.out.trans (HBL2.out.mono (by omega))
  have hbW : Below w.heap.size w W := hb2.trans (HON.out.below (by simp; omega) (by omega))
  have hbW2 : Below w.heap.size w W2 := hbW.trans (h1.below (by simp) (by omega))
  refine bodyPost_ret (v := tabV g2 T.n cap) (by simp [results, Try.results88, go_sem, y0]) rfl ⟨g2, cap, rfl, hbW2, ?_, by omega⟩
  have hrow := HRW.out.only h1 (by simp; omega)
  rw [← HT.out.2] at hrow
  exact TabRow.ref (T := T.lay s) hrow
end Go.Proofs.Ytnacmhljbnpdpaa
/- The program's table: what is told of it, and nothing changed. -/
namespace Go.Proofs.Ytnacmhljbnpdpaa
open Go Go.RowKit Go.Deep

theorem apart_mask (n : Int) (i : Nat) (hi : i < 31) : bits .and .i64 n (2 ^ i - 1) = n % 2 ^ i := by
  have hp := pow_le30 i hi
  have hq := pow_pos2 i
  have hm : (BitVec.ofInt 64 ((2 : Int) ^ i - 1)).toNat = 2 ^ i - 1 := by
    rw [BitVec.toNat_ofInt]
    have e : ((2 : Int) ^ i) = ((2 ^ i : Nat) : Int) := by simp
    rw [e] at hp hq ⊢
    omega
  have key : (BitVec.ofInt 64 n &&& BitVec.ofInt 64 ((2 : Int) ^ i - 1)).toNat = (n % ((2 ^ 64 : Nat) : Int)).toNat % 2 ^ i := by
    rw [BitVec.toNat_and, BitVec.toNat_ofInt, hm, Nat.and_two_pow_sub_one_eq_mod]
  have e0 : 0 ≤ n % ((2 ^ 64 : Nat) : Int) := Int.emod_nonneg _ (by decide)
  have e1 : (((n % ((2 ^ 64 : Nat) : Int)).toNat % 2 ^ i : Nat) : Int) = n % 2 ^ i := by
    rw [Int.natCast_emod, Int.toNat_of_nonneg e0]
    have hd : ((2 ^ i : Nat) : Int) ∣ ((2 ^ 64 : Nat) : Int) := Int.natCast_dvd_natCast.2 (Nat.pow_dvd_pow 2 (by omega))
    rw [Int.emod_emod_of_dvd n hd]
    simp
  show IntKind.i64.wrap ((BitVec.ofInt 64 n &&& BitVec.ofInt 64 ((2 : Int) ^ i - 1)).toNat : Nat) = n % 2 ^ i
  rw [key, e1, IntKind.wrap_i64]
  have v0 : 0 ≤ n % 2 ^ i := Int.emod_nonneg _ (by omega)
  have v1 : n % 2 ^ i < 2 ^ i := Int.emod_lt_of_pos _ hq
  omega

theorem apart_is (w : World) (x y n : Nat) (h : isSz n = true) (hx : x < n) (hy : y < n) :
    Calls Try.prog 98 #[.int .i64 (x : Nat), .int .i64 (y : Nat), .int .i64 (n : Nat)] w fun e w' => e = .returned (.int .i64 (away x y n : Nat)) ∧ w = w' := by
  obtain ⟨h1, h2⟩ := isSz_bounds h
  have H := Lib.hid h
  clear h
  go_enter Try.func98, Try.ntmps98
  go_wp2_with fail
  refine (isSize_is _ _ true H.out).mono ?_
  rintro e w' ⟨rfl, rfl⟩
  go_wp2
  go_ret
  obtain ⟨i, hi, hn⟩ := (isSz_iff _).1 H.out
  have e1 : ((away x y n : Nat) : Int) = ((y : Int) - x) % n := by
    rw [away_eq hx hy]
    split
    · rw [Int.emod_eq_of_lt (by omega) (by omega)]; omega
    · rw [← Int.add_emod_right, Int.emod_eq_of_lt (by omega) (by omega)]; omega
  rw [e1, hn]
  exact ⟨congrArg (fun z => Ending.returned (Value.int .i64 z)) (apart_mask _ i hi), rfl⟩

/- A row of slots, of any kind. -/
def RowT (t : TypeId) (w : World) (g m : Nat) (sl : Nat → Sl) : Prop := ∃ (N : Nat) (F : Nat → Value), w.rowIs g t N F ∧ m * 3 ≤ N ∧ ∀ p, p < m * 3 → F p = slV sl p
theorem rowT_put {t : TypeId} {w : World} {g m : Nat} {sl : Nat → Sl} (h : RowT t w g m sl) (i : Nat) (s : Sl) :
    RowT t (((w.setCell ⟨g, i * 3, none⟩ (.int .u64 (s.key : Nat))).setCell ⟨g, i * 3 + 1, none⟩ (.int .i32 s.n)).setCell ⟨g, i * 3 + 2, none⟩ (.bool s.full)) g m (fun j => if j = i then s else sl j) ∧
    Only [g] w (((w.setCell ⟨g, i * 3, none⟩ (.int .u64 (s.key : Nat))).setCell ⟨g, i * 3 + 1, none⟩ (.int .i32 s.n)).setCell ⟨g, i * 3 + 2, none⟩ (.bool s.full)) := by
  obtain ⟨N, F, hF, hN, hv⟩ := h
  refine ⟨⟨N, _, ((hF.set _ _).set _ _).set _ _, hN, fun p hp => ?_⟩, ((((Only.refl [g] w).setCell (by simp) _).setCell (by simp) _).setCell (by simp) _)⟩
  have key : ∀ j, j < 3 → slV (fun j => if j = i then s else sl j) (i * 3 + j) = slotW s j := fun j hj => by rw [slV_at _ _ _ hj, if_pos rfl]
  rcases split3 p i with h1 | rfl | rfl | rfl
  · have e : slV (fun j => if j = i then s else sl j) p = slV sl p := by unfold slV; show slotW (if p / 3 = i then s else sl (p / 3)) (p % 3) = _; rw [if_neg h1]
    rw [e, ← hv p hp]
    rw [if_neg (by omega), if_neg (by omega), if_neg (by omega)]
  · rw [show i * 3 = i * 3 + 0 from rfl, key 0 (by decide)]; simp [slotW]
  · rw [key 1 (by decide)]; simp [slotW]
  · rw [key 2 (by decide)]; simp [slotW]
theorem RowT.only {t : TypeId} {S : List Nat} {w w' : World} {g m : Nat} {sl : Nat → Sl} (h : RowT t w g m sl) (ho : Only S w w') (hg : g ∉ S) : RowT t w' g m sl := by
  obtain ⟨N, F, hF, hN, hv⟩ := h
  exact ⟨N, F, ho.row hF hg, hN, hv⟩
theorem RowT.cell {t : TypeId} {w : World} {g m : Nat} {sl : Nat → Sl} (h : RowT t w g m sl) (p : Nat) (hp : p < m * 3) : w.cell? ⟨g, p, none⟩ = some (slV sl p) ∧ w.frozen? ⟨g, p, none⟩ = false := by
  obtain ⟨N, F, hF, hN, hv⟩ := h
  rw [← hv p hp]
  exact ⟨hF.cell (by omega), hF.frozen p⟩
theorem RowT.lt {t : TypeId} {w : World} {g m : Nat} {sl : Nat → Sl} (h : RowT t w g m sl) : g < w.heap.size := by obtain ⟨N, F, hF, _⟩ := h; exact hF.lt
theorem RowT.sl {t : TypeId} {w : World} {g m : Nat} {sl : Nat → Sl} (h : RowT t w g m sl) (i : Nat) (hi : i < m) : SlAt w g i (sl i) :=
  ⟨by have := (h.cell (i * 3 + 0) (by omega)).1; rw [slV_at _ _ _ (by decide)] at this; exact this, by have := (h.cell (i * 3 + 1) (by omega)).1; rw [slV_at _ _ _ (by decide)] at this; exact this, by have := (h.cell (i * 3 + 2) (by omega)).1; rw [slV_at _ _ _ (by decide)] at this; exact this⟩
theorem RowT.free {t : TypeId} {w : World} {g m : Nat} {sl : Nat → Sl} (h : RowT t w g m sl) (i : Nat) (hi : i < m) : w.frozen? ⟨g, i * 3, none⟩ = false ∧ w.frozen? ⟨g, i * 3 + 1, none⟩ = false ∧ w.frozen? ⟨g, i * 3 + 2, none⟩ = false :=
  ⟨(h.cell (i * 3) (by omega)).2, (h.cell (i * 3 + 1) (by omega)).2, (h.cell (i * 3 + 2) (by omega)).2⟩
/- The program's table lies at p, its slots in block g; c: how many keys it says. -/
structure IxT (w : World) (p : Nat) (T : Tb) (g c : Nat) : Prop where
  tab : w.heap[p]? = some (.cells #[.slice (some ⟨g, 0, none⟩) T.n T.n, .int .i64 (c : Nat)] 106 (0, 0))
  row : RowT 103 w g T.n T.sl
theorem IxT.plt {w : World} {p : Nat} {T : Tb} {g c : Nat} (h : IxT w p T g c) : p < w.heap.size := (head_row h.tab).lt
theorem IxT.lt {w : World} {p : Nat} {T : Tb} {g c : Nat} (h : IxT w p T g c) : g < w.heap.size := h.row.lt
theorem IxT.sl {w : World} {p : Nat} {T : Tb} {g c : Nat} (h : IxT w p T g c) (i : Nat) (hi : i < T.n) : SlAt w g i (T.sl i) := h.row.sl i hi
theorem IxT.ne {w : World} {p : Nat} {T : Tb} {g c : Nat} (h : IxT w p T g c) : p ≠ g := by
  obtain ⟨N, F, hF, _⟩ := h.row
  exact block_ne (head_row h.tab) hF (by decide)
theorem IxT.only {S : List Nat} {w w' : World} {p : Nat} {T : Tb} {g c : Nat} (h : IxT w p T g c) (ho : Only S w w') (hp : p ∉ S) (hg : g ∉ S) : IxT w' p T g c :=
  ⟨(ho.block p h.plt hp).trans h.tab, h.row.only ho hg⟩
theorem IxT.below {w w' : World} {p : Nat} {T : Tb} {g c : Nat} (h : IxT w p T g c) (hb : Below w.heap.size w w') : IxT w' p T g c :=
  h.only (Only.of_below (S := []) hb) (by simp) (by simp)
theorem IxT.cells {w : World} {p : Nat} {T : Tb} {g c : Nat} (h : IxT w p T g c) : w.cell? ⟨p, 0, none⟩ = some (.slice (some ⟨g, 0, none⟩) T.n T.n) ∧ w.cell? ⟨p, 1, none⟩ = some (.int .i64 (c : Nat)) :=
  ⟨(head_row h.tab).cell (i := 0) (by simp), (head_row h.tab).cell (i := 1) (by simp)⟩
abbrev ptr (p : Nat) : Value := .pointer (some ⟨p, 0, none⟩)

theorem next_walk {w : World} {p : Nat} {T : Tb} {g c : Nat} (h : IxT w p T g c) (hn : T.n ≤ 1073741824) (x : Nat) (hx : x < T.n) :
    Calls Try.prog 83 #[ptr p, .int .i64 (x : Nat)] w fun e w' => e = .returned (.int .i64 ((x + 1) % T.n : Nat)) ∧ w = w' := by
  obtain ⟨c0, _⟩ := h.cells
  clear h
  go_enter Try.func83, Try.ntmps83
  go_wp2
  go_ret
  exact ⟨congrArg (fun z => Ending.returned (Value.int .i64 z)) (by rw [Int.natCast_emod]; rfl), rfl⟩

theorem home_is (w : World) (k n : Nat) (h : isSz n = true) :
    Calls Try.prog 82 #[.int .u64 (k : Nat), .int .i64 (n : Nat)] w fun e w' => e = .returned (.int .i64 (hm k n : Nat)) ∧ w' = w.alloc box :=
  (home_yes w k n h).mono fun _ _ ⟨h1, h2⟩ => ⟨h1.trans (congrArg (fun z => Ending.returned (Value.int .i64 z)) (by rw [hm_mixN]; exact (Int.natCast_emod _ _).symm)), h2⟩

theorem fromHome_walk {w : World} {p : Nat} {T : Tb} {g c : Nat} (h : IxT w p T g c) (hs : isSz T.n = true) (k x : Nat) (hx : x < T.n) :
    Calls Try.prog 97 #[ptr p, .int .u64 (k : Nat), .int .i64 (x : Nat)] w fun e w' => e = .returned (.int .i64 (away (hm k T.n) x T.n : Nat)) ∧ Below w.heap.size w w' := by
  obtain ⟨c0, _⟩ := h.cells
  have HH := Lib.hid (fun w => home_is w k T.n hs)
  have HA := Lib.hid (fun w => apart_is w (hm k T.n) x T.n hs (hm_lt k (by omega)) hx)
  clear h hs
  go_enter Try.func97, Try.ntmps97
  go_wp2_with fail
  refine (HH.out _).mono ?_
  rintro e w' ⟨rfl, rfl⟩
  go_wp2_with fail
  refine (HA.out _).mono ?_
  rintro e w' ⟨rfl, rfl⟩
  go_wp2
  go_ret
  exact ⟨rfl, (Below.refl _ _).alloc (Nat.le_refl _) _⟩

set_option maxHeartbeats 1000000 in
theorem look_walk {w : World} {p : Nat} {T : Tb} {g c : Nat} (h : IxT w p T g c) (ok : T.Ok) (hs : isSz T.n = true) (k : Nat) (hk : k < 18446744073709551616) :
    Calls Try.prog 65 #[ptr p, .int .u64 (k : Nat)] w fun e w' => e = .returned (.tuple #[.int .i64 (T.look k : Nat), .bool (T.there k)]) ∧ Below w.heap.size w w' := by
  have hp := ok.pos
  obtain ⟨_, hsz⟩ := isSz_bounds hs
  have hsz' : T.n ≤ 1073741824 := by omega
  obtain ⟨c0, _⟩ := h.cells
  have HH := Lib.hid (fun w => home_is w k T.n hs)
  have HX := Lib.hid h
  have HOK := Lib.hid ok
  have HST := Lib.hid (ok.steps_lt k)
  have HLK : Hid (T.look k = T.go k (T.steps k)) := Lib.hid rfl
  have H0 : Hid (hm k T.n = T.go k 0) := Lib.hid (by unfold Tb.go; rw [Nat.add_zero, Nat.mod_eq_of_lt (hm_lt k hp)])
  clear h hs ok
  go_enter Try.func65, Try.ntmps65
  go_wp2_with fail
  go_step3
  go_wp2_with fail
  refine (HH.out _).mono ?_
  rintro e w' ⟨rfl, rfl⟩
  rw [H0.out]
  have HB1 := Lib.hid ((Below.refl w.heap.size w).alloc (Nat.le_refl _) box)
  generalize w.alloc box = w1 at HB1 ⊢
  clear c0
  go_wp2_with fail
  go_step3
  go_wp2_with fail
  go_loopg [4, 5] (T.steps k) (fun gg s4 s5 wr => ∃ i : Nat, i + gg = T.steps k ∧ s4 = .int .i64 (T.go k i : Nat) ∧ s5 = .bool false ∧ Hid (Below w.heap.size w wr))
  case atStart => exact ⟨0, by omega, rfl, rfl, HB1⟩
  case round =>
    obtain ⟨i, hi, rfl, rfl, HBR⟩ := hrel
    have hst := HST.out
    have hxr := HX.out.below HBR.out
    obtain ⟨c0, _⟩ := hxr.cells
    obtain ⟨x, hx⟩ : ∃ x, T.go k i = x := ⟨_, rfl⟩
    have hxn : x < T.n := hx ▸ T.go_lt hp k i
    obtain ⟨q0, q1, q2⟩ := hxr.sl x hxn
    by_cases hii : i = T.steps k
    · have hlk : T.look k = x := by rw [HLK.out, ← hii, hx]
      have hstp := HOK.out.look_stops k
      rw [hlk] at hstp
      have HE : Hid (T.look k = x ∧ T.there k = (T.sl x).full) := Lib.hid ⟨hlk, by unfold Tb.there; rw [hlk]⟩
      have HSP := Lib.hid hstp
      rw [hx]
      obtain ⟨sx, hsx⟩ : ∃ sx, T.sl x = sx := ⟨_, rfl⟩
      rw [hsx] at q0 q1 q2 HSP HE
      obtain ⟨sk, sn, sf⟩ := sx
      clear hsx hstp hlk hii hi hx hxr
      cases sf
      · simp only at q0 q1 q2
        go_wp2
        exact bodyPost_ret (v := .tuple #[.int .i64 (x : Nat), .bool false]) (by simp [results, Try.results65, go_sem]) rfl ⟨by rw [HE.out.1, HE.out.2], HBR.out.alloc HBR.out.size _⟩
      · obtain rfl : sk = k := by
          rcases HSP.out with q | q
          · exact absurd q (by simp)
          · exact q
        simp only at q0 q1 q2
        go_wp2
        exact bodyPost_ret (v := .tuple #[.int .i64 (x : Nat), .bool true]) (by simp [results, Try.results65, go_sem]) rfl ⟨by rw [HE.out.1, HE.out.2], HBR.out.alloc HBR.out.size _⟩
    · have hlt : i < T.steps k := by omega
      obtain ⟨hf, hne⟩ := T.path k hlt
      have hnx := go_succ T k i
      rw [hx] at hf hne hnx ⊢
      obtain ⟨sx, hsx⟩ : ∃ sx, T.sl x = sx := ⟨_, rfl⟩
      rw [hsx] at q0 q1 q2 hf hne
      obtain ⟨sk, sn, sf⟩ := sx
      simp only at q0 q1 q2 hf hne
      subst hf
      have HXR := Lib.hid hxr
      clear hsx hx hxr
      have hneI : ((sk : Int) == (k : Int)) = false := by rw [beq_eq_false_iff_ne]; omega
      go_wp2_with fail
      refine (next_walk (HXR.out.below ((Below.refl _ _).alloc (Nat.le_refl _) _)) hsz' x hxn).mono ?_
      rintro e w' ⟨rfl, rfl⟩
      rw [hnx]
      go_wp2
      go_roundg (gk - 1)
      case measure => omega
      case rel => exact ⟨i + 1, by omega, rfl, rfl, Lib.hid (HBR.out.alloc HBR.out.size _)⟩

/- Behind what steps a key's slot is. -/
theorem Tb.Ok.steps_away {T : Tb} (ok : T.Ok) (k : Nat) : away (hm k T.n) (T.look k) T.n = T.steps k :=
  away_of (hm_lt k ok.pos) (ok.steps_lt k) rfl

theorem get_walk {w : World} {p : Nat} {T : Tb} {g c : Nat} (h : IxT w p T g c) (ok : T.Ok) (hs : isSz T.n = true) (k : Nat) (hk : k < 18446744073709551616) :
    Calls Try.prog 36 #[ptr p, .int .u64 (k : Nat)] w fun e w' => e = .returned (.tuple #[.int .i32 (T.get k).1, .bool (T.get k).2]) ∧ Below w.heap.size w w' := by
  have HL := Lib.hid (look_walk h ok hs k hk)
  have hlk := ok.look_lt k
  have HX := Lib.hid h
  have HGET : Hid (T.get k = ((T.sl (T.look k)).n, T.there k)) := Lib.hid rfl
  clear h ok hs
  go_enter Try.func36, Try.ntmps36
  go_wp2_with fail
  refine HL.out.mono ?_
  rintro e w1 ⟨rfl, hb⟩
  have hx := HX.out.below hb
  obtain ⟨c0, _⟩ := hx.cells
  obtain ⟨_, q1, _⟩ := hx.sl _ hlk
  have HB := Lib.hid hb
  clear hx hb
  obtain ⟨x, hx⟩ : ∃ x, T.look k = x := ⟨_, rfl⟩
  obtain ⟨b, hb⟩ : ∃ b, T.there k = b := ⟨_, rfl⟩
  rw [hx] at q1 hlk HGET ⊢
  rw [hb] at HGET ⊢
  clear hx hb
  go_wp2
  exact bodyPost_ret (v := .tuple #[.int .i32 (T.sl x).n, .bool b]) (by simp [results, Try.results36, go_sem]) rfl ⟨by rw [HGET.out], HB.out⟩
end Go.Proofs.Ytnacmhljbnpdpaa
/- The document's own table: New, Put. -/
namespace Go.Proofs.Ytnacmhljbnpdpaa
open Go Go.RowKit Go.Deep

theorem one_heap {w1 : World} {g : Nat} {t : TypeId} {a0 : Value} (hB : w1.heap[g]? = some (.cells #[a0] t (0, 0))) (b0 : Value) :
    (w1.setCell ⟨g, 0, none⟩ b0).heap[g]? = some (.cells #[b0] t (0, 0)) ∧ Only [g] w1 (w1.setCell ⟨g, 0, none⟩ b0) :=
  ⟨by simp [World.setCell, Array.getElem?_modify, hB], (Only.refl [g] w1).setCell (by simp) _⟩
theorem RefT.only {S : List Nat} {w w' : World} {T : Tb} {g : Nat} (h : RefT w T g) (ho : Only S w w') (hg : g ∉ S) : RefT w' T g :=
  ⟨Nat.lt_of_lt_of_le h.lt ho.size, fun i hi => by
    obtain ⟨q0, q1, q2⟩ := h.sl i hi
    have e := fun (j : Nat) => World.cell?_of_block (w := w) (w' := w') (a := ⟨g, j, none⟩) (ho.block g h.lt hg)
    exact ⟨(e _).trans q0, (e _).trans q1, (e _).trans q2⟩⟩

theorem make_tab (n : Nat) (hn : n ≤ 1000000000) (w : World) :
    ∃ cs : Array Value, (Instr.makeSlice 26 (.int .i64 n) (.int .i64 n)).run Try.prog w = .ok (.slice (some ⟨w.heap.size, 0, none⟩) n n) (w.alloc (.cells cs 140)) ∧
      cs.size = n * 3 ∧ ∀ p, p < cs.size → cs[p]? = some (slV (fun _ => Sl.no) p) := by
  have hinfo : (Try.prog.info? 140).map (fun i => (i.zero, i.size, i.bytes)) = some (some (.agg #[.int .u64 0, .int .i32 0, .bool false]), 3, 16) := by kernel_rfl
  obtain ⟨i, hi, hz0, hz1, hz2⟩ := info_parts hinfo
  have hr := run_make (P := Try.prog) w 26 140 i _ (by kernel_rfl) hi hz0 .i64 .i64 n n (by omega) (by omega) (by rw [hz2]; omega) (by omega)
  refine ⟨_, by simpa using hr, ?_⟩
  rw [hz1]
  refine ⟨size_madeCells _ _, fun p hp => ?_⟩
  rw [size_madeCells] at hp
  have hp3 : p % 3 < 3 := Nat.mod_lt _ (by decide)
  simp only [madeCells, Value.cells, Array.getElem?_map]
  rw [Array.getElem?_range, if_pos hp]
  simp only [Option.map_some, Option.some.injEq, slV]
  generalize p % 3 = j at hp3
  match j, hp3 with
  | 0, _ => rfl
  | 1, _ => rfl
  | 2, _ => rfl
theorem tabRow_new {w : World} {g m : Nat} {cs : Array Value} (hb : w.heap[g]? = some (.cells cs 140 (0, 0))) (hsz : cs.size = m * 3) (hcs : ∀ p, p < cs.size → cs[p]? = some (slV (fun _ => Sl.no) p)) : TabRow w g m (fun _ => Sl.no) :=
  ⟨_, _, head_row hb, by omega, fun p hp => by
    have := hcs p (by omega)
    simp [Array.getD_eq_getD_getElem?, this]⟩
theorem good_sz {n : Nat} (hp : ∃ p, n = 2 ^ p) (hn : n ≤ 1000000000) : isSz n = true := by
  obtain ⟨p, rfl⟩ := hp
  refine isSz_yes (k := p) ?_ (by simp)
  rcases Nat.lt_or_ge p 31 with h | h
  · exact h
  · have : 2 ^ 31 ≤ 2 ^ p := Nat.pow_le_pow_right (by decide) h
    omega

theorem rnewtab_walk (w : World) :
    Calls Try.prog 46 #[] w (TabPost w Tb.new id) := by
  obtain ⟨cs, hmk, hsz, hcs⟩ := make_tab 8 (by omega) (w.alloc (.cells #[.slice none 0 0] 28))
  have e8 : ((8 : Nat) : Int) = 8 := rfl
  have ez : (w.alloc (.cells #[.slice none 0 0] 28)).heap.size = w.heap.size + 1 := by simp
  rw [e8, ez] at hmk
  obtain ⟨X, hX⟩ : ∃ X, X = (w.alloc (.cells #[.slice (some ⟨w.heap.size + 1, 0, none⟩) 8 8] 28)) := ⟨_, rfl⟩
  have hXz : X.heap.size = w.heap.size + 1 := by rw [hX]; simp
  have hXb : Below w.heap.size w X := hX ▸ (Below.refl w.heap.size w).alloc (Nat.le_refl _) _
  have k1 := heap_alloc_new X (.cells cs 140)
  rw [hXz] at k1
  have hbW := hXb.alloc (by omega) (.cells cs 140)
  have htr := TabRow.ref (T := Tb.new) (tabRow_new (m := 8) k1 hsz hcs)
  rw [hX] at hbW htr
  have HTR := Lib.hid htr
  have HB := Lib.hid hbW
  clear hsz hcs k1 hbW htr hX hXz hXb
  go_enter Try.func46, Try.ntmps46
  go_wp2_with fail
  exact bodyPost_ret (v := tabV (w.heap.size + 1) 8 8) (by simp [results, Try.results46, go_sem]) rfl ⟨w.heap.size + 1, 8, rfl, HB.out, HTR.out, by omega⟩

theorem Tb.growUp_n (T : Tb) : ∀ m, (T.growUp m).n = 2 * T.n
  | 0 => rfl
  | m + 1 => by
    unfold Tb.growUp
    split
    · rw [Tb.lay_n]; exact T.growUp_n m
    · exact T.growUp_n m
end Go.Proofs.Ytnacmhljbnpdpaa
/- The program's table: Len. -/
namespace Go.Proofs.Ytnacmhljbnpdpaa
open Go Go.RowKit Go.Deep

theorem ixlen_walk {w : World} {p : Nat} {T : Tb} {g c : Nat} (h : IxT w p T g c) :
    Calls Try.prog 42 #[ptr p] w fun e w' => e = .returned (.int .i64 (c : Nat)) ∧ w = w' := by
  obtain ⟨_, c1⟩ := h.cells
  clear h
  go_enter Try.func42, Try.ntmps42
  go_wp2
  go_ret
  exact ⟨rfl, rfl⟩
end Go.Proofs.Ytnacmhljbnpdpaa
/- The program's table: Slots. -/
namespace Go.Proofs.Ytnacmhljbnpdpaa
open Go Go.RowKit Go.Deep

theorem slots_walk {w : World} {p : Nat} {T : Tb} {g c : Nat} (h : IxT w p T g c) :
    Calls Try.prog 52 #[ptr p] w fun e w' => e = .returned (.int .i64 (T.n : Nat)) ∧ w = w' := by
  obtain ⟨c0, _⟩ := h.cells
  clear h
  go_enter Try.func52, Try.ntmps52
  go_wp2
  go_ret
  exact ⟨rfl, rfl⟩
end Go.Proofs.Ytnacmhljbnpdpaa
