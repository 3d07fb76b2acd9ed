/- The document's own numerals: digits and Number tell what strconv.Itoa tells. -/
import Derived.Test.YtmebobflemfnfaaDoorProg
import Derived.WalkKit
import Derived.Lib.ItoaNum
import Derived.Lib.Hide
import Derived.Laws.Concat
import Derived.Laws.BytesArg
namespace Go.Proofs.YtmebobflemfnfaaDoor
open Go Go.RowKit

theorem conv_one (w : World) (z : Int) : (convert 54 9 (.slice (some ⟨w.heap.size, 0, none⟩) 1 1)).run Tryd.prog (w.alloc (.cells #[.int .u8 z] 5)) = .ok (.string (strOfNums [z])) (w.alloc (.cells #[.int .u8 z] 5)) :=
  run_convert_bytes_arg _ 54 5 Tryd.underlying54 Tryd.underlying5 w.heap.size 0 1 1 [z] rfl (fun i hi => by
    obtain rfl : i = 0 := by omega
    simp) 9 Tryd.underlying9

theorem dig_one (u : Nat) (h : u < 10) : strOfNums [48 + (u : Int)] = ⟨(Lib.decDigits u).toArray⟩ := by
  rw [Lib.decDigits_one h]
  have : u = 0 ∨ u = 1 ∨ u = 2 ∨ u = 3 ∨ u = 4 ∨ u = 5 ∨ u = 6 ∨ u = 7 ∨ u = 8 ∨ u = 9 := by omega
  rcases this with rfl | rfl | rfl | rfl | rfl | rfl | rfl | rfl | rfl | rfl <;> rfl
theorem dig_more (u : Nat) (h : ¬ u < 10) : (⟨(Lib.decDigits (u / 10)).toArray⟩ : ByteArray) ++ strOfNums [48 + ((u % 10 : Nat) : Int)] = ⟨(Lib.decDigits u).toArray⟩ := by
  have e : Lib.decDigits u = Lib.decDigits (u / 10) ++ [UInt8.ofNat (48 + u % 10)] := by rw [Lib.decDigits, dif_neg h]
  have hd : strOfNums [48 + ((u % 10 : Nat) : Int)] = ⟨#[UInt8.ofNat (48 + u % 10)]⟩ := by
    rw [dig_one (u % 10) (by omega), Lib.decDigits_one (by omega)]
  rw [hd, e]
  apply ByteArray.ext
  simp [ByteArray.data_append]
theorem len_small : ∀ (k u : Nat), u < 10 ^ (k + 1) → (Lib.decDigits u).length ≤ k + 1
  | 0, u, h => by rw [Lib.decDigits_one (by omega)]; simp
  | k + 1, u, h => by
    by_cases hu : u < 10
    · rw [Lib.decDigits_one hu]; simp
    · have e : Lib.decDigits u = Lib.decDigits (u / 10) ++ [UInt8.ofNat (48 + u % 10)] := by rw [Lib.decDigits, dif_neg hu]
      have := len_small k (u / 10) (by rw [Nat.pow_succ] at h; omega)
      rw [e, List.length_append, List.length_singleton]; omega
theorem dec_len (u : Nat) (h : u < 100000000000000000000) : (Lib.decDigits u).length ≤ 20 := len_small 19 u h
theorem dec_size (u : Nat) (h : u < 100000000000000000000) : (⟨(Lib.decDigits u).toArray⟩ : ByteArray).size ≤ 20 := by
  have := dec_len u h
  simpa [ByteArray.size] using this

theorem run_more (u : Nat) (h : u < 100000000000000000000) (z : Int) : (Op.stringOp .add (⟨(Lib.decDigits u).toArray⟩ : ByteArray) (strOfNums [z])).run Tryd.prog = fun w => .ok (.string ((⟨(Lib.decDigits u).toArray⟩ : ByteArray) ++ strOfNums [z])) w :=
  funext fun w => run_string_add_sum (w := w) _ _ (by have := dec_size u h; rw [strOfNums_size, List.length_singleton]; omega)

set_option maxRecDepth 100000 in
theorem digits_nat (k : Nat) : ∀ (u : Nat) (w : World), u ≤ k → u < 9223372036854775808 →
    Calls Tryd.prog 25 #[.int .i64 (u : Int)] w fun e w' => e = .returned (.string ⟨(Lib.decDigits u).toArray⟩) ∧ Below w.heap.size w w' := by
  induction k with
  | zero =>
    intro u w hk hu
    obtain rfl : u = 0 := by omega
    have hc := conv_one
    go_enter Tryd.func25, Tryd.ntmps25
    go_wp2_with fail
    go_ret
    exact ⟨congrArg (fun s => Ending.returned (Value.string s)) (dig_one 0 (by omega)), (Below.refl _ _).alloc (Nat.le_refl _) _⟩
  | succ k ih =>
    intro u w hk hu
    have IH := Lib.hid ih
    clear ih
    have hc := conv_one
    have h0 : ¬ ((u : Int) % 10 < 0) := by omega
    by_cases h : u < 10
    · have h1 : (((u : Int) / 10) == 0) = true := by simp; omega
      have HE := Lib.hid (show strOfNums [48 + (u : Int) % 10] = ⟨(Lib.decDigits u).toArray⟩ by rw [show (u : Int) % 10 = (u : Int) by omega]; exact dig_one u h)
      go_enter Tryd.func25, Tryd.ntmps25
      go_wp2_with fail
      go_ret
      exact ⟨congrArg (fun s => Ending.returned (Value.string s)) HE.out, (Below.refl _ _).alloc (Nat.le_refl _) _⟩
    · have h1 : (((u : Int) / 10) == 0) = false := by simp; omega
      have HE := Lib.hid (show (⟨(Lib.decDigits (u / 10)).toArray⟩ : ByteArray) ++ strOfNums [48 + (u : Int) % 10] = ⟨(Lib.decDigits u).toArray⟩ by rw [show (u : Int) % 10 = ((u % 10 : Nat) : Int) by omega]; exact dig_more u h)
      have hr := run_more (u / 10) (by omega) (48 + (u : Int) % 10)
      go_enter Tryd.func25, Tryd.ntmps25
      go_wp2_with fail
      rw [show ((u : Int) / 10) = ((u / 10 : Nat) : Int) by omega]
      refine (IH.out (u / 10) _ (by omega) (by omega)).mono ?_
      rintro e w' ⟨rfl, hb⟩
      go_wp2_with fail
      go_ret
      exact ⟨congrArg (fun s => Ending.returned (Value.string s)) HE.out, ((Below.refl _ _).alloc (Nat.le_refl _) _).trans (hb.mono (by simp))⟩

theorem tmod_neg (u : Nat) : (-(u : Int)).tmod 10 = -((u % 10 : Nat) : Int) := by
  rw [Int.neg_tmod, Int.tmod_eq_emod_of_nonneg (by omega)]; omega
theorem tdiv_neg (u : Nat) : (-(u : Int)).tdiv 10 = -((u / 10 : Nat) : Int) := by
  rw [Int.neg_tdiv, Int.tdiv_eq_ediv_of_nonneg (by omega)]; omega

set_option maxRecDepth 100000 in
theorem digits_neg (k : Nat) : ∀ (n : Int) (w : World), n < 0 → (-n).toNat ≤ k → -9223372036854775808 ≤ n →
    Calls Tryd.prog 25 #[.int .i64 n] w fun e w' => e = .returned (.string ⟨(Lib.decDigits (-n).toNat).toArray⟩) ∧ Below w.heap.size w w' := by
  induction k with
  | zero => intro n w h1 h2; omega
  | succ k ih =>
    intro n w hn hk hlo
    have IH := Lib.hid ih
    clear ih
    have hc := conv_one
    obtain ⟨u, hu⟩ : ∃ u : Nat, n = -(u : Int) := ⟨(-n).toNat, by omega⟩
    have e1 : n.tmod 10 = -((u % 10 : Nat) : Int) := by rw [hu]; exact tmod_neg u
    have e2 : n.tdiv 10 = -((u / 10 : Nat) : Int) := by rw [hu]; exact tdiv_neg u
    have hu2 : (-n).toNat = u := by omega
    rw [hu2] at hk ⊢
    have HU := Lib.hid hu
    clear hu hu2
    generalize hd : n.tmod 10 = d at *
    generalize hq : n.tdiv 10 = q at *
    have d1 : -9 ≤ d := by omega
    have d2 : d ≤ 0 := by omega
    have q1 : -922337203685477580 ≤ q := by have := HU.out; omega
    have q2 : q ≤ 0 := by omega
    have hun : u < 100000000000000000000 := by have := HU.out; omega
    have hE : strOfNums [48 + -d] = strOfNums [48 + ((u % 10 : Nat) : Int)] := by rw [show -d = ((u % 10 : Nat) : Int) by omega]
    have E1 := Lib.hid e1
    have E2 := Lib.hid e2
    have HE := Lib.hid hE
    have hr := run_more (u / 10) (by omega)
    clear e1 e2 hE
    by_cases hu10 : u < 10
    · have h1 : (q == 0) = true := by have := E2.out; simp; omega
      have HF := Lib.hid ((dig_one u hu10))
      by_cases h0 : d < 0
      · go_enter Tryd.func25, Tryd.ntmps25
        go_wp2_with fail
        go_ret
        refine ⟨congrArg (fun s => Ending.returned (Value.string s)) ?_, (Below.refl _ _).alloc (Nat.le_refl _) _⟩
        rw [← HF.out, show (u : Int) = -d by have := E1.out; omega]
      · go_enter Tryd.func25, Tryd.ntmps25
        go_wp2_with fail
        go_ret
        refine ⟨congrArg (fun s => Ending.returned (Value.string s)) ?_, (Below.refl _ _).alloc (Nat.le_refl _) _⟩
        rw [← HF.out, show (u : Int) = d by have := E1.out; omega]
    · have h1 : (q == 0) = false := by have := E2.out; simp; omega
      have HF := Lib.hid (dig_more u hu10)
      have q3 : q < 0 := by have := E2.out; omega
      have q4 : (-q).toNat = u / 10 := by have := E2.out; omega
      have Q4 := Lib.hid q4
      clear q4
      by_cases h0 : d < 0
      · go_enter Tryd.func25, Tryd.ntmps25
        go_wp2_with fail
        refine (IH.out q _ q3 (by rw [Q4.out]; omega) (by omega)).mono ?_
        rintro e w' ⟨rfl, hb⟩
        rw [Q4.out]
        go_wp2_with fail
        go_ret
        refine ⟨congrArg (fun s => Ending.returned (Value.string s)) ?_, ((Below.refl _ _).alloc (Nat.le_refl _) _).trans (hb.mono (by simp))⟩
        rw [← HF.out, ← HE.out]
      · go_enter Tryd.func25, Tryd.ntmps25
        go_wp2_with fail
        refine (IH.out q _ q3 (by rw [Q4.out]; omega) (by omega)).mono ?_
        rintro e w' ⟨rfl, hb⟩
        rw [Q4.out]
        go_wp2_with fail
        go_ret
        refine ⟨congrArg (fun s => Ending.returned (Value.string s)) ?_, ((Below.refl _ _).alloc (Nat.le_refl _) _).trans (hb.mono (by simp))⟩
        rw [← HF.out, show ((u % 10 : Nat) : Int) = d by have := E1.out; omega]

set_option maxRecDepth 100000 in
theorem number_any (n : Int) (w : World) (h1 : -9223372036854775808 ≤ n) (h2 : n ≤ 9223372036854775807) :
    Calls Tryd.prog 16 #[.int .i64 n] w fun e w' => e = .returned (.string ⟨(Lib.itoa n).toArray⟩) ∧ Below w.heap.size w w' := by
  have hc := conv_one
  by_cases h0 : n < 0
  · have HI := Lib.hid (show (⟨#[45]⟩ : ByteArray) ++ ⟨(Lib.decDigits (-n).toNat).toArray⟩ = ⟨(Lib.itoa n).toArray⟩ by
      unfold Lib.itoa; rw [if_pos h0, show n.natAbs = (-n).toNat by omega]; apply ByteArray.ext; simp [ByteArray.data_append])
    have hr : (Op.stringOp .add (⟨#[45]⟩ : ByteArray) (⟨(Lib.decDigits (-n).toNat).toArray⟩ : ByteArray)).run Tryd.prog = fun w => .ok (.string ((⟨#[45]⟩ : ByteArray) ++ ⟨(Lib.decDigits (-n).toNat).toArray⟩)) w :=
      funext fun w => run_string_add_sum (w := w) _ _ (by have := dec_size (-n).toNat (by omega); have h1 : (⟨#[45]⟩ : ByteArray).size = 1 := rfl; omega)
    go_enter Tryd.func16, Tryd.ntmps16
    go_wp2_with fail
    refine (digits_neg (-n).toNat n _ h0 (Nat.le_refl _) h1).mono ?_
    rintro e w' ⟨rfl, hb⟩
    go_wp2_with fail
    go_ret
    exact ⟨congrArg (fun s => Ending.returned (Value.string s)) HI.out, hb⟩
  · obtain ⟨u, rfl⟩ : ∃ u : Nat, n = (u : Int) := ⟨n.toNat, by omega⟩
    have HI := Lib.hid (show Lib.itoa (u : Int) = Lib.decDigits u by unfold Lib.itoa; rw [if_neg h0]; simp)
    by_cases hu : u < 10
    · have HF := Lib.hid (dig_one u hu)
      go_enter Tryd.func16, Tryd.ntmps16
      go_wp2_with fail
      go_ret
      exact ⟨congrArg (fun s => Ending.returned (Value.string s)) (by rw [HI.out]; exact HF.out), (Below.refl _ _).alloc (Nat.le_refl _) _⟩
    · go_enter Tryd.func16, Tryd.ntmps16
      go_wp2_with fail
      refine (digits_nat u u _ (Nat.le_refl _) (by omega)).mono ?_
      rintro e w' ⟨rfl, hb⟩
      go_wp2_with fail
      go_ret
      exact ⟨congrArg (fun s => Ending.returned (Value.string s)) (by rw [HI.out]), hb⟩
end Go.Proofs.YtmebobflemfnfaaDoor
