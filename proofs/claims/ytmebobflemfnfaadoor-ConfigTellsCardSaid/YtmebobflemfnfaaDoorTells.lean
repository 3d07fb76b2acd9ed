/- The walk of the law ConfigTells. -/
import Derived.Test.YtmebobflemfnfaaDoorAwake
import Derived.Test.YtmebobflemfnfaaDoorNum
import Derived.Test.YtmebobflemfnfaaDoorBare
import Derived.Lib.AppendIntMem
namespace Go.Proofs.YtmebobflemfnfaaDoor
open Go Go.RowKit

/- strconv's table, as its own text lays it. -/
def Pow (w : World) : Prop := Lib.TabIs Tryd.prog w "internal/strconv.uint64pow10" .u64 Lib.pow10Tab
theorem below_grow (w : World) (k : Nat) (os : Array Obj) : Below w.heap.size w (Sort.grow (w.drewN k) os) :=
  ⟨rfl, rfl, rfl, by simp [Sort.grow], fun j hj => by simp [Sort.grow, Array.getElem?_append_left hj]⟩
theorem tells_any (w : World) (n : Int) (h1 : -9223372036854775808 ≤ n) (h2 : n ≤ 9223372036854775807) (ht : Pow w) : TellsN w n ⟨(Lib.itoa n).toArray⟩ := fun w1 hb =>
  (Tryd.strconv_Itoa n h1 h2 w1 (Lib.tabBelow_of_tabIs ht w1 hb)).mono fun _ _ ⟨he, k, os, hw⟩ => ⟨he, hw ▸ below_grow w1 k os⟩
theorem Pow.below {w w' : World} (h : Pow w) (hb : Below w.heap.size w w') : Pow w' := Lib.tabBelow_of_tabIs h w' hb

theorem itoa_size (n : Int) (h1 : -9223372036854775808 ≤ n) (h2 : n ≤ 9223372036854775807) : (⟨(Lib.itoa n).toArray⟩ : ByteArray).size ≤ 21 := by
  unfold Lib.itoa
  split
  · have := dec_len n.natAbs (by omega); simp [ByteArray.size]; omega
  · have := dec_len n.toNat (by omega); simp [ByteArray.size]; omega

theorem error_errno2 (w : World) (a : Nat) (f : ByteArray) (n : Int) (t : ByteArray) (c : Int) (hb : BadAt w a f n (.iface 32 (.int .i64 c))) (hc : c = 1 ∨ c = 2 ∨ c = 3) (ht : TellsN w n t) (hlen : f.size + t.size + 20 ≤ 140737488355328) :
    Calls Tryd.prog 17 #[.pointer (some ⟨a, 0, none⟩)] w fun e w' => e = .returned (.string (f ++ (⟨#[58, 32]⟩ : ByteArray) ++ t ++ (⟨#[58, 32]⟩ : ByteArray) ++ enText c)) ∧ Below w.heap.size w w' := by
  refine (error_errno w a f n t c hb hc ht hlen).mono ?_
  rintro e w' ⟨rfl, hb⟩
  refine ⟨congrArg (fun s => Ending.returned (Value.string s)) ?_, hb⟩
  apply ByteArray.ext
  apply Array.toList_inj.1
  simp [ByteArray.data_append]
theorem error_bare2 (w : World) (a : Nat) (f : ByteArray) (n : Int) (t : ByteArray) (hb : BadAt w a f n .nilIface) (ht : TellsN w n t) (hlen : f.size + t.size + 20 ≤ 140737488355328) :
    Calls Tryd.prog 17 #[.pointer (some ⟨a, 0, none⟩)] w fun e w' => e = .returned (.string (f ++ (⟨#[58, 32]⟩ : ByteArray) ++ t)) ∧ Below w.heap.size w w' := by
  refine (error_bare w a f n t hb ht hlen).mono ?_
  rintro e w' ⟨rfl, hb⟩
  refine ⟨congrArg (fun s => Ending.returned (Value.string s)) ?_, hb⟩
  apply ByteArray.ext
  apply Array.toList_inj.1
  simp [ByteArray.data_append]

theorem run_add (a b : ByteArray) (h : a.size + b.size ≤ 1000) : (Op.stringOp .add a b).run Tryd.prog = fun w => .ok (.string (a ++ b)) w :=
  funext fun w => run_string_add_sum (w := w) a b (by omega)

set_option maxRecDepth 100000 in
set_option maxHeartbeats 4000000 in
theorem tells_long (w : World) (f : ByteArray) (n : Int) (m0 m1 : Nat) (hf : 100 < f.size) (hmax : f.size ≤ maxLen) (hg : ErrT w) :
    Calls Tryd.prog 6 #[.string f, .int .i64 n, .agg #[.int .u8 (m0 : Int), .int .u8 (m1 : Int)]] w fun e w' => e = .returned (.bool true) ∧ Below w.heap.size w w' := by
  unfold maxLen at hmax
  have b0 := (Below.refl w.heap.size w).alloc (Nat.le_refl _) (.cells #[.int .u8 (m0 : Int), .int .u8 (m1 : Int)] 37)
  have HG := Lib.hid (hg.below b0 hg.lt)
  clear hg
  go_enter Tryd.func6, Tryd.ntmps6
  go_wp2_with fail
  refine (awake_true _ HG.out).mono ?_
  rintro e w1 ⟨rfl, hb1⟩
  have k1 : w1.cell? ⟨w.heap.size, 1, none⟩ = some (.int .u8 (m1 : Int)) := (hb1.cell (p := ⟨w.heap.size, 1, none⟩) (by simp)).trans (by simp)
  have BB1 := Lib.hid (b0.trans (hb1.mono b0.size))
  clear hb1
  go_wp2_with fail
  go_ret
  exact ⟨rfl, BB1.out⟩

set_option maxRecDepth 100000 in
set_option maxHeartbeats 4000000 in
theorem tells_short (w : World) (f : ByteArray) (n : Int) (m0 m1 : Nat) (hm0 : m0 < 256) (hm1 : m1 < 256) (hf : ¬ 100 < f.size) (h1 : -9223372036854775808 ≤ n) (h2 : n ≤ 9223372036854775807) (hg : ErrT w) (hp : Pow w) :
    Calls Tryd.prog 6 #[.string f, .int .i64 n, .agg #[.int .u8 (m0 : Int), .int .u8 (m1 : Int)]] w fun e w' => e = .returned (.bool true) ∧ Below w.heap.size w w' := by
  have b0 := (Below.refl w.heap.size w).alloc (Nat.le_refl _) (.cells #[.int .u8 (m0 : Int), .int .u8 (m1 : Int)] 37)
  have HG := Lib.hid (hg.below b0 hg.lt)
  have HP := Lib.hid hp
  have hsz := itoa_size n h1 h2
  have hsep : (⟨#[58, 32]⟩ : ByteArray).size = 2 := rfl
  have hc : (1 + (m0 : Int) % 3 = 1 ∨ 1 + (m0 : Int) % 3 = 2 ∨ 1 + (m0 : Int) % 3 = 3) := by omega
  have hen := enText_size (1 + (m0 : Int) % 3)
  have qE := eqlEE
  generalize ht : (⟨(Lib.itoa n).toArray⟩ : ByteArray) = t at *
  have a1 := run_add f (⟨#[58, 32]⟩ : ByteArray) (by omega)
  have a2 := run_add (f ++ (⟨#[58, 32]⟩ : ByteArray)) t (by rw [ByteArray.size_append]; omega)
  have a3 := run_add (f ++ (⟨#[58, 32]⟩ : ByteArray) ++ t) (⟨#[58, 32]⟩ : ByteArray) (by rw [ByteArray.size_append, ByteArray.size_append]; omega)
  have a4 := run_add (f ++ (⟨#[58, 32]⟩ : ByteArray) ++ t ++ (⟨#[58, 32]⟩ : ByteArray)) (enText (1 + (m0 : Int) % 3)) (by rw [ByteArray.size_append, ByteArray.size_append, ByteArray.size_append]; omega)
  have HT := Lib.hid ht
  have HC := Lib.hid hc
  clear hg hp hc ht hen hsep
  go_enter Tryd.func6, Tryd.ntmps6
  go_wp2_with fail
  refine (awake_true _ HG.out).mono ?_
  rintro e w1 ⟨rfl, hb1⟩
  have k1 : w1.cell? ⟨w.heap.size, 1, none⟩ = some (.int .u8 (m1 : Int)) := (hb1.cell (p := ⟨w.heap.size, 1, none⟩) (by simp)).trans (by simp)
  have k0 : w1.cell? ⟨w.heap.size, 0, none⟩ = some (.int .u8 (m0 : Int)) := (hb1.cell (p := ⟨w.heap.size, 0, none⟩) (by simp)).trans (by simp)
  have BB1 := Lib.hid (b0.trans (hb1.mono b0.size))
  have HG1 := Lib.hid (HG.out.below hb1 HG.out.lt)
  clear hb1
  have b2 := ((Below.refl w1.heap.size w1).alloc (Nat.le_refl _) (.cells #[.string f, .int .i64 n, .iface 32 (.int .i64 (1 + (m0 : Int) % 3))] 40)).alloc (by simp) (.cells #[.string f, .int .i64 n, .nilIface] 40)
  have hbA : BadAt ((w1.alloc (.cells #[.string f, .int .i64 n, .iface 32 (.int .i64 (1 + (m0 : Int) % 3))] 40)).alloc (.cells #[.string f, .int .i64 n, .nilIface] 40)) w1.heap.size f n (.iface 32 (.int .i64 (1 + (m0 : Int) % 3))) := by
    unfold BadAt; rw [Below.heap_alloc _ _ _ (by simp)]; exact heap_alloc_new _ _ _ rfl
  have hbB : BadAt ((w1.alloc (.cells #[.string f, .int .i64 n, .iface 32 (.int .i64 (1 + (m0 : Int) % 3))] 40)).alloc (.cells #[.string f, .int .i64 n, .nilIface] 40)) (w1.heap.size + 1) f n .nilIface := heap_alloc_new _ _ _ (by simp)
  have HA := Lib.hid hbA
  have HB := Lib.hid hbB
  have HG2 := Lib.hid (HG1.out.below b2 HG1.out.lt)
  have BB2 := Lib.hid (BB1.out.trans (b2.mono BB1.out.size))
  clear hbA hbB b2
  go_wp2_with fail
  refine (field_bad _ _ _ _ _ HA.out HG2.out).mono ?_
  rintro e w3 ⟨rfl, hb3⟩
  have HA3 := Lib.hid (HA.out.below hb3 HA.out.lt)
  have HB3 := Lib.hid (HB.out.below hb3 HB.out.lt)
  have HG3 := Lib.hid (HG2.out.below hb3 HG2.out.lt)
  have BB3 := Lib.hid (BB2.out.trans (hb3.mono BB2.out.size))
  clear hb3 HA HB HG2 BB2 k0 k1
  go_wp2_with fail
  refine (wrap_chain _ 1 _ (1 + (m0 : Int) % 3) m1 hm1 ⟨_, _, _, _, rfl, HA3.out, rfl⟩).mono ?_
  rintro e w4 ⟨v, rfl, hch, hb4⟩
  have HA4 := Lib.hid (HA3.out.below hb4 HA3.out.lt)
  have HB4 := Lib.hid (HB3.out.below hb4 HB3.out.lt)
  have HG4 := Lib.hid (HG3.out.below hb4 HG3.out.lt)
  have BB4 := Lib.hid (BB3.out.trans (hb4.mono BB3.out.size))
  have HC4 := Lib.hid hch
  clear hb4 hch HA3 HB3 HG3 BB3
  go_wp2_with fail
  refine (number_any n _ h1 h2).mono ?_
  rintro e w5 ⟨rfl, hb5⟩
  rw [HT.out]
  have HA5 := Lib.hid (HA4.out.below hb5 HA4.out.lt)
  have HB5 := Lib.hid (HB4.out.below hb5 HB4.out.lt)
  have HG5 := Lib.hid (HG4.out.below hb5 HG4.out.lt)
  have BB5 := Lib.hid (BB4.out.trans (hb5.mono BB4.out.size))
  have HC5 := Lib.hid (HC4.out.below hb5 rfl)
  clear hb5 HA4 HB4 HG4 BB4 HC4
  go_wp2_with fail
  have ht5 : TellsN w5 n t := by have := tells_any w5 n h1 h2 (HP.out.below BB5.out); rw [HT.out] at this; exact this
  have HT5 := Lib.hid ht5
  clear ht5
  refine (error_errno2 _ _ f n t _ HA5.out HC.out HT5.out (by omega)).mono ?_
  rintro e w6 ⟨rfl, hb6⟩
  have HA6 := Lib.hid (HA5.out.below hb6 HA5.out.lt)
  have HB6 := Lib.hid (HB5.out.below hb6 HB5.out.lt)
  have HG6 := Lib.hid (HG5.out.below hb6 HG5.out.lt)
  have BB6 := Lib.hid (BB5.out.trans (hb6.mono BB5.out.size))
  have HC6 := Lib.hid (HC5.out.below hb6 rfl)
  clear hb6 HA5 HB5 HG5 BB5 HC5 HT5
  go_wp2_with fail
  refine (errno_text _ _ HC.out).mono ?_
  rintro e w7 ⟨rfl, rfl⟩
  go_wp2_with fail
  have ht6 : TellsN w6 n t := by have := tells_any w6 n h1 h2 (HP.out.below BB6.out); rw [HT.out] at this; exact this
  have HT6 := Lib.hid ht6
  clear ht6
  refine (error_bare2 _ _ f n t HB6.out HT6.out (by omega)).mono ?_
  rintro e w7 ⟨rfl, hb7⟩
  have HA7 := Lib.hid (HA6.out.below hb7 HA6.out.lt)
  have HB7 := Lib.hid (HB6.out.below hb7 HB6.out.lt)
  have HG7 := Lib.hid (HG6.out.below hb7 HG6.out.lt)
  have BB7 := Lib.hid (BB6.out.trans (hb7.mono BB6.out.size))
  have HC7 := Lib.hid (HC6.out.below hb7 rfl)
  clear hb7 HA6 HB6 HG6 BB6 HC6 HT6
  go_wp2_with fail
  refine (unwrap_bad _ _ _ HB7.out.c2).mono ?_
  rintro e w8 ⟨rfl, rfl⟩
  go_wp2_with fail
  refine (unwrap_bad _ _ _ HA7.out.c2).mono ?_
  rintro e w8 ⟨rfl, rfl⟩
  go_wp2_with fail
  refine (code_chain _ _ _ _ HC7.out HG7.out).mono ?_
  rintro e w8 ⟨rfl, hb8⟩
  have HB8 := Lib.hid (HB7.out.below hb8 HB7.out.lt)
  have HG8 := Lib.hid (HG7.out.below hb8 HG7.out.lt)
  have BB8 := Lib.hid (BB7.out.trans (hb8.mono BB7.out.size))
  clear hb8
  go_wp2_with fail
  refine (code_bare _ _ _ _ HB8.out HG8.out).mono ?_
  rintro e w9 ⟨rfl, hb9⟩
  have BB9 := Lib.hid (BB8.out.trans (hb9.mono BB8.out.size))
  clear hb9
  go_wp2
  go_ret
  exact ⟨rfl, BB9.out⟩

theorem configTells_true (w : World) (f : ByteArray) (n : Int) (m0 m1 : Nat) (hm0 : m0 < 256) (hm1 : m1 < 256) (hmax : f.size ≤ maxLen) (h1 : -9223372036854775808 ≤ n) (h2 : n ≤ 9223372036854775807) (hg : ErrT w) (hp : Pow w) :
    Calls Tryd.prog 6 #[.string f, .int .i64 n, .agg #[.int .u8 (m0 : Int), .int .u8 (m1 : Int)]] w fun e w' => e = .returned (.bool true) ∧ Below w.heap.size w w' := by
  by_cases hf : 100 < f.size
  · exact tells_long w f n m0 m1 hf hmax hg
  · exact tells_short w f n m0 m1 hm0 hm1 hf h1 h2 hg hp
end Go.Proofs.YtmebobflemfnfaaDoor
