/- (*Bad).Error: of a nil one, of one without an error, and of one with a number. -/
import Derived.Test.YtmebobflemfnfaaDoorText
import Derived.Test.YtmebobflemfnfaaDoorBld
import Derived.Deep.RegionHeld3
import Derived.BigCall
import Derived.Laws.Concat
namespace Go.Proofs.YtmebobflemfnfaaDoor
open Go Go.RowKit

theorem isBuilder_later {T e : TypeId} {B b : Nat} {bs : List Value} {w w' : World} (h : Lib.IsBuilder T e B b bs w) (hb : Below w.heap.size w w') : Lib.IsBuilder T e B b bs w' := by
  have hg : w.grownBy w' none := ⟨hb.os, hb.tape, hb.output, hb.size, fun k hk _ => hb.block k hk⟩
  rcases h with h | h
  all_goals
    obtain ⟨hB, v, hbk, hown, hne⟩ := h
    have hlt : b < w.heap.size := Lib.BuilderAt.lt ⟨hB, v, hbk, hown, hne⟩
    have hown' : w'.ownsRow B e 1 v bs.length bs := by
      refine hown.kept hg ?_
      cases hv : v.ownBlock with
      | none => exact .inl rfl
      | some k => exact .inr (by simp)
  · exact .inl ⟨hB, v, by rw [hb.block b hlt]; exact hbk, hown', hne⟩
  · exact .inr ⟨hB, v, by rw [hb.block b hlt]; exact hbk, hown', hne⟩

theorem isBuilder_laterD {T e : TypeId} {B b : Nat} {bs : List Value} {w w' : World} (h : Lib.IsBuilder T e B b bs w) (hb : Below w.drew.heap.size w.drew w') : Lib.IsBuilder T e B b bs w' :=
  isBuilder_later h ((Below.refl _ _).drew.trans hb)
theorem BadAt.laterD {w w' : World} {a : Nat} {f : ByteArray} {n : Int} {e : Value} (h : BadAt w a f n e) (hb : Below w.drew.heap.size w.drew w') : BadAt w' a f n e :=
  h.below ((Below.refl _ _).drew.trans hb) h.lt

theorem len3 {f t : ByteArray} {X : Nat} (h : f.size + t.size + 20 ≤ X) : ([] : List UInt8).length + (f ++ ⟨#[58, 32]⟩ ++ t).size ≤ X := by
  have : (⟨#[58, 32]⟩ : ByteArray).size = 2 := rfl
  rw [ByteArray.size_append, ByteArray.size_append, this, List.length_nil]; omega

theorem toList_size (s : ByteArray) : s.data.toList.length = s.size := by rw [Array.length_toList]; rfl
theorem len4 {f t : ByteArray} {X : Nat} (h : f.size + t.size + 20 ≤ X) : (([] : List UInt8) ++ (f ++ (⟨#[58, 32]⟩ : ByteArray) ++ t).data.toList).length + (⟨#[58, 32]⟩ : ByteArray).size ≤ X := by
  have h2 : (⟨#[58, 32]⟩ : ByteArray).size = 2 := rfl
  rw [List.nil_append, toList_size, ByteArray.size_append, ByteArray.size_append, h2]; omega
theorem enText_size (c : Int) : (enText c).size ≤ 6 := by
  unfold enText; split
  · decide
  · split <;> decide
theorem len5 {f t : ByteArray} {X : Nat} {c : Int} (h : f.size + t.size + 20 ≤ X) : (([] : List UInt8) ++ (f ++ (⟨#[58, 32]⟩ : ByteArray) ++ t).data.toList ++ (⟨#[58, 32]⟩ : ByteArray).data.toList).length + (enText c).size ≤ X := by
  have h2 : (⟨#[58, 32]⟩ : ByteArray).size = 2 := rfl
  have h4 := enText_size c
  rw [List.length_append, List.nil_append, toList_size, toList_size, ByteArray.size_append, ByteArray.size_append, h2]; omega

theorem write_b (B b : Nat) (l : List UInt8) (s : ByteArray) (w : World) (h : Lib.IsBuilder 57 5 B b (Lib.byteCells l) w) (hlen : l.length + s.size ≤ 140737488355328) (hBw : B ≤ w.heap.size) :
    Calls Tryd.prog 26 #[.pointer (some ⟨b, 0, none⟩), .string s] w fun e w' => e = .returned (.tuple #[.int .i64 s.size, .nilIface]) ∧ Lib.IsBuilder 57 5 B b (Lib.byteCells (l ++ s.data.toList)) w' ∧ Below B w w' := by
  refine (writeString_any B b _ s w h (by rw [Lib.byteCells_length]; exact hlen) hBw).mono ?_
  rintro e w' ⟨rfl, h1, hb⟩
  refine ⟨rfl, .inr ?_, hb⟩
  rw [Lib.byteCells_append, ← Lib.strCells_eq]
  exact h1

/- strconv.Itoa tells n as t, in every later world. -/
def TellsN (w : World) (n : Int) (t : ByteArray) : Prop :=
  ∀ w1 : World, Below w.heap.size w w1 → Calls Tryd.prog 27 #[.int .i64 n] w1 fun e w2 => e = .returned (.string t) ∧ Below w1.heap.size w1 w2

theorem error_nil (w : World) : Calls Tryd.prog 17 #[.pointer none] w fun e w' => e = .returned (.string ⟨#[]⟩) ∧ Below w.heap.size w w' := by
  have h0 : Lib.IsBuilder 57 5 w.heap.size w.heap.size (Lib.byteCells []) (w.alloc (.cells #[.pointer none, .slice none 0 0] 57)) := Lib.fresh_isBuilder 57 5 w
  have b0 : Below w.heap.size w (w.alloc (.cells #[.pointer none, .slice none 0 0] 57)) := (Below.refl _ w).alloc (Nat.le_refl _) _
  go_enter Tryd.func17, Tryd.ntmps17
  go_wp2
  refine wp_loop_rounds 1 ?_
  rw [rounds_succ]
  go_wp2_with (go_at_call 29; refine (Tryd.Builder_String_any w.heap.size w.heap.size [] _ h0 b0.size).mono ?_)
  rintro e w1 ⟨rfl, b1⟩
  go_wp2
  go_ret
  exact ⟨rfl, b0.trans b1⟩

set_option maxRecDepth 100000 in
set_option maxHeartbeats 4000000 in
theorem error_errno (w : World) (a : Nat) (f : ByteArray) (n : Int) (t : ByteArray) (c : Int) (hb : BadAt w a f n (.iface 32 (.int .i64 c))) (hc : c = 1 ∨ c = 2 ∨ c = 3) (ht : TellsN w n t) (hlen : f.size + t.size + 20 ≤ 140737488355328) :
    Calls Tryd.prog 17 #[.pointer (some ⟨a, 0, none⟩)] w fun e w' => e = .returned (.string ⟨(f.data.toList ++ [58, 32] ++ t.data.toList ++ [58, 32] ++ (enText c).data.toList).toArray⟩) ∧ Below w.heap.size w w' := by
  have h0 : Lib.IsBuilder 57 5 w.heap.size w.heap.size (Lib.byteCells []) (w.alloc (.cells #[.pointer none, .slice none 0 0] 57)) := Lib.fresh_isBuilder 57 5 w
  have b0 : Below w.heap.size w (w.alloc (.cells #[.pointer none, .slice none 0 0] 57)) := (Below.refl _ w).alloc (Nat.le_refl _) _
  have hbA := hb.below b0 hb.lt
  have k0 := hbA.c0
  have k1 := hbA.c1
  have k2 := hbA.c2
  have g1 : (Op.stringOp .add f (⟨#[58, 32]⟩ : ByteArray)).run Tryd.prog = fun w => .ok (.string (f ++ ⟨#[58, 32]⟩)) w := funext fun w => run_string_add_sum (w := w) f ⟨#[58, 32]⟩ (by have : (⟨#[58, 32]⟩ : ByteArray).size = 2 := rfl; omega)
  have g2 : (Op.stringOp .add (f ++ ⟨#[58, 32]⟩) t).run Tryd.prog = fun w => .ok (.string (f ++ ⟨#[58, 32]⟩ ++ t)) w := funext fun w => run_string_add_sum (w := w) _ t (by rw [ByteArray.size_append]; have : (⟨#[58, 32]⟩ : ByteArray).size = 2 := rfl; omega)
  have HT := Lib.hid ht
  have HB := Lib.hid hb
  have HA := Lib.hid hbA
  clear ht hb hbA
  have hta : ∀ (v : Value) (w : World), (Instr.typeAssert (.iface 32 v) 24 38 true).run Tryd.prog w = .ok (.tuple #[.pointer none, .bool false]) w := fun _ _ => by kernel_rfl
  go_enter Tryd.func17, Tryd.ntmps17
  go_wp2
  refine wp_loop_rounds 2 ?_
  rw [rounds_succ]
  go_wp2_with fail
  go_region_held3 (fun w' => w'.cell? ⟨a, 0, none⟩ = some (.string f) ∧ w'.cell? ⟨a, 1, none⟩ = some (.int .i64 n))
    (first | go_keep | exact ⟨kk0, kk1⟩ | exact ⟨ll0, ll1⟩)
    (first
      | (go_at_call 27; refine (HT.out _ (by exact b0.drew)).mono ?_; rintro e w1 ⟨rfl, b1⟩; have kk0 := (HA.out.laterD b1).c0; have kk1 := (HA.out.laterD b1).c1)
      | (go_at_call 26; refine (write_b w.heap.size w.heap.size [] _ _ (isBuilder_laterD h0 b1) (len3 hlen) (Nat.le_trans b0.size b1.size)).mono ?_; rintro e w2 ⟨rfl, h2, b2⟩; have ll0 := ((HA.out.laterD b1).below b2 HB.out.lt).c0; have ll1 := ((HA.out.laterD b1).below b2 HB.out.lt).c1))
  have HA2 := Lib.hid ((HA.out.laterD b1).below b2 HB.out.lt)
  clear ll0 ll1 kk0 kk1 k0 k1 k2 g1 g2
  have m2 := HA2.out.c2
  have B2 := Lib.hid ((b0.drew.trans (b1.mono b0.size)).trans b2)
  clear b1 b2
  go_wp2_with fail
  refine (write_b w.heap.size w.heap.size _ _ _ h2 (len4 hlen) B2.out.size).mono ?_
  rintro e w3 ⟨rfl, h3, b3⟩
  have m3 := (HA2.out.below b3 HB.out.lt).c2
  have B3 := Lib.hid (B2.out.trans b3)
  clear b3 m2 h2
  go_wp2_with fail
  refine (textOf_errno _ c hc).mono ?_
  rintro e w4 ⟨rfl, rfl⟩
  go_wp2_with fail
  refine (write_b w.heap.size w.heap.size _ _ _ (isBuilder_later h3 ((Below.refl _ _).alloc (Nat.le_refl _) _)) (len5 hlen) ?_).mono ?_
  · have := B3.out.size; simp; omega
  rintro e w5 ⟨rfl, h5, b5⟩
  have B5 := Lib.hid ((B3.out.alloc B3.out.size _).trans b5)
  clear b5 h3
  go_wp2_with fail
  rw [rounds_succ]
  go_wp2_with fail
  refine (Tryd.Builder_String_any w.heap.size w.heap.size _ _ h5 B5.out.size).mono ?_
  rintro e w6 ⟨rfl, b6⟩
  have B6 := Lib.hid (B5.out.trans b6)
  clear b6 h5
  go_wp2
  go_ret
  exact ⟨by simp, B6.out⟩

set_option maxRecDepth 100000 in
set_option maxHeartbeats 4000000 in
theorem error_bare (w : World) (a : Nat) (f : ByteArray) (n : Int) (t : ByteArray) (hb : BadAt w a f n .nilIface) (ht : TellsN w n t) (hlen : f.size + t.size + 20 ≤ 140737488355328) :
    Calls Tryd.prog 17 #[.pointer (some ⟨a, 0, none⟩)] w fun e w' => e = .returned (.string ⟨(f.data.toList ++ [58, 32] ++ t.data.toList).toArray⟩) ∧ Below w.heap.size w w' := by
  have h0 : Lib.IsBuilder 57 5 w.heap.size w.heap.size (Lib.byteCells []) (w.alloc (.cells #[.pointer none, .slice none 0 0] 57)) := Lib.fresh_isBuilder 57 5 w
  have b0 : Below w.heap.size w (w.alloc (.cells #[.pointer none, .slice none 0 0] 57)) := (Below.refl _ w).alloc (Nat.le_refl _) _
  have hbA := hb.below b0 hb.lt
  have k0 := hbA.c0
  have k1 := hbA.c1
  have g1 : (Op.stringOp .add f (⟨#[58, 32]⟩ : ByteArray)).run Tryd.prog = fun w => .ok (.string (f ++ ⟨#[58, 32]⟩)) w := funext fun w => run_string_add_sum (w := w) f ⟨#[58, 32]⟩ (by have : (⟨#[58, 32]⟩ : ByteArray).size = 2 := rfl; omega)
  have g2 : (Op.stringOp .add (f ++ ⟨#[58, 32]⟩) t).run Tryd.prog = fun w => .ok (.string (f ++ ⟨#[58, 32]⟩ ++ t)) w := funext fun w => run_string_add_sum (w := w) _ t (by rw [ByteArray.size_append]; have : (⟨#[58, 32]⟩ : ByteArray).size = 2 := rfl; omega)
  have HT := Lib.hid ht
  have HB := Lib.hid hb
  have HA := Lib.hid hbA
  clear ht hb hbA
  go_enter Tryd.func17, Tryd.ntmps17
  go_wp2
  refine wp_loop_rounds 1 ?_
  rw [rounds_succ]
  go_wp2_with fail
  go_region_held3 (fun w' => w'.cell? ⟨a, 0, none⟩ = some (.string f) ∧ w'.cell? ⟨a, 1, none⟩ = some (.int .i64 n))
    (first | go_keep | exact ⟨kk0, kk1⟩ | exact ⟨ll0, ll1⟩)
    (first
      | (go_at_call 27; refine (HT.out _ (by exact b0.drew)).mono ?_; rintro e w1 ⟨rfl, b1⟩; have kk0 := (HA.out.laterD b1).c0; have kk1 := (HA.out.laterD b1).c1)
      | (go_at_call 26; refine (write_b w.heap.size w.heap.size [] _ _ (isBuilder_laterD h0 b1) (len3 hlen) (Nat.le_trans b0.size b1.size)).mono ?_; rintro e w2 ⟨rfl, h2, b2⟩; have ll0 := ((HA.out.laterD b1).below b2 HB.out.lt).c0; have ll1 := ((HA.out.laterD b1).below b2 HB.out.lt).c1))
  have HA2 := Lib.hid ((HA.out.laterD b1).below b2 HB.out.lt)
  clear ll0 ll1 kk0 kk1 k0 k1 g1 g2
  have m2 := HA2.out.c2
  have B2 := Lib.hid ((b0.drew.trans (b1.mono b0.size)).trans b2)
  clear b1 b2
  go_wp2_with fail
  refine (Tryd.Builder_String_any w.heap.size w.heap.size _ _ h2 B2.out.size).mono ?_
  rintro e w6 ⟨rfl, b6⟩
  have B6 := Lib.hid (B2.out.trans b6)
  clear b6 h2
  go_wp2
  go_ret
  exact ⟨by simp, B6.out⟩
end Go.Proofs.YtmebobflemfnfaaDoor
