/- Words and walks for layer 6: SsO. -/
import Derived.Test.YtnacmhljbnpdpaaGG2
/- Of lists, an arena, a table, and a store that are nil nothing is told. -/
namespace Go.Proofs.Ytnacmhljbnpdpaa
open Go Go.RowKit Go.Deep Go.Shelf

theorem has_nil (w : World) (tag : Int) : Calls Try.prog 73 #[.pointer none, .int .i64 tag] w fun e w' => e = .returned (.bool false) ∧ w = w' := by
  go_enter Try.func73, Try.ntmps73
  go_wp2
  go_ret
  exact ⟨rfl, rfl⟩
theorem front_nil (w : World) (tag : Int) : Calls Try.prog 54 #[.pointer none, .int .i64 tag] w fun e w' => e = .returned (.int .i32 0) ∧ w = w' := by
  go_enter Try.func54, Try.ntmps54
  go_wp2_with fail
  refine (has_nil w tag).mono ?_
  rintro e w' ⟨rfl, rfl⟩
  go_wp2
  go_ret
  exact ⟨rfl, rfl⟩
theorem back_nil (w : World) (tag : Int) : Calls Try.prog 55 #[.pointer none, .int .i64 tag] w fun e w' => e = .returned (.int .i32 0) ∧ w = w' := by
  go_enter Try.func55, Try.ntmps55
  go_wp2_with fail
  refine (has_nil w tag).mono ?_
  rintro e w' ⟨rfl, rfl⟩
  go_wp2
  go_ret
  exact ⟨rfl, rfl⟩
theorem count_nil (w : World) (tag : Int) : Calls Try.prog 64 #[.pointer none, .int .i64 tag] w fun e w' => e = .returned (.int .i64 0) ∧ w = w' := by
  go_enter Try.func64, Try.ntmps64
  go_wp2_with fail
  refine (has_nil w tag).mono ?_
  rintro e w' ⟨rfl, rfl⟩
  go_wp2
  go_ret
  exact ⟨rfl, rfl⟩
theorem tag_nil (w : World) (i : Int) : Calls Try.prog 37 #[.pointer none, .int .i32 i] w fun e w' => e = .returned (.int .i64 (-1)) ∧ w = w' := by
  go_enter Try.func37, Try.ntmps37
  go_wp2
  go_ret
  exact ⟨rfl, rfl⟩
theorem remove_nil (w : World) (i : Int) : Calls Try.prog 60 #[.pointer none, .int .i32 i] w fun e w' => e = .returned (.bool false) ∧ w = w' := by
  go_enter Try.func60, Try.ntmps60
  go_wp2_with fail
  refine (tag_nil w i).mono ?_
  rintro e w' ⟨rfl, rfl⟩
  go_wp2_with fail
  refine (has_nil w (-1)).mono ?_
  rintro e w' ⟨rfl, rfl⟩
  go_wp2
  go_ret
  exact ⟨rfl, rfl⟩
theorem moveFront_nil (w : World) (tag i : Int) : Calls Try.prog 59 #[.pointer none, .int .i64 tag, .int .i32 i] w fun e w' => e = .returned (.bool false) ∧ w = w' := by
  go_enter Try.func59, Try.ntmps59
  go_wp2_with fail
  refine (has_nil w tag).mono ?_
  rintro e w' ⟨rfl, rfl⟩
  go_wp2
  go_ret
  exact ⟨rfl, rfl⟩
theorem each1_nil (m : Nat) (r B1 B2 : Nat) (tag : Int) (J Jx : List Nat → World → Prop) (W : World) (hB1 : W.cell? ⟨B1, 0, none⟩ = some (.pointer none)) (hB2 : W.cell? ⟨B2, 0, none⟩ = some (.int .i64 tag)) (h0 : J [] W) :
    CallsIn Fence.wide m Try.prog 84 #[.func (.yield r) #[] #[], .pointer (some ⟨B1, 0, none⟩), .pointer (some ⟨B2, 0, none⟩)] W fun e W' => (∃ v, e = .returned v) ∧
      ((∃ ys, ys = [] ∧ J ys W') ∨ (∃ pre, pre <+: [] ∧ Jx pre W')) := by
  refine callsIn_wide.2 ?_
  go_enter Try.func84, Try.ntmps84
  go_wp2_with fail
  refine (front_nil W tag).mono ?_
  rintro e w' ⟨rfl, rfl⟩
  go_wp2_with fail
  refine (count_nil W tag).mono ?_
  rintro e w' ⟨rfl, rfl⟩
  go_wp2_with fail
  go_loopg [11] 0 (fun g s11 wr => s11 = .int .i64 0 ∧ wr = W)
  case atStart => exact ⟨rfl, rfl⟩
  case round =>
    obtain ⟨rfl, rfl⟩ := hrel
    go_wp2
    go_end0
    exact ⟨⟨_, rfl⟩, .inl ⟨_, rfl, h0⟩⟩
theorem all_nil (w : World) (tag : Int) : Calls Try.prog 40 #[.pointer none, .int .i64 tag] w fun e W' => ∃ F c, e = .returned (.slice F 0 c) ∧ Below w.heap.size w W' := by
  have h := callsIn_wide.1 (all_in (w := w) none tag [] (by simp) (fun w1 _ g2 g3 _ _ => fun r J Jx W hW _ _ _ h0 => each1_nil 4 r _ _ tag J Jx W ((hW.cell (p := ⟨w.heap.size + 1, 0, none⟩) (by assumption)).trans g2) ((hW.cell (p := ⟨w.heap.size + 1 + 1, 0, none⟩) (by assumption)).trans g3) h0))
  refine h.mono ?_
  rintro e W' ⟨v, rfl, hv, hb⟩
  rcases hv.2 with ⟨rfl, _⟩ | ⟨g, cap, cur, rfl, _, _, hk⟩
  · exact ⟨none, 0, rfl, hb⟩
  · exact ⟨_, _, rfl, hb⟩
theorem is_nil (w : World) (i : Int) : Calls Try.prog 67 #[.pointer none, .int .i32 i] w fun e w' => e = .returned (.bool false) ∧ w = w' := by
  go_enter Try.func67, Try.ntmps67
  go_wp2
  go_ret
  exact ⟨rfl, rfl⟩
theorem at_nil (w : World) (i : Int) : Calls Try.prog 41 #[.pointer none, .int .i32 i] w fun e w' => e = .returned (.agg #[.int .u64 0, .int .u64 0, .int .i64 0, .int .i64 0, .int .i32 0, .int .i32 0]) ∧ Below w.heap.size w w' := by
  go_enter Try.func41, Try.ntmps41
  go_wp2_with fail
  refine (is_nil _ i).mono ?_
  rintro e w' ⟨rfl, rfl⟩
  go_wp2
  exact bodyPost_ret (v := .agg #[.int .u64 0, .int .u64 0, .int .i64 0, .int .i64 0, .int .i32 0, .int .i32 0]) (by simp [results, Try.results41, go_sem]) rfl ⟨rfl, (Below.refl _ _).alloc (Nat.le_refl _) _⟩
theorem set_nil (w : World) (i : Int) (x : Nd) : Calls Try.prog 63 #[.pointer none, .int .i32 i, x.v] w fun e w' => e = .returned (.bool false) ∧ Below w.heap.size w w' := by
  go_enter Try.func63, Try.ntmps63
  go_wp2_with fail
  refine (is_nil _ i).mono ?_
  rintro e w' ⟨rfl, rfl⟩
  go_wp2
  go_ret
  exact ⟨rfl, (Below.refl _ _).alloc (Nat.le_refl _) _⟩
theorem len_nil (w : World) : Calls Try.prog 51 #[.pointer none] w fun e w' => e = .returned (.int .i64 0) ∧ w = w' := by
  go_enter Try.func51, Try.ntmps51
  go_wp2
  go_ret
  exact ⟨rfl, rfl⟩
theorem nil_get (w : World) (k : Value) :
    Calls Try.prog 36 #[.pointer none, k] w fun e w' => e = .returned (.tuple #[.int .i32 0, .bool false]) ∧ w = w' := by
  go_enter Try.func36, Try.ntmps36
  go_wp2
  exact bodyPost_ret (v := .tuple #[.int .i32 0, .bool false]) (by simp [results, Try.results36, go_sem]) rfl ⟨rfl, rfl⟩
theorem nil_len (w : World) :
    Calls Try.prog 42 #[.pointer none] w fun e w' => e = .returned (.int .i64 0) ∧ w = w' := by
  go_enter Try.func42, Try.ntmps42
  go_wp2
  go_ret
  exact ⟨rfl, rfl⟩
theorem nil_slots (w : World) :
    Calls Try.prog 52 #[.pointer none] w fun e w' => e = .returned (.int .i64 0) ∧ w = w' := by
  go_enter Try.func52, Try.ntmps52
  go_wp2
  go_ret
  exact ⟨rfl, rfl⟩

abbrev nilS : Value := .pointer none
theorem nfind_parts (w : World) (k : Value) :
    Calls Try.prog 39 #[.agg partsN, k] w fun e w' => e = .returned (.tuple #[.int .i32 0, .agg zero6]) ∧ Below w.heap.size w w' := by
  go_enter Try.func39, Try.ntmps39
  go_wp2_with fail
  refine (nil_get _ k).mono ?_
  rintro e w1 ⟨rfl, rfl⟩
  go_wp2_with fail
  refine (at_nil _ 0).mono ?_
  rintro e w2 ⟨rfl, hb⟩
  obtain ⟨hb1, hs1, hB0, hB1⟩ := two_blocks hb
  obtain ⟨_, z0, z1, z2, z3, z4, z5⟩ := q6_at hB1
  have HT := Lib.hid (q6_heap hB1 (.int .u64 0) (.int .u64 0) (.int .i64 0) (.int .i64 0) (.int .i32 0) (.int .i32 0))
  have HB1 := Lib.hid hb1
  clear hb hb1 hB0 hB1
  go_wp2_with fail
  obtain ⟨t1, o1⟩ := HT.out
  generalize (((((w2.setCell ⟨w.heap.size + 1, 0, none⟩ (.int .u64 0)).setCell ⟨w.heap.size + 1, 1, none⟩ (.int .u64 0)).setCell ⟨w.heap.size + 1, 2, none⟩ (.int .i64 0)).setCell ⟨w.heap.size + 1, 3, none⟩ (.int .i64 0)).setCell ⟨w.heap.size + 1, 4, none⟩ (.int .i32 0)).setCell ⟨w.heap.size + 1, 5, none⟩ (.int .i32 0) = V at t1 o1 ⊢
  obtain ⟨⟨v0, v1, v2, v3, v4, v5⟩, _⟩ := q6_at t1
  exact bodyPost_ret (v := .tuple #[.int .i32 0, .agg zero6]) (by simp [results, Try.results39, go_sem, v0, v1, v2, v3, v4, v5]) rfl ⟨rfl, HB1.out.trans (o1.below (B := w.heap.size) (by simp) HB1.out.size)⟩
theorem nkey_parts (w : World) :
    Calls Try.prog 53 #[.agg partsN, .int .i32 0] w fun e w' => e = .returned (.tuple #[.int .u64 0, .bool false]) ∧ Below w.heap.size w w' := by
  have hfld : ∀ w : World, (Instr.field 79 (.agg zero6) 0).run Try.prog w = .ok (.int .u64 0) w := fun _ => by kernel_rfl
  go_enter Try.func53, Try.ntmps53
  go_wp2_with fail
  refine (at_nil _ 0).mono ?_
  rintro e w1 ⟨rfl, hb⟩
  have HB := Lib.hid (((Below.refl w.heap.size w).alloc (Nat.le_refl _) (.cells partsN 71)).trans (hb.mono (by simp)))
  clear hb
  go_wp2
  exact bodyPost_ret (v := .tuple #[.int .u64 0, .bool false]) (by simp [results, Try.results53, go_sem]) rfl ⟨rfl, HB.out⟩
theorem nFind (w : World) (k : Value) :
    Calls Try.prog 11 #[nilS, k] w fun e w' => e = .returned (.tuple #[.int .i64 0, .bool false]) ∧ Below w.heap.size w w' := by
  go_enter Try.func11, Try.ntmps11
  go_wp2_with fail
  refine (open_nil w).mono ?_
  rintro e w1 ⟨rfl, hb⟩
  have HB2 := Lib.hid (hb.alloc hb.size (.cells partsN 71))
  clear hb
  go_wp2_with fail
  refine (nil_get _ k).mono ?_
  rintro e w2 ⟨rfl, rfl⟩
  go_wp2
  exact bodyPost_ret (v := .tuple #[.int .i64 0, .bool false]) (by simp [results, Try.results11, go_sem]) rfl ⟨rfl, HB2.out⟩
theorem nFront (w : World) (tag : Int) :
    Calls Try.prog 23 #[nilS, .int .i64 tag] w fun e w' => e = .returned (.tuple #[.int .u64 0, .bool false]) ∧ Below w.heap.size w w' := by
  go_enter Try.func23, Try.ntmps23
  go_wp2_with fail
  refine (open_nil w).mono ?_
  rintro e w1 ⟨rfl, hb⟩
  have HB2 := Lib.hid (hb.alloc hb.size (.cells partsN 71))
  have hbx := heap_alloc_new w1 (.cells partsN 71)
  have HBX := Lib.hid hbx
  clear hb hbx
  go_upto_region 2 with fail
  generalize hX : w1.alloc (.cells partsN 71) = X at HB2 HBX ⊢
  have hX1 : w1.heap.size < X.heap.size := by rw [← hX]; simp
  clear hX
  obtain ⟨⟨c0, c1, c2, c3⟩, _⟩ := q4_at HBX.out
  have HSS : Hid (∀ w', Below X.drew.heap.size X.drew w' → w'.cell? ⟨w1.heap.size, 0, none⟩ = some (.pointer none) ∧ w'.cell? ⟨w1.heap.size, 1, none⟩ = some (.int .i64 0) ∧ w'.cell? ⟨w1.heap.size, 2, none⟩ = some (.pointer none) ∧ w'.cell? ⟨w1.heap.size, 3, none⟩ = some (.pointer none)) := Lib.hid (fun w' hb => (q4_at ((hb.block w1.heap.size (by exact hX1)).trans HBX.out)).1)
  have HF1 := Lib.hid (front_nil X.drew tag)
  have HI1 := Lib.hid (nkey_parts X.drew)
  go_region_held3 (fun w' => w'.cell? ⟨w1.heap.size, 0, none⟩ = some (.pointer none) ∧ w'.cell? ⟨w1.heap.size, 1, none⟩ = some (.int .i64 0) ∧ w'.cell? ⟨w1.heap.size, 2, none⟩ = some (.pointer none) ∧ w'.cell? ⟨w1.heap.size, 3, none⟩ = some (.pointer none)) (first | with_reducible exact kk5 | go_keep)
    (first
      | (go_at_call 54; refine HF1.out.mono ?_; rintro e w5 ⟨rfl, rfl⟩)
      | (go_at_call 53; refine HI1.out.mono ?_; rintro e w6 ⟨rfl, b6⟩; have kk5 := HSS.out w6 b6))
  have HB6 := Lib.hid (HB2.out.drew.trans (b6.mono HB2.out.drew.size))
  clear kk5 b6
  go_wp2
  exact bodyPost_ret (v := .tuple #[.int .u64 0, .bool false]) (by simp [results, Try.results23, go_sem]) rfl ⟨rfl, HB6.out⟩
theorem nBack (w : World) (tag : Int) :
    Calls Try.prog 24 #[nilS, .int .i64 tag] w fun e w' => e = .returned (.tuple #[.int .u64 0, .bool false]) ∧ Below w.heap.size w w' := by
  go_enter Try.func24, Try.ntmps24
  go_wp2_with fail
  refine (open_nil w).mono ?_
  rintro e w1 ⟨rfl, hb⟩
  have HB2 := Lib.hid (hb.alloc hb.size (.cells partsN 71))
  have hbx := heap_alloc_new w1 (.cells partsN 71)
  have HBX := Lib.hid hbx
  clear hb hbx
  go_upto_region 2 with fail
  generalize hX : w1.alloc (.cells partsN 71) = X at HB2 HBX ⊢
  have hX1 : w1.heap.size < X.heap.size := by rw [← hX]; simp
  clear hX
  obtain ⟨⟨c0, c1, c2, c3⟩, _⟩ := q4_at HBX.out
  have HSS : Hid (∀ w', Below X.drew.heap.size X.drew w' → w'.cell? ⟨w1.heap.size, 0, none⟩ = some (.pointer none) ∧ w'.cell? ⟨w1.heap.size, 1, none⟩ = some (.int .i64 0) ∧ w'.cell? ⟨w1.heap.size, 2, none⟩ = some (.pointer none) ∧ w'.cell? ⟨w1.heap.size, 3, none⟩ = some (.pointer none)) := Lib.hid (fun w' hb => (q4_at ((hb.block w1.heap.size (by exact hX1)).trans HBX.out)).1)
  have HF1 := Lib.hid (back_nil X.drew tag)
  have HI1 := Lib.hid (nkey_parts X.drew)
  go_region_held3 (fun w' => w'.cell? ⟨w1.heap.size, 0, none⟩ = some (.pointer none) ∧ w'.cell? ⟨w1.heap.size, 1, none⟩ = some (.int .i64 0) ∧ w'.cell? ⟨w1.heap.size, 2, none⟩ = some (.pointer none) ∧ w'.cell? ⟨w1.heap.size, 3, none⟩ = some (.pointer none)) (first | with_reducible exact kk5 | go_keep)
    (first
      | (go_at_call 55; refine HF1.out.mono ?_; rintro e w5 ⟨rfl, rfl⟩)
      | (go_at_call 53; refine HI1.out.mono ?_; rintro e w6 ⟨rfl, b6⟩; have kk5 := HSS.out w6 b6))
  have HB6 := Lib.hid (HB2.out.drew.trans (b6.mono HB2.out.drew.size))
  clear kk5 b6
  go_wp2
  exact bodyPost_ret (v := .tuple #[.int .u64 0, .bool false]) (by simp [results, Try.results24, go_sem]) rfl ⟨rfl, HB6.out⟩
theorem nRooms (w : World) :
    Calls Try.prog 22 #[nilS] w fun e w' => e = .returned (.tuple #[.int .i64 0, .int .i64 0]) ∧ Below w.heap.size w w' := by
  go_enter Try.func22, Try.ntmps22
  go_wp2_with fail
  refine (open_nil w).mono ?_
  rintro e w1 ⟨rfl, hb⟩
  have HB2 := Lib.hid (hb.alloc hb.size (.cells partsN 71))
  have hbx := heap_alloc_new w1 (.cells partsN 71)
  have HBX := Lib.hid hbx
  clear hb hbx
  go_upto_region 2 with fail
  generalize hX : w1.alloc (.cells partsN 71) = X at HB2 HBX ⊢
  clear hX
  obtain ⟨⟨c0, c1, c2, c3⟩, _⟩ := q4_at HBX.out
  have HF1 := Lib.hid (len_nil X.drew)
  have HI1 := Lib.hid (nil_slots X.drew)
  go_region_held3 (fun w' => w'.cell? ⟨w1.heap.size, 2, none⟩ = some (.pointer none) ∧ w'.cell? ⟨w1.heap.size, 3, none⟩ = some (.pointer none)) (first | go_keep)
    (first
      | (go_at_call 51; refine HF1.out.mono ?_; rintro e w5 ⟨rfl, rfl⟩)
      | (go_at_call 52; refine HI1.out.mono ?_; rintro e w6 ⟨rfl, rfl⟩))
  go_wp2
  exact bodyPost_ret (v := .tuple #[.int .i64 0, .int .i64 0]) (by simp [results, Try.results22, go_sem]) rfl ⟨rfl, HB2.out.drew⟩
theorem nLen (w : World) (tag : Int) :
    Calls Try.prog 31 #[nilS, .int .i64 tag] w fun e w' => e = .returned (.int .i64 0) ∧ Below w.heap.size w w' := by
  have hfld : ∀ w : World, (Instr.field 71 (.agg partsN) 0).run Try.prog w = .ok (.pointer none) w := fun _ => by kernel_rfl
  go_enter Try.func31, Try.ntmps31
  go_wp2_with fail
  refine (open_nil w).mono ?_
  rintro e w1 ⟨rfl, hb⟩
  go_wp2_with fail
  refine (count_nil w1 tag).mono ?_
  rintro e w2 ⟨rfl, rfl⟩
  go_wp2
  go_ret
  exact ⟨rfl, hb⟩
theorem nTotal (w : World) :
    Calls Try.prog 17 #[nilS] w fun e w' => e = .returned (.int .i64 0) ∧ Below w.heap.size w w' := by
  have hfld : ∀ w : World, (Instr.field 71 (.agg partsN) 3).run Try.prog w = .ok (.pointer none) w := fun _ => by kernel_rfl
  go_enter Try.func17, Try.ntmps17
  go_wp2_with fail
  refine (open_nil w).mono ?_
  rintro e w1 ⟨rfl, hb⟩
  go_wp2_with fail
  refine (nil_len w1).mono ?_
  rintro e w2 ⟨rfl, rfl⟩
  go_wp2
  go_ret
  exact ⟨rfl, hb⟩
theorem nVal (w : World) (k : Value) :
    Calls Try.prog 14 #[nilS, k] w fun e w' => e = .returned (.int .u64 0) ∧ Below w.heap.size w w' := by
  go_enter Try.func14, Try.ntmps14
  go_wp2_with fail
  refine (open_nil w).mono ?_
  rintro e w1 ⟨rfl, hb⟩
  go_wp2_with fail
  refine (nfind_parts w1 k).mono ?_
  rintro e w2 ⟨rfl, hb2⟩
  have HB := Lib.hid (hb.trans (hb2.mono hb.size))
  clear hb hb2
  go_wp2
  go_ret
  exact ⟨rfl, HB.out.alloc HB.out.size _⟩
theorem nFlag (w : World) (k : Value) :
    Calls Try.prog 15 #[nilS, k] w fun e w' => e = .returned (.int .i64 0) ∧ Below w.heap.size w w' := by
  go_enter Try.func15, Try.ntmps15
  go_wp2_with fail
  refine (open_nil w).mono ?_
  rintro e w1 ⟨rfl, hb⟩
  go_wp2_with fail
  refine (nfind_parts w1 k).mono ?_
  rintro e w2 ⟨rfl, hb2⟩
  have HB := Lib.hid (hb.trans (hb2.mono hb.size))
  clear hb hb2
  go_wp2
  go_ret
  exact ⟨rfl, HB.out.alloc HB.out.size _⟩
theorem nSetVal (w : World) (k : Value) (v : Int) :
    Calls Try.prog 29 #[nilS, k, .int .u64 v] w fun e w' => e = .returned (.bool false) ∧ Below w.heap.size w w' := by
  go_enter Try.func29, Try.ntmps29
  go_wp2_with fail
  refine (open_nil w).mono ?_
  rintro e w1 ⟨rfl, hb⟩
  have HB2 := Lib.hid (hb.alloc hb.size (.cells partsN 71))
  have hbx := heap_alloc_new w1 (.cells partsN 71)
  have HBX := Lib.hid hbx
  clear hb hbx
  go_wp2_with fail
  refine (nfind_parts _ k).mono ?_
  rintro e w2 ⟨rfl, hb2⟩
  have HB3 := Lib.hid (HB2.out.trans (hb2.mono HB2.out.size))
  obtain ⟨⟨c0, c1, c2, c3⟩, _⟩ := q4_at ((hb2.block w1.heap.size (by simp)).trans HBX.out)
  have hw12 : w1.heap.size < w2.heap.size := by have := hb2.size; simp at this; omega
  clear hb2
  have HS : Hid (∀ W, Calls Try.prog 63 #[.pointer none, .int .i32 0, .agg (ndC ⟨0, v, 0, 0, 0, 0⟩)] W fun e w' => e = .returned (.bool false) ∧ Below W.heap.size W w') := Lib.hid (fun W => set_nil W 0 ⟨0, v, 0, 0, 0, 0⟩)
  go_wp2_with fail
  refine (HS.out _).mono ?_
  rintro e w3 ⟨rfl, hb3⟩
  have HB4 := Lib.hid ((HB3.out.alloc HB3.out.size _).trans (hb3.mono (by have := HB3.out.size; simp; omega)))
  clear hb3 c0 c1 c2 c3
  go_wp2
  go_ret
  exact ⟨rfl, HB4.out⟩
theorem nSetFlag (w : World) (k : Value) (v : Int) :
    Calls Try.prog 30 #[nilS, k, .int .i64 v] w fun e w' => e = .returned (.bool false) ∧ Below w.heap.size w w' := by
  go_enter Try.func30, Try.ntmps30
  go_wp2_with fail
  refine (open_nil w).mono ?_
  rintro e w1 ⟨rfl, hb⟩
  have HB2 := Lib.hid (hb.alloc hb.size (.cells partsN 71))
  have hbx := heap_alloc_new w1 (.cells partsN 71)
  have HBX := Lib.hid hbx
  clear hb hbx
  go_wp2_with fail
  refine (nfind_parts _ k).mono ?_
  rintro e w2 ⟨rfl, hb2⟩
  have HB3 := Lib.hid (HB2.out.trans (hb2.mono HB2.out.size))
  obtain ⟨⟨c0, c1, c2, c3⟩, _⟩ := q4_at ((hb2.block w1.heap.size (by simp)).trans HBX.out)
  have hw12 : w1.heap.size < w2.heap.size := by have := hb2.size; simp at this; omega
  clear hb2
  have HS : Hid (∀ W, Calls Try.prog 63 #[.pointer none, .int .i32 0, .agg (ndC ⟨0, 0, v, 0, 0, 0⟩)] W fun e w' => e = .returned (.bool false) ∧ Below W.heap.size W w') := Lib.hid (fun W => set_nil W 0 ⟨0, 0, v, 0, 0, 0⟩)
  go_wp2_with fail
  refine (HS.out _).mono ?_
  rintro e w3 ⟨rfl, hb3⟩
  have HB4 := Lib.hid ((HB3.out.alloc HB3.out.size _).trans (hb3.mono (by have := HB3.out.size; simp; omega)))
  clear hb3 c0 c1 c2 c3
  go_wp2
  go_ret
  exact ⟨rfl, HB4.out⟩
theorem nMove (w : World) (tag : Int) (k : Value) :
    Calls Try.prog 27 #[nilS, .int .i64 tag, k] w fun e w' => e = .returned (.bool false) ∧ Below w.heap.size w w' := by
  go_enter Try.func27, Try.ntmps27
  go_wp2_with fail
  refine (open_nil w).mono ?_
  rintro e w1 ⟨rfl, hb⟩
  have HB2 := Lib.hid (hb.alloc hb.size (.cells partsN 71))
  have hbx := heap_alloc_new w1 (.cells partsN 71)
  have HBX := Lib.hid hbx
  clear hb hbx
  go_wp2_with fail
  refine (nfind_parts _ k).mono ?_
  rintro e w2 ⟨rfl, hb2⟩
  have HB3 := Lib.hid (HB2.out.trans (hb2.mono HB2.out.size))
  obtain ⟨⟨c0, c1, c2, c3⟩, _⟩ := q4_at ((hb2.block w1.heap.size (by simp)).trans HBX.out)
  have hw12 : w1.heap.size < w2.heap.size := by have := hb2.size; simp at this; omega
  clear hb2
  go_wp2_with fail
  refine (moveFront_nil _ tag 0).mono ?_
  rintro e w3 ⟨rfl, rfl⟩
  go_wp2
  go_ret
  exact ⟨rfl, HB3.out.alloc HB3.out.size _⟩
theorem nRemove (w : World) (k : Value) :
    Calls Try.prog 28 #[nilS, k] w fun e w' => e = .returned (.bool false) ∧ Below w.heap.size w w' := by
  go_enter Try.func28, Try.ntmps28
  go_wp2_with fail
  refine (open_nil w).mono ?_
  rintro e w1 ⟨rfl, hb⟩
  have HB2 := Lib.hid (hb.alloc hb.size (.cells partsN 71))
  have hbx := heap_alloc_new w1 (.cells partsN 71)
  have HBX := Lib.hid hbx
  clear hb hbx
  go_wp2_with fail
  refine (nfind_parts _ k).mono ?_
  rintro e w2 ⟨rfl, hb2⟩
  have HB3 := Lib.hid (HB2.out.trans (hb2.mono HB2.out.size))
  obtain ⟨⟨c0, c1, c2, c3⟩, _⟩ := q4_at ((hb2.block w1.heap.size (by simp)).trans HBX.out)
  have hw12 : w1.heap.size < w2.heap.size := by have := hb2.size; simp at this; omega
  clear hb2
  go_wp2_with fail
  refine (remove_nil _ 0).mono ?_
  rintro e w3 ⟨rfl, rfl⟩
  go_wp2
  go_ret
  exact ⟨rfl, HB3.out.alloc HB3.out.size _⟩
theorem nPushFront (w : World) (tag : Int) (k : Value) :
    Calls Try.prog 25 #[nilS, .int .i64 tag, k] w fun e w' => e = .returned (.bool false) ∧ Below w.heap.size w w' := by
  have HPU : Hid (∀ w1, Calls Try.prog 56 #[.agg partsN, .func (.func 57) #[] #[], .int .i64 tag, k] w1 fun e w' => e = .returned (.bool false) ∧ Below w1.heap.size w1 w') := Lib.hid (by
    intro w1
    by_cases h1 : tag < 0
    · go_enter Try.func56, Try.ntmps56
      go_wp2
      go_ret
      exact ⟨rfl, (Below.refl _ _).alloc (Nat.le_refl _) _⟩
    · have h2 : 0 ≤ tag := by omega
      go_enter Try.func56, Try.ntmps56
      go_wp2
      go_ret
      exact ⟨rfl, (Below.refl _ _).alloc (Nat.le_refl _) _⟩)
  go_enter Try.func25, Try.ntmps25
  go_wp2_with fail
  refine (open_nil w).mono ?_
  rintro e w1 ⟨rfl, hb⟩
  go_wp2_with fail
  refine (HPU.out w1).mono ?_
  rintro e w2 ⟨rfl, hb2⟩
  have HE := Lib.hid (hb.trans (hb2.mono hb.size))
  clear hb2 hb
  go_wp2
  go_ret
  exact ⟨rfl, HE.out⟩
theorem nPushBack (w : World) (tag : Int) (k : Value) :
    Calls Try.prog 26 #[nilS, .int .i64 tag, k] w fun e w' => e = .returned (.bool false) ∧ Below w.heap.size w w' := by
  have HPU : Hid (∀ w1, Calls Try.prog 56 #[.agg partsN, .func (.func 58) #[] #[], .int .i64 tag, k] w1 fun e w' => e = .returned (.bool false) ∧ Below w1.heap.size w1 w') := Lib.hid (by
    intro w1
    by_cases h1 : tag < 0
    · go_enter Try.func56, Try.ntmps56
      go_wp2
      go_ret
      exact ⟨rfl, (Below.refl _ _).alloc (Nat.le_refl _) _⟩
    · have h2 : 0 ≤ tag := by omega
      go_enter Try.func56, Try.ntmps56
      go_wp2
      go_ret
      exact ⟨rfl, (Below.refl _ _).alloc (Nat.le_refl _) _⟩)
  go_enter Try.func26, Try.ntmps26
  go_wp2_with fail
  refine (open_nil w).mono ?_
  rintro e w1 ⟨rfl, hb⟩
  go_wp2_with fail
  refine (HPU.out w1).mono ?_
  rintro e w2 ⟨rfl, hb2⟩
  have HE := Lib.hid (hb.trans (hb2.mono hb.size))
  clear hb2 hb
  go_wp2
  go_ret
  exact ⟨rfl, HE.out⟩
end Go.Proofs.Ytnacmhljbnpdpaa
