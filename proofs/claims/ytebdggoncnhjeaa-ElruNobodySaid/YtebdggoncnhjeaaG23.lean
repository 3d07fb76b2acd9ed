/- Words and walks: ErN ErNb. -/
import Derived.Test.YtebdggoncnhjeaaG14
import Derived.Test.YtebdggoncnhjeaaG20
namespace Go.Proofs.Ytebdggoncnhjeaa
open Go Go.RowKit Go.Deep
abbrev nilX : Value := .pointer none
theorem nil_fld (w : World) : (Instr.field paT (.agg nilC) 0).run Try.prog w = .ok nilX w := by kernel_rfl
theorem enTouch (w : World) (k : Value) :
    Calls Try.prog 35 #[nilX, k] w fun e w' => e = .returned (.tuple #[]) ∧ Below w.heap.size w w' := by
  have hfld := nil_fld
  go_enter Try.func35, Try.ntmps35
  go_wp2_with fail
  refine (eopen_nil w).mono ?_
  rintro e w1 ⟨rfl, hb⟩
  go_wp2_with fail
  refine (nMove w1 0 k).mono ?_
  rintro e w2 ⟨rfl, hb2⟩
  have HB := Lib.hid (hb.trans (hb2.mono hb.size))
  clear hb hb2
  go_wp2
  exact bodyPost_end (v := .tuple #[]) (by simp [results, Try.results35, go_sem]) rfl ⟨rfl, HB.out⟩
theorem enDrop (w : World) (k : Value) :
    Calls Try.prog 36 #[nilX, k] w fun e w' => e = .returned (.tuple #[]) ∧ Below w.heap.size w w' := by
  have hfld := nil_fld
  go_enter Try.func36, Try.ntmps36
  go_wp2_with fail
  refine (eopen_nil w).mono ?_
  rintro e w1 ⟨rfl, hb⟩
  go_wp2_with fail
  refine (nRemove w1 k).mono ?_
  rintro e w2 ⟨rfl, hb2⟩
  have HB := Lib.hid (hb.trans (hb2.mono hb.size))
  clear hb hb2
  go_wp2
  exact bodyPost_end (v := .tuple #[]) (by simp [results, Try.results36, go_sem]) rfl ⟨rfl, HB.out⟩
theorem enHas (w : World) (k : Value) :
    Calls Try.prog 18 #[nilX, k] w fun e w' => e = .returned (.bool false) ∧ Below w.heap.size w w' := by
  have hfld := nil_fld
  go_enter Try.func18, Try.ntmps18
  go_wp2_with fail
  refine (eopen_nil w).mono ?_
  rintro e w1 ⟨rfl, hb⟩
  go_wp2_with fail
  refine (nFind w1 k).mono ?_
  rintro e w2 ⟨rfl, hb2⟩
  have HB := Lib.hid (hb.trans (hb2.mono hb.size))
  clear hb hb2
  go_wp2
  go_ret
  exact ⟨rfl, HB.out⟩
theorem enKeys (w : World) :
    Calls Try.prog 17 #[nilX] w fun e w' => e = .returned (.slice none 0 0) ∧ Below w.heap.size w w' := by
  have hfld := nil_fld
  go_enter Try.func17, Try.ntmps17
  go_wp2_with fail
  refine (eopen_nil w).mono ?_
  rintro e w1 ⟨rfl, hb⟩
  go_wp2_with fail
  refine (nKeys w1 0).mono ?_
  rintro e w2 ⟨rfl, hb2⟩
  have HB := Lib.hid (hb.trans (hb2.mono hb.size))
  clear hb hb2
  go_wp2
  go_ret
  exact ⟨rfl, HB.out⟩
theorem enRooms (w : World) :
    Calls Try.prog 33 #[nilX] w fun e w' => e = .returned (.tuple #[.int .i64 0, .int .i64 0]) ∧ Below w.heap.size w w' := by
  have hfld := nil_fld
  go_enter Try.func33, Try.ntmps33
  go_wp2_with fail
  refine (eopen_nil w).mono ?_
  rintro e w1 ⟨rfl, hb⟩
  go_wp2_with fail
  refine (nRooms w1).mono ?_
  rintro e w2 ⟨rfl, hb2⟩
  have HB := Lib.hid (hb.trans (hb2.mono hb.size))
  clear hb hb2
  go_wp2
  exact bodyPost_ret (v := .tuple #[.int .i64 0, .int .i64 0]) (by simp [results, Try.results33, go_sem]) rfl ⟨rfl, HB.out⟩
theorem enResize (w : World) (n : Value) :
    Calls Try.prog 38 #[nilX, n] w fun e w' => e = .returned (.slice none 0 0) ∧ Below w.heap.size w w' := by
  go_enter Try.func38, Try.ntmps38
  go_wp2
  go_ret
  exact ⟨rfl, Below.refl _ _⟩
theorem enEvict (w : World) :
    Calls Try.prog 58 #[.agg nilC, .int .i64 (-1)] w fun e w' => e = .returned (.slice none 0 0) ∧ Below w.heap.size w w' := by
  have hb1 := low_one w (.cells nilC paT)
  have HX := Lib.hid (heap_alloc_new w (.cells nilC paT))
  have HB := Lib.hid hb1
  clear hb1
  go_enter Try.func58, Try.ntmps58
  go_wp2_with fail
  refine (nLen _ 0).mono ?_
  rintro e w2 ⟨rfl, hb2⟩
  have HB2 := Lib.hid (HB.out.trans (hb2.mono HB.out.size))
  clear hb2
  go_wp2_with fail
  go_loopg [5, 14] 0 (fun gg s5 s14 wr => s5 = .slice none 0 0 ∧ s14 = .int .i64 0 ∧ Hid (Below w.heap.size w wr))
  case atStart => exact ⟨rfl, rfl, HB2⟩
  case round =>
    obtain ⟨rfl, rfl, HI⟩ := hrel
    go_wp2
    go_ret
    exact ⟨rfl, HI.out⟩
theorem enAdmit (w : World) (k : Value) :
    Calls Try.prog 37 #[nilX, k] w fun e w' => e = .returned (.slice none 0 0) ∧ Below w.heap.size w w' := by
  go_enter Try.func37, Try.ntmps37
  go_wp2_with fail
  refine (enHas w k).mono ?_
  rintro e w1 ⟨rfl, hb⟩
  go_wp2_with fail
  refine (eopen_nil w1).mono ?_
  rintro e w2 ⟨rfl, hb2⟩
  have hb3 := hb.trans (hb2.mono hb.size)
  have HB := Lib.hid (hb3.alloc hb3.size (.cells nilC paT))
  have HX := Lib.hid (heap_alloc_new w2 (.cells nilC paT))
  clear hb hb2 hb3
  go_wp2_with fail
  refine (enEvict _).mono ?_
  rintro e w3 ⟨rfl, hb⟩
  have HB3 := Lib.hid (HB.out.trans (hb.mono HB.out.size))
  have hx := (hb.block w2.heap.size (by simp)).trans HX.out
  obtain ⟨⟨c0, c1⟩, _⟩ := c2_at hx
  clear hb hx HB HX
  go_wp2_with fail
  refine (nPushFront w3 0 k).mono ?_
  rintro e w4 ⟨rfl, hb⟩
  have HB4 := Lib.hid (HB3.out.trans (hb.mono HB3.out.size))
  clear hb HB3
  go_wp2
  go_ret
  exact ⟨rfl, HB4.out⟩
set_option maxHeartbeats 4000000 in
theorem enState (w : World) :
    Calls Try.prog 15 #[nilX] w fun e w' => e = .returned (.agg z8) ∧ Below w.heap.size w w' := by
  have hlow := low_one w (.cells z8 PT8)
  have HR0 := Lib.hid (heap_alloc_new w (.cells z8 PT8))
  have HL0 := Lib.hid hlow
  clear hlow
  go_enter Try.func15, Try.ntmps15
  go_wp2_with fail
  refine (eopen_nil _).mono ?_
  rintro e w1 ⟨rfl, hb1⟩
  have hl1 := HL0.out.trans (hb1.mono HL0.out.size)
  have hr1 := (hb1.block w.heap.size (by simp)).trans HR0.out
  have hlt := (head_row hr1).lt
  have hz := hl1.size
  have hb2 := low_one w1 (.cells nilC paT)
  have HB2 := Lib.hid (hl1.trans (hb2.mono hz))
  have HX2 := Lib.hid (heap_alloc_new w1 (.cells nilC paT))
  have HR2 := Lib.hid ((hb2.block w.heap.size hlt).trans hr1)
  clear hb1 hl1 hr1 hb2 HR0 HL0
  go_upto_region 2 with fail
  generalize hW : w1.alloc (.cells nilC paT) = X at HB2 HX2 HR2 ⊢
  clear hW
  have hne : w.heap.size ≠ w1.heap.size := by omega
  generalize w1.heap.size = bx at HX2 hlt hne ⊢
  clear hz
  obtain ⟨⟨c0, c1⟩, _⟩ := c2_at HX2.out
  obtain ⟨⟨r0, r1⟩, rf0, rf1⟩ := c2_at HR2.out
  have hbx := (head_row HX2.out).lt
  have HK : Hid (∀ W, Below X.heap.size X W → Calls Try.prog 47 #[nilX, .int .i64 0] W fun e w' => e = .returned (.slice none 0 0) ∧ Below X.heap.size X w' ∧ (w'.cell? ⟨bx, 0, none⟩ = some nilX ∧ w'.cell? ⟨bx, 1, none⟩ = some (.int .i64 0)) ∧ w'.heap[w.heap.size]? = some (.cells z8 PT8 (0, 0))) := Lib.hid (fun W hb => by
    refine (nKeys W 0).mono ?_
    rintro e w' ⟨rfl, hb'⟩
    have hb2 := hb.trans (hb'.mono hb.size)
    exact ⟨rfl, hb2, (c2_at ((hb2.block bx hbx).trans HX2.out)).1, (hb2.block _ (Nat.lt_trans hlt hbx)).trans HR2.out⟩)
  go_region_held3 (fun w' => w'.cell? ⟨bx, 0, none⟩ = some nilX ∧ w'.cell? ⟨bx, 1, none⟩ = some (.int .i64 0)) (first | with_reducible exact kk5 | go_keep)
    (first
      | (go_at_call 47; refine (HK.out _ (below_drewn (Below.refl _ _) _)).mono ?_; rintro e w5 ⟨rfl, hb5, kk5, hr5⟩; obtain ⟨⟨y0, y1⟩, yf0, yf1⟩ := c2_at hr5; have HB5 := Lib.hid hb5; have HR5 := Lib.hid hr5; clear hb5 hr5))
  all_goals
    go_wp2_with fail
    have HO : Hid (Only [w.heap.size] w5 ((w5.setCell ⟨w.heap.size, 0, none⟩ (.int .i64 0)).setCell ⟨w.heap.size, 1, none⟩ (.slice none 0 0))) := Lib.hid (((Only.refl _ _).setCell (by simp) _).setCell (by simp) _)
    have HF := Lib.hid (HB2.out.trans (HB5.out.mono HB2.out.size))
    exact bodyPost_ret (v := .agg z8) (by simp [results, Try.results15, go_sem, y0, y1]) rfl ⟨rfl, HF.out.trans (HO.out.below (by simp) HF.out.size)⟩
set_option maxHeartbeats 4000000 in
set_option maxRecDepth 4000 in
theorem nobody14_walk (w : World) (k : Nat) (c : Int) (hc1 : -9223372036854775808 ≤ c) (hc2 : c ≤ 9223372036854775807) : Calls Try.prog 7 #[.int .u64 (k : Nat), .int .i64 c] w (RetB w true) := by
  have HAW := Lib.hid (awake14_walk w)
  have HN : Hid (∀ W, Below w.heap.size w W → Calls Try.prog 9 #[.int .i64 c] W fun e w' => ∃ xp, e = .returned (ptr xp) ∧ EC w w' xp (L8.new c) 0) := Lib.hid (fun W hb => (enew_walk hb c hc1 hc2).mono (fun e w' ⟨xp, he, h, _⟩ => ⟨xp, he, h⟩))
  have HC := Lib.hid (fun (W : World) => rcap_walk (w := W) c hc1 hc2)
  have hfld0 : ∀ w : World, (Instr.field PT8 (.agg z8) 0).run Try.prog w = .ok (.int .i64 0) w := fun _ => by kernel_rfl
  have hfld1 : ∀ (u : Value) (w : World), (Instr.field PT8 (.agg (l8C (capI c) u)) 0).run Try.prog w = .ok (.int .i64 (capI c : Nat)) w := fun _ _ => by kernel_rfl
  have HE : Hid ((L8.new c).c = capI c) := Lib.hid rfl
  go_enter Try.func7, Try.ntmps7
  go_wp2_with fail
  refine HAW.out.mono ?_
  rintro e w1 ⟨rfl, hb⟩
  have HB1 := Lib.hid hb
  clear hb HAW
  go_wp2_with fail
  refine (enTouch w1 _).mono ?_
  rintro e w2 ⟨rfl, hb⟩
  have HB2 := Lib.hid (HB1.out.trans (hb.mono HB1.out.size))
  clear hb HB1
  go_wp2_with fail
  refine (enDrop w2 _).mono ?_
  rintro e w3 ⟨rfl, hb⟩
  have HB3 := Lib.hid (HB2.out.trans (hb.mono HB2.out.size))
  clear hb HB2
  go_wp2_with fail
  refine (enRooms w3).mono ?_
  rintro e w4 ⟨rfl, hb⟩
  have HB4 := Lib.hid (HB3.out.trans (hb.mono HB3.out.size))
  clear hb HB3
  go_wp2_with fail
  refine (enAdmit w4 _).mono ?_
  rintro e w5 ⟨rfl, hb⟩
  have HB5 := Lib.hid (HB4.out.trans (hb.mono HB4.out.size))
  clear hb HB4
  go_wp2_with fail
  refine (enResize w5 _).mono ?_
  rintro e w6 ⟨rfl, hb⟩
  have HB6 := Lib.hid (HB5.out.trans (hb.mono HB5.out.size))
  clear hb HB5
  go_wp2_with fail
  refine (enHas w6 _).mono ?_
  rintro e w7 ⟨rfl, hb⟩
  have HB7 := Lib.hid (HB6.out.trans (hb.mono HB6.out.size))
  clear hb HB6
  go_wp2_with fail
  refine (enKeys w7).mono ?_
  rintro e w8 ⟨rfl, hb⟩
  have HB8 := Lib.hid (HB7.out.trans (hb.mono HB7.out.size))
  clear hb HB7
  go_wp2_with fail
  refine (eghosts_walk _).mono ?_
  rintro e w9 ⟨rfl, rfl⟩
  go_wp2_with fail
  refine (enState w8).mono ?_
  rintro e w9 ⟨rfl, hb⟩
  have HB9 := Lib.hid (HB8.out.trans (hb.mono HB8.out.size))
  clear hb HB8
  go_wp2_with fail
  refine (HN.out w9 HB9.out).mono ?_
  rintro e wa ⟨xp, rfl, h⟩
  have HX := Lib.hid h
  clear h HN HB9
  go_wp2_with fail
  refine (estate_walk HX.out).mono ?_
  rintro e wb ⟨u, he, hb, _⟩
  rw [HE.out] at he
  subst he
  have HBb := Lib.hid (HX.out.below.trans (hb.mono HX.out.below.size))
  clear hb HX
  go_wp2_with fail
  refine (HC.out wb).mono ?_
  rintro e wc ⟨rfl, rfl⟩
  go_wp2
  go_ret
  exact ⟨rfl, HBb.out⟩
end Go.Proofs.Ytebdggoncnhjeaa
