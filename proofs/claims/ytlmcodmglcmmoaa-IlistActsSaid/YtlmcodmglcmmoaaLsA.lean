/- Package ilist: each, a range over a function; All. -/
import Derived.Test.YtlmcodmglcmmoaaLsM
import Derived.RangeFuncBox
import Derived.RangeFuncLeaves
import Derived.RangeFuncNested
import Derived.RangeFuncBound
import Derived.RangeFuncCalls
import Derived.Shelf.Abstract
import Derived.Shelf.RegionOpen
import Derived.OwnWalkIn
import Derived.TacticsInMore
import Derived.LoopNIn
import Derived.LoopIn
import Derived.Maps.AppendAt
namespace Go.Proofs.Ytlmcodmglcmmoaa
open Go Go.RowKit Go.Deep Go.Shelf

attribute [local go_sem] Oper.semAt_some

def allL (n : Nat) (l : Nat → List Nat) (tag : Int) : List Nat := if hasT n tag then l tag.toNat else []
section
variable {w0 w w1 w2 w' : World} {p b n : Nat} {l : Nat → List Nat} {A : St} {K : List Nat}
theorem allL_len (n : Nat) (l : Nat → List Nat) (tag : Int) : lenL n l tag = (allL n l tag).length := by unfold lenL allL; split <;> rfl
theorem allL_front (n : Nat) (l : Nat → List Nat) (tag : Int) : frontL n l tag = (allL n l tag).headD 0 := by unfold frontL allL; split <;> rfl
theorem hl_afterAll (h : HL w0 w p b n l A K) (tag : Int) (xs : List Nat) (hx : allL n l tag = xs) (k : Nat) (hk : k < xs.length) :
    Calls Try.prog 29 #[.pointer (some ⟨p, 0, none⟩), .int .i32 (xs[k] : Nat)] w fun e w' => e = .returned (.int .i32 ((xs.drop (k + 1)).headD 0 : Nat)) ∧ Below w.heap.size w w' := by
  unfold allL at hx
  split at hx
  · rename_i ht
    obtain ⟨t, rfl, htn⟩ := hasT_nat ht
    have e : ((t : Int)).toNat = t := by omega
    rw [e] at hx
    subst hx
    exact hl_after h htn hk
  · subst hx; simp at hk
theorem HL.allLen (h : HL w0 w p b n l A K) (tag : Int) : (allL n l tag).length ≤ 1000000 := by
  unfold allL
  split
  · rename_i ht
    obtain ⟨t, rfl, htn⟩ := hasT_nat ht
    exact h.len (by omega)
  · simp

theorem grown_below {B : Nat} {J : List Nat → World → Prop} (hJ : AbidesFrom B J) {pre : List Nat} {w w' : World} (h : J pre w) (hb : Below w.heap.size w w') : J pre w' :=
  hJ pre w w' none h ⟨hb.os, hb.tape, hb.output, hb.size, fun k hk _ => hb.block k hk⟩ (fun r e => by cases e)

/- What lay below n, and block B, is as it was. -/
def KeepsTwo (n B : Nat) (X Y : World) : Prop := Below n X Y ∧ Y.heap[B]? = X.heap[B]?

set_option maxRecDepth 100000 in
set_option maxHeartbeats 1000000 in
theorem each1_in (m : Nat) (hm : 1 ≤ m) (r B1 B2 : Nat) (tag : Int) (xs : List Nat) (hxs : allL n l tag = xs) (J Jx : List Nat → World → Prop) (W : World) (hJ : AbidesFrom W.heap.size J)
    (hY : ∀ pre x W, J pre W → pre.length < xs.length → YieldAt Fence.wide (m - 1) Try.prog r #[.int .i32 (x : Nat)] W fun e W' =>
      (e = .returned (.bool true) ∧ J (pre ++ [x]) W' ∧ KeepsTwo w.heap.size B1 W W') ∨ (e = .returned (.bool false) ∧ Jx (pre ++ [x]) W'))
    (h : HL w0 w p b n l A K) (hW : Below w.heap.size w W) (hB1 : W.cell? ⟨B1, 0, none⟩ = some (.pointer (some ⟨p, 0, none⟩))) (hB2 : W.cell? ⟨B2, 0, none⟩ = some (.int .i64 tag)) (hl1 : B1 < W.heap.size) (h0 : J [] W) :
    CallsIn Fence.wide m Try.prog 55 #[.func (.yield r) #[] #[], .pointer (some ⟨B1, 0, none⟩), .pointer (some ⟨B2, 0, none⟩)] W fun e W' => (∃ v, e = .returned v) ∧
      ((∃ ys, ys = xs ∧ J ys W') ∨ (∃ pre, pre <+: xs ∧ Jx pre W')) := by
  have H := Lib.hid h
  have HW := Lib.hid hW
  have HX := Lib.hid hxs
  have hlen : xs.length ≤ 1000000 := hxs ▸ h.allLen tag
  have HF : Hid (Calls Try.prog 19 #[.pointer (some ⟨p, 0, none⟩), .int .i64 tag] W fun e w' => e = .returned (.int .i32 (xs.headD 0 : Nat)) ∧ W = w') := by
    have g := hl_front (h.still hW).1 tag
    rw [allL_front, hxs] at g
    exact Lib.hid g
  have HLn : Hid (Calls Try.prog 18 #[.pointer (some ⟨p, 0, none⟩), .int .i64 tag] W fun e w' => e = .returned (.int .i64 (xs.length : Nat)) ∧ W = w') := by
    have g := hl_len (h.still hW).1 tag
    rw [allL_len, hxs] at g
    exact Lib.hid g
  have HJ := Lib.hid hJ
  clear h hW hxs hJ
  refine callsIn_of_wp Try.func55 rfl trivial ?_ rfl
  simp only [Try.ntmps55, List.size_toArray, List.length_cons, List.length_nil, Nat.reduceAdd, Nat.reduceSub, Array.replicate_succ, Array.replicate_zero, List.push_toArray, List.append_toArray, List.nil_append, List.cons_append]
  gi_wp2_with (first
    | (refine ⟨trivial, ?_⟩; gi_at_call 19; refine (callsIn_wide.2 HF.out).mono ?_; rintro e w1 ⟨rfl, rfl⟩)
    | (refine ⟨trivial, ?_⟩; gi_at_call 18; refine (callsIn_wide.2 HLn.out).mono ?_; rintro e w1 ⟨rfl, rfl⟩))
  gi_loopw [4, 11] (fun s4 s11 wr => ∃ k : Nat, k ≤ xs.length ∧ s4 = .int .i32 ((xs.drop k).headD 0 : Nat) ∧ s11 = .int .i64 k ∧ Hid (J (xs.take k) wr ∧ Below w.heap.size w wr ∧ wr.cell? ⟨B1, 0, none⟩ = some (.pointer (some ⟨p, 0, none⟩)) ∧ B1 < wr.heap.size))
    (fun s4 s11 wr => xs.length - (intOf s11).toNat)
  case atStart =>
    exact ⟨0, by omega, by simp, rfl, Lib.hid ⟨h0, HW.out, hB1, hl1⟩⟩
  case round =>
    obtain ⟨k, hk, rfl, rfl, HI⟩ := hrel
    by_cases hlt : k < xs.length
    · have hd : (xs.drop k).headD 0 = xs[k] := by simp [hlt]
      rw [hd]
      obtain ⟨fn, tmps, assign, body, hy, hR⟩ := hY (xs.take k) xs[k] wr HI.out.1 (by simp; omega)
      have c1 := HI.out.2.2.1
      have ltI : (k : Int) < (xs.length : Int) := by omega
      clear hd
      gi_wp2_with fail
      refine hR.mono ?_
      rintro e W3 (⟨rfl, hJ3, hk3⟩ | ⟨rfl, hJx3⟩)
      · have c3 := (World.cell?_of_block (w := wr) (a := ⟨B1, 0, none⟩) hk3.2).trans c1
        have hW3 := HI.out.2.1.trans hk3.1
        have HL3 := Lib.hid (hl_afterAll (H.out.still hW3).1 tag xs HX.out k hlt)
        have hl3 : B1 < W3.heap.size := Nat.lt_of_lt_of_le HI.out.2.2.2 hk3.1.size
        have HW3 := Lib.hid hW3
        have HJ3 := Lib.hid hJ3
        clear c1 hk3 hW3 hJ3
        gi_wp2_with (refine ⟨trivial, ?_⟩; gi_at_call 29; refine (callsIn_wide.2 HL3.out).mono ?_; rintro e W4 ⟨rfl, hb4⟩)
        go_roundw
        case rel =>
          refine ⟨k + 1, by omega, by simp, by go_num, Lib.hid ⟨?_, HW3.out.trans (hb4.mono HW3.out.size), (hb4.cell (p := ⟨B1, 0, none⟩) hl3).trans c3, Nat.lt_of_lt_of_le hl3 hb4.size⟩⟩
          have := grown_below HJ.out HJ3.out hb4
          rwa [← List.take_succ_eq_append_getElem hlt] at this
        case measure => simp only [intOf]; omega
      · gi_wp2
        refine bodyPost_ret (results_none rfl _ _ _) rfl ?_
        refine ⟨⟨_, rfl⟩, .inr ⟨xs.take k ++ [xs[k]], ?_, hJx3⟩⟩
        rw [← List.take_succ_eq_append_getElem hlt]
        exact List.take_prefix _ _
    · have ltI : ¬ (k : Int) < (xs.length : Int) := by omega
      gi_wp2
      go_end0
      have hJe := HI.out.1
      rw [List.take_of_length_le (by omega)] at hJe
      exact ⟨⟨_, rfl⟩, .inl hJe⟩

theorem each_in (m : Nat) (tag : Int) (P0 : Option Addr) (w : World) :
    CallsIn Fence.wide m Try.prog 46 #[.pointer P0, .int .i64 tag] w fun e w' => e = .returned (.func (.func 55) #[] #[.pointer (some ⟨w.heap.size, 0, none⟩), .pointer (some ⟨w.heap.size + 1, 0, none⟩)]) ∧
      w' = (w.alloc (.cells #[.pointer P0] 25)).alloc (.cells #[.int .i64 tag] 3) := by
  refine callsIn_of_wp Try.func46 rfl trivial ?_ rfl
  simp only [Try.ntmps46, List.size_toArray, List.length_cons, List.length_nil, Nat.reduceAdd, Nat.reduceSub, Array.replicate_succ, Array.replicate_zero, List.push_toArray, List.append_toArray, List.nil_append, List.cons_append]
  gi_wp2
  go_ret
  exact ⟨rfl, rfl⟩

theorem each_stops (m : Nat) (hm : 1 ≤ m) (B1 B2 : Nat) (tag : Int) (xs : List Nat) (hxs : allL n l tag = xs) (h : HL w0 w p b n l A K) (hw : Below w.heap.size w w1) (hB1 : w1.cell? ⟨B1, 0, none⟩ = some (.pointer (some ⟨p, 0, none⟩))) (hB2 : w1.cell? ⟨B2, 0, none⟩ = some (.int .i64 tag)) (hl1 : B1 < w1.heap.size) (hl2 : B2 < w1.heap.size) :
    SeqStopsK Fence.wide m Try.prog 55 #[.pointer (some ⟨B1, 0, none⟩), .pointer (some ⟨B2, 0, none⟩)] (fun x : Nat => #[Value.int .i32 (x : Nat)]) (KeepsTwo w.heap.size B1) (fun ys => ys = xs) (fun pre => pre <+: xs) xs.length w1 := fun r J Jx W hW hJ _ hY h0 =>
  each1_in m hm r B1 B2 tag xs hxs J Jx W hJ hY h (hw.trans (hW.mono hw.size)) ((hW.cell (p := ⟨B1, 0, none⟩) hl1).trans hB1) ((hW.cell (p := ⟨B2, 0, none⟩) hl2).trans hB2) (Nat.lt_of_lt_of_le hl1 hW.size) h0

theorem info_i32 : (Try.prog.info? 21).map (fun i => (i.zero, i.size, i.bytes)) = some (some (.int .i32 0), 1, 4) := by kernel_rfl
def slots (xs : List Nat) : List Value := xs.map (fun x => Value.int .i32 (x : Nat))

set_option maxRecDepth 100000 in
set_option maxHeartbeats 2000000 in
theorem all_in (P0 : Option Addr) (tag : Int) (xs : List Nat) (hlen : xs.length ≤ 1000000)
    (hseq : ∀ w1, Below w.heap.size w w1 → w1.cell? ⟨w.heap.size + 1, 0, none⟩ = some (.pointer P0) → w1.cell? ⟨w.heap.size + 1 + 1, 0, none⟩ = some (.int .i64 tag) → w.heap.size + 1 < w1.heap.size → w.heap.size + 1 + 1 < w1.heap.size →
      SeqStopsK Fence.wide 4 Try.prog 55 #[.pointer (some ⟨w.heap.size + 1, 0, none⟩), .pointer (some ⟨w.heap.size + 1 + 1, 0, none⟩)] (fun x : Nat => #[Value.int .i32 (x : Nat)]) (KeepsTwo w.heap.size (w.heap.size + 1)) (fun ys => ys = xs) (fun pre => pre <+: xs) xs.length w1) :
    CallsIn Fence.wide 5 Try.prog 20 #[.pointer P0, .int .i64 tag] w fun e W' => ∃ v, e = .returned v ∧ W'.ownsRow w.heap.size 21 1 v xs.length (slots xs) ∧ Below w.heap.size w W' := by
  obtain ⟨i0, hi, hz0, hz1, hz2⟩ := info_parts info_i32
  have HSQ := Lib.hid hseq
  clear hseq
  refine callsIn_of_wp_marks Try.func20 rfl trivial ?_ rfl
  simp only [Try.ntmps20, List.size_toArray, List.length_cons, List.length_nil, Nat.reduceAdd, Nat.reduceSub, Array.replicate_succ, Array.replicate_zero, List.push_toArray, List.append_toArray, List.nil_append, List.cons_append]
  gi_wp2_with (refine ⟨trivial, ?_⟩; gi_at_call 46; refine (each_in _ tag P0 _).mono ?_; rintro e w' ⟨rfl, rfl⟩)
  have bO := Boxed.new w 26 (.slice none 0 0)
  have bN := Boxed.new (w.alloc (.cells #[.slice none 0 0] 26)) 25 (.pointer P0)
  have bT := Boxed.new ((w.alloc (.cells #[.slice none 0 0] 26)).alloc (.cells #[.pointer P0] 25)) 3 (.int .i64 tag)
  rw [World.size_alloc] at bN
  rw [World.size_alloc, World.size_alloc] at bT
  have hB0 : Below w.heap.size w (((w.alloc (.cells #[.slice none 0 0] 26)).alloc (.cells #[.pointer P0] 25)).alloc (.cells #[.int .i64 tag] 3)) := (((Below.refl _ w).alloc (Nat.le_refl _) _).alloc (by simp) _).alloc (by simp; omega) _
  refine wpIn_rangeFunc_ownG rfl (by decide) (gf := 55) (lb := #[.pointer (some ⟨w.heap.size + 1, 0, none⟩), .pointer (some ⟨w.heap.size + 1 + 1, 0, none⟩)]) rfl trivial (enters_of Try.func55 (by kernel_rfl) rfl)
    (HSQ.out _ hB0 (bN.alloc _).cell bT.cell (by simp) (by simp)) (fun h k => ⟨h.1.trans k.1, k.2.trans h.2⟩)
    (fun W j o o' hj ho hc hk => ⟨belowK_b (w := ((w.alloc (.cells #[.slice none 0 0] 26)).alloc (.cells #[.pointer P0] 25)).alloc (.cells #[.int .i64 tag] 3)) (by simp; omega) W j o o' hj ho hc hk,
      (grownBy_putObj' W j o').block _ (by have := (Array.getElem?_eq_some_iff.1 ho).1; simp at hj; omega) (by simp at hj; simp; omega)⟩) (Below.refl _ _) (fun _ => rfl)
    (fun pre W => (∃ v, Boxed W w.heap.size 26 v ∧ W.ownsRow w.heap.size 21 1 v pre.length (slots pre) ∧ True) ∧ Boxed W (w.heap.size + 1) 25 (.pointer P0) ∧ Below w.heap.size w W)
    (fun _ _ _ => False)
    (OwnFrom.and (Own.from (holdsRow_own w.heap.size w.heap.size 26 21 1 (fun pre => pre.length) (fun pre => slots pre) (fun _ _ => True)) _) (OwnFrom.and (Own.from (boxed_own _ _ _) _) (ownFrom_below (Nat.le_refl _) (by simp; omega))))
    (fun _ _ _ _ _ hs _ _ => hs)
    ⟨⟨_, (bO.alloc _).alloc _, World.ownsRow_nil _ _ _ _, trivial⟩, bN.alloc _, hB0⟩
    (fun x => { tmps := #[.pointer P0, .int .i64 tag, undef, undef, .slice none 0 0, .pointer (some ⟨w.heap.size, 0, none⟩), .int .i32 (x : Nat), .pointer P0, .int .i64 tag, .func (.func 55) #[] #[.pointer (some ⟨w.heap.size + 1, 0, none⟩), .pointer (some ⟨w.heap.size + 1 + 1, 0, none⟩)], .int .i32 (x : Nat), undef, undef, undef, undef, undef], defers := [] }) ?assign ?body ?done ?stop
  case assign =>
    intro l x W K hK
    gi_wp2
    exact hK
  case body =>
    rintro l pre x W ⟨⟨v, hv, hrow, _⟩, hbx, hB⟩ hlt
    have hc := hv.cell
    have hx1 : slots pre ++ [.int .i32 (x : Nat)] = slots (pre ++ [x]) := by simp [slots]
    gi_wp2_with (gi_at_builtin; refine wpListIn_append_own _ rfl _ _ 26 rfl w.heap.size 21 i0 (.int .i32 0) 1 4 Try.underlying26 hi hz0 hz1 hz2 rfl (by decide) _ _ _ rfl (hrow.alloc _) ⟨W.heap.size, 0, none⟩ 1 1 [.int .i32 (x : Nat)] rfl rfl (cell_one_new _ _ _) (by simp [Value.oneCell']) (by unfold maxLen; omega) (by omega) (by have := hB.size; simp; omega) ?_; intro v' w1 hown' hgrow _; obtain ⟨g', cap', rfl⟩ := ownsRow_succ hown'; obtain ⟨hv1, hv2, hr2, hk2, hb2⟩ := hv.appended (by decide) hrow hB.size (Nat.le_refl _) hown' hgrow; have hc1 := hv1.cell; have hf1 := hv1.frozen; have hbx1 := (hbx.alloc _).kept hgrow (hbx.not_row (by decide) hrow); have hbx2 : Boxed (w1.setCell ⟨w.heap.size, 0, none⟩ (.slice (some ⟨g', 0, none⟩) (pre.length + 1) cap')) (w.heap.size + 1) 25 (.pointer P0) := (Below.heap_setCell _ _ _ _ (by simp)).trans hbx1)
    exact ⟨hk2.from _, ⟨hb2, hbx2.trans hbx.symm⟩, ⟨_, hv2, by rw [← hx1]; simpa using hr2, trivial⟩, hbx2, hB.trans hb2⟩
  case done =>
    rintro D ys W hD rfl ⟨⟨v, hv, hrow, _⟩, _, hB⟩ hK
    have hc := hv.cell
    gi_wp2
    refine ⟨by simp, .inl ⟨_, _, rfl, run_takeDeferred hK, ?_⟩⟩
    exact ⟨_, results_tmp rfl _ _ _, v, rfl, ownsRow_putObj hrow _ hK rfl, hB.trans (belowK_b (w := w) (Nat.le_refl _) W D _ _ (by simp at hD; omega) hK rfl rfl)⟩
  case stop =>
    rintro D c pre W _ _ h _
    exact h.elim

theorem all_walk (h : HL w0 w p b n l A K) (tag : Int) :
    Calls Try.prog 20 #[.pointer (some ⟨p, 0, none⟩), .int .i64 tag] w fun e W' => ∃ v, e = .returned v ∧ W'.ownsRow w.heap.size 21 1 v (allL n l tag).length (slots (allL n l tag)) ∧ Below w.heap.size w W' :=
  callsIn_wide.1 (all_in _ tag _ (h.allLen tag) (fun _ g1 g2 g3 g4 g5 => each_stops 4 (by decide) _ _ tag _ rfl h g1 g2 g3 g4 g5))
end
end Go.Proofs.Ytlmcodmglcmmoaa
