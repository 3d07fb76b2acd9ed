/- Words and walks: LsA LsN HeldL HxM HxT. -/
import Derived.Test.YtkhikpnlpcankaaGreatG3
import Derived.Test.YtkhikpnlpcankaaGreatG6
import Derived.RangeFuncBox
import Derived.RangeFuncLeaves
import Derived.RangeFuncNested
import Derived.RangeFuncBound
import Derived.RangeFuncCalls
import Derived.Shelf.Abstract
import Derived.Shelf.RegionOpen
import Derived.OwnWalkIn
import Derived.TacticsInMore
import Derived.LoopNIn
import Derived.LoopIn
import Derived.Maps.AppendAt
import Derived.Test.YtkhikpnlpcankaaGreatProg
import Derived.WalkKit
import Derived.RowKit3
import Derived.Laws.Bits64
import Derived.Laws.Shifts
import Derived.Lib.Hide
import Derived.Deep.LoopGhost
namespace Go.Proofs.YtkhikpnlpcankaaGreat
open Go Go.RowKit Go.Deep Go.Shelf
attribute [local go_sem] Oper.semAt_some
def allL (n : Nat) (l : Nat → List Nat) (tag : Int) : List Nat := if hasT n tag then l tag.toNat else []
section
variable {w0 w w1 w2 w' : World} {p b n : Nat} {l : Nat → List Nat} {A : St} {K : List Nat}
theorem allL_len (n : Nat) (l : Nat → List Nat) (tag : Int) : lenL n l tag = (allL n l tag).length := by unfold lenL allL; split <;> rfl
theorem allL_front (n : Nat) (l : Nat → List Nat) (tag : Int) : frontL n l tag = (allL n l tag).headD 0 := by unfold frontL allL; split <;> rfl
theorem hl_afterAll (h : HL w0 w p b n l A K) (tag : Int) (xs : List Nat) (hx : allL n l tag = xs) (k : Nat) (hk : k < xs.length) :
    Calls Tryz.prog 134 #[.pointer (some ⟨p, 0, none⟩), .int .i32 (xs[k] : Nat)] w fun e w' => e = .returned (.int .i32 ((xs.drop (k + 1)).headD 0 : Nat)) ∧ Below w.heap.size w w' := by
  unfold allL at hx
  split at hx
  · rename_i ht
    obtain ⟨t, rfl, htn⟩ := hasT_nat ht
    have e : ((t : Int)).toNat = t := by omega
    rw [e] at hx
    subst hx
    exact hl_after h htn hk
  · subst hx; simp at hk
theorem HL.allLen (h : HL w0 w p b n l A K) (tag : Int) : (allL n l tag).length ≤ 1000000 := by
  unfold allL
  split
  · rename_i ht
    obtain ⟨t, rfl, htn⟩ := hasT_nat ht
    exact h.len (by omega)
  · simp
theorem grown_below {B : Nat} {J : List Nat → World → Prop} (hJ : AbidesFrom B J) {pre : List Nat} {w w' : World} (h : J pre w) (hb : Below w.heap.size w w') : J pre w' :=
  hJ pre w w' none h ⟨hb.os, hb.tape, hb.output, hb.size, fun k hk _ => hb.block k hk⟩ (fun r e => by cases e)
def KeepsTwo (n B : Nat) (X Y : World) : Prop := Below n X Y ∧ Y.heap[B]? = X.heap[B]?
set_option maxRecDepth 100000 in
set_option maxHeartbeats 1000000 in
theorem each1_in (m : Nat) (hm : 1 ≤ m) (r B1 B2 : Nat) (tag : Int) (xs : List Nat) (hxs : allL n l tag = xs) (J Jx : List Nat → World → Prop) (W : World) (hJ : AbidesFrom W.heap.size J)
    (hY : ∀ pre x W, J pre W → pre.length < xs.length → YieldAt Fence.wide (m - 1) Tryz.prog r #[.int .i32 (x : Nat)] W fun e W' =>
      (e = .returned (.bool true) ∧ J (pre ++ [x]) W' ∧ KeepsTwo w.heap.size B1 W W') ∨ (e = .returned (.bool false) ∧ Jx (pre ++ [x]) W'))
    (h : HL w0 w p b n l A K) (hW : Below w.heap.size w W) (hB1 : W.cell? ⟨B1, 0, none⟩ = some (.pointer (some ⟨p, 0, none⟩))) (hB2 : W.cell? ⟨B2, 0, none⟩ = some (.int .i64 tag)) (hl1 : B1 < W.heap.size) (h0 : J [] W) :
    CallsIn Fence.wide m Tryz.prog 132 #[.func (.yield r) #[] #[], .pointer (some ⟨B1, 0, none⟩), .pointer (some ⟨B2, 0, none⟩)] W fun e W' => (∃ v, e = .returned v) ∧
      ((∃ ys, ys = xs ∧ J ys W') ∨ (∃ pre, pre <+: xs ∧ Jx pre W')) := by
  have H := Lib.hid h
  have HW := Lib.hid hW
  have HX := Lib.hid hxs
  have hlen : xs.length ≤ 1000000 := hxs ▸ h.allLen tag
  have HF : Hid (Calls Tryz.prog 133 #[.pointer (some ⟨p, 0, none⟩), .int .i64 tag] W fun e w' => e = .returned (.int .i32 (xs.headD 0 : Nat)) ∧ W = w') := by
    have g := hl_front (h.still hW).1 tag
    rw [allL_front, hxs] at g
    exact Lib.hid g
  have HLn : Hid (Calls Tryz.prog 92 #[.pointer (some ⟨p, 0, none⟩), .int .i64 tag] W fun e w' => e = .returned (.int .i64 (xs.length : Nat)) ∧ W = w') := by
    have g := hl_len (h.still hW).1 tag
    rw [allL_len, hxs] at g
    exact Lib.hid g
  have HJ := Lib.hid hJ
  clear h hW hxs hJ
  refine callsIn_of_wp Tryz.func132 rfl trivial ?_ rfl
  simp only [Tryz.ntmps132, List.size_toArray, List.length_cons, List.length_nil, Nat.reduceAdd, Nat.reduceSub, Array.replicate_succ, Array.replicate_zero, List.push_toArray, List.append_toArray, List.nil_append, List.cons_append]
  gi_wp2_with (first
    | (refine ⟨trivial, ?_⟩; gi_at_call 133; refine (callsIn_wide.2 HF.out).mono ?_; rintro e w1 ⟨rfl, rfl⟩)
    | (refine ⟨trivial, ?_⟩; gi_at_call 92; refine (callsIn_wide.2 HLn.out).mono ?_; rintro e w1 ⟨rfl, rfl⟩))
  gi_loopw [4, 11] (fun s4 s11 wr => ∃ k : Nat, k ≤ xs.length ∧ s4 = .int .i32 ((xs.drop k).headD 0 : Nat) ∧ s11 = .int .i64 k ∧ Hid (J (xs.take k) wr ∧ Below w.heap.size w wr ∧ wr.cell? ⟨B1, 0, none⟩ = some (.pointer (some ⟨p, 0, none⟩)) ∧ B1 < wr.heap.size))
    (fun s4 s11 wr => xs.length - (intOf s11).toNat)
  case atStart =>
    exact ⟨0, by omega, by simp, rfl, Lib.hid ⟨h0, HW.out, hB1, hl1⟩⟩
  case round =>
    obtain ⟨k, hk, rfl, rfl, HI⟩ := hrel
    by_cases hlt : k < xs.length
    · have hd : (xs.drop k).headD 0 = xs[k] := by simp [hlt]
      rw [hd]
      obtain ⟨fn, tmps, assign, body, hy, hR⟩ := hY (xs.take k) xs[k] wr HI.out.1 (by simp; omega)
      have c1 := HI.out.2.2.1
      have ltI : (k : Int) < (xs.length : Int) := by omega
      clear hd
      gi_wp2_with fail
      refine hR.mono ?_
      rintro e W3 (⟨rfl, hJ3, hk3⟩ | ⟨rfl, hJx3⟩)
      · have c3 := (World.cell?_of_block (w := wr) (a := ⟨B1, 0, none⟩) hk3.2).trans c1
        have hW3 := HI.out.2.1.trans hk3.1
        have HL3 := Lib.hid (hl_afterAll (H.out.still hW3).1 tag xs HX.out k hlt)
        have hl3 : B1 < W3.heap.size := Nat.lt_of_lt_of_le HI.out.2.2.2 hk3.1.size
        have HW3 := Lib.hid hW3
        have HJ3 := Lib.hid hJ3
        clear c1 hk3 hW3 hJ3
        gi_wp2_with (refine ⟨trivial, ?_⟩; gi_at_call 134; refine (callsIn_wide.2 HL3.out).mono ?_; rintro e W4 ⟨rfl, hb4⟩)
        go_roundw
        case rel =>
          refine ⟨k + 1, by omega, by simp, by go_num, Lib.hid ⟨?_, HW3.out.trans (hb4.mono HW3.out.size), (hb4.cell (p := ⟨B1, 0, none⟩) hl3).trans c3, Nat.lt_of_lt_of_le hl3 hb4.size⟩⟩
          have := grown_below HJ.out HJ3.out hb4
          rwa [← List.take_succ_eq_append_getElem hlt] at this
        case measure => simp only [intOf]; omega
      · gi_wp2
        refine bodyPost_ret (results_none rfl _ _ _) rfl ?_
        refine ⟨⟨_, rfl⟩, .inr ⟨xs.take k ++ [xs[k]], ?_, hJx3⟩⟩
        rw [← List.take_succ_eq_append_getElem hlt]
        exact List.take_prefix _ _
    · have ltI : ¬ (k : Int) < (xs.length : Int) := by omega
      gi_wp2
      go_end0
      have hJe := HI.out.1
      rw [List.take_of_length_le (by omega)] at hJe
      exact ⟨⟨_, rfl⟩, .inl hJe⟩
theorem each_in (m : Nat) (tag : Int) (P0 : Option Addr) (w : World) :
    CallsIn Fence.wide m Tryz.prog 115 #[.pointer P0, .int .i64 tag] w fun e w' => e = .returned (.func (.func 132) #[] #[.pointer (some ⟨w.heap.size, 0, none⟩), .pointer (some ⟨w.heap.size + 1, 0, none⟩)]) ∧
      w' = (w.alloc (.cells #[.pointer P0] 96)).alloc (.cells #[.int .i64 tag] 3) := by
  refine callsIn_of_wp Tryz.func115 rfl trivial ?_ rfl
  simp only [Tryz.ntmps115, List.size_toArray, List.length_cons, List.length_nil, Nat.reduceAdd, Nat.reduceSub, Array.replicate_succ, Array.replicate_zero, List.push_toArray, List.append_toArray, List.nil_append, List.cons_append]
  gi_wp2
  go_ret
  exact ⟨rfl, rfl⟩
theorem each_stops (m : Nat) (hm : 1 ≤ m) (B1 B2 : Nat) (tag : Int) (xs : List Nat) (hxs : allL n l tag = xs) (h : HL w0 w p b n l A K) (hw : Below w.heap.size w w1) (hB1 : w1.cell? ⟨B1, 0, none⟩ = some (.pointer (some ⟨p, 0, none⟩))) (hB2 : w1.cell? ⟨B2, 0, none⟩ = some (.int .i64 tag)) (hl1 : B1 < w1.heap.size) (hl2 : B2 < w1.heap.size) :
    SeqStopsK Fence.wide m Tryz.prog 132 #[.pointer (some ⟨B1, 0, none⟩), .pointer (some ⟨B2, 0, none⟩)] (fun x : Nat => #[Value.int .i32 (x : Nat)]) (KeepsTwo w.heap.size B1) (fun ys => ys = xs) (fun pre => pre <+: xs) xs.length w1 := fun r J Jx W hW hJ _ hY h0 =>
  each1_in m hm r B1 B2 tag xs hxs J Jx W hJ hY h (hw.trans (hW.mono hw.size)) ((hW.cell (p := ⟨B1, 0, none⟩) hl1).trans hB1) ((hW.cell (p := ⟨B2, 0, none⟩) hl2).trans hB2) (Nat.lt_of_lt_of_le hl1 hW.size) h0
theorem info_i32 : (Tryz.prog.info? 21).map (fun i => (i.zero, i.size, i.bytes)) = some (some (.int .i32 0), 1, 4) := by kernel_rfl
def slots (xs : List Nat) : List Value := xs.map (fun x => Value.int .i32 (x : Nat))
set_option maxRecDepth 100000 in
set_option maxHeartbeats 2000000 in
theorem all_in (P0 : Option Addr) (tag : Int) (xs : List Nat) (hlen : xs.length ≤ 1000000)
    (hseq : ∀ w1, Below w.heap.size w w1 → w1.cell? ⟨w.heap.size + 1, 0, none⟩ = some (.pointer P0) → w1.cell? ⟨w.heap.size + 1 + 1, 0, none⟩ = some (.int .i64 tag) → w.heap.size + 1 < w1.heap.size → w.heap.size + 1 + 1 < w1.heap.size →
      SeqStopsK Fence.wide 4 Tryz.prog 132 #[.pointer (some ⟨w.heap.size + 1, 0, none⟩), .pointer (some ⟨w.heap.size + 1 + 1, 0, none⟩)] (fun x : Nat => #[Value.int .i32 (x : Nat)]) (KeepsTwo w.heap.size (w.heap.size + 1)) (fun ys => ys = xs) (fun pre => pre <+: xs) xs.length w1) :
    CallsIn Fence.wide 5 Tryz.prog 88 #[.pointer P0, .int .i64 tag] w fun e W' => ∃ v, e = .returned v ∧ W'.ownsRow w.heap.size 21 1 v xs.length (slots xs) ∧ Below w.heap.size w W' := by
  obtain ⟨i0, hi, hz0, hz1, hz2⟩ := info_parts info_i32
  have HSQ := Lib.hid hseq
  clear hseq
  refine callsIn_of_wp_marks Tryz.func88 rfl trivial ?_ rfl
  simp only [Tryz.ntmps88, List.size_toArray, List.length_cons, List.length_nil, Nat.reduceAdd, Nat.reduceSub, Array.replicate_succ, Array.replicate_zero, List.push_toArray, List.append_toArray, List.nil_append, List.cons_append]
  gi_wp2_with (refine ⟨trivial, ?_⟩; gi_at_call 115; refine (each_in _ tag P0 _).mono ?_; rintro e w' ⟨rfl, rfl⟩)
  have bO := Boxed.new w 114 (.slice none 0 0)
  have bN := Boxed.new (w.alloc (.cells #[.slice none 0 0] 114)) 96 (.pointer P0)
  have bT := Boxed.new ((w.alloc (.cells #[.slice none 0 0] 114)).alloc (.cells #[.pointer P0] 96)) 3 (.int .i64 tag)
  rw [World.size_alloc] at bN
  rw [World.size_alloc, World.size_alloc] at bT
  have hB0 : Below w.heap.size w (((w.alloc (.cells #[.slice none 0 0] 114)).alloc (.cells #[.pointer P0] 96)).alloc (.cells #[.int .i64 tag] 3)) := (((Below.refl _ w).alloc (Nat.le_refl _) _).alloc (by simp) _).alloc (by simp; omega) _
  refine wpIn_rangeFunc_ownG rfl (by decide) (gf := 132) (lb := #[.pointer (some ⟨w.heap.size + 1, 0, none⟩), .pointer (some ⟨w.heap.size + 1 + 1, 0, none⟩)]) rfl trivial (enters_of Tryz.func132 (by kernel_rfl) rfl)
    (HSQ.out _ hB0 (bN.alloc _).cell bT.cell (by simp) (by simp)) (fun h k => ⟨h.1.trans k.1, k.2.trans h.2⟩)
    (fun W j o o' hj ho hc hk => ⟨belowK_b (w := ((w.alloc (.cells #[.slice none 0 0] 114)).alloc (.cells #[.pointer P0] 96)).alloc (.cells #[.int .i64 tag] 3)) (by simp; omega) W j o o' hj ho hc hk,
      (grownBy_putObj' W j o').block _ (by have := (Array.getElem?_eq_some_iff.1 ho).1; simp at hj; omega) (by simp at hj; simp; omega)⟩) (Below.refl _ _) (fun _ => rfl)
    (fun pre W => (∃ v, Boxed W w.heap.size 114 v ∧ W.ownsRow w.heap.size 21 1 v pre.length (slots pre) ∧ True) ∧ Boxed W (w.heap.size + 1) 96 (.pointer P0) ∧ Below w.heap.size w W)
    (fun _ _ _ => False)
    (OwnFrom.and (Own.from (holdsRow_own w.heap.size w.heap.size 114 21 1 (fun pre => pre.length) (fun pre => slots pre) (fun _ _ => True)) _) (OwnFrom.and (Own.from (boxed_own _ _ _) _) (ownFrom_below (Nat.le_refl _) (by simp; omega))))
    (fun _ _ _ _ _ hs _ _ => hs)
    ⟨⟨_, (bO.alloc _).alloc _, World.ownsRow_nil _ _ _ _, trivial⟩, bN.alloc _, hB0⟩
    (fun x => { tmps := #[.pointer P0, .int .i64 tag, undef, undef, .slice none 0 0, .pointer (some ⟨w.heap.size, 0, none⟩), .int .i32 (x : Nat), .pointer P0, .int .i64 tag, .func (.func 132) #[] #[.pointer (some ⟨w.heap.size + 1, 0, none⟩), .pointer (some ⟨w.heap.size + 1 + 1, 0, none⟩)], .int .i32 (x : Nat), undef, undef, undef, undef, undef], defers := [] }) ?assign ?body ?done ?stop
  case assign =>
    intro l x W K hK
    gi_wp2
    exact hK
  case body =>
    rintro l pre x W ⟨⟨v, hv, hrow, _⟩, hbx, hB⟩ hlt
    have hc := hv.cell
    have hx1 : slots pre ++ [.int .i32 (x : Nat)] = slots (pre ++ [x]) := by simp [slots]
    gi_wp2_with (gi_at_builtin; refine wpListIn_append_own _ rfl _ _ 114 rfl w.heap.size 21 i0 (.int .i32 0) 1 4 Tryz.underlying114 hi hz0 hz1 hz2 rfl (by decide) _ _ _ rfl (hrow.alloc _) ⟨W.heap.size, 0, none⟩ 1 1 [.int .i32 (x : Nat)] rfl rfl (cell_one_new _ _ _) (by simp [Value.oneCell']) (by unfold maxLen; omega) (by omega) (by have := hB.size; simp; omega) ?_; intro v' w1 hown' hgrow _; obtain ⟨g', cap', rfl⟩ := ownsRow_succ hown'; obtain ⟨hv1, hv2, hr2, hk2, hb2⟩ := hv.appended (by decide) hrow hB.size (Nat.le_refl _) hown' hgrow; have hc1 := hv1.cell; have hf1 := hv1.frozen; have hbx1 := (hbx.alloc _).kept hgrow (hbx.not_row (by decide) hrow); have hbx2 : Boxed (w1.setCell ⟨w.heap.size, 0, none⟩ (.slice (some ⟨g', 0, none⟩) (pre.length + 1) cap')) (w.heap.size + 1) 96 (.pointer P0) := (Below.heap_setCell _ _ _ _ (by simp)).trans hbx1)
    exact ⟨hk2.from _, ⟨hb2, hbx2.trans hbx.symm⟩, ⟨_, hv2, by rw [← hx1]; simpa using hr2, trivial⟩, hbx2, hB.trans hb2⟩
  case done =>
    rintro D ys W hD rfl ⟨⟨v, hv, hrow, _⟩, _, hB⟩ hK
    have hc := hv.cell
    gi_wp2
    refine ⟨by simp, .inl ⟨_, _, rfl, run_takeDeferred hK, ?_⟩⟩
    exact ⟨_, results_tmp rfl _ _ _, v, rfl, ownsRow_putObj hrow _ hK rfl, hB.trans (belowK_b (w := w) (Nat.le_refl _) W D _ _ (by simp at hD; omega) hK rfl rfl)⟩
  case stop =>
    rintro D c pre W _ _ h _
    exact h.elim
theorem all_walk (h : HL w0 w p b n l A K) (tag : Int) :
    Calls Tryz.prog 88 #[.pointer (some ⟨p, 0, none⟩), .int .i64 tag] w fun e W' => ∃ v, e = .returned v ∧ W'.ownsRow w.heap.size 21 1 v (allL n l tag).length (slots (allL n l tag)) ∧ Below w.heap.size w W' :=
  callsIn_wide.1 (all_in _ tag _ (h.allLen tag) (fun _ g1 g2 g3 g4 g5 => each_stops 4 (by decide) _ _ tag _ rfl h g1 g2 g3 g4 g5))
end
end Go.Proofs.YtkhikpnlpcankaaGreat
namespace Go.Proofs.YtkhikpnlpcankaaGreat
open Go Go.RowKit Go.Deep
theorem make_ends (n : Nat) (hn : n ≤ 1000000000) (w : World) :
    ∃ cs : Array Value, (Instr.makeSlice 140 (.int .i64 n) (.int .i64 n)).run Tryz.prog w = .ok (.slice (some ⟨w.heap.size, 0, none⟩) n n) (w.alloc (.cells cs 157)) ∧
      cs.size = n * 3 ∧ ∀ p, p < cs.size → cs[p]? = some (enV (fun _ => ⟨0, 0, 0⟩) p) := by
  have hinfo : (Tryz.prog.info? 157).map (fun i => (i.zero, i.size, i.bytes)) = some (some (.agg #[.int .i32 0, .int .i32 0, .int .i64 0]), 3, 16) := by kernel_rfl
  obtain ⟨i, hi, hz0, hz1, hz2⟩ := info_parts hinfo
  have hr := run_make (P := Tryz.prog) w 140 157 i _ (by kernel_rfl) hi hz0 .i64 .i64 n n (by omega) (by omega) (by rw [hz2]; omega) (by omega)
  refine ⟨_, by simpa using hr, ?_⟩
  rw [hz1]
  refine ⟨size_madeCells _ _, fun p hp => ?_⟩
  rw [size_madeCells] at hp
  have hp7 : p % 3 < 3 := Nat.mod_lt _ (by decide)
  simp only [madeCells, Value.cells, Array.getElem?_map]
  rw [Array.getElem?_range, if_pos hp]
  simp only [Option.map_some, Option.some.injEq, enV]
  generalize p % 3 = j at hp7
  match j, hp7 with
  | 0, _ => rfl
  | 1, _ => rfl
  | 2, _ => rfl
def numT (tags : Int) : Nat := if tags < 1 then 1 else if 8 < tags then 8 else tags.toNat
theorem numT_bounds (tags : Int) : 1 ≤ numT tags ∧ numT tags ≤ 8 := by
  unfold numT
  split
  · omega
  · split <;> omega
section
variable {w0 w : World} {b : Nat} {A : St} {K : List Nat}
theorem new_ends_l (h : Held w0 w b A K) (hs : A.n ≤ 1000000) (hz : ∀ j, j ≠ 0 → (A.node j).tag = 0 ∧ (A.node j).prev = 0 ∧ (A.node j).next = 0) (n : Nat) (h1 : 1 ≤ n) (h8 : n ≤ 8) {cs : Array Value} (hc : cs.size = n * 3) (hcs : ∀ p, p < cs.size → cs[p]? = some (enV (fun _ => ⟨0, 0, 0⟩) p)) :
    HL w0 ((w.alloc (.cells cs 157)).alloc (.cells (lsCells b w.heap.size n) 142)) (w.heap.size + 1) b n (fun _ => []) A K ∧ Kept K w ((w.alloc (.cells cs 157)).alloc (.cells (lsCells b w.heap.size n) 142)) := by
  have hb : Below w.heap.size w ((w.alloc (.cells cs 157)).alloc (.cells (lsCells b w.heap.size n) 142)) := ((Below.refl _ _).alloc (Nat.le_refl _) _).alloc (by simp) _
  have hsz := h.below.size
  have hw2 : ((w.alloc (.cells cs 157)).alloc (.cells (lsCells b w.heap.size n) 142)).heap.size = w.heap.size + 2 := by simp
  have hrow := World.rowIs_alloc w cs 157 _ hcs
  rw [hc] at hrow
  have hl := heap_alloc_new (w.alloc (.cells cs 157)) (.cells (lsCells b w.heap.size n) 142)
  rw [World.size_alloc] at hl
  refine ⟨⟨⟨A, n, fun _ => ⟨0, 0, 0⟩⟩, ⟨hs, h1, h8, w.heap.size, ?_, by omega, hsz, by omega, ?_, ?_, hl, hrow.alloc _⟩, ?_, rfl, Alike.refl A⟩, (h.still hb).2⟩
  · refine h.other hb (fun k hk => ?_)
    rw [hw2]
    rcases List.mem_cons.1 hk with rfl | hk
    · exact ⟨.inr (by omega), by omega⟩
    · rcases List.mem_cons.1 hk with rfl | hk
      · exact ⟨.inr (Nat.le_refl _), by omega⟩
      · exact ⟨.inl hk, by have := h.old k hk; omega⟩
  · intro hk; have := h.old _ hk; omega
  · intro hk; have := h.old _ hk; omega
  · exact ⟨fun t _ i hi => by simp at hi, fun _ _ => List.nodup_nil, fun t _ i hi => by simp at hi, fun i hi _ => hz i hi, fun t _ => ⟨rfl, rfl⟩, fun _ _ => rfl⟩
theorem ilnew_walk (h : Held w0 w b A K) (hs : A.n ≤ 1000000) (hz : ∀ j, j ≠ 0 → (A.node j).tag = 0 ∧ (A.node j).prev = 0 ∧ (A.node j).next = 0) (tags : Int) :
    Calls Tryz.prog 68 #[.pointer (some ⟨b, 0, none⟩), .int .i64 tags] w fun e w' => e = .returned (.pointer (some ⟨w.heap.size + 1, 0, none⟩)) ∧ HL w0 w' (w.heap.size + 1) b (numT tags) (fun _ => []) A K ∧ Kept K w w' := by
  unfold numT
  by_cases h1 : tags < 1
  · rw [if_pos h1]
    obtain ⟨cs, hmk, hsz, hcs⟩ := make_ends 1 (by omega) w
    have hmk' : (Instr.makeSlice 140 (.int .i64 1) (.int .i64 1)).run Tryz.prog w = .ok (.slice (some ⟨w.heap.size, 0, none⟩) 1 1) (w.alloc (.cells cs 157)) := hmk
    clear hmk
    have HE := Lib.hid (new_ends_l h hs hz 1 (by omega) (by omega) hsz hcs)
    clear h hs hz hcs hsz
    go_enter Tryz.func68, Tryz.ntmps68
    go_wp2
    go_ret
    exact ⟨rfl, HE.out⟩
  · rw [if_neg h1]
    by_cases h8 : 8 < tags
    · rw [if_pos h8]
      obtain ⟨cs, hmk, hsz, hcs⟩ := make_ends 8 (by omega) w
      have hmk' : (Instr.makeSlice 140 (.int .i64 8) (.int .i64 8)).run Tryz.prog w = .ok (.slice (some ⟨w.heap.size, 0, none⟩) 8 8) (w.alloc (.cells cs 157)) := hmk
      clear hmk
      have HE := Lib.hid (new_ends_l h hs hz 8 (by omega) (by omega) hsz hcs)
      clear h hs hz hcs hsz
      go_enter Tryz.func68, Tryz.ntmps68
      go_wp2
      go_ret
      exact ⟨rfl, HE.out⟩
    · rw [if_neg h8]
      obtain ⟨n, rfl⟩ : ∃ n : Nat, tags = n := ⟨tags.toNat, by omega⟩
      have e : ((n : Int)).toNat = n := by omega
      rw [e]
      obtain ⟨cs, hmk, hsz, hcs⟩ := make_ends n (by omega) w
      have HE := Lib.hid (new_ends_l h hs hz n (by omega) (by omega) hsz hcs)
      have g1 : (1 : Int) ≤ (n : Int) := by omega
      have g2 : (n : Int) ≤ 8 := by omega
      clear h hs hz hcs hsz e
      go_enter Tryz.func68, Tryz.ntmps68
      go_wp2
      go_ret
      exact ⟨rfl, HE.out⟩
end
section
variable {w0 w : World} {b : Nat} {st : St} {K : List Nat}
end
end Go.Proofs.YtkhikpnlpcankaaGreat
namespace Go.Proofs.YtkhikpnlpcankaaGreat
open Go Go.RowKit
def fold (x : Nat) : Nat := x ^^^ x / 4294967296
def mixN (k : Nat) : Nat := fold (k * 11400714819323198485 % 18446744073709551616)
theorem fold_lt (x : Nat) (h : x < 18446744073709551616) : fold x < 18446744073709551616 :=
  Nat.xor_lt_two_pow (n := 64) h (Nat.lt_of_le_of_lt (Nat.div_le_self _ _) h)
theorem mixN_lt (k : Nat) : mixN k < 18446744073709551616 := fold_lt _ (Nat.mod_lt _ (by decide))
theorem xor32 (x : Nat) (h : x < 18446744073709551616) : bits .xor .u64 (x : Int) ((x : Int) / 4294967296) = ((fold x : Nat) : Int) := xorShift_u64 x 4294967296 h
theorem wrapMul (k c : Nat) : IntKind.u64.wrap ((k : Int) * (c : Int)) = ((k * c % 18446744073709551616 : Nat) : Int) := by
  rw [IntKind.wrap_u64, Int.natCast_emod, Int.natCast_mul]; rfl
theorem wrapF (k : Nat) : IntKind.u64.wrap ((k : Int) * 11400714819323198485) = ((k * 11400714819323198485 % 18446744073709551616 : Nat) : Int) := wrapMul k 11400714819323198485
theorem fold_walk (w : World) (x : Nat) (hx : x < 18446744073709551616) (p : Addr) (hp : w.cell? p = some (.int .i64 32)) :
    Calls Tryz.prog 159 #[.int .u64 (x : Int), .pointer (some p)] w fun e w' => e = .returned (.int .u64 (fold x : Int)) ∧ w = w' := by
  go_enter Tryz.func159, Tryz.ntmps159
  go_wp2
  go_ret
  exact ⟨congrArg (fun z => Ending.returned (Value.int .u64 z)) (xor32 x hx), rfl⟩
theorem foldBy_walk (w : World) :
    Calls Tryz.prog 154 #[.int .i64 32] w fun e w' => e = .returned (.func (.func 159) #[] #[.pointer (some ⟨w.heap.size, 0, none⟩)]) ∧ w' = w.alloc (.cells #[.int .i64 32] 3) := by
  have hmf : ∀ (fn : Fn) (first cap : Array Value) (w : World), (Instr.makeFunc fn first cap).run Tryz.prog w = .ok (.func fn first cap) w := fun _ _ _ _ => rfl
  go_enter Tryz.func154, Tryz.ntmps154
  go_wp2
  go_ret
  exact ⟨rfl, rfl⟩
theorem mix_walk (w : World) (k : Nat) :
    Calls Tryz.prog 144 #[.int .u64 (k : Int)] w fun e w' => e = .returned (.int .u64 (mixN k : Int)) ∧ w' = w.alloc (.cells #[.int .i64 32] 3) := by
  go_enter Tryz.func144, Tryz.ntmps144
  go_wp2_with fail
  refine (foldBy_walk _).mono ?_
  rintro e w' ⟨rfl, rfl⟩
  go_wp2_with fail
  rw [wrapF]
  refine (fold_walk _ _ (Nat.mod_lt _ (by decide)) _ (by simp)).mono ?_
  rintro e w' ⟨rfl, rfl⟩
  go_wp2
  go_ret
  exact ⟨rfl, rfl⟩
def isSz (s : Int) : Bool := (List.range 31).any fun i => s == 2 ^ i
theorem isSz_iff (s : Int) : isSz s = true ↔ ∃ i, i < 31 ∧ s = 2 ^ i := by simp [isSz]
theorem isSz_yes {s : Int} {k : Nat} (hk : k < 31) (h : s = 2 ^ k) : isSz s = true := (isSz_iff s).2 ⟨k, hk, h⟩
theorem isSz_no {s : Int} (h : ∀ j, j < 31 → s ≠ 2 ^ j) : isSz s = false := by
  cases e : isSz s
  · rfl
  · obtain ⟨i, hi, hs⟩ := (isSz_iff s).1 e
    exact absurd hs (h i hi)
theorem wrap64_pow : ∀ k, k < 31 → wrap64 ((2 : Int) ^ k) = 2 ^ k := by decide +kernel
theorem pow_le30 : ∀ k, k < 31 → (2 : Int) ^ k ≤ 1073741824 := by decide +kernel
theorem pow_pos2 (k : Nat) : (0 : Int) < 2 ^ k := Int.pow_pos (by decide)
theorem isSize_walk (w : World) (s : Int) :
    Calls Tryz.prog 143 #[.int .i64 s] w fun e w' => e = .returned (.bool (isSz s)) ∧ w = w' := by
  go_enter Tryz.func143, Tryz.ntmps143
  go_wp2
  go_loop [4] (fun i => ∃ k : Nat, k ≤ 31 ∧ i = .int .i64 k ∧ Hid (∀ j, j < k → s ≠ 2 ^ j)) (fun i => 31 - (intOf i).toNat)
  case atStart => exact ⟨0, by omega, rfl, Lib.hid (fun j hj => by omega)⟩
  case round =>
    obtain ⟨k, hk, rfl, hN⟩ := hrel
    go_wp2
    · have hlt : k < 31 := by omega
      have hq : (s == wrap64 (2 ^ k)) = true := by assumption
      rw [wrap64_pow k hlt] at hq
      have hy := isSz_yes hlt (by simpa using hq)
      go_ret
      exact ⟨congrArg (fun b => Ending.returned (Value.bool b)) hy.symm, rfl⟩
    · have hlt : k < 31 := by omega
      have hq : (s == wrap64 (2 ^ k)) = false := by assumption
      rw [wrap64_pow k hlt] at hq
      go_round
      case rel =>
        refine ⟨k + 1, by omega, by go_num, Lib.hid fun j hj => ?_⟩
        rcases Nat.lt_or_ge j k with h | h
        · exact hN.out j h
        · obtain rfl : j = k := by omega
          simpa using hq
      case measure => simp only [intOf]; omega
    · have hge : ¬ ((k : Int) < 31) := by first | assumption | omega
      obtain rfl : k = 31 := by omega
      have hy := isSz_no hN.out
      go_ret
      exact ⟨congrArg (fun b => Ending.returned (Value.bool b)) hy.symm, rfl⟩
def box : Obj := .cells #[.int .i64 32] 3
theorem isSz_bounds {s : Int} (h : isSz s = true) : 1 ≤ s ∧ s ≤ 1073741824 := by
  obtain ⟨i, hi, rfl⟩ := (isSz_iff s).1 h
  have := pow_pos2 i
  exact ⟨by omega, pow_le30 i hi⟩
theorem isSize_is (w : World) (s : Int) (b : Bool) (h : isSz s = b) :
    Calls Tryz.prog 143 #[.int .i64 s] w fun e w' => e = .returned (.bool b) ∧ w = w' := h ▸ isSize_walk w s
theorem home_yes (w : World) (k : Nat) (s : Int) (h : isSz s = true) :
    Calls Tryz.prog 135 #[.int .u64 (k : Int), .int .i64 s] w fun e w' => e = .returned (.int .i64 ((mixN k : Int) % s)) ∧ w' = w.alloc box := by
  obtain ⟨h1, h2⟩ := isSz_bounds h
  have H := Lib.hid h
  clear h
  have hm := mixN_lt k
  have e1 : IntKind.u64.wrap s = s := by rw [IntKind.wrap_u64]; omega
  have e2 : (mixN k : Int).tmod s = (mixN k : Int) % s := Int.tmod_eq_emod_of_nonneg (by omega)
  have e3 : 0 ≤ (mixN k : Int) % s := Int.emod_nonneg _ (by omega)
  have e4 : (mixN k : Int) % s < s := Int.emod_lt_of_pos _ (by omega)
  go_enter Tryz.func135, Tryz.ntmps135
  go_wp2_with fail
  refine (isSize_is _ _ true H.out).mono ?_
  rintro e w' ⟨rfl, rfl⟩
  go_wp2_with fail
  refine (mix_walk _ k).mono ?_
  rintro e w' ⟨rfl, rfl⟩
  go_wp2
  go_ret
  exact ⟨rfl, rfl⟩
end Go.Proofs.YtkhikpnlpcankaaGreat
namespace Go.Proofs.YtkhikpnlpcankaaGreat
def firstIn (p : Nat → Bool) : Nat → Nat → Nat
  | 0, j => j
  | m + 1, j => if p j then j else firstIn p m (j + 1)
theorem firstIn_le (p : Nat → Bool) : ∀ m j, firstIn p m j ≤ j + m
  | 0, j => Nat.le_refl _
  | m + 1, j => by
    unfold firstIn
    split
    · omega
    · have := firstIn_le p m (j + 1); omega
theorem firstIn_no (p : Nat → Bool) : ∀ m j i, j ≤ i → i < firstIn p m j → p i = false
  | 0, j, i => fun h1 h2 => by unfold firstIn at h2; omega
  | m + 1, j, i => fun h1 h2 => by
    unfold firstIn at h2
    split at h2
    · omega
    · rename_i hp
      rcases Nat.eq_or_lt_of_le h1 with rfl | h
      · exact eq_false_of_ne_true hp
      · exact firstIn_no p m (j + 1) i h h2
theorem firstIn_yes (p : Nat → Bool) : ∀ m j, firstIn p m j < j + m → p (firstIn p m j) = true
  | 0, j => fun h => by unfold firstIn at h; omega
  | m + 1, j => fun h => by
    unfold firstIn at h ⊢
    split
    · assumption
    · rename_i hp
      rw [if_neg hp] at h
      exact firstIn_yes p m (j + 1) (by omega)
theorem firstIn_lt (p : Nat → Bool) (m j i : Nat) (h1 : j ≤ i) (hp : p i = true) : firstIn p m j ≤ i := by
  rcases Nat.lt_or_ge i (firstIn p m j) with h | h
  · have := firstIn_no p m j i h1 h
    rw [hp] at this
    exact absurd this (by decide)
  · exact h
def cntB (f : Nat → Bool) : Nat → Nat
  | 0 => 0
  | m + 1 => cntB f m + if f m then 1 else 0
theorem cntB_le (f : Nat → Bool) : ∀ m, cntB f m ≤ m
  | 0 => Nat.le_refl _
  | m + 1 => by
    have := cntB_le f m
    unfold cntB
    split <;> omega
theorem cntB_hole (f : Nat → Bool) : ∀ m, cntB f m < m → ∃ i, i < m ∧ f i = false
  | 0 => fun h => by omega
  | m + 1 => fun h => by
    unfold cntB at h
    by_cases hf : f m = true
    · rw [if_pos hf] at h
      obtain ⟨i, hi, e⟩ := cntB_hole f m (by omega)
      exact ⟨i, by omega, e⟩
    · exact ⟨m, by omega, eq_false_of_ne_true hf⟩
theorem cntB_lt_of_hole (f : Nat → Bool) : ∀ m i, i < m → f i = false → cntB f m < m
  | 0, i => fun h => by omega
  | m + 1, i => fun h hf => by
    unfold cntB
    rcases Nat.eq_or_lt_of_le (Nat.le_of_lt_succ h) with rfl | h2
    · rw [hf]
      have := cntB_le f i
      simp
      omega
    · have := cntB_lt_of_hole f m i h2 hf
      split <;> omega
theorem cntB_same {f g : Nat → Bool} : ∀ m, (∀ x, x < m → f x = g x) → cntB f m = cntB g m
  | 0 => fun _ => rfl
  | m + 1 => fun h => by
    unfold cntB
    rw [cntB_same m (fun x hx => h x (by omega)), h m (by omega)]
theorem cntB_up {f g : Nat → Bool} {i : Nat} (h : ∀ x, x ≠ i → f x = g x) (hf : f i = false) (hg : g i = true) : ∀ m, i < m → cntB g m = cntB f m + 1
  | 0 => fun h => by omega
  | m + 1 => fun hm => by
    unfold cntB
    rcases Nat.eq_or_lt_of_le (Nat.le_of_lt_succ hm) with rfl | h2
    · rw [cntB_same i (fun x hx => (h x (by omega)).symm), hf, hg]
      simp
    · rw [cntB_up h hf hg m h2, h m (by omega)]
      omega
structure Sl where
  key : Nat
  n : Int
  full : Bool
def Sl.no : Sl := ⟨0, 0, false⟩
structure Tb where
  n : Nat
  sl : Nat → Sl
theorem hm_is : ∃ f : Nat → Nat → Nat, ∀ k n, f k n = (k * 11400714819323198485 % 18446744073709551616 ^^^ k * 11400714819323198485 % 18446744073709551616 / 4294967296) % n := ⟨_, fun _ _ => rfl⟩
noncomputable def hm : Nat → Nat → Nat := Classical.choose hm_is
theorem hm_eq (k n : Nat) : hm k n = (k * 11400714819323198485 % 18446744073709551616 ^^^ k * 11400714819323198485 % 18446744073709551616 / 4294967296) % n := Classical.choose_spec hm_is k n
theorem hm_lt (k : Nat) {n : Nat} (h : 0 < n) : hm k n < n := hm_eq k n ▸ Nat.mod_lt _ h
noncomputable def Tb.go (T : Tb) (k j : Nat) : Nat := (hm k T.n + j) % T.n
noncomputable def Tb.stops (T : Tb) (k j : Nat) : Bool := !(T.sl (T.go k j)).full || (T.sl (T.go k j)).key == k
noncomputable def Tb.steps (T : Tb) (k : Nat) : Nat := firstIn (T.stops k) T.n 0
noncomputable def Tb.look (T : Tb) (k : Nat) : Nat := T.go k (T.steps k)
def Tb.cnt (T : Tb) : Nat := cntB (fun i => (T.sl i).full) T.n
def Tb.has (T : Tb) (k : Nat) (v : Int) : Prop := ∃ i, i < T.n ∧ T.sl i = ⟨k, v, true⟩
structure Tb.Ok (T : Tb) : Prop where
  clean : ∀ i, i < T.n → (T.sl i).full = false → T.sl i = Sl.no
  hole : T.cnt < T.n
  near : ∀ i, i < T.n → (T.sl i).full = true → ∃ j, j < T.n ∧ T.go (T.sl i).key j = i ∧ ∀ x, x < j → (T.sl (T.go (T.sl i).key x)).full = true
  one : ∀ i j, i < T.n → j < T.n → (T.sl i).full = true → (T.sl j).full = true → (T.sl i).key = (T.sl j).key → i = j
noncomputable def Tb.lay (T : Tb) (s : Sl) : Tb := ⟨T.n, fun i => if i = T.look s.key then s else T.sl i⟩
theorem mod_go {h j n : Nat} (hh : h < n) (hj : j ≤ n) : (h + j) % n = if h + j < n then h + j else h + j - n := by
  split
  · exact Nat.mod_eq_of_lt ‹_›
  · rw [Nat.mod_eq_sub_mod (by omega), Nat.mod_eq_of_lt (by omega)]
theorem mod_go_inj {h i j n : Nat} (hh : h < n) (hi : i < n) (hj : j < n) (e : (h + i) % n = (h + j) % n) : i = j := by
  rw [mod_go hh (by omega), mod_go hh (by omega)] at e
  split at e <;> split at e <;> omega
theorem mod_go_onto {h x n : Nat} (hh : h < n) (hx : x < n) : ∃ j, j < n ∧ (h + j) % n = x := by
  by_cases hc : h ≤ x
  · exact ⟨x - h, by omega, by rw [mod_go hh (by omega)]; split <;> omega⟩
  · exact ⟨x + n - h, by omega, by rw [mod_go hh (by omega)]; split <;> omega⟩
section
variable {T : Tb}
theorem Tb.Ok.pos (h : T.Ok) : 0 < T.n := by have := h.hole; omega
theorem Tb.go_lt (hp : 0 < T.n) (k j : Nat) : T.go k j < T.n := Nat.mod_lt _ hp
theorem Tb.go_onto (hp : 0 < T.n) (k : Nat) {x : Nat} (hx : x < T.n) : ∃ j, j < T.n ∧ T.go k j = x := mod_go_onto (hm_lt k hp) hx
theorem Tb.stops_iff (k j : Nat) : T.stops k j = true ↔ (T.sl (T.go k j)).full = false ∨ (T.sl (T.go k j)).key = k := by
  unfold Tb.stops
  simp
theorem Tb.Ok.steps_lt (h : T.Ok) (k : Nat) : T.steps k < T.n := by
  obtain ⟨i, hi, e⟩ := cntB_hole _ _ h.hole
  obtain ⟨j, hj, rfl⟩ := T.go_onto h.pos k hi
  have := firstIn_lt (T.stops k) T.n 0 j (by omega) ((T.stops_iff k j).2 (.inl e))
  unfold Tb.steps
  omega
theorem Tb.Ok.look_lt (h : T.Ok) (k : Nat) : T.look k < T.n := T.go_lt h.pos _ _
theorem Tb.Ok.look_stops (h : T.Ok) (k : Nat) : (T.sl (T.look k)).full = false ∨ (T.sl (T.look k)).key = k :=
  (T.stops_iff k _).1 (firstIn_yes _ _ _ (by have := h.steps_lt k; unfold Tb.steps at this; omega))
theorem Tb.path (k : Nat) {j : Nat} (hj : j < T.steps k) : (T.sl (T.go k j)).full = true ∧ (T.sl (T.go k j)).key ≠ k := by
  have := firstIn_no (T.stops k) T.n 0 j (by omega) hj
  unfold Tb.stops at this
  simpa using this
theorem Tb.Ok.look_has (h : T.Ok) {i : Nat} (hi : i < T.n) (hf : (T.sl i).full = true) : T.look (T.sl i).key = i := by
  obtain ⟨j, hj, e, hp⟩ := h.near i hi hf
  have h1 : T.steps (T.sl i).key ≤ j := firstIn_lt _ _ _ j (by omega) ((T.stops_iff _ j).2 (.inr (by rw [e])))
  rcases Nat.eq_or_lt_of_le h1 with h2 | h2
  · unfold Tb.look
    rw [h2, e]
  · have hf2 := hp _ h2
    have hk := (h.look_stops (T.sl i).key).resolve_left (by unfold Tb.look; rw [hf2]; decide)
    exact h.one _ _ (h.look_lt _) hi hf2 hf hk
theorem Tb.Ok.has_iff (h : T.Ok) (k : Nat) (v : Int) : T.has k v ↔ (T.sl (T.look k)).full = true ∧ (T.sl (T.look k)).n = v := by
  constructor
  · rintro ⟨i, hi, e⟩
    have := h.look_has hi (by rw [e])
    rw [e] at this
    rw [this, e]
    exact ⟨rfl, rfl⟩
  · rintro ⟨hf, hv⟩
    have hk := (h.look_stops k).resolve_left (by rw [hf]; decide)
    refine ⟨_, h.look_lt k, ?_⟩
    generalize T.sl (T.look k) = s at hf hv hk
    cases s
    simp_all
theorem Tb.lay_at (s : Sl) : (T.lay s).sl (T.look s.key) = s := by unfold Tb.lay; simp
theorem Tb.lay_other (s : Sl) {i : Nat} (hi : i ≠ T.look s.key) : (T.lay s).sl i = T.sl i := by unfold Tb.lay; simp [hi]
theorem Tb.lay_full (s : Sl) (hs : s.full = true) {i : Nat} (hf : (T.sl i).full = true) : ((T.lay s).sl i).full = true := by
  by_cases e : i = T.look s.key
  · rw [e, T.lay_at, hs]
  · rw [T.lay_other s e, hf]
theorem Tb.Ok.lay_cnt (h : T.Ok) (s : Sl) (hs : s.full = true) : (T.lay s).cnt = T.cnt + if (T.sl (T.look s.key)).full then 0 else 1 := by
  unfold Tb.cnt
  show cntB _ T.n = _
  by_cases hf : (T.sl (T.look s.key)).full = true
  · rw [if_pos hf]
    refine cntB_same _ (fun x _ => ?_)
    by_cases e : x = T.look s.key
    · rw [e, T.lay_at, hs, hf]
    · rw [T.lay_other s e]
  · rw [if_neg hf]
    refine cntB_up (i := T.look s.key) (fun x hx => by rw [T.lay_other s hx]) (eq_false_of_ne_true hf) (by rw [T.lay_at, hs]) _ (h.look_lt _)
theorem Tb.Ok.lay_ok (h : T.Ok) (s : Sl) (hs : s.full = true) (hc : (T.lay s).cnt < T.n) : (T.lay s).Ok := by
  refine ⟨fun i hi hf => ?_, hc, fun i hi hf => ?_, fun i j hi hj hfi hfj e => ?_⟩
  · by_cases ei : i = T.look s.key
    · rw [ei, T.lay_at, hs] at hf
      exact absurd hf (by decide)
    · rw [T.lay_other s ei] at hf ⊢
      exact h.clean i hi hf
  · by_cases ei : i = T.look s.key
    · rw [ei, T.lay_at]
      exact ⟨T.steps s.key, h.steps_lt _, rfl, fun x hx => T.lay_full s hs (T.path s.key hx).1⟩
    · rw [T.lay_other s ei] at hf ⊢
      obtain ⟨j, hj, e, hp⟩ := h.near i hi hf
      exact ⟨j, hj, e, fun x hx => T.lay_full s hs (hp x hx)⟩
  · have key : ∀ x, x < T.n → x ≠ T.look s.key → (T.sl x).full = true → (T.sl x).key ≠ s.key := fun x hx hne hf e => hne (by rw [← e]; exact (h.look_has hx hf).symm)
    by_cases ei : i = T.look s.key
    · by_cases ej : j = T.look s.key
      · rw [ei, ej]
      · rw [ei, T.lay_at, T.lay_other s ej] at e
        rw [T.lay_other s ej] at hfj
        exact absurd e.symm (key j hj ej hfj)
    · by_cases ej : j = T.look s.key
      · rw [ej, T.lay_at, T.lay_other s ei] at e
        rw [T.lay_other s ei] at hfi
        exact absurd e (key i hi ei hfi)
      · rw [T.lay_other s ei, T.lay_other s ej] at e
        rw [T.lay_other s ei] at hfi
        rw [T.lay_other s ej] at hfj
        exact h.one i j hi hj hfi hfj e
theorem Tb.Ok.lay_has (h : T.Ok) (s : Sl) (hs : s.full = true) (k : Nat) (v : Int) : (T.lay s).has k v ↔ (k = s.key ∧ v = s.n) ∨ (k ≠ s.key ∧ T.has k v) := by
  constructor
  · rintro ⟨i, hi, e⟩
    by_cases ei : i = T.look s.key
    · rw [ei, T.lay_at] at e
      subst e
      exact .inl ⟨rfl, rfl⟩
    · rw [T.lay_other s ei] at e
      refine .inr ⟨?_, i, hi, e⟩
      rintro rfl
      have := h.look_has hi (by rw [e])
      rw [e] at this
      exact ei this.symm
  · rintro (⟨rfl, rfl⟩ | ⟨hk, i, hi, e⟩)
    · refine ⟨T.look s.key, h.look_lt _, ?_⟩
      rw [T.lay_at]
      cases s
      simp_all
    · refine ⟨i, hi, ?_⟩
      rw [T.lay_other, e]
      rintro rfl
      rcases h.look_stops s.key with g | g
      · rw [e] at g; simp at g
      · rw [e] at g; exact hk g
end
end Go.Proofs.YtkhikpnlpcankaaGreat
