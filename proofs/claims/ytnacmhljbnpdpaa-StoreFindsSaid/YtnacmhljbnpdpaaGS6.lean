/- Words and walks for layer 6: SrD SrN. -/
import Derived.Test.YtnacmhljbnpdpaaGA5
import Derived.Test.YtnacmhljbnpdpaaGH2
import Derived.Test.YtnacmhljbnpdpaaGS3
import Derived.Test.YtnacmhljbnpdpaaGS5
/- The document's own store: Move, where it is done. -/
namespace Go.Proofs.Ytnacmhljbnpdpaa
open Go Go.RowKit Go.Deep

section
variable {w : World} {o n oc m g c : Nat} {Q : Nat → List Ent} {T : Tb} {K : List Nat}
def movE (Q : Nat → List Ent) (t0 i0 t1 : Nat) (x : Ent) : Nat → List Ent := upd (upd Q t0 (cutE (Q t0) i0)) t1 (x :: upd Q t0 (cutE (Q t0) i0) t1)
set_option maxHeartbeats 4000000 in
set_option maxRecDepth 4000 in
theorem smove_in (h : RSA w o n oc m g c Q T K) (hq : Uq n Q) (t0 i0 : Nat) (ht0 : t0 < n) (hi0 : i0 < (Q t0).length) (t1 : Nat) (ht1 : t1 < n) (hlen : (upd Q t0 (cutE (Q t0) i0) t1).length < 1000000) :
    Calls Try.prog 48 #[.agg (refSC o n oc m g T.n c), .int .i64 (t1 : Nat), .int .u64 (((Q t0)[i0]).key : Nat)] w (SPost w n m (movE Q t0 i0 t1 ((Q t0)[i0])) T K (fun v => .tuple #[v, .bool true])) := by
  have hbA := ((Below.refl w.heap.size w).alloc (Nat.le_refl _) (.cells (refSC o n oc m g T.n c) 30)).alloc (by simp) (.cells #[.slice none 0 0, .int .i64 0, .slice none 0 0] 30)
  have HP := Lib.hid (splace_in (h.below hbA) t0 i0 ht0 hi0 (fun t i ht hi e => hq t t0 i i0 ht ht0 hi hi0 e))
  have HG := Lib.hid (fun (w1 : World) (hb : Below w.heap.size w w1) => sget_in (h.below hb) hq t0 i0 ht0 hi0)
  have HT := Lib.hid (fun (w1 : World) (hb : Below w.heap.size w w1) => stake_walk (h.below hb) hq t0 i0 ht0 hi0)
  have HR := Lib.hid h
  obtain ⟨x, hx⟩ : ∃ x, (Q t0)[i0] = x := ⟨_, rfl⟩
  obtain ⟨R, hR⟩ : ∃ R, upd Q t0 (cutE (Q t0) i0) = R := ⟨_, rfl⟩
  have HE : Hid (movE Q t0 i0 t1 ((Q t0)[i0]) = upd R t1 (x :: R t1)) := Lib.hid (by rw [← hR, ← hx]; rfl)
  rw [hR] at HT hlen
  rw [hx] at HP HG HT
  rw [HE.out, hx]
  clear HE hR
  have h8 := h.n8
  have ho := h.old o h.q.kin
  have htI : (t1 : Int) < (n : Int) := by omega
  clear h hbA hq hx
  go_enter Try.func48, Try.ntmps48
  go_wp2_with fail
  refine HP.out.mono ?_
  rintro e w1 ⟨rfl, hb⟩
  obtain ⟨hb1, hs1, hB0, hB1⟩ := two_blocks hb
  obtain ⟨⟨a0, a1, a2⟩, z0, z1, z2⟩ := three_at hB0
  have HB1 := Lib.hid hb1
  have HBB0 := Lib.hid hB0
  have HBB1 := Lib.hid hB1
  clear hb hb1 hB0 hB1 HP
  go_wp2_with fail
  refine (HG.out w1 HB1.out).mono ?_
  rintro e w2 ⟨rfl, hb2⟩
  have hB02 := (hb2.block w.heap.size (by omega)).trans HBB0.out
  clear a0 a1 a2 z0 z1 z2
  obtain ⟨⟨a0, a1, a2⟩, z0, z1, z2⟩ := three_at hB02
  have hz2 := hb2.size
  have hB12 := (hb2.block (w.heap.size + 1) (by omega)).trans HBB1.out
  have HB2 := Lib.hid (HB1.out.trans (hb2.mono (by omega)))
  have HBB02 := Lib.hid hB02
  have HBB12 := Lib.hid hB12
  have hs02 : w.heap.size < w2.heap.size := by omega
  have hs12 : w.heap.size + 1 < w2.heap.size := by omega
  have HW2 : Hid (∀ X, X = w2.alloc (.cells #[.int .u64 (x.key : Nat), .int .u64 (x.val : Nat), .int .i64 x.flag] 40) → Below w.heap.size w X ∧ X.heap[w.heap.size]? = some (.cells (refSC o n oc m g T.n c) 30 (0, 0)) ∧ X.heap[w.heap.size + 1]? = some (.cells #[.slice none 0 0, .int .i64 0, .slice none 0 0] 30 (0, 0)) ∧ X.heap[w2.heap.size]? = some (.cells #[.int .u64 (x.key : Nat), .int .u64 (x.val : Nat), .int .i64 x.flag] 40 (0, 0)) ∧ X.heap.size = w2.heap.size + 1) := Lib.hid (by
    rintro X rfl
    exact ⟨HB2.out.alloc (by omega) _, (Below.heap_alloc _ _ _ hs02).trans HBB02.out, (Below.heap_alloc _ _ _ hs12).trans HBB12.out, heap_alloc_new _ _, by simp⟩)
  clear hb2 hB02 hB12
  go_wp2_with fail
  obtain ⟨hbX, hX0, hX1, hXe, hXz⟩ := HW2.out _ rfl
  generalize w2.alloc (.cells #[.int .u64 (x.key : Nat), .int .u64 (x.val : Nat), .int .i64 x.flag] 40) = X at hbX hX0 hX1 hXe hXz ⊢
  clear HW2 HBB0 HBB1 HBB02 HBB12 a0 a1 a2 z0 z1 z2
  refine (HT.out X hbX).mono ?_
  rintro e w3 ⟨o3, oc3, K3, rfl, hb3, hr3, hk3⟩
  have hz3 := hb3.size
  have HB3 := Lib.hid (hbX.trans (hb3.mono (by omega)))
  have HBB1 := Lib.hid ((hb3.block (w.heap.size + 1) (by omega)).trans hX1)
  have HBBe := Lib.hid ((hb3.block w2.heap.size (by omega)).trans hXe)
  have HR3 := Lib.hid hr3
  have HK3 := Lib.hid hk3
  have hs03 : w.heap.size < w3.heap.size := by omega
  have hs13 : w.heap.size + 1 < w3.heap.size := by omega
  have hse3 : w2.heap.size < w3.heap.size := by omega
  clear hb3 hr3 hk3 hbX hX0 hX1 hXe
  go_wp2_with fail
  have hYb := (Below.refl w3.heap.size w3).alloc (Nat.le_refl _) (.cells (refSC o3 n oc3 m g T.n c) 30)
  have HRY := Lib.hid (HR3.out.below hYb)
  have HY0 := Lib.hid (heap_alloc_new w3 (.cells (refSC o3 n oc3 m g T.n c) 30))
  have HYB1 := Lib.hid ((hYb.block (w.heap.size + 1) hs13).trans HBB1.out)
  have HYe := Lib.hid ((hYb.block w2.heap.size hse3).trans HBBe.out)
  have HYb := Lib.hid (HB3.out.trans (hYb.mono (by omega)))
  have hYz : (w3.alloc (.cells (refSC o3 n oc3 m g T.n c) 30)).heap.size = w3.heap.size + 1 := by simp
  clear hYb
  show Code.wp _ _ _ _ (w3.alloc (.cells (refSC o3 n oc3 m g T.n c) 30))
  generalize w3.alloc (.cells (refSC o3 n oc3 m g T.n c) 30) = Y at HRY HY0 HYB1 HYe HYb hYz ⊢
  obtain ⟨F, cf, hc, hf⟩ := HRY.out.q.row t1 ht1
  have hK : ∀ k ∈ K3, (k ∈ K ∨ w.heap.size ≤ k) ∧ k ≠ w.heap.size + 1 := fun k hk => by
    rcases HK3.out k hk with q | q
    · have := HR.out.old k q
      exact ⟨.inl q, by omega⟩
    · exact ⟨.inr (by omega), by omega⟩
  have HK := Lib.hid hK
  have hoY : o3 < Y.heap.size := HRY.out.old o3 HRY.out.q.kin
  have hoK : o3 ≠ w.heap.size + 1 := (hK o3 HRY.out.q.kin).2
  have hsY1 : w.heap.size + 1 < Y.heap.size := by omega
  have hsYt : w3.heap.size < Y.heap.size := by omega
  have hsYe : w2.heap.size < Y.heap.size := by omega
  have hn1 : w3.heap.size ≠ w.heap.size + 1 := by omega
  have hn2 : w2.heap.size ≠ w.heap.size + 1 := by omega
  obtain ⟨⟨b0, b1, b2⟩, _⟩ := three_at HY0.out
  obtain ⟨⟨e0, e1, e2⟩, _⟩ := three_at HYe.out
  have HWT := Lib.hid (fun (w4 : World) (hb : Below Y.heap.size Y w4) (F : Option Addr) (ys : List Ent) (cx : Nat) (Kx : List Nat) (hx : EntRow w4 F ys cx Kx) (hKx : ∀ k ∈ Kx, k < w4.heap.size) (hly : ys.length ≤ 1000000) => swith_walk (HRY.out.below hb) t1 ht1 F ys cx hx hKx hly)
  have HSS : Hid (∀ w', Below Y.heap.size Y w' → w'.cell? ⟨w3.heap.size, 0, none⟩ = some (.slice (some ⟨o3, 0, none⟩) n oc3) ∧ w'.cell? ⟨w3.heap.size, 1, none⟩ = some (.int .i64 (m : Nat)) ∧ w'.cell? ⟨w3.heap.size, 2, none⟩ = some (.slice (some ⟨g, 0, none⟩) T.n c) ∧ w'.cell? ⟨w2.heap.size, 0, none⟩ = some (.int .u64 (x.key : Nat)) ∧ w'.cell? ⟨w2.heap.size, 1, none⟩ = some (.int .u64 (x.val : Nat)) ∧ w'.cell? ⟨w2.heap.size, 2, none⟩ = some (.int .i64 x.flag) ∧ w'.cell? ⟨o3, t1, none⟩ = some (.slice F (R t1).length cf)) := Lib.hid (fun w' hb => by
    have e := fun (x j : Nat) (hx : x < Y.heap.size) => hb.cell (p := ⟨x, j, none⟩) hx
    exact ⟨(e _ _ hsYt).trans b0, (e _ _ hsYt).trans b1, (e _ _ hsYt).trans b2, (e _ _ hsYe).trans e0, (e _ _ hsYe).trans e1, (e _ _ hsYe).trans e2, (e _ _ hoY).trans hc⟩)
  have hX1 := ((Below.refl Y.heap.size Y).alloc (Nat.le_refl _) (.cells #[.int .u64 (x.key : Nat), .int .u64 (x.val : Nat), .int .i64 x.flag] 40)).drew
  have HX1 := Lib.hid hX1
  have HSRC := Lib.hid (hf.src (w' := (Y.alloc (.cells #[.int .u64 (x.key : Nat), .int .u64 (x.val : Nat), .int .i64 x.flag] 40)).drew) (fun x hx => hX1.block x (HRY.out.old x hx)))
  have HOWN := Lib.hid ((World.ownsRow_lit (base := Y.heap.size) (e := 40) (size := 3) Y #[.int .u64 (x.key : Nat), .int .u64 (x.val : Nat), .int .i64 x.flag] 1 (Nat.le_refl _) (by unfold maxLen; omega) rfl).drew)
  have HONE := Lib.hid (entL_one (R t1))
  obtain ⟨ys, hys⟩ : ∃ ys, x :: R t1 = ys := ⟨_, rfl⟩
  have HYS := Lib.hid hys
  have hyl : 1 + (R t1).length = ys.length := by rw [← hys]; simp; omega
  have HYL := Lib.hid hyl
  have HSL : Hid ([Value.int .u64 (x.key : Nat), .int .u64 (x.val : Nat), .int .i64 x.flag] ++ entL (R t1) = entL ys) := Lib.hid (by rw [← hys]; rfl)
  have hsX1 : Y.heap.size ≤ (Y.alloc (.cells #[.int .u64 (x.key : Nat), .int .u64 (x.val : Nat), .int .i64 x.flag] 40)).drew.heap.size := HX1.out.size
  have HYZ := Lib.hid hYz
  have HXZ := Lib.hid hXz
  clear hK hf hX1 hys hyl hYz hXz
  go_region_held3 (fun w' => w'.cell? ⟨w3.heap.size, 0, none⟩ = some (.slice (some ⟨o3, 0, none⟩) n oc3) ∧ w'.cell? ⟨w3.heap.size, 1, none⟩ = some (.int .i64 (m : Nat)) ∧ w'.cell? ⟨w3.heap.size, 2, none⟩ = some (.slice (some ⟨g, 0, none⟩) T.n c) ∧ w'.cell? ⟨w2.heap.size, 0, none⟩ = some (.int .u64 (x.key : Nat)) ∧ w'.cell? ⟨w2.heap.size, 1, none⟩ = some (.int .u64 (x.val : Nat)) ∧ w'.cell? ⟨w2.heap.size, 2, none⟩ = some (.int .i64 x.flag) ∧ w'.cell? ⟨o3, t1, none⟩ = some (.slice F (R t1).length cf))
    (first | with_reducible exact kk1 | with_reducible exact kk2 | with_reducible exact KK3 _ (three_heap hB13 _ _ _).2 | go_keep)
    (first
      | (refine step_append_src (by rfl) (.tmp 41) (.tmp 46) 77 (by rfl) Y.heap.size 40 (.agg #[.int .u64 0, .int .u64 0, .int .i64 0]) 3 24 (by kernel_rfl) (by kernel_rfl) rfl (by decide) _ 1 _ (by rfl) HOWN.out F (R t1).length cf (entL (R t1)) (by rfl) HSRC.out HONE.out (by omega) (by omega) hsX1 ?_; intro v2 w5 hown2 hgrow2; have hbl2 := below_grown HX1.out HOWN.out hgrow2 hsX1; obtain ⟨F2, cc2, Kx, rfl, hx2, hKx⟩ := own_ent (xs := ys) (B := Y.heap.size) (w := w5) (v := v2) (by rw [← HYL.out, ← HSL.out]; exact hown2); have kk1 := HSS.out w5 hbl2; have HW2 := Lib.hid (HWT.out w5 hbl2 F2 ys cc2 Kx hx2 (fun y hy => (hKx y hy).2) (by have := HYL.out; omega)); have HKX := Lib.hid hKx; have HBL2 := Lib.hid hbl2; clear hown2 hgrow2 hx2 hKx hbl2)
      | (go_at_call 70; refine HW2.out.mono ?_; rintro e w4 ⟨o4, oc4, K4, rfl, hb4, hr4, hk4⟩; have hbl4 := HBL2.out.trans (hb4.mono HBL2.out.size); have kk2 := HSS.out w4 hbl4; have hB13 := (hbl4.block (w.heap.size + 1) hsY1).trans HYB1.out; have KK3 := fun (Z : World) (ho : Only [w.heap.size + 1] w4 Z) => (by
            have e := fun (x j : Nat) (hx : x < Y.heap.size) (hne : x ≠ w.heap.size + 1) => World.cell?_of_block (w := w4) (w' := Z) (a := ⟨x, j, none⟩) (ho.block x (Nat.lt_of_lt_of_le hx hbl4.size) (by simpa using hne))
            exact ⟨(e _ 0 hsYt hn1).trans kk2.1, (e _ 1 hsYt hn1).trans kk2.2.1, (e _ 2 hsYt hn1).trans kk2.2.2.1, (e _ 0 hsYe hn2).trans kk2.2.2.2.1, (e _ 1 hsYe hn2).trans kk2.2.2.2.2.1, (e _ 2 hsYe hn2).trans kk2.2.2.2.2.2.1, (e _ t1 hoY hoK).trans kk2.2.2.2.2.2.2⟩ : Z.cell? ⟨w3.heap.size, 0, none⟩ = some (.slice (some ⟨o3, 0, none⟩) n oc3) ∧ Z.cell? ⟨w3.heap.size, 1, none⟩ = some (.int .i64 (m : Nat)) ∧ Z.cell? ⟨w3.heap.size, 2, none⟩ = some (.slice (some ⟨g, 0, none⟩) T.n c) ∧ Z.cell? ⟨w2.heap.size, 0, none⟩ = some (.int .u64 (x.key : Nat)) ∧ Z.cell? ⟨w2.heap.size, 1, none⟩ = some (.int .u64 (x.val : Nat)) ∧ Z.cell? ⟨w2.heap.size, 2, none⟩ = some (.int .i64 x.flag) ∧ Z.cell? ⟨o3, t1, none⟩ = some (.slice F (R t1).length cf)); obtain ⟨⟨xx0, xx1, xx2⟩, zz0, zz1, zz2⟩ := three_at hB13))
  have hbz := HBL2.out.size
  have hYw := HYb.out.size
  have HF := Lib.hid (sres_post (f := fun v => .tuple #[v, .bool true]) hB13 (HYb.out.trans (hbl4.mono (by omega))) (by omega) hr4 (fun hk => by
    rcases hk4 _ hk with q | q | q
    · exact (HK.out _ q).2 rfl
    · have := (HKX.out _ q).1; omega
    · omega) (fun y hy => by
    rcases hk4 _ hy with q | q | q
    · exact (HK.out _ q).1
    · have := (HKX.out _ q).1; exact .inr (by omega)
    · exact .inr (by omega)))
  clear hb4 hr4 hk4 hbl4 kk1 kk2 KK3 hB13 xx0 xx1 xx2 zz0 zz1 zz2 HSS
  obtain ⟨⟨y0, y1, y2⟩, hP⟩ := HF.out _ rfl
  generalize ((w4.setCell ⟨w.heap.size + 1, 0, none⟩ (.slice (some ⟨o4, 0, none⟩) n oc4)).setCell ⟨w.heap.size + 1, 1, none⟩ (.int .i64 (m : Nat))).setCell ⟨w.heap.size + 1, 2, none⟩ (.slice (some ⟨g, 0, none⟩) T.n c) = V at y0 y1 y2 hP ⊢
  have HPP := Lib.hid hP
  clear hP HF
  go_wp2_with fail
  exact bodyPost_ret (v := .tuple #[.agg (refSC o4 n oc4 m g T.n c), .bool true]) (by simp [results, Try.results48, go_sem, y0, y1, y2]) rfl (by rw [HYS.out]; exact HPP.out)
end
end Go.Proofs.Ytnacmhljbnpdpaa
/- The document's own store: New. -/
namespace Go.Proofs.Ytnacmhljbnpdpaa
open Go Go.RowKit Go.Deep

theorem smake_rows (n : Nat) (hn : n ≤ 1000000000) (w : World) :
    (Instr.makeSlice 25 (.int .i64 n) (.int .i64 n)).run Try.prog w = .ok (.slice (some ⟨w.heap.size, 0, none⟩) n n) (w.alloc (.cells (madeCells #[.slice none 0 0] n) 77)) := by
  have hinfo : (Try.prog.info? 77).map (fun i => (i.zero, i.size, i.bytes)) = some (some (.slice none 0 0), 1, 24) := by kernel_rfl
  obtain ⟨i, hi, hz0, hz1, hz2⟩ := info_parts hinfo
  have hr := run_make (P := Try.prog) w 25 77 i _ (by kernel_rfl) hi hz0 .i64 .i64 n n (by omega) (by omega) (by rw [hz2]; omega) (by omega)
  rw [hz1, Nat.mul_one] at hr
  simpa [Value.cells] using hr
structure NewAt (w X : World) (n o : Nat) : Prop where
  box : X.heap[w.heap.size]? = some (.cells #[.slice none 0 0, .int .i64 0, .slice none 0 0] 30 (0, 0))
  below : Below w.heap.size w X
  row : X.rowIs o 77 n (fun _ => .slice none 0 0)
  old : w.heap.size < o
  lt : o < X.heap.size
theorem snew_a {w w5 : World} {n : Nat} (hb : Below ((w.alloc (.cells #[.slice none 0 0, .int .i64 0, .slice none 0 0] 30)).alloc (.cells (madeCells #[.slice none 0 0] n) 77)).drew.heap.size ((w.alloc (.cells #[.slice none 0 0, .int .i64 0, .slice none 0 0] 30)).alloc (.cells (madeCells #[.slice none 0 0] n) 77)).drew w5) : NewAt w w5 n (w.heap.size + 1) := by
  have hz : ((w.alloc (.cells #[.slice none 0 0, .int .i64 0, .slice none 0 0] 30)).alloc (.cells (madeCells #[.slice none 0 0] n) 77)).drew.heap.size = w.heap.size + 2 := by show ((w.alloc _).alloc _).heap.size = _; simp
  have h1 := hb.size
  have hr := (World.rowIs_made (w.alloc (.cells #[.slice none 0 0, .int .i64 0, .slice none 0 0] 30)) (.slice none 0 0) n 77).drew
  rw [World.size_alloc] at hr
  refine ⟨(hb.block _ (by omega)).trans ((Below.heap_alloc _ _ _ (by simp)).trans (heap_alloc_new w _)), ((((Below.refl _ _).alloc (Nat.le_refl _) _).alloc (by simp) _).drew).trans (hb.mono (by omega)), ?_, by omega, by omega⟩
  obtain ⟨c, hc, h2⟩ := hr
  exact ⟨c, (hb.block _ (by omega)).trans hc, h2⟩
theorem snew_b {w w5 : World} {n : Nat} (hb : Below (w.alloc (.cells #[.slice none 0 0, .int .i64 0, .slice none 0 0] 30)).drew.heap.size (w.alloc (.cells #[.slice none 0 0, .int .i64 0, .slice none 0 0] 30)).drew w5) : NewAt w (w5.alloc (.cells (madeCells #[.slice none 0 0] n) 77)) n w5.heap.size := by
  have hz : (w.alloc (.cells #[.slice none 0 0, .int .i64 0, .slice none 0 0] 30)).drew.heap.size = w.heap.size + 1 := by show (w.alloc _).heap.size = _; simp
  have h1 := hb.size
  exact ⟨(Below.heap_alloc _ _ _ (by omega)).trans ((hb.block _ (by omega)).trans (heap_alloc_new w _)), ((((Below.refl _ _).alloc (Nat.le_refl _) _).drew).trans (hb.mono (by omega))).alloc (by omega) _, World.rowIs_made w5 (.slice none 0 0) n 77, by omega, by simp⟩
theorem snew_fin {w X : World} {n o g c : Nat} (h : NewAt w X n o) (h8 : n ≤ 8) (ht : RefT X Tb.new g) (hg : w.heap.size < g) :
    ∀ V, V = ((X.setCell ⟨w.heap.size, 0, none⟩ (.slice (some ⟨o, 0, none⟩) n n)).setCell ⟨w.heap.size, 1, none⟩ (.int .i64 8)).setCell ⟨w.heap.size, 2, none⟩ (.slice (some ⟨g, 0, none⟩) Tb.new.n c) →
      (V.cell? ⟨w.heap.size, 0, none⟩ = some (.slice (some ⟨o, 0, none⟩) n n) ∧ V.cell? ⟨w.heap.size, 1, none⟩ = some (.int .i64 8) ∧ V.cell? ⟨w.heap.size, 2, none⟩ = some (.slice (some ⟨g, 0, none⟩) Tb.new.n c)) ∧ SPost w n 8 (fun _ => []) Tb.new [] id (.returned (id (.agg (refSC o n n 8 g Tb.new.n c)))) V :=
  sres_post (m := 8) (K5 := [o, g]) h.box h.below (Nat.le_refl _) ⟨h8, Nat.le_refl _, ⟨by simp, fun t ht' => ⟨none, 0, h.row.cell ht', by simp, .inl ⟨rfl, rfl, rfl⟩⟩⟩, ht, by simp, by
      intro k hk
      simp only [List.mem_cons, List.not_mem_nil, or_false] at hk
      rcases hk with rfl | rfl
      · exact h.lt
      · exact ht.lt, by simp, by omega⟩ (by
      have := h.old
      simp
      omega) (fun k hk => by
      have := h.old
      simp only [List.mem_cons, List.not_mem_nil, or_false] at hk
      exact .inr (by omega)) id
theorem snew_a2 {w w5 : World} {n g : Nat} (ht : RefT w5 Tb.new g) (hg : ((w.alloc (.cells #[.slice none 0 0, .int .i64 0, .slice none 0 0] 30)).alloc (.cells (madeCells #[.slice none 0 0] n) 77)).drew.heap.size ≤ g) : RefT w5 Tb.new g ∧ w.heap.size < g := by
  have hz : ((w.alloc (.cells #[.slice none 0 0, .int .i64 0, .slice none 0 0] 30)).alloc (.cells (madeCells #[.slice none 0 0] n) 77)).drew.heap.size = w.heap.size + 2 := by show ((w.alloc _).alloc _).heap.size = _; simp
  exact ⟨ht, by omega⟩
theorem snew_b2 {w w5 : World} {n g : Nat} (ht : RefT w5 Tb.new g) (hg : (w.alloc (.cells #[.slice none 0 0, .int .i64 0, .slice none 0 0] 30)).drew.heap.size ≤ g) : RefT (w5.alloc (.cells (madeCells #[.slice none 0 0] n) 77)) Tb.new g ∧ w.heap.size < g := by
  have hz : (w.alloc (.cells #[.slice none 0 0, .int .i64 0, .slice none 0 0] 30)).drew.heap.size = w.heap.size + 1 := by show (w.alloc _).heap.size = _; simp
  exact ⟨ht.only ((Only.refl [] w5).alloc _) (by simp), by omega⟩
theorem snew_fin' {w X : World} {n o g c : Nat} {C : World → Prop} (h : NewAt w X n o) (h8 : n ≤ 8) (ht : RefT X Tb.new g ∧ w.heap.size < g)
    (hC : ∀ V, (V.cell? ⟨w.heap.size, 0, none⟩ = some (.slice (some ⟨o, 0, none⟩) n n) ∧ V.cell? ⟨w.heap.size, 1, none⟩ = some (.int .i64 8) ∧ V.cell? ⟨w.heap.size, 2, none⟩ = some (.slice (some ⟨g, 0, none⟩) Tb.new.n c)) → SPost w n 8 (fun _ => []) Tb.new [] id (.returned (.agg (refSC o n n 8 g Tb.new.n c))) V → C V) :
    C (((X.setCell ⟨w.heap.size, 0, none⟩ (.slice (some ⟨o, 0, none⟩) n n)).setCell ⟨w.heap.size, 1, none⟩ (.int .i64 8)).setCell ⟨w.heap.size, 2, none⟩ (.slice (some ⟨g, 0, none⟩) Tb.new.n c)) :=
  hC _ (snew_fin h h8 ht.1 ht.2 _ rfl).1 (snew_fin h h8 ht.1 ht.2 _ rfl).2
theorem snewtab (w : World) : Calls Try.prog 46 #[] w fun e w' => ∃ g c, e = .returned (.agg #[.slice (some ⟨g, 0, none⟩) Tb.new.n c]) ∧ Below w.heap.size w w' ∧ RefT w' Tb.new g ∧ w.heap.size ≤ g := rnewtab_walk w
set_option maxHeartbeats 4000000 in
set_option maxRecDepth 4000 in
theorem snew_walk (w : World) (tags : Int) :
    Calls Try.prog 19 #[.int .i64 tags] w (SPost w (numT tags) 8 (fun _ => []) Tb.new [] id) := by
  unfold numT
  by_cases h1 : tags < 1
  · rw [if_pos h1]
    have hmk : ∀ w : World, (Instr.makeSlice 25 (.int .i64 1) (.int .i64 1)).run Try.prog w = .ok (.slice (some ⟨w.heap.size, 0, none⟩) 1 1) (w.alloc (.cells (madeCells #[.slice none 0 0] 1) 77)) := smake_rows 1 (by omega)
    go_enter Try.func19, Try.ntmps19
    go_wp2_with fail
    go_region_held3 (fun _ => True) (trivial)
      (first | (go_at_call 46; refine (snewtab _).mono ?_; rintro e w5 ⟨g5, c5, rfl, hb5, hr5, hg5⟩; (first | (have hN := snew_a (n := 1) hb5; have hT := Lib.hid (snew_a2 (n := 1) hr5 hg5)) | (have hN := snew_b (n := 1) hb5; have hT := Lib.hid (snew_b2 (n := 1) hr5 hg5))); obtain ⟨⟨x0, x1, x2⟩, z0, z1, z2⟩ := three_at hN.box; have HN := Lib.hid hN; clear hN hb5 hr5 hg5))
    all_goals
      clear x0 x1 x2 z0 z1 z2
      refine snew_fin' (n := 1) HN.out (by omega) hT.out ?_
      rintro V ⟨y0, y1, y2⟩ hP
      have HP := Lib.hid hP
      clear hP
      go_wp2_with fail
      exact bodyPost_ret (v := .agg (refSC _ 1 1 8 g5 Tb.new.n c5)) (by simp [results, Try.results19, go_sem, y0, y1, y2]) rfl HP.out
  · rw [if_neg h1]
    by_cases h8 : 8 < tags
    · rw [if_pos h8]
      have hmk : ∀ w : World, (Instr.makeSlice 25 (.int .i64 8) (.int .i64 8)).run Try.prog w = .ok (.slice (some ⟨w.heap.size, 0, none⟩) 8 8) (w.alloc (.cells (madeCells #[.slice none 0 0] 8) 77)) := smake_rows 8 (by omega)
      go_enter Try.func19, Try.ntmps19
      go_wp2_with fail
      go_region_held3 (fun _ => True) (trivial)
        (first | (go_at_call 46; refine (snewtab _).mono ?_; rintro e w5 ⟨g5, c5, rfl, hb5, hr5, hg5⟩; (first | (have hN := snew_a (n := 8) hb5; have hT := Lib.hid (snew_a2 (n := 8) hr5 hg5)) | (have hN := snew_b (n := 8) hb5; have hT := Lib.hid (snew_b2 (n := 8) hr5 hg5))); obtain ⟨⟨x0, x1, x2⟩, z0, z1, z2⟩ := three_at hN.box; have HN := Lib.hid hN; clear hN hb5 hr5 hg5))
      all_goals
        clear x0 x1 x2 z0 z1 z2
        refine snew_fin' (n := 8) HN.out (by omega) hT.out ?_
        rintro V ⟨y0, y1, y2⟩ hP
        have HP := Lib.hid hP
        clear hP
        go_wp2_with fail
        exact bodyPost_ret (v := .agg (refSC _ 8 8 8 g5 Tb.new.n c5)) (by simp [results, Try.results19, go_sem, y0, y1, y2]) rfl HP.out
    · rw [if_neg h8]
      obtain ⟨n, rfl⟩ : ∃ n : Nat, tags = n := ⟨tags.toNat, by omega⟩
      have e : ((n : Int)).toNat = n := by omega
      rw [e]
      have hmk := smake_rows n (by omega)
      have g1 : (1 : Int) ≤ (n : Int) := by omega
      have g2 : (n : Int) ≤ 8 := by omega
      clear e
      go_enter Try.func19, Try.ntmps19
      go_wp2_with fail
      go_region_held3 (fun _ => True) (trivial)
        (first | (go_at_call 46; refine (snewtab _).mono ?_; rintro e w5 ⟨g5, c5, rfl, hb5, hr5, hg5⟩; (first | (have hN := snew_a (n := n) hb5; have hT := Lib.hid (snew_a2 (n := n) hr5 hg5)) | (have hN := snew_b (n := n) hb5; have hT := Lib.hid (snew_b2 (n := n) hr5 hg5))); obtain ⟨⟨x0, x1, x2⟩, z0, z1, z2⟩ := three_at hN.box; have HN := Lib.hid hN; clear hN hb5 hr5 hg5))
      all_goals
        clear x0 x1 x2 z0 z1 z2
        refine snew_fin' (n := n) HN.out (by omega) hT.out ?_
        rintro V ⟨y0, y1, y2⟩ hP
        have HP := Lib.hid hP
        clear hP
        go_wp2_with fail
        exact bodyPost_ret (v := .agg (refSC _ n n 8 g5 Tb.new.n c5)) (by simp [results, Try.results19, go_sem, y0, y1, y2]) rfl HP.out
end Go.Proofs.Ytnacmhljbnpdpaa
