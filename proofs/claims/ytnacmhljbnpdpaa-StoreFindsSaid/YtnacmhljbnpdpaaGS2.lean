/- Words and walks for layer 6: HxQ HxO. -/
import Derived.Test.YtnacmhljbnpdpaaGH1
import Derived.Test.YtnacmhljbnpdpaaGH2
import Derived.Deep.RegionHeld3
import Derived.Deep.RegionWith
import Derived.IntWalk
/- The document's own table: Put. -/
namespace Go.Proofs.Ytnacmhljbnpdpaa
open Go Go.RowKit Go.Deep

structure GrowInv (w0 w : World) (T : Tb) (U : Nat) (i gu cu : Nat) : Prop where
  below : Below w0.heap.size w0 w
  ref : RefT w (T.growUp i) gu
  cell : w.heap[U]? = some (.cells #[.slice (some ⟨gu, 0, none⟩) (2 * T.n) cu] 28 (0, 0))
  low : w0.heap.size ≤ gu

/- To lay what slot i has into the table that grows. -/
theorem rgrow_lay {w : World} {T : Tb} {gu : Nat} (gd : T.Good) (hn : T.n ≤ 100000) (i : Nat) (hi : i < T.n) (hf : (T.sl i).full = true) (hkey : (T.sl i).key < 18446744073709551616) (cu : Nat) (h : RefT w (T.growUp i) gu) :
    Calls Try.prog 88 #[tabV gu (2 * T.n) cu, .agg #[.int .u64 ((T.sl i).key : Nat), .int .i32 (T.sl i).n, .bool true]] w fun e w' => ∃ g c, e = .returned (tabV g (2 * T.n) c) ∧ Below w.heap.size w w' ∧ RefT w' (T.growUp (i + 1)) g ∧ w.heap.size ≤ g := by
  have g := gd.ok.growUp i (by omega)
  obtain ⟨p, hp⟩ := gd.pow
  have hs : isSz (T.growUp i).n = true := good_sz ⟨p + 1, by rw [g.n, hp, Nat.pow_succ, Nat.mul_comm]⟩ (by rw [g.n]; omega)
  have hl := rlay_walk h g.ok hs (by rw [g.n]; omega) cu (T.sl i) hkey
  rw [g.n, hf] at hl
  refine hl.mono ?_
  rintro e w' ⟨g6, c6, rfl, b6, r6, l6⟩
  refine ⟨g6, c6, by rw [Tb.lay_n, g.n]; rfl, b6, ?_, l6⟩
  unfold Tb.growUp
  rw [if_pos hf]
  exact r6
theorem rgrown_lay {w : World} {T : Tb} {gu : Nat} (gd : T.Good) (hn : T.n ≤ 100000) (k : Nat) (v : Int) (hk : k < 18446744073709551616) (cu : Nat) (h : RefT w T.grow gu) :
    Calls Try.prog 88 #[tabV gu (2 * T.n) cu, .agg #[.int .u64 (k : Nat), .int .i32 v, .bool true]] w (TabPost w (T.grow.lay ⟨k, v, true⟩) id) := by
  obtain ⟨g1, g2, _⟩ := gd.ok.grown
  obtain ⟨p, hp⟩ := gd.pow
  have hs : isSz T.grow.n = true := good_sz ⟨p + 1, by rw [g2, hp, Nat.pow_succ, Nat.mul_comm]⟩ (by rw [g2]; omega)
  have hl := rlay_walk h g1 hs (by rw [g2]; omega) cu ⟨k, v, true⟩ hk
  rw [g2] at hl
  exact hl

set_option maxHeartbeats 1000000 in
theorem rput_walk {w : World} {T : Tb} {g : Nat} (h : RefT w T g) (gd : T.Good) (hn : T.n ≤ 100000) (k c : Nat) (hk : k < 18446744073709551616) (v : Int) (hkeys : ∀ i, i < T.n → (T.sl i).key < 18446744073709551616) :
    Calls Try.prog 69 #[tabV g T.n c, .int .u64 (k : Int), .int .i32 v] w (TabPost w (T.put k v) id) := by
  have hs : isSz T.n = true := good_sz gd.pow (by omega)
  have hp := gd.ok.pos
  have hnI : (T.n : Int) ≤ 100000 := by omega
  have HR := Lib.hid h
  have HGD := Lib.hid gd
  have hb2 := ((Below.refl w.heap.size w).alloc (Nat.le_refl _) (.cells #[.slice (some ⟨g, 0, none⟩) T.n c] 28)).alloc (by simp) (.cells #[.slice none 0 0] 28)
  have HB2 := Lib.hid hb2
  have HG := Lib.hid (rget_walk (h.below hb2) gd.ok hs k c hk)
  have HLEN := Lib.hid (fun w' (hb : Below w.heap.size w w') => rlen_walk (h.below hb) (by omega) c)
  have HLAY := Lib.hid (fun w' (hb : Below w.heap.size w w') => rlay_walk (h.below hb) gd.ok hs (by omega) c ⟨k, v, true⟩ hk)
  have HPUT : Hid (T.put k v = (if T.there k = false ∧ 3 * T.n < 4 * T.cnt + 4 then T.grow else T).lay ⟨k, v, true⟩) := Lib.hid rfl
  obtain ⟨th, hth⟩ : ∃ th, T.there k = th := ⟨_, rfl⟩
  have HG2 : Hid ((T.get k).2 = th) := Lib.hid hth
  obtain ⟨gt, hgt⟩ : ∃ gt, T.get k = gt := ⟨_, rfl⟩
  rw [hgt] at HG HG2
  obtain ⟨g1, g2⟩ := gt
  obtain rfl : g2 = th := HG2.out
  clear h gd hs hb2 hgt HG2
  go_enter Try.func69, Try.ntmps69
  go_wp2_with fail
  refine HG.out.mono ?_
  rintro e w1 ⟨rfl, hb⟩
  obtain ⟨hb1, hs1, hB0, hB1⟩ := two_blocks hb
  have HB := Lib.hid hb1
  have c0 : w1.cell? ⟨w.heap.size, 0, none⟩ = some (.slice (some ⟨g, 0, none⟩) T.n c) := (head_row hB0).cell (i := 0) (by simp)
  have c1 : w1.cell? ⟨w.heap.size + 1, 0, none⟩ = some (.slice none 0 0) := (head_row hB1).cell (i := 0) (by simp)
  have z1 : w1.frozen? ⟨w.heap.size + 1, 0, none⟩ = false := (head_row hB1).frozen 0
  have HB0 := Lib.hid hB0
  have HB1 := Lib.hid hB1
  clear hb hb1 hB0 hB1
  have fin : ∀ (w5 : World), Below w.heap.size w w5 → w.heap.size + 1 < w5.heap.size → w5.heap[w.heap.size + 1]? = some (.cells #[.slice none 0 0] 28 (0, 0)) → ∀ (w6 : World) (g6 c6 : Nat), Below w5.heap.size w5 w6 → RefT w6 (T.put k v) g6 → w5.heap.size ≤ g6 →
      (w6.cell? ⟨w.heap.size + 1, 0, none⟩ = some (.slice none 0 0) ∧ w6.frozen? ⟨w.heap.size + 1, 0, none⟩ = false) ∧ ∀ V, V = w6.setCell ⟨w.heap.size + 1, 0, none⟩ (.slice (some ⟨g6, 0, none⟩) (T.put k v).n c6) → V.cell? ⟨w.heap.size + 1, 0, none⟩ = some (.slice (some ⟨g6, 0, none⟩) (T.put k v).n c6) ∧ Below w.heap.size w V ∧ RefT V (T.put k v) g6 ∧ w.heap.size ≤ g6 := by
    intro w5 b5 hz hB w6 g6 c6 b6 r6 l6
    have hB6 := (b6.block (w.heap.size + 1) hz).trans hB
    refine ⟨⟨(head_row hB6).cell (i := 0) (by simp), (head_row hB6).frozen 0⟩, ?_⟩
    rintro V rfl
    obtain ⟨y0, o⟩ := one_set hB6 (.slice (some ⟨g6, 0, none⟩) (T.put k v).n c6)
    have h56 := b6.size
    have h5 := b5.size
    refine ⟨y0, (b5.trans (b6.mono h5)).trans (o.below (B := w.heap.size) (by simp) (by omega)), ⟨Nat.lt_of_lt_of_le r6.lt o.size, fun i hi => ?_⟩, by omega⟩
    obtain ⟨q0, q1, q2⟩ := r6.sl i hi
    have e := fun (j : Nat) => World.cell?_of_block (w := w6) (w' := w6.setCell ⟨w.heap.size + 1, 0, none⟩ (.slice (some ⟨g6, 0, none⟩) (T.put k v).n c6)) (a := ⟨g6, j, none⟩) (o.block g6 r6.lt (by simp; omega))
    exact ⟨(e _).trans q0, (e _).trans q1, (e _).trans q2⟩
  have FIN := Lib.hid fin
  clear fin
  cases g2
  · have HTH := Lib.hid hth
    clear hth
    have hcn : T.cnt ≤ T.n := cntB_le _ _
    have hcnI : (T.cnt : Int) ≤ 100000 := by omega
    go_wp2_with fail
    by_cases hgr : 3 * T.n < 4 * T.cnt + 4
    · have hgrI : 3 * (T.n : Int) < 4 * (T.cnt : Int) + 4 := by omega
      rw [if_pos (And.intro HTH.out hgr)] at HPUT
      go_region_held3 (fun w' => w'.cell? ⟨w.heap.size, 0, none⟩ = some (.slice (some ⟨g, 0, none⟩) T.n c)) (first | with_reducible exact kk5 | go_keep) (first | (go_at_call 87; refine (HLEN.out _ HB.out.drew).mono ?_; rintro e w5 ⟨rfl, d5⟩; have kk5 := (head_row ((d5.block w.heap.size (by simp; omega)).trans HB0.out)).cell (i := 0) (by simp)))
      have HB5 := Lib.hid (HB.out.drew.trans (d5.mono HB.out.size))
      have HB05 := Lib.hid ((d5.block w.heap.size (by simp; omega)).trans HB0.out)
      have HB15 := Lib.hid ((d5.block (w.heap.size + 1) (by simp; omega)).trans HB1.out)
      have hs5 : w.heap.size + 1 < w5.heap.size := by have := d5.size; simp at this; omega
      clear d5
      rw [IntWalk.i64_in (4 * (T.cnt : Int)) (by omega), IntWalk.i64_in (4 * (T.cnt : Int) + 4) (by omega), IntWalk.i64_in (3 * (T.n : Int)) (by omega), decide_eq_true hgrI]
      obtain ⟨cs, hmk, hsz, hcs⟩ := make_tab (2 * T.n) (by omega) w5
      rw [Int.natCast_mul] at hmk
      have e2 : ((2 : Nat) : Int) = 2 := rfl
      rw [e2] at hmk
      have hgl := fun w' gu cu (h : RefT w' T.grow gu) => rgrown_lay HGD.out hn k v hk cu h
      have HGL := Lib.hid hgl
      have HKEYS := Lib.hid hkeys
      obtain ⟨X, hX⟩ : ∃ X, X = w5.alloc (.cells cs 140) := ⟨_, rfl⟩
      have hXz : X.heap.size = w5.heap.size + 1 := by rw [hX]; simp
      have hXb : Below w5.heap.size w5 X := hX ▸ (Below.refl w5.heap.size w5).alloc (Nat.le_refl _) _
      have hXk : X.heap[w5.heap.size]? = some (.cells cs 140 (0, 0)) := hX ▸ heap_alloc_new w5 _
      have hbX := hXb.alloc (by omega) (.cells #[.slice (some ⟨w5.heap.size, 0, none⟩) (2 * T.n) (2 * T.n)] 28)
      have hbY := (Below.refl X.heap.size X).alloc (Nat.le_refl _) (.cells #[.slice (some ⟨w5.heap.size, 0, none⟩) (2 * T.n) (2 * T.n)] 28)
      have hcX := heap_alloc_new X (.cells #[.slice (some ⟨w5.heap.size, 0, none⟩) (2 * T.n) (2 * T.n)] 28)
      rw [hXz] at hcX
      have hrX := (TabRow.ref (T := T.growUp 0) (tabRow_new (m := 2 * T.n) hXk hsz hcs)).below hbY
      rw [hX] at hbX hcX hrX
      have HGI : Hid (GrowInv w5 _ T (w5.heap.size + 1) 0 w5.heap.size (2 * T.n)) := Lib.hid ⟨hbX, hrX, hcX, Nat.le_refl _⟩
      clear hsz hcs hX hXz hXb hXk hbX hbY hcX hrX hgl hkeys e2
      go_wp2_with fail
      go_loopg [10] T.n (fun gg s10 wr => ∃ i gu cu : Nat, i + gg = T.n ∧ s10 = .int .i64 (i : Nat) ∧ Hid (GrowInv w5 wr T (w5.heap.size + 1) i gu cu))
      case atStart => exact ⟨0, _, _, by omega, rfl, HGI⟩
      case round =>
        obtain ⟨i, gu, cu, hi, rfl, HI⟩ := hrel
        have hUr : w5.heap.size + 1 < wr.heap.size := (head_row HI.out.cell).lt
        have hB0r := (HI.out.below.block w.heap.size (by omega)).trans HB05.out
        have c0 : wr.cell? ⟨w.heap.size, 0, none⟩ = some (.slice (some ⟨g, 0, none⟩) T.n c) := (head_row hB0r).cell (i := 0) (by simp)
        have u0 : wr.cell? ⟨w5.heap.size + 1, 0, none⟩ = some (.slice (some ⟨gu, 0, none⟩) (2 * T.n) cu) := (head_row HI.out.cell).cell (i := 0) (by simp)
        have hbr := HB5.out.trans (HI.out.below.mono HB5.out.size)
        by_cases hlt : i < T.n
        · have hltI : (i : Int) < (T.n : Int) := by omega
          obtain ⟨q0, q1, q2⟩ := (HR.out.below hbr).sl i hlt
          obtain ⟨fb, hfb⟩ : ∃ fb, (T.sl i).full = fb := ⟨_, rfl⟩
          rw [hfb] at q2
          clear hB0r hbr
          cases fb
          · have HFB := Lib.hid hfb
            clear hfb
            go_wp2
            go_roundg (gk - 1)
            case measure => omega
            case rel => exact ⟨i + 1, gu, cu, by omega, by go_num, Lib.hid ⟨HI.out.below, by unfold Tb.growUp; rw [HFB.out]; exact HI.out.ref, HI.out.cell, HI.out.low⟩⟩
          · have HL8 := Lib.hid (fun w' (hb : Below wr.heap.size wr w') => rgrow_lay HGD.out hn i hlt hfb (HKEYS.out i hlt) cu (HI.out.ref.below hb))
            clear hfb
            go_wp2_with fail
            go_region_with (first | (go_at_call 88; refine (HL8.out _ (Below.refl _ _).drew).mono ?_; rintro e w6 ⟨g6, c6, rfl, b6, r6, l6⟩; have hB6 := (b6.block (w5.heap.size + 1) hUr).trans HI.out.cell; have x6 := (head_row hB6).cell (i := 0) (by simp); have z6 := (head_row hB6).frozen 0))
            all_goals
              have hlow := HI.out.below.size
              have hl6 : wr.heap.size ≤ g6 := l6
              obtain ⟨hU, hO⟩ := one_heap hB6 (.slice (some ⟨g6, 0, none⟩) (2 * T.n) c6)
              generalize w6.setCell ⟨w5.heap.size + 1, 0, none⟩ (.slice (some ⟨g6, 0, none⟩) (2 * T.n) c6) = V at hU hO ⊢
              have HN : Hid (GrowInv w5 V T (w5.heap.size + 1) (i + 1) g6 c6) := Lib.hid ⟨(HI.out.below.drew.trans (b6.mono hlow)).trans (hO.below (B := w5.heap.size) (by simp) (Nat.le_trans hlow b6.size)), r6.only hO (by simp; omega), hU, by omega⟩
              clear hU hO hB6 x6 z6 b6 r6 l6 q0 q1 q2 c0 u0
              go_wp2
              go_roundg (gk - 1)
              case measure => omega
              case rel => exact ⟨i + 1, g6, c6, by omega, by go_num, HN⟩
        · obtain rfl : i = T.n := by omega
          have hge : ¬ (T.n : Int) < (T.n : Int) := by omega
          have z0 : wr.frozen? ⟨w.heap.size, 0, none⟩ = false := (head_row hB0r).frozen 0
          obtain ⟨hT, hO⟩ := one_heap hB0r (.slice (some ⟨gu, 0, none⟩) (2 * T.n) cu)
          have hlow := HI.out.low
          have HG9 := Lib.hid (HGL.out _ gu cu (HI.out.ref.only hO (by simp; omega)))
          have HB9 := Lib.hid (hbr.trans (hO.below (B := w.heap.size) (by simp) hbr.size))
          have HB19 := Lib.hid ((hO.block (w.heap.size + 1) (by omega) (by simp)).trans ((HI.out.below.block (w.heap.size + 1) hs5).trans HB15.out))
          have HO := Lib.hid hO
          clear hT hO hB0r hbr
          go_wp2_with fail
          refine HG9.out.mono ?_
          rintro e w6 ⟨g6, c6, rfl, b6, r6, l6⟩
          rw [← HPUT.out] at r6
          have hff := FIN.out _ HB9.out (Nat.lt_of_lt_of_le (by omega : w.heap.size + 1 < wr.heap.size) HO.out.size) HB19.out w6 g6 c6 b6 r6 l6
          rw [HPUT.out] at hff
          obtain ⟨⟨x6, z6⟩, hff⟩ := hff
          have HF := Lib.hid hff
          clear hff b6 r6 l6
          go_wp2_with fail
          obtain ⟨y0, hV⟩ := HF.out _ rfl
          generalize (w6.setCell ⟨w.heap.size + 1, 0, none⟩ (.slice (some ⟨g6, 0, none⟩) (T.grow.lay ⟨k, v, true⟩).n c6)) = V at y0 hV ⊢
          exact bodyPost_ret (v := tabV g6 (T.grow.lay ⟨k, v, true⟩).n c6) (by simp [results, Try.results69, go_sem, y0]) rfl ⟨g6, c6, by rw [HPUT.out]; rfl, hV.1, by rw [HPUT.out]; exact hV.2.1, hV.2.2⟩
    · have hgrI : ¬ 3 * (T.n : Int) < 4 * (T.cnt : Int) + 4 := by omega
      rw [if_neg (fun q => hgr q.2)] at HPUT
      go_region_held3 (fun w' => w'.cell? ⟨w.heap.size, 0, none⟩ = some (.slice (some ⟨g, 0, none⟩) T.n c)) (first | with_reducible exact kk5 | go_keep) (first | (go_at_call 87; refine (HLEN.out _ HB.out.drew).mono ?_; rintro e w5 ⟨rfl, d5⟩; have kk5 := (head_row ((d5.block w.heap.size (by simp; omega)).trans HB0.out)).cell (i := 0) (by simp)))
      have HB5 := Lib.hid (HB.out.drew.trans (d5.mono HB.out.size))
      have HB15 := Lib.hid ((d5.block (w.heap.size + 1) (by simp; omega)).trans HB1.out)
      have hs5 : w.heap.size + 1 < w5.heap.size := by have := d5.size; simp at this; omega
      clear d5
      rw [IntWalk.i64_in (4 * (T.cnt : Int)) (by omega), IntWalk.i64_in (4 * (T.cnt : Int) + 4) (by omega), IntWalk.i64_in (3 * (T.n : Int)) (by omega), decide_eq_false (Int.not_lt.2 hgrI)]
      go_wp2_with fail
      refine (HLAY.out _ HB5.out).mono ?_
      rintro e w6 ⟨g6, c6, rfl, b6, r6, l6⟩
      rw [← HPUT.out] at r6
      have hff := FIN.out w5 HB5.out hs5 HB15.out w6 g6 c6 b6 r6 l6
      rw [HPUT.out] at hff
      obtain ⟨⟨x6, z6⟩, hff⟩ := hff
      have HF := Lib.hid hff
      clear hff b6 r6 l6
      go_wp2_with fail
      obtain ⟨y0, hV⟩ := HF.out _ rfl
      generalize (w6.setCell ⟨w.heap.size + 1, 0, none⟩ (.slice (some ⟨g6, 0, none⟩) (T.lay ⟨k, v, true⟩).n c6)) = V at y0 hV ⊢
      exact bodyPost_ret (v := tabV g6 (T.lay ⟨k, v, true⟩).n c6) (by simp [results, Try.results69, go_sem, y0]) rfl ⟨g6, c6, by rw [HPUT.out]; rfl, hV.1, by rw [HPUT.out]; exact hV.2.1, hV.2.2⟩
  · have HTH := Lib.hid hth
    clear hth
    rw [if_neg (fun q => absurd (HTH.out.symm.trans q.1) (by decide))] at HPUT
    go_wp2_with fail
    go_region
    have HB5 := Lib.hid HB.out.drew
    go_wp2_with fail
    refine (HLAY.out _ HB5.out).mono ?_
    rintro e w6 ⟨g6, c6, rfl, b6, r6, l6⟩
    rw [← HPUT.out] at r6
    have hff := FIN.out w1.drew HB5.out hs1 HB1.out w6 g6 c6 b6 r6 l6
    rw [HPUT.out] at hff
    obtain ⟨⟨x6, z6⟩, hff⟩ := hff
    have HF := Lib.hid hff
    clear hff b6 r6 l6
    go_wp2_with fail
    obtain ⟨y0, hV⟩ := HF.out _ rfl
    generalize (w6.setCell ⟨w.heap.size + 1, 0, none⟩ (.slice (some ⟨g6, 0, none⟩) (T.lay ⟨k, v, true⟩).n c6)) = V at y0 hV ⊢
    exact bodyPost_ret (v := tabV g6 (T.lay ⟨k, v, true⟩).n c6) (by simp [results, Try.results69, go_sem, y0]) rfl ⟨g6, c6, by rw [HPUT.out]; rfl, hV.1, by rw [HPUT.out]; exact hV.2.1, hV.2.2⟩
end Go.Proofs.Ytnacmhljbnpdpaa
/- The document's own table: Delete, up to where what lay behind is laid anew. -/
namespace Go.Proofs.Ytnacmhljbnpdpaa
open Go Go.RowKit Go.Deep

theorem ownsRow_block {w w' : World} {B : Nat} {e : TypeId} {size n : Nat} {v : Value} {xs : List Value} (h : w.ownsRow B e size v n xs) (hk : ∀ k, B ≤ k → k < w.heap.size → w'.heap[k]? = w.heap[k]?) : w'.ownsRow B e size v n xs := by
  refine ⟨h.1, ?_⟩
  rcases h.2 with q | ⟨g, cap, cur, e1, e2, e3, e4⟩
  · exact .inl q
  · exact .inr ⟨g, cap, cur, e1, e2, (hk g e2 (head_row e3).lt).trans e3, e4⟩
theorem Only.low {S : List Nat} {w0 w w' : World} (h : Only S w0 w) (hb : Below w0.heap.size w w') : Only S w0 w' :=
  ⟨hb.os.trans h.os, hb.tape.trans h.tape, hb.output.trans h.output, Nat.le_trans h.size hb.size, fun i hi hS => (hb.block i hi).trans (h.block i hi hS)⟩
theorem TabRow.low {w w' : World} {B g m : Nat} {sl : Nat → Sl} (h : TabRow w g m sl) (hb : Below B w w') (hg : g < B) : TabRow w' g m sl := by
  obtain ⟨N, F, hF, hN, hv⟩ := h
  exact ⟨N, F, hF.of_block (hb.block g hg), hN, hv⟩

/- What lies behind slot a, in turn. -/
def Tb.outS (T : Tb) (a : Nat) (j : Nat) : Sl := T.sl ((a + 1 + j) % T.n)
def slL (sl : Nat → Sl) (m : Nat) : List Value := (List.range (m * 3)).map (slV sl)
theorem slL_succ (sl : Nat → Sl) (m : Nat) : slL sl m ++ [.int .u64 ((sl m).key : Nat), .int .i32 (sl m).n, .bool (sl m).full] = slL sl (m + 1) := by
  unfold slL
  rw [show (m + 1) * 3 = m * 3 + 1 + 1 + 1 by omega, List.range_succ, List.range_succ, List.range_succ]
  simp only [List.map_append, List.map_cons, List.map_nil, List.append_assoc]
  rw [show m * 3 + 1 + 1 = m * 3 + 2 by omega, slV_at _ _ _ (by decide), slV_at _ _ _ (by decide), show slV sl (m * 3) = slotW (sl m) 0 from slV_at sl m 0 (by decide)]
  rfl
theorem slL_at (sl : Nat → Sl) (m p : Nat) (hp : p < m * 3) : (slL sl m)[p]? = some (slV sl p) := by
  unfold slL
  rw [List.getElem?_map, List.getElem?_range hp]
  rfl
/- The row that grows, as Go holds it. -/
structure OutRow (w : World) (B : Nat) (v : Value) (m : Nat) (sl : Nat → Sl) : Prop where
  own : w.ownsRow B 140 3 v m (slL sl m)
theorem OutRow.form {w : World} {B m : Nat} {v : Value} {sl : Nat → Sl} (h : OutRow w B v m sl) : ∃ A c, v = .slice A m c ∧ ∀ w', (∀ k, B ≤ k → k < w.heap.size → w'.heap[k]? = w.heap[k]?) → ∀ i, i < m → ∃ g, A = some ⟨g, 0, none⟩ ∧ SlAt w' g i (sl i) := by
  rcases h.own.2 with ⟨rfl, rfl⟩ | ⟨g, cap, cur, rfl, hB, hb, hle, _, hsz, htk⟩
  · exact ⟨none, 0, rfl, fun _ _ i hi => by omega⟩
  · refine ⟨_, cap, rfl, fun w' hw' i hi => ⟨g, rfl, ?_⟩⟩
    have hb' := (hw' g hB (head_row hb).lt).trans hb
    have key : ∀ j, j < 3 → w'.cell? ⟨g, i * 3 + j, none⟩ = some (slotW (sl i) j) := fun j hj => by
      have h1 := slL_at sl m (i * 3 + j) (by omega)
      rw [slV_at _ _ _ hj] at h1
      rw [← htk, List.getElem?_take, if_pos (by omega), Array.getElem?_toList] at h1
      have hc := (head_row hb').cell (i := i * 3 + j) (by rw [hsz]; omega)
      rw [hc, Array.getD_eq_getD_getElem?, h1]
      rfl
    exact ⟨key 0 (by decide), key 1 (by decide), key 2 (by decide)⟩

/- Behind m steps of the first loop. -/
structure WipeInv (wA w : World) (g2 : Nat) (T : Tb) (a m : Nat) (v : Value) : Prop where
  only : Only [g2] wA w
  row : TabRow w g2 T.n (T.wipe a (m + 1)).sl
  out : OutRow w wA.heap.size v m (T.outS a)
theorem wipe_full {T : Tb} {a r m : Nat} (h : RunAt T a r) (hm : m ≤ r) : (T.wipe a (m + 1)).sl ((a + 1 + m) % T.n) = T.outS a m ∧ (T.outS a m).full = decide (m < r) := by
  have hr := h.short
  have e : a + 1 + m = a + (m + 1) := by omega
  refine ⟨?_, ?_⟩
  · unfold Tb.outS
    exact Tb.wipe_out a (m + 1) (fun j hj => by rw [e]; exact h.ne (by omega) (by omega) (by omega))
  · unfold Tb.outS
    rw [e]
    by_cases hc : m < r
    · rw [h.full (m + 1) (by omega), decide_eq_true hc]
    · obtain rfl : m = r := by omega
      rw [h.stop, decide_eq_false hc]
theorem wipe_step (T : Tb) (a m : Nat) : (T.wipe a (m + 1 + 1)).sl = fun j => if j = (a + 1 + m) % T.n then Sl.no else (T.wipe a (m + 1)).sl j := by
  rw [show a + 1 + m = a + (m + 1) by omega]
  rfl
theorem wipe_one (T : Tb) (a : Nat) (ha : a < T.n) : (T.wipe a (0 + 1)).sl = fun j => if j = a then Sl.no else T.sl j := by
  show (fun i => if i = (a + 0) % T.n then Sl.no else T.sl i) = _
  rw [Nat.add_zero, Nat.mod_eq_of_lt ha]
/- A store of a slot with nothing. -/
theorem WipeInv.next {wA w w2 : World} {g2 : Nat} {T : Tb} {a m : Nat} {v v2 : Value} (h : WipeInv wA w g2 T a m v) (hg : g2 < wA.heap.size) (hb : Below wA.heap.size w w2) (ho : w2.ownsRow wA.heap.size 140 3 v2 (m + 1) (slL (T.outS a) (m + 1))) :
    ∀ V, V = ((w2.setCell ⟨g2, ((a + 1 + m) % T.n) * 3, none⟩ (.int .u64 0)).setCell ⟨g2, ((a + 1 + m) % T.n) * 3 + 1, none⟩ (.int .i32 0)).setCell ⟨g2, ((a + 1 + m) % T.n) * 3 + 2, none⟩ (.bool false) → WipeInv wA V g2 T a (m + 1) v2 := by
  intro V hV
  obtain ⟨h1, h2⟩ := tabRow_put (h.row.low hb hg) ((a + 1 + m) % T.n) Sl.no
  have e : V = ((w2.setCell ⟨g2, ((a + 1 + m) % T.n) * 3, none⟩ (.int .u64 (Sl.no.key : Nat))).setCell ⟨g2, ((a + 1 + m) % T.n) * 3 + 1, none⟩ (.int .i32 Sl.no.n)).setCell ⟨g2, ((a + 1 + m) % T.n) * 3 + 2, none⟩ (.bool Sl.no.full) := hV
  rw [← e] at h1 h2
  refine ⟨(h.only.low hb).trans h2 (by simp), ?_, ⟨ownsRow_block ho (fun k hk hlt => h2.block k hlt (by simp; omega))⟩⟩
  rw [wipe_step]
  exact h1

/- Behind i steps of the second loop: the new table's cell is block U. -/
structure RelInv (wB w : World) (T : Tb) (a r lo i gu cu : Nat) : Prop where
  below : Below wB.heap.size wB w
  ref : RefT w (T.relay a r i) gu
  cell : w.heap[wB.heap.size]? = some (.cells #[.slice (some ⟨gu, 0, none⟩) T.n cu] 28 (0, 0))
  ne : gu ≠ wB.heap.size
  low : lo < gu
theorem rrelay_lay {w : World} {T : Tb} {a r gu : Nat} (gd : T.Good) (hr : RunAt T a r) (hn : T.n ≤ 100000) (i : Nat) (hi : i < r) (hkeys : T.Keys) (cu : Nat) (h : RefT w (T.relay a r i) gu) :
    Calls Try.prog 88 #[tabV gu T.n cu, .agg #[.int .u64 ((T.outS a i).key : Nat), .int .i32 (T.outS a i).n, .bool true]] w fun e w' => ∃ g c, e = .returned (tabV g T.n c) ∧ Below w.heap.size w w' ∧ RefT w' (T.relay a r (i + 1)) g ∧ w.heap.size ≤ g := by
  have g := hr.relay gd.ok i (by omega)
  have hf : (T.outS a i).full = true := (wipe_full hr (by omega)).2.trans (decide_eq_true hi)
  have hs : isSz (T.relay a r i).n = true := good_sz (by rw [g.n]; exact gd.pow) (by rw [g.n]; omega)
  have hl := rlay_walk h g.ok hs (by rw [g.n]; omega) cu (T.outS a i) (hkeys _ (Nat.mod_lt _ gd.ok.pos))
  rw [g.n, hf] at hl
  refine hl.mono ?_
  rintro e w' ⟨g6, c6, rfl, b6, r6, l6⟩
  exact ⟨g6, c6, by rw [Tb.lay_n, g.n]; rfl, b6, r6, l6⟩
end Go.Proofs.Ytnacmhljbnpdpaa
