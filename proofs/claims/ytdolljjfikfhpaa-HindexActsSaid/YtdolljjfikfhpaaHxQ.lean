/- The document's own table: Put. -/
import Derived.Test.YtdolljjfikfhpaaHxP
import Derived.Deep.RegionHeld3
import Derived.Deep.RegionWith
import Derived.IntWalk
namespace Go.Proofs.Ytdolljjfikfhpaa
open Go Go.RowKit Go.Deep

structure GrowInv (w0 w : World) (T : Tb) (U : Nat) (i gu cu : Nat) : Prop where
  below : Below w0.heap.size w0 w
  ref : RefT w (T.growUp i) gu
  cell : w.heap[U]? = some (.cells #[.slice (some ⟨gu, 0, none⟩) (2 * T.n) cu] 27 (0, 0))
  low : w0.heap.size ≤ gu

/- To lay what slot i has into the table that grows. -/
theorem rgrow_lay {w : World} {T : Tb} {gu : Nat} (gd : T.Good) (hn : T.n ≤ 100000) (i : Nat) (hi : i < T.n) (hf : (T.sl i).full = true) (hkey : (T.sl i).key < 18446744073709551616) (cu : Nat) (h : RefT w (T.growUp i) gu) :
    Calls Try.prog 43 #[tabV gu (2 * T.n) cu, .agg #[.int .u64 ((T.sl i).key : Nat), .int .i32 (T.sl i).n, .bool true]] w fun e w' => ∃ g c, e = .returned (tabV g (2 * T.n) c) ∧ Below w.heap.size w w' ∧ RefT w' (T.growUp (i + 1)) g ∧ w.heap.size ≤ g := by
  have g := gd.ok.growUp i (by omega)
  obtain ⟨p, hp⟩ := gd.pow
  have hs : isSz (T.growUp i).n = true := good_sz ⟨p + 1, by rw [g.n, hp, Nat.pow_succ, Nat.mul_comm]⟩ (by rw [g.n]; omega)
  have hl := rlay_walk h g.ok hs (by rw [g.n]; omega) cu (T.sl i) hkey
  rw [g.n, hf] at hl
  refine hl.mono ?_
  rintro e w' ⟨g6, c6, rfl, b6, r6, l6⟩
  refine ⟨g6, c6, by rw [Tb.lay_n, g.n]; rfl, b6, ?_, l6⟩
  unfold Tb.growUp
  rw [if_pos hf]
  exact r6
theorem rgrown_lay {w : World} {T : Tb} {gu : Nat} (gd : T.Good) (hn : T.n ≤ 100000) (k : Nat) (v : Int) (hk : k < 18446744073709551616) (cu : Nat) (h : RefT w T.grow gu) :
    Calls Try.prog 43 #[tabV gu (2 * T.n) cu, .agg #[.int .u64 (k : Nat), .int .i32 v, .bool true]] w (TabPost w (T.grow.lay ⟨k, v, true⟩) id) := by
  obtain ⟨g1, g2, _⟩ := gd.ok.grown
  obtain ⟨p, hp⟩ := gd.pow
  have hs : isSz T.grow.n = true := good_sz ⟨p + 1, by rw [g2, hp, Nat.pow_succ, Nat.mul_comm]⟩ (by rw [g2]; omega)
  have hl := rlay_walk h g1 hs (by rw [g2]; omega) cu ⟨k, v, true⟩ hk
  rw [g2] at hl
  exact hl

set_option maxHeartbeats 1000000 in
theorem rput_walk {w : World} {T : Tb} {g : Nat} (h : RefT w T g) (gd : T.Good) (hn : T.n ≤ 100000) (k c : Nat) (hk : k < 18446744073709551616) (v : Int) (hkeys : ∀ i, i < T.n → (T.sl i).key < 18446744073709551616) :
    Calls Try.prog 38 #[tabV g T.n c, .int .u64 (k : Int), .int .i32 v] w (TabPost w (T.put k v) id) := by
  have hs : isSz T.n = true := good_sz gd.pow (by omega)
  have hp := gd.ok.pos
  have hnI : (T.n : Int) ≤ 100000 := by omega
  have HR := Lib.hid h
  have HGD := Lib.hid gd
  have hb2 := ((Below.refl w.heap.size w).alloc (Nat.le_refl _) (.cells #[.slice (some ⟨g, 0, none⟩) T.n c] 27)).alloc (by simp) (.cells #[.slice none 0 0] 27)
  have HB2 := Lib.hid hb2
  have HG := Lib.hid (rget_walk (h.below hb2) gd.ok hs k c hk)
  have HLEN := Lib.hid (fun w' (hb : Below w.heap.size w w') => rlen_walk (h.below hb) (by omega) c)
  have HLAY := Lib.hid (fun w' (hb : Below w.heap.size w w') => rlay_walk (h.below hb) gd.ok hs (by omega) c ⟨k, v, true⟩ hk)
  have HPUT : Hid (T.put k v = (if T.there k = false ∧ 3 * T.n < 4 * T.cnt + 4 then T.grow else T).lay ⟨k, v, true⟩) := Lib.hid rfl
  obtain ⟨th, hth⟩ : ∃ th, T.there k = th := ⟨_, rfl⟩
  have HG2 : Hid ((T.get k).2 = th) := Lib.hid hth
  obtain ⟨gt, hgt⟩ : ∃ gt, T.get k = gt := ⟨_, rfl⟩
  rw [hgt] at HG HG2
  obtain ⟨g1, g2⟩ := gt
  obtain rfl : g2 = th := HG2.out
  clear h gd hs hb2 hgt HG2
  go_enter Try.func38, Try.ntmps38
  go_wp2_with fail
  refine HG.out.mono ?_
  rintro e w1 ⟨rfl, hb⟩
  obtain ⟨hb1, hs1, hB0, hB1⟩ := two_blocks hb
  have HB := Lib.hid hb1
  have c0 : w1.cell? ⟨w.heap.size, 0, none⟩ = some (.slice (some ⟨g, 0, none⟩) T.n c) := (head_row hB0).cell (i := 0) (by simp)
  have c1 : w1.cell? ⟨w.heap.size + 1, 0, none⟩ = some (.slice none 0 0) := (head_row hB1).cell (i := 0) (by simp)
  have z1 : w1.frozen? ⟨w.heap.size + 1, 0, none⟩ = false := (head_row hB1).frozen 0
  have HB0 := Lib.hid hB0
  have HB1 := Lib.hid hB1
  clear hb hb1 hB0 hB1
  have fin : ∀ (w5 : World), Below w.heap.size w w5 → w.heap.size + 1 < w5.heap.size → w5.heap[w.heap.size + 1]? = some (.cells #[.slice none 0 0] 27 (0, 0)) → ∀ (w6 : World) (g6 c6 : Nat), Below w5.heap.size w5 w6 → RefT w6 (T.put k v) g6 → w5.heap.size ≤ g6 →
      (w6.cell? ⟨w.heap.size + 1, 0, none⟩ = some (.slice none 0 0) ∧ w6.frozen? ⟨w.heap.size + 1, 0, none⟩ = false) ∧ ∀ V, V = w6.setCell ⟨w.heap.size + 1, 0, none⟩ (.slice (some ⟨g6, 0, none⟩) (T.put k v).n c6) → V.cell? ⟨w.heap.size + 1, 0, none⟩ = some (.slice (some ⟨g6, 0, none⟩) (T.put k v).n c6) ∧ Below w.heap.size w V ∧ RefT V (T.put k v) g6 ∧ w.heap.size ≤ g6 := by
    intro w5 b5 hz hB w6 g6 c6 b6 r6 l6
    have hB6 := (b6.block (w.heap.size + 1) hz).trans hB
    refine ⟨⟨(head_row hB6).cell (i := 0) (by simp), (head_row hB6).frozen 0⟩, ?_⟩
    rintro V rfl
    obtain ⟨y0, o⟩ := one_set hB6 (.slice (some ⟨g6, 0, none⟩) (T.put k v).n c6)
    have h56 := b6.size
    have h5 := b5.size
    refine ⟨y0, (b5.trans (b6.mono h5)).trans (o.below (B := w.heap.size) (by simp) (by omega)), ⟨Nat.lt_of_lt_of_le r6.lt o.size, fun i hi => ?_⟩, by omega⟩
    obtain ⟨q0, q1, q2⟩ := r6.sl i hi
    have e := fun (j : Nat) => World.cell?_of_block (w := w6) (w' := w6.setCell ⟨w.heap.size + 1, 0, none⟩ (.slice (some ⟨g6, 0, none⟩) (T.put k v).n c6)) (a := ⟨g6, j, none⟩) (o.block g6 r6.lt (by simp; omega))
    exact ⟨(e _).trans q0, (e _).trans q1, (e _).trans q2⟩
  have FIN := Lib.hid fin
  clear fin
  cases g2
  · have HTH := Lib.hid hth
    clear hth
    have hcn : T.cnt ≤ T.n := cntB_le _ _
    have hcnI : (T.cnt : Int) ≤ 100000 := by omega
    go_wp2_with fail
    by_cases hgr : 3 * T.n < 4 * T.cnt + 4
    · have hgrI : 3 * (T.n : Int) < 4 * (T.cnt : Int) + 4 := by omega
      rw [if_pos (And.intro HTH.out hgr)] at HPUT
      go_region_held3 (fun w' => w'.cell? ⟨w.heap.size, 0, none⟩ = some (.slice (some ⟨g, 0, none⟩) T.n c)) (first | with_reducible exact kk5 | go_keep) (first | (go_at_call 25; refine (HLEN.out _ HB.out.drew).mono ?_; rintro e w5 ⟨rfl, d5⟩; have kk5 := (head_row ((d5.block w.heap.size (by simp; omega)).trans HB0.out)).cell (i := 0) (by simp)))
      have HB5 := Lib.hid (HB.out.drew.trans (d5.mono HB.out.size))
      have HB05 := Lib.hid ((d5.block w.heap.size (by simp; omega)).trans HB0.out)
      have HB15 := Lib.hid ((d5.block (w.heap.size + 1) (by simp; omega)).trans HB1.out)
      have hs5 : w.heap.size + 1 < w5.heap.size := by have := d5.size; simp at this; omega
      clear d5
      rw [IntWalk.i64_in (4 * (T.cnt : Int)) (by omega), IntWalk.i64_in (4 * (T.cnt : Int) + 4) (by omega), IntWalk.i64_in (3 * (T.n : Int)) (by omega), decide_eq_true hgrI]
      obtain ⟨cs, hmk, hsz, hcs⟩ := make_tab (2 * T.n) (by omega) w5
      rw [Int.natCast_mul] at hmk
      have e2 : ((2 : Nat) : Int) = 2 := rfl
      rw [e2] at hmk
      have hgl := fun w' gu cu (h : RefT w' T.grow gu) => rgrown_lay HGD.out hn k v hk cu h
      have HGL := Lib.hid hgl
      have HKEYS := Lib.hid hkeys
      obtain ⟨X, hX⟩ : ∃ X, X = w5.alloc (.cells cs 34) := ⟨_, rfl⟩
      have hXz : X.heap.size = w5.heap.size + 1 := by rw [hX]; simp
      have hXb : Below w5.heap.size w5 X := hX ▸ (Below.refl w5.heap.size w5).alloc (Nat.le_refl _) _
      have hXk : X.heap[w5.heap.size]? = some (.cells cs 34 (0, 0)) := hX ▸ heap_alloc_new w5 _
      have hbX := hXb.alloc (by omega) (.cells #[.slice (some ⟨w5.heap.size, 0, none⟩) (2 * T.n) (2 * T.n)] 27)
      have hbY := (Below.refl X.heap.size X).alloc (Nat.le_refl _) (.cells #[.slice (some ⟨w5.heap.size, 0, none⟩) (2 * T.n) (2 * T.n)] 27)
      have hcX := heap_alloc_new X (.cells #[.slice (some ⟨w5.heap.size, 0, none⟩) (2 * T.n) (2 * T.n)] 27)
      rw [hXz] at hcX
      have hrX := (TabRow.ref (T := T.growUp 0) (tabRow_new (m := 2 * T.n) hXk hsz hcs)).below hbY
      rw [hX] at hbX hcX hrX
      have HGI : Hid (GrowInv w5 _ T (w5.heap.size + 1) 0 w5.heap.size (2 * T.n)) := Lib.hid ⟨hbX, hrX, hcX, Nat.le_refl _⟩
      clear hsz hcs hX hXz hXb hXk hbX hbY hcX hrX hgl hkeys e2
      go_wp2_with fail
      go_loopg [10] T.n (fun gg s10 wr => ∃ i gu cu : Nat, i + gg = T.n ∧ s10 = .int .i64 (i : Nat) ∧ Hid (GrowInv w5 wr T (w5.heap.size + 1) i gu cu))
      case atStart => exact ⟨0, _, _, by omega, rfl, HGI⟩
      case round =>
        obtain ⟨i, gu, cu, hi, rfl, HI⟩ := hrel
        have hUr : w5.heap.size + 1 < wr.heap.size := (head_row HI.out.cell).lt
        have hB0r := (HI.out.below.block w.heap.size (by omega)).trans HB05.out
        have c0 : wr.cell? ⟨w.heap.size, 0, none⟩ = some (.slice (some ⟨g, 0, none⟩) T.n c) := (head_row hB0r).cell (i := 0) (by simp)
        have u0 : wr.cell? ⟨w5.heap.size + 1, 0, none⟩ = some (.slice (some ⟨gu, 0, none⟩) (2 * T.n) cu) := (head_row HI.out.cell).cell (i := 0) (by simp)
        have hbr := HB5.out.trans (HI.out.below.mono HB5.out.size)
        by_cases hlt : i < T.n
        · have hltI : (i : Int) < (T.n : Int) := by omega
          obtain ⟨q0, q1, q2⟩ := (HR.out.below hbr).sl i hlt
          obtain ⟨fb, hfb⟩ : ∃ fb, (T.sl i).full = fb := ⟨_, rfl⟩
          rw [hfb] at q2
          clear hB0r hbr
          cases fb
          · have HFB := Lib.hid hfb
            clear hfb
            go_wp2
            go_roundg (gk - 1)
            case measure => omega
            case rel => exact ⟨i + 1, gu, cu, by omega, by go_num, Lib.hid ⟨HI.out.below, by unfold Tb.growUp; rw [HFB.out]; exact HI.out.ref, HI.out.cell, HI.out.low⟩⟩
          · have HL8 := Lib.hid (fun w' (hb : Below wr.heap.size wr w') => rgrow_lay HGD.out hn i hlt hfb (HKEYS.out i hlt) cu (HI.out.ref.below hb))
            clear hfb
            go_wp2_with fail
            go_region_with (first | (go_at_call 43; refine (HL8.out _ (Below.refl _ _).drew).mono ?_; rintro e w6 ⟨g6, c6, rfl, b6, r6, l6⟩; have hB6 := (b6.block (w5.heap.size + 1) hUr).trans HI.out.cell; have x6 := (head_row hB6).cell (i := 0) (by simp); have z6 := (head_row hB6).frozen 0))
            all_goals
              have hlow := HI.out.below.size
              have hl6 : wr.heap.size ≤ g6 := l6
              obtain ⟨hU, hO⟩ := one_heap hB6 (.slice (some ⟨g6, 0, none⟩) (2 * T.n) c6)
              generalize w6.setCell ⟨w5.heap.size + 1, 0, none⟩ (.slice (some ⟨g6, 0, none⟩) (2 * T.n) c6) = V at hU hO ⊢
              have HN : Hid (GrowInv w5 V T (w5.heap.size + 1) (i + 1) g6 c6) := Lib.hid ⟨(HI.out.below.drew.trans (b6.mono hlow)).trans (hO.below (B := w5.heap.size) (by simp) (Nat.le_trans hlow b6.size)), r6.only hO (by simp; omega), hU, by omega⟩
              clear hU hO hB6 x6 z6 b6 r6 l6 q0 q1 q2 c0 u0
              go_wp2
              go_roundg (gk - 1)
              case measure => omega
              case rel => exact ⟨i + 1, g6, c6, by omega, by go_num, HN⟩
        · obtain rfl : i = T.n := by omega
          have hge : ¬ (T.n : Int) < (T.n : Int) := by omega
          have z0 : wr.frozen? ⟨w.heap.size, 0, none⟩ = false := (head_row hB0r).frozen 0
          obtain ⟨hT, hO⟩ := one_heap hB0r (.slice (some ⟨gu, 0, none⟩) (2 * T.n) cu)
          have hlow := HI.out.low
          have HG9 := Lib.hid (HGL.out _ gu cu (HI.out.ref.only hO (by simp; omega)))
          have HB9 := Lib.hid (hbr.trans (hO.below (B := w.heap.size) (by simp) hbr.size))
          have HB19 := Lib.hid ((hO.block (w.heap.size + 1) (by omega) (by simp)).trans ((HI.out.below.block (w.heap.size + 1) hs5).trans HB15.out))
          have HO := Lib.hid hO
          clear hT hO hB0r hbr
          go_wp2_with fail
          refine HG9.out.mono ?_
          rintro e w6 ⟨g6, c6, rfl, b6, r6, l6⟩
          rw [← HPUT.out] at r6
          have hff := FIN.out _ HB9.out (Nat.lt_of_lt_of_le (by omega : w.heap.size + 1 < wr.heap.size) HO.out.size) HB19.out w6 g6 c6 b6 r6 l6
          rw [HPUT.out] at hff
          obtain ⟨⟨x6, z6⟩, hff⟩ := hff
          have HF := Lib.hid hff
          clear hff b6 r6 l6
          go_wp2_with fail
          obtain ⟨y0, hV⟩ := HF.out _ rfl
          generalize (w6.setCell ⟨w.heap.size + 1, 0, none⟩ (.slice (some ⟨g6, 0, none⟩) (T.grow.lay ⟨k, v, true⟩).n c6)) = V at y0 hV ⊢
          exact bodyPost_ret (v := tabV g6 (T.grow.lay ⟨k, v, true⟩).n c6) (by simp [results, Try.results38, go_sem, y0]) rfl ⟨g6, c6, by rw [HPUT.out]; rfl, hV.1, by rw [HPUT.out]; exact hV.2.1, hV.2.2⟩
    · have hgrI : ¬ 3 * (T.n : Int) < 4 * (T.cnt : Int) + 4 := by omega
      rw [if_neg (fun q => hgr q.2)] at HPUT
      go_region_held3 (fun w' => w'.cell? ⟨w.heap.size, 0, none⟩ = some (.slice (some ⟨g, 0, none⟩) T.n c)) (first | with_reducible exact kk5 | go_keep) (first | (go_at_call 25; refine (HLEN.out _ HB.out.drew).mono ?_; rintro e w5 ⟨rfl, d5⟩; have kk5 := (head_row ((d5.block w.heap.size (by simp; omega)).trans HB0.out)).cell (i := 0) (by simp)))
      have HB5 := Lib.hid (HB.out.drew.trans (d5.mono HB.out.size))
      have HB15 := Lib.hid ((d5.block (w.heap.size + 1) (by simp; omega)).trans HB1.out)
      have hs5 : w.heap.size + 1 < w5.heap.size := by have := d5.size; simp at this; omega
      clear d5
      rw [IntWalk.i64_in (4 * (T.cnt : Int)) (by omega), IntWalk.i64_in (4 * (T.cnt : Int) + 4) (by omega), IntWalk.i64_in (3 * (T.n : Int)) (by omega), decide_eq_false (Int.not_lt.2 hgrI)]
      go_wp2_with fail
      refine (HLAY.out _ HB5.out).mono ?_
      rintro e w6 ⟨g6, c6, rfl, b6, r6, l6⟩
      rw [← HPUT.out] at r6
      have hff := FIN.out w5 HB5.out hs5 HB15.out w6 g6 c6 b6 r6 l6
      rw [HPUT.out] at hff
      obtain ⟨⟨x6, z6⟩, hff⟩ := hff
      have HF := Lib.hid hff
      clear hff b6 r6 l6
      go_wp2_with fail
      obtain ⟨y0, hV⟩ := HF.out _ rfl
      generalize (w6.setCell ⟨w.heap.size + 1, 0, none⟩ (.slice (some ⟨g6, 0, none⟩) (T.lay ⟨k, v, true⟩).n c6)) = V at y0 hV ⊢
      exact bodyPost_ret (v := tabV g6 (T.lay ⟨k, v, true⟩).n c6) (by simp [results, Try.results38, go_sem, y0]) rfl ⟨g6, c6, by rw [HPUT.out]; rfl, hV.1, by rw [HPUT.out]; exact hV.2.1, hV.2.2⟩
  · have HTH := Lib.hid hth
    clear hth
    rw [if_neg (fun q => absurd (HTH.out.symm.trans q.1) (by decide))] at HPUT
    go_wp2_with fail
    go_region
    have HB5 := Lib.hid HB.out.drew
    go_wp2_with fail
    refine (HLAY.out _ HB5.out).mono ?_
    rintro e w6 ⟨g6, c6, rfl, b6, r6, l6⟩
    rw [← HPUT.out] at r6
    have hff := FIN.out w1.drew HB5.out hs1 HB1.out w6 g6 c6 b6 r6 l6
    rw [HPUT.out] at hff
    obtain ⟨⟨x6, z6⟩, hff⟩ := hff
    have HF := Lib.hid hff
    clear hff b6 r6 l6
    go_wp2_with fail
    obtain ⟨y0, hV⟩ := HF.out _ rfl
    generalize (w6.setCell ⟨w.heap.size + 1, 0, none⟩ (.slice (some ⟨g6, 0, none⟩) (T.lay ⟨k, v, true⟩).n c6)) = V at y0 hV ⊢
    exact bodyPost_ret (v := tabV g6 (T.lay ⟨k, v, true⟩).n c6) (by simp [results, Try.results38, go_sem, y0]) rfl ⟨g6, c6, by rw [HPUT.out]; rfl, hV.1, by rw [HPUT.out]; exact hV.2.1, hV.2.2⟩
end Go.Proofs.Ytdolljjfikfhpaa
