/- The document's own table: Delete. -/
import Derived.Test.YtdolljjfikfhpaaHxO
namespace Go.Proofs.Ytdolljjfikfhpaa
open Go Go.RowKit Go.Deep

/- A table, as Delete hands it back: the one that came, or one of its own. -/
def DelPost (w : World) (T : Tb) (g : Nat) (f : Value → Value) (e : Ending) (w' : World) : Prop := ∃ g' c', e = .returned (f (tabV g' T.n c')) ∧ Below w.heap.size w w' ∧ RefT w' T g' ∧ (g' = g ∨ w.heap.size ≤ g')

set_option maxHeartbeats 1000000 in
theorem rdel_walk {w : World} {T : Tb} {g : Nat} (h : RefT w T g) (gd : T.Good) (hn : T.n ≤ 100000) (k c : Nat) (hk : k < 18446744073709551616) (hkeys : T.Keys) :
    Calls Try.prog 37 #[tabV g T.n c, .int .u64 (k : Nat)] w (DelPost w (T.del k) g (fun v => .tuple #[v, .bool (T.there k)])) := by
  have hs : isSz T.n = true := good_sz gd.pow (by omega)
  have hp := gd.ok.pos
  have hnI : (T.n : Int) ≤ 100000 := by omega
  have hlk := gd.ok.look_lt k
  have HR := Lib.hid h
  have HGD := Lib.hid gd
  have hb2 := ((Below.refl w.heap.size w).alloc (Nat.le_refl _) (.cells #[.slice (some ⟨g, 0, none⟩) T.n c] 27)).alloc (by simp) (.cells #[.slice none 0 0] 27)
  have HL := Lib.hid (rlook_walk (h.below hb2) gd.ok hs k c hk)
  have hth : (T.sl (T.look k)).full = T.there k := rfl
  -- the result's cell, written last
  have fin : ∀ (U : Tb) (w5 : World) (g5 c5 : Nat), Below w.heap.size w w5 → w5.heap[w.heap.size + 1]? = some (.cells #[.slice none 0 0] 27 (0, 0)) → RefT w5 U g5 → (g5 = g ∨ w.heap.size ≤ g5 ∧ g5 ≠ w.heap.size + 1) →
      ∀ V, V = w5.setCell ⟨w.heap.size + 1, 0, none⟩ (.slice (some ⟨g5, 0, none⟩) U.n c5) → V.cell? ⟨w.heap.size + 1, 0, none⟩ = some (.slice (some ⟨g5, 0, none⟩) U.n c5) ∧ Below w.heap.size w V ∧ RefT V U g5 ∧ (g5 = g ∨ w.heap.size ≤ g5) := by
    intro U w5 g5 c5 b5 hB r5 l5 V hV
    subst hV
    obtain ⟨y0, o⟩ := one_set hB (.slice (some ⟨g5, 0, none⟩) U.n c5)
    have hglt := h.lt
    exact ⟨y0, b5.trans (o.below (B := w.heap.size) (by simp) b5.size), r5.only o (by simp; omega), l5.imp id And.left⟩
  have FIN := Lib.hid fin
  clear h gd hs hb2 fin
  obtain ⟨th, hthE⟩ : ∃ th, T.there k = th := ⟨_, rfl⟩
  rw [hthE] at hth ⊢
  have HTE := Lib.hid hthE
  clear hthE
  go_enter Try.func37, Try.ntmps37
  go_wp2_with fail
  refine HL.out.mono ?_
  rintro e w1 ⟨rfl, hb⟩
  obtain ⟨hb1, hs1, hB0, hB1⟩ := two_blocks hb
  have HB := Lib.hid hb1
  have c0 : w1.cell? ⟨w.heap.size, 0, none⟩ = some (.slice (some ⟨g, 0, none⟩) T.n c) := (head_row hB0).cell (i := 0) (by simp)
  have c1 : w1.cell? ⟨w.heap.size + 1, 0, none⟩ = some (.slice none 0 0) := (head_row hB1).cell (i := 0) (by simp)
  have z1 : w1.frozen? ⟨w.heap.size + 1, 0, none⟩ = false := (head_row hB1).frozen 0
  obtain ⟨_, _, q2⟩ := (HR.out.below hb1).sl _ hlk
  rw [hth] at q2
  have HB0 := Lib.hid hB0
  have HB1 := Lib.hid hB1
  have HS1 := Lib.hid hs1
  have hs0 : w.heap.size < w1.heap.size := by omega
  clear hb hb1 hB0 hB1 hth HL
  cases th
  · have HD : Hid (T.del k = T) := Lib.hid (by unfold Tb.del; rw [HTE.out]; rfl)
    have HF := Lib.hid (FIN.out T w1 g c HB.out HB1.out (HR.out.below HB.out) (.inl rfl))
    clear HB0 HB1 FIN
    go_wp2_with fail
    obtain ⟨y0, hV⟩ := HF.out _ rfl
    generalize (w1.setCell ⟨w.heap.size + 1, 0, none⟩ (.slice (some ⟨g, 0, none⟩) T.n c)) = V at y0 hV ⊢
    exact bodyPost_ret (v := .tuple #[tabV g T.n c, .bool false]) (by simp [results, Try.results37, go_sem, y0]) rfl ⟨g, c, by rw [HD.out], hV.1, by rw [HD.out]; exact hV.2.1, .inl rfl⟩
  · have hrun := HGD.out.ok.run_at hlk HTE.out
    have HD : Hid (T.del k = T.relay (T.look k) (T.run (T.look k)) (T.run (T.look k))) := Lib.hid (by unfold Tb.del; rw [HTE.out]; rfl)
    obtain ⟨r, hr⟩ : ∃ r, T.run (T.look k) = r := ⟨_, rfl⟩
    obtain ⟨a, ha⟩ : ∃ a, T.look k = a := ⟨_, rfl⟩
    rw [hr, ha] at hrun
    rw [hr, ha] at HD
    rw [ha] at hlk q2 ⊢
    have HRUN := Lib.hid hrun
    have hrn := hrun.short
    clear hr ha hrun HTE
    have hal := (Below.refl w1.heap.size w1).alloc (Nat.le_refl _) (.cells #[] 34)
    have HS := Lib.hid (RefT.src (c := c) (HR.out.below (HB.out.trans (hal.mono HB.out.size))))
    have hown := World.ownsRow_lit (base := w1.heap.size) (e := 34) (size := 3) w1 #[] 0 (Nat.le_refl _) (by unfold maxLen; omega) rfl
    have HO := Lib.hid hown
    have HAL := Lib.hid hal
    have h0s : Hid (∀ u ∈ (List.range (T.n * 3)).map (slV T.sl), u.oneCell' = true) := Lib.hid (by simp; exact fun _ _ => oneCell_sl _ _)
    clear hal hown
    go_wp2_with (at_builtin; refine wpList_append_src rfl (.tmp 26) (.tmp 28) 25 rfl w1.heap.size 34 (.agg #[.int .u64 0, .int .i32 0, .bool false]) 3 16 (by kernel_rfl) (by kernel_rfl) rfl (by decide) _ 0 _ rfl HO.out (some ⟨g, 0, none⟩) T.n c ((List.range (T.n * 3)).map (slV T.sl)) rfl HS.out h0s.out (by omega) (by omega) (by simp) ?_)
    intro v2 w2 hown2 hgrow2
    have hbl2 := below_grown HAL.out HO.out hgrow2 (by simp)
    have hs2 := hbl2.size
    obtain ⟨g2, cap, rfl, hg1, hg2⟩ : ∃ g2 cap, v2 = .slice (some ⟨g2, 0, none⟩) T.n cap ∧ w1.heap.size ≤ g2 ∧ g2 < w2.heap.size := by
      rcases hown2.2 with ⟨_, e⟩ | ⟨g2, cap, cur, e, hg1, hb, _⟩
      · omega
      · exact ⟨g2, cap, e.trans (by congr 1), hg1, (head_row hb).lt⟩
    have hrow := tabRow_own (sl := T.sl) hown2 (fun p hp => by rw [List.getElem?_map, List.getElem?_range hp]; rfl)
    have k1 : w2.heap[w.heap.size + 1]? = _ := (hbl2.block (w.heap.size + 1) hs1).trans HB1.out
    have HBL2 := Lib.hid (HB.out.trans (hbl2.mono (by omega)))
    obtain ⟨q0, p0⟩ := hrow.cell (a * 3) (by omega)
    obtain ⟨q1, p1⟩ := hrow.cell (a * 3 + 1) (by omega)
    obtain ⟨q2, p2⟩ := hrow.cell (a * 3 + 2) (by omega)
    obtain ⟨r1, r2⟩ := tabRow_put hrow a Sl.no
    rw [← wipe_one T a hlk] at r1
    have HW : Hid (∀ V, V = ((w2.setCell ⟨g2, a * 3, none⟩ (.int .u64 0)).setCell ⟨g2, a * 3 + 1, none⟩ (.int .i32 0)).setCell ⟨g2, a * 3 + 2, none⟩ (.bool false) → WipeInv w2 V g2 T a 0 (.slice none 0 0)) := Lib.hid (by
      intro V hV
      have e : V = ((w2.setCell ⟨g2, a * 3, none⟩ (.int .u64 (Sl.no.key : Nat))).setCell ⟨g2, a * 3 + 1, none⟩ (.int .i32 Sl.no.n)).setCell ⟨g2, a * 3 + 2, none⟩ (.bool Sl.no.full) := hV
      rw [← e] at r1 r2
      exact ⟨r2, r1, ⟨World.ownsRow_nil _ _ _ _⟩⟩)
    have HK1 := Lib.hid k1
    have haI : (a : Int) < (T.n : Int) := by omega
    have hg2' : w.heap.size + 1 < g2 := by omega
    clear hown2 hgrow2 hbl2 HS HO HAL hrow k1 c0 c1 z1 hs0 h0s r1 r2 HB0 HB1 HS1 HB
    go_upto_region 6 with fail
    have hw := HW.out _ rfl
    generalize (((w2.setCell ⟨g2, a * 3, none⟩ (.int .u64 0)).setCell ⟨g2, a * 3 + 1, none⟩ (.int .i32 0)).setCell ⟨g2, a * 3 + 2, none⟩ (.bool false)) = W at hw ⊢
    have HI0 := Lib.hid hw
    clear hw HW q0 q1 q2 p0 p1 p2
    go_wp2_with fail
    go_loopg [6, 9] r (fun gg s6 s9 wr => ∃ (m : Nat) (v9 : Value), m + gg = r ∧ s6 = .int .i64 ((a + 1 + m) % T.n : Nat) ∧ v9 = s9 ∧ Hid (WipeInv w2 wr g2 T a m v9))
    case atStart => exact ⟨0, _, by omega, congrArg (Value.int .i64) (by rw [Nat.add_zero, Int.natCast_emod]; rfl), rfl, HI0⟩
    case round =>
      obtain ⟨m, v9, hm, rfl, rfl, HI⟩ := hrel
      have hxl : (a + 1 + m) % T.n < T.n := Nat.mod_lt _ hp
      obtain ⟨e1, e2⟩ := wipe_full HRUN.out (show m ≤ r by omega)
      have hnx : ((a + 1 + m) % T.n + 1) % T.n = (a + 1 + (m + 1)) % T.n := by rw [Nat.mod_add_mod, Nat.add_assoc]
      have hrowr := HI.out.row
      obtain ⟨q0, q1, q2⟩ := (TabRow.ref (T := ⟨T.n, (T.wipe a (m + 1)).sl⟩) hrowr).sl _ hxl
      simp only at q0 q1 q2
      have hNext := fun w3 v3 hb ho => HI.out.next (w2 := w3) (v2 := v3) hg2 hb ho
      have hlow := HI.out.only.size
      obtain ⟨x, hx⟩ : ∃ x, (a + 1 + m) % T.n = x := ⟨_, rfl⟩
      rw [hx] at hxl e1 hnx q0 q1 q2 hNext ⊢
      rw [e1] at q0 q1 q2
      have hsl := slL_succ (T.outS a) m
      obtain ⟨s, hs⟩ : ∃ s, T.outS a m = s := ⟨_, rfl⟩
      rw [hs] at q0 q1 q2 e2 hsl
      obtain ⟨sk, sn, sf⟩ := s
      simp only at q0 q1 q2 e2 hsl
      have hxI : (x : Int) < (T.n : Int) := by omega
      have HSL := Lib.hid hsl
      have HNXT := Lib.hid hNext
      have HNX := Lib.hid hnx
      clear hx e1 hs hsl hNext hnx
      by_cases hmr : m < r
      · rw [decide_eq_true hmr] at e2
        subst e2
        have HOW := Lib.hid (HI.out.out.own.alloc (.cells #[.int .u64 (sk : Nat), .int .i32 sn, .bool true] 34))
        have HAL := Lib.hid ((Below.refl w2.heap.size wr).alloc hlow (.cells #[.int .u64 (sk : Nat), .int .i32 sn, .bool true] 34))
        have hnew := head_row (heap_alloc_new wr (.cells #[.int .u64 (sk : Nat), .int .i32 sn, .bool true] 34))
        have HSRC : Hid ((some (⟨wr.heap.size, 0, none⟩ : Addr) = none ∧ 1 = 0 ∧ 1 = 0 ∧ [Value.int .u64 (sk : Nat), .int .i32 sn, .bool true] = []) ∨ ∃ ad, some (⟨wr.heap.size, 0, none⟩ : Addr) = some ad ∧ [Value.int .u64 (sk : Nat), .int .i32 sn, .bool true].length = 1 * 3 ∧ ∀ j u, [Value.int .u64 (sk : Nat), .int .i32 sn, .bool true][j]? = some u → (wr.alloc (.cells #[.int .u64 (sk : Nat), .int .i32 sn, .bool true] 34)).cell? (ad.add j) = some u) := Lib.hid (.inr ⟨_, rfl, rfl, fun j u hu => by
          have hj : j < 3 := by
            rcases Nat.lt_or_ge j 3 with q | q
            · exact q
            · rw [List.getElem?_eq_none (by simpa using q)] at hu; cases hu
          have := hnew.cell (i := j) (by simpa using hj)
          rw [Addr.add_lit, Nat.zero_add, this]
          match j, hj with
          | 0, _ => simpa using hu
          | 1, _ => simpa using hu
          | 2, _ => simpa using hu⟩)
        have H1C : Hid (∀ u ∈ [Value.int .u64 (sk : Nat), .int .i32 sn, .bool true], u.oneCell' = true) := Lib.hid (by simp [Value.oneCell'])
        have hsz : w2.heap.size ≤ (wr.alloc (.cells #[.int .u64 (sk : Nat), .int .i32 sn, .bool true] 34)).heap.size := by simp; omega
        clear hnew
        go_wp2_with (at_builtin; refine Hid.out ?_)
        refine Lib.hid ?_
        refine wpList_append_src rfl (.tmp 44) (.tmp 49) 25 rfl w2.heap.size 34 (.agg #[.int .u64 0, .int .i32 0, .bool false]) 3 16 (by kernel_rfl) (by kernel_rfl) rfl (by decide) v9 m _ rfl HOW.out (some ⟨wr.heap.size, 0, none⟩) 1 1 [.int .u64 (sk : Nat), .int .i32 sn, .bool true] rfl HSRC.out H1C.out (by omega) (by omega) hsz ?_
        intro v3 w3 hown3 hgrow3
        have hb3 := below_grown HAL.out HOW.out hgrow3 hsz
        rw [HSL.out] at hown3
        have HV := Lib.hid (HNXT.out w3 v3 hb3 hown3)
        have hrow3 := hrowr.low hb3 hg2
        obtain ⟨x0, f0⟩ := hrow3.cell (x * 3) (by omega)
        obtain ⟨x1, f1⟩ := hrow3.cell (x * 3 + 1) (by omega)
        obtain ⟨x2, f2⟩ := hrow3.cell (x * 3 + 2) (by omega)
        clear hown3 hgrow3 hb3 hrow3 hrowr HOW HAL HSRC H1C HNXT HSL hsz q0 q1 q2
        go_upto_region 11 with fail
        have HV1 := Lib.hid (HV.out _ rfl)
        generalize (((w3.setCell ⟨g2, x * 3, none⟩ (.int .u64 0)).setCell ⟨g2, x * 3 + 1, none⟩ (.int .i32 0)).setCell ⟨g2, x * 3 + 2, none⟩ (.bool false)) = V at HV1 ⊢
        clear HV x0 x1 x2 f0 f1 f2
        go_wp2
        go_roundg (gk - 1)
        case measure => omega
        case rel => exact ⟨m + 1, _, by omega, congrArg (Value.int .i64) (by rw [← HNX.out, Int.natCast_emod]; rfl), rfl, HV1⟩
      · obtain rfl : m = r := by omega
        rw [decide_eq_false hmr] at e2
        obtain ⟨wB, hwB⟩ : ∃ x, x = wr := ⟨_, rfl⟩
        subst hwB
        subst e2
        have hk4 := (HI.out.only.block (w.heap.size + 1) (by have := HBL2.out.size; omega) (by simp; omega)).trans HK1.out
        have hbB := HBL2.out.trans (HI.out.only.below (B := w.heap.size) (by simp; omega) HBL2.out.size)
        have hout := HI.out.out
        have hB2 := HI.out.only.size
        obtain ⟨A, c3, rfl, hform⟩ := hout.form
        have hUlt : w.heap.size + 1 < wB.heap.size := by omega
        have hXb := (Below.refl wB.heap.size wB).alloc (Nat.le_refl _) (.cells #[.slice (some ⟨g2, 0, none⟩) T.n cap] 27)
        have hXk := heap_alloc_new wB (.cells #[.slice (some ⟨g2, 0, none⟩) T.n cap] 27)
        have hrow0 : RefT wB (T.relay a m 0) g2 := by
          have e9 : (T.relay a m 0) = ⟨T.n, (T.wipe a (m + 1)).sl⟩ := by
            show T.wipe a (m + 1) = _
            generalize hW : T.wipe a (m + 1) = Wp
            have : Wp.n = T.n := hW ▸ Tb.wipe_n a (m + 1)
            rw [← this]
          rw [e9]
          exact TabRow.ref (T := ⟨T.n, (T.wipe a (m + 1)).sl⟩) hrowr
        have HG0 : Hid (RelInv wB _ T a m (w.heap.size + 1) 0 g2 cap) := Lib.hid ⟨hXb, hrow0.below hXb, hXk, by omega, hg2'⟩
        have hnr : (T.relay a m m).n = T.n := (HRUN.out.relay HGD.out.ok m (Nat.le_refl _)).n
        have HEND : Hid (∀ (w5 : World) (gu cu : Nat), RelInv wB w5 T a m (w.heap.size + 1) m gu cu → (w5.cell? ⟨w.heap.size + 1, 0, none⟩ = some (.slice none 0 0) ∧ w5.frozen? ⟨w.heap.size + 1, 0, none⟩ = false ∧ w5.cell? ⟨wB.heap.size, 0, none⟩ = some (.slice (some ⟨gu, 0, none⟩) T.n cu)) ∧ ∀ V, V = w5.setCell ⟨w.heap.size + 1, 0, none⟩ (.slice (some ⟨gu, 0, none⟩) T.n cu) → V.cell? ⟨w.heap.size + 1, 0, none⟩ = some (.slice (some ⟨gu, 0, none⟩) T.n cu) ∧ DelPost w (T.del k) g (fun v => .tuple #[v, .bool true]) (.returned (.tuple #[tabV gu T.n cu, .bool true])) V) := Lib.hid (by
          intro w5 gu cu hri
          have hk5 := (hri.below.block (w.heap.size + 1) hUlt).trans hk4
          refine ⟨⟨(head_row hk5).cell (i := 0) (by simp), (head_row hk5).frozen 0, (head_row hri.cell).cell (i := 0) (by simp)⟩, fun V hV => ?_⟩
          have hlo := hri.low
          obtain ⟨y0, y1, y2, y3⟩ := FIN.out (T.relay a m m) w5 gu cu (hbB.trans (hri.below.mono hbB.size)) hk5 hri.ref (.inr ⟨by omega, by omega⟩) V (by rw [hnr]; exact hV)
          rw [hnr] at y0
          exact ⟨y0, gu, cu, by rw [HD.out, hnr], y1, by rw [HD.out]; exact y2, y3⟩)
        have HK := Lib.hid hkeys
        have HF := Lib.hid hform
        have HLA := Lib.hid (fun (w5 : World) (i gu cu : Nat) (hi : i < m) (h : RefT w5 (T.relay a m i) gu) => rrelay_lay HGD.out HRUN.out hn i hi HK.out cu h)
        have HFU := Lib.hid (fun i (hi : i < m) => (wipe_full HRUN.out (show i ≤ m by omega)).2.trans (decide_eq_true hi))
        clear hk4 hbB hout hform hXb hXk hrow0 hnr hrowr FIN HD HI HNXT HSL HNX HI0 hkeys hg2' HK1 HBL2
        rcases Nat.eq_zero_or_pos m with hm0 | hmp
        · subst hm0
          go_wp2_with fail
          go_loopg [11] 0 (fun gg s11 wr => ∃ gu cu : Nat, gg = 0 ∧ s11 = .int .i64 0 ∧ Hid (RelInv wB wr T a 0 (w.heap.size + 1) 0 gu cu))
          case atStart => exact ⟨g2, cap, rfl, rfl, HG0⟩
          case round =>
            obtain ⟨gu, cu, hg0, rfl, HI2⟩ := hrel
            obtain ⟨⟨y1, z1, u1⟩, hend⟩ := HEND.out _ gu cu HI2.out
            have HE := Lib.hid hend
            clear hend HEND
            go_wp2_with fail
            obtain ⟨y0, hV⟩ := HE.out _ rfl
            generalize (wr.setCell ⟨w.heap.size + 1, 0, none⟩ (.slice (some ⟨gu, 0, none⟩) T.n cu)) = V at y0 hV ⊢
            exact bodyPost_ret (v := .tuple #[tabV gu T.n cu, .bool true]) (by simp [results, Try.results37, go_sem, y0]) rfl hV
        · obtain ⟨g3, hA, _⟩ := HF.out wB (fun _ _ _ => rfl) 0 hmp
          subst hA
          go_wp2_with fail
          go_loopg [11] m (fun gg s11 wr => ∃ i gu cu : Nat, i + gg = m ∧ s11 = .int .i64 i ∧ Hid (RelInv wB wr T a m (w.heap.size + 1) i gu cu))
          case atStart => exact ⟨0, g2, cap, by omega, rfl, HG0⟩
          case round =>
            obtain ⟨i, gu, cu, hi, rfl, HI2⟩ := hrel
            by_cases hlt : i < m
            · have hltI : (i : Int) < (m : Int) := by omega
              obtain ⟨g3', hA, q0, q1, q2⟩ := HF.out wr (fun k _ hlt => HI2.out.below.block k hlt) i hlt
              injection hA with hA
              injection hA with hA
              subst hA
              rw [HFU.out i hlt] at q2
              have hUr : wB.heap.size < wr.heap.size := (head_row HI2.out.cell).lt
              have u0 : wr.cell? ⟨wB.heap.size, 0, none⟩ = some (.slice (some ⟨gu, 0, none⟩) T.n cu) := (head_row HI2.out.cell).cell (i := 0) (by simp)
              have HL8 := Lib.hid (fun w' (hb : Below wr.heap.size wr w') => HLA.out w' i gu cu hlt (HI2.out.ref.below hb))
              go_wp2_with fail
              go_region_with (first | (go_at_call 43; refine (HL8.out _ (Below.refl _ _).drew).mono ?_; rintro e w6 ⟨g6, c6, rfl, b6, r6, l6⟩; have hB6 := (b6.block wB.heap.size hUr).trans HI2.out.cell; have x6 := (head_row hB6).cell (i := 0) (by simp); have z6 := (head_row hB6).frozen 0))
              all_goals
                have hlow := HI2.out.below.size
                have hl6 : wr.heap.size ≤ g6 := l6
                have hlo := HI2.out.low
                obtain ⟨hU, hO⟩ := one_heap hB6 (.slice (some ⟨g6, 0, none⟩) T.n c6)
                generalize w6.setCell ⟨wB.heap.size, 0, none⟩ (.slice (some ⟨g6, 0, none⟩) T.n c6) = V at hU hO ⊢
                have HN : Hid (RelInv wB V T a m (w.heap.size + 1) (i + 1) g6 c6) := Lib.hid ⟨(HI2.out.below.drew.trans (b6.mono hlow)).trans (hO.below (B := wB.heap.size) (by simp) (Nat.le_trans hlow b6.size)), r6.only hO (by simp; omega), hU, by omega, by omega⟩
                clear hU hO hB6 x6 z6 b6 r6 l6 q0 q1 q2 u0
                go_wp2
                go_roundg (gk - 1)
                case measure => omega
                case rel => exact ⟨i + 1, g6, c6, by omega, by go_num, HN⟩
            · obtain rfl : i = m := by omega
              have hge : ¬ (i : Int) < (i : Int) := by omega
              obtain ⟨⟨y1, z1, u1⟩, hend⟩ := HEND.out _ gu cu HI2.out
              have HE := Lib.hid hend
              clear hend HEND
              go_wp2_with fail
              obtain ⟨y0, hV⟩ := HE.out _ rfl
              generalize (wr.setCell ⟨w.heap.size + 1, 0, none⟩ (.slice (some ⟨gu, 0, none⟩) T.n cu)) = V at y0 hV ⊢
              exact bodyPost_ret (v := .tuple #[tabV gu T.n cu, .bool true]) (by simp [results, Try.results37, go_sem, y0]) rfl hV
end Go.Proofs.Ytdolljjfikfhpaa
