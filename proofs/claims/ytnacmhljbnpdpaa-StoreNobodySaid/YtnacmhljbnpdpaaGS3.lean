/- Words and walks for layer 6: HxJ SrR SrS SrT SrY. -/
import Derived.Test.YtnacmhljbnpdpaaGS1
import Derived.Test.YtnacmhljbnpdpaaGS2
import Derived.Deep.QuietTactic
import Derived.BigQuiet
/- The document's own table: Delete. -/
namespace Go.Proofs.Ytnacmhljbnpdpaa
open Go Go.RowKit Go.Deep

/- A table, as Delete hands it back: the one that came, or one of its own. -/
def DelPost (w : World) (T : Tb) (g : Nat) (f : Value → Value) (e : Ending) (w' : World) : Prop := ∃ g' c', e = .returned (f (tabV g' T.n c')) ∧ Below w.heap.size w w' ∧ RefT w' T g' ∧ (g' = g ∨ w.heap.size ≤ g')

set_option maxHeartbeats 1000000 in
theorem rdel_walk {w : World} {T : Tb} {g : Nat} (h : RefT w T g) (gd : T.Good) (hn : T.n ≤ 100000) (k c : Nat) (hk : k < 18446744073709551616) (hkeys : T.Keys) :
    Calls Try.prog 72 #[tabV g T.n c, .int .u64 (k : Nat)] w (DelPost w (T.del k) g (fun v => .tuple #[v, .bool (T.there k)])) := by
  have hs : isSz T.n = true := good_sz gd.pow (by omega)
  have hp := gd.ok.pos
  have hnI : (T.n : Int) ≤ 100000 := by omega
  have hlk := gd.ok.look_lt k
  have HR := Lib.hid h
  have HGD := Lib.hid gd
  have hb2 := ((Below.refl w.heap.size w).alloc (Nat.le_refl _) (.cells #[.slice (some ⟨g, 0, none⟩) T.n c] 28)).alloc (by simp) (.cells #[.slice none 0 0] 28)
  have HL := Lib.hid (rlook_walk (h.below hb2) gd.ok hs k c hk)
  have hth : (T.sl (T.look k)).full = T.there k := rfl
  -- the result's cell, written last
  have fin : ∀ (U : Tb) (w5 : World) (g5 c5 : Nat), Below w.heap.size w w5 → w5.heap[w.heap.size + 1]? = some (.cells #[.slice none 0 0] 28 (0, 0)) → RefT w5 U g5 → (g5 = g ∨ w.heap.size ≤ g5 ∧ g5 ≠ w.heap.size + 1) →
      ∀ V, V = w5.setCell ⟨w.heap.size + 1, 0, none⟩ (.slice (some ⟨g5, 0, none⟩) U.n c5) → V.cell? ⟨w.heap.size + 1, 0, none⟩ = some (.slice (some ⟨g5, 0, none⟩) U.n c5) ∧ Below w.heap.size w V ∧ RefT V U g5 ∧ (g5 = g ∨ w.heap.size ≤ g5) := by
    intro U w5 g5 c5 b5 hB r5 l5 V hV
    subst hV
    obtain ⟨y0, o⟩ := one_set hB (.slice (some ⟨g5, 0, none⟩) U.n c5)
    have hglt := h.lt
    exact ⟨y0, b5.trans (o.below (B := w.heap.size) (by simp) b5.size), r5.only o (by simp; omega), l5.imp id And.left⟩
  have FIN := Lib.hid fin
  clear h gd hs hb2 fin
  obtain ⟨th, hthE⟩ : ∃ th, T.there k = th := ⟨_, rfl⟩
  rw [hthE] at hth ⊢
  have HTE := Lib.hid hthE
  clear hthE
  go_enter Try.func72, Try.ntmps72
  go_wp2_with fail
  refine HL.out.mono ?_
  rintro e w1 ⟨rfl, hb⟩
  obtain ⟨hb1, hs1, hB0, hB1⟩ := two_blocks hb
  have HB := Lib.hid hb1
  have c0 : w1.cell? ⟨w.heap.size, 0, none⟩ = some (.slice (some ⟨g, 0, none⟩) T.n c) := (head_row hB0).cell (i := 0) (by simp)
  have c1 : w1.cell? ⟨w.heap.size + 1, 0, none⟩ = some (.slice none 0 0) := (head_row hB1).cell (i := 0) (by simp)
  have z1 : w1.frozen? ⟨w.heap.size + 1, 0, none⟩ = false := (head_row hB1).frozen 0
  obtain ⟨_, _, q2⟩ := (HR.out.below hb1).sl _ hlk
  rw [hth] at q2
  have HB0 := Lib.hid hB0
  have HB1 := Lib.hid hB1
  have HS1 := Lib.hid hs1
  have hs0 : w.heap.size < w1.heap.size := by omega
  clear hb hb1 hB0 hB1 hth HL
  cases th
  · have HD : Hid (T.del k = T) := Lib.hid (by unfold Tb.del; rw [HTE.out]; rfl)
    have HF := Lib.hid (FIN.out T w1 g c HB.out HB1.out (HR.out.below HB.out) (.inl rfl))
    clear HB0 HB1 FIN
    go_wp2_with fail
    obtain ⟨y0, hV⟩ := HF.out _ rfl
    generalize (w1.setCell ⟨w.heap.size + 1, 0, none⟩ (.slice (some ⟨g, 0, none⟩) T.n c)) = V at y0 hV ⊢
    exact bodyPost_ret (v := .tuple #[tabV g T.n c, .bool false]) (by simp [results, Try.results72, go_sem, y0]) rfl ⟨g, c, by rw [HD.out], hV.1, by rw [HD.out]; exact hV.2.1, .inl rfl⟩
  · have hrun := HGD.out.ok.run_at hlk HTE.out
    have HD : Hid (T.del k = T.relay (T.look k) (T.run (T.look k)) (T.run (T.look k))) := Lib.hid (by unfold Tb.del; rw [HTE.out]; rfl)
    obtain ⟨r, hr⟩ : ∃ r, T.run (T.look k) = r := ⟨_, rfl⟩
    obtain ⟨a, ha⟩ : ∃ a, T.look k = a := ⟨_, rfl⟩
    rw [hr, ha] at hrun
    rw [hr, ha] at HD
    rw [ha] at hlk q2 ⊢
    have HRUN := Lib.hid hrun
    have hrn := hrun.short
    clear hr ha hrun HTE
    have hal := (Below.refl w1.heap.size w1).alloc (Nat.le_refl _) (.cells #[] 140)
    have HS := Lib.hid (RefT.src (c := c) (HR.out.below (HB.out.trans (hal.mono HB.out.size))))
    have hown := World.ownsRow_lit (base := w1.heap.size) (e := 140) (size := 3) w1 #[] 0 (Nat.le_refl _) (by unfold maxLen; omega) rfl
    have HO := Lib.hid hown
    have HAL := Lib.hid hal
    have h0s : Hid (∀ u ∈ (List.range (T.n * 3)).map (slV T.sl), u.oneCell' = true) := Lib.hid (by simp; exact fun _ _ => oneCell_sl _ _)
    clear hal hown
    go_wp2_with (at_builtin; refine wpList_append_src rfl (.tmp 26) (.tmp 28) 26 rfl w1.heap.size 140 (.agg #[.int .u64 0, .int .i32 0, .bool false]) 3 16 (by kernel_rfl) (by kernel_rfl) rfl (by decide) _ 0 _ rfl HO.out (some ⟨g, 0, none⟩) T.n c ((List.range (T.n * 3)).map (slV T.sl)) rfl HS.out h0s.out (by omega) (by omega) (by simp) ?_)
    intro v2 w2 hown2 hgrow2
    have hbl2 := below_grown HAL.out HO.out hgrow2 (by simp)
    have hs2 := hbl2.size
    obtain ⟨g2, cap, rfl, hg1, hg2⟩ : ∃ g2 cap, v2 = .slice (some ⟨g2, 0, none⟩) T.n cap ∧ w1.heap.size ≤ g2 ∧ g2 < w2.heap.size := by
      rcases hown2.2 with ⟨_, e⟩ | ⟨g2, cap, cur, e, hg1, hb, _⟩
      · omega
      · exact ⟨g2, cap, e.trans (by congr 1), hg1, (head_row hb).lt⟩
    have hrow := tabRow_own (sl := T.sl) hown2 (fun p hp => by rw [List.getElem?_map, List.getElem?_range hp]; rfl)
    have k1 : w2.heap[w.heap.size + 1]? = _ := (hbl2.block (w.heap.size + 1) hs1).trans HB1.out
    have HBL2 := Lib.hid (HB.out.trans (hbl2.mono (by omega)))
    obtain ⟨q0, p0⟩ := hrow.cell (a * 3) (by omega)
    obtain ⟨q1, p1⟩ := hrow.cell (a * 3 + 1) (by omega)
    obtain ⟨q2, p2⟩ := hrow.cell (a * 3 + 2) (by omega)
    obtain ⟨r1, r2⟩ := tabRow_put hrow a Sl.no
    rw [← wipe_one T a hlk] at r1
    have HW : Hid (∀ V, V = ((w2.setCell ⟨g2, a * 3, none⟩ (.int .u64 0)).setCell ⟨g2, a * 3 + 1, none⟩ (.int .i32 0)).setCell ⟨g2, a * 3 + 2, none⟩ (.bool false) → WipeInv w2 V g2 T a 0 (.slice none 0 0)) := Lib.hid (by
      intro V hV
      have e : V = ((w2.setCell ⟨g2, a * 3, none⟩ (.int .u64 (Sl.no.key : Nat))).setCell ⟨g2, a * 3 + 1, none⟩ (.int .i32 Sl.no.n)).setCell ⟨g2, a * 3 + 2, none⟩ (.bool Sl.no.full) := hV
      rw [← e] at r1 r2
      exact ⟨r2, r1, ⟨World.ownsRow_nil _ _ _ _⟩⟩)
    have HK1 := Lib.hid k1
    have haI : (a : Int) < (T.n : Int) := by omega
    have hg2' : w.heap.size + 1 < g2 := by omega
    clear hown2 hgrow2 hbl2 HS HO HAL hrow k1 c0 c1 z1 hs0 h0s r1 r2 HB0 HB1 HS1 HB
    go_upto_region 6 with fail
    have hw := HW.out _ rfl
    generalize (((w2.setCell ⟨g2, a * 3, none⟩ (.int .u64 0)).setCell ⟨g2, a * 3 + 1, none⟩ (.int .i32 0)).setCell ⟨g2, a * 3 + 2, none⟩ (.bool false)) = W at hw ⊢
    have HI0 := Lib.hid hw
    clear hw HW q0 q1 q2 p0 p1 p2
    go_wp2_with fail
    go_loopg [6, 9] r (fun gg s6 s9 wr => ∃ (m : Nat) (v9 : Value), m + gg = r ∧ s6 = .int .i64 ((a + 1 + m) % T.n : Nat) ∧ v9 = s9 ∧ Hid (WipeInv w2 wr g2 T a m v9))
    case atStart => exact ⟨0, _, by omega, congrArg (Value.int .i64) (by rw [Nat.add_zero, Int.natCast_emod]; rfl), rfl, HI0⟩
    case round =>
      obtain ⟨m, v9, hm, rfl, rfl, HI⟩ := hrel
      have hxl : (a + 1 + m) % T.n < T.n := Nat.mod_lt _ hp
      obtain ⟨e1, e2⟩ := wipe_full HRUN.out (show m ≤ r by omega)
      have hnx : ((a + 1 + m) % T.n + 1) % T.n = (a + 1 + (m + 1)) % T.n := by rw [Nat.mod_add_mod, Nat.add_assoc]
      have hrowr := HI.out.row
      obtain ⟨q0, q1, q2⟩ := (TabRow.ref (T := ⟨T.n, (T.wipe a (m + 1)).sl⟩) hrowr).sl _ hxl
      simp only at q0 q1 q2
      have hNext := fun w3 v3 hb ho => HI.out.next (w2 := w3) (v2 := v3) hg2 hb ho
      have hlow := HI.out.only.size
      obtain ⟨x, hx⟩ : ∃ x, (a + 1 + m) % T.n = x := ⟨_, rfl⟩
      rw [hx] at hxl e1 hnx q0 q1 q2 hNext ⊢
      rw [e1] at q0 q1 q2
      have hsl := slL_succ (T.outS a) m
      obtain ⟨s, hs⟩ : ∃ s, T.outS a m = s := ⟨_, rfl⟩
      rw [hs] at q0 q1 q2 e2 hsl
      obtain ⟨sk, sn, sf⟩ := s
      simp only at q0 q1 q2 e2 hsl
      have hxI : (x : Int) < (T.n : Int) := by omega
      have HSL := Lib.hid hsl
      have HNXT := Lib.hid hNext
      have HNX := Lib.hid hnx
      clear hx e1 hs hsl hNext hnx
      by_cases hmr : m < r
      · rw [decide_eq_true hmr] at e2
        subst e2
        have HOW := Lib.hid (HI.out.out.own.alloc (.cells #[.int .u64 (sk : Nat), .int .i32 sn, .bool true] 140))
        have HAL := Lib.hid ((Below.refl w2.heap.size wr).alloc hlow (.cells #[.int .u64 (sk : Nat), .int .i32 sn, .bool true] 140))
        have hnew := head_row (heap_alloc_new wr (.cells #[.int .u64 (sk : Nat), .int .i32 sn, .bool true] 140))
        have HSRC : Hid ((some (⟨wr.heap.size, 0, none⟩ : Addr) = none ∧ 1 = 0 ∧ 1 = 0 ∧ [Value.int .u64 (sk : Nat), .int .i32 sn, .bool true] = []) ∨ ∃ ad, some (⟨wr.heap.size, 0, none⟩ : Addr) = some ad ∧ [Value.int .u64 (sk : Nat), .int .i32 sn, .bool true].length = 1 * 3 ∧ ∀ j u, [Value.int .u64 (sk : Nat), .int .i32 sn, .bool true][j]? = some u → (wr.alloc (.cells #[.int .u64 (sk : Nat), .int .i32 sn, .bool true] 140)).cell? (ad.add j) = some u) := Lib.hid (.inr ⟨_, rfl, rfl, fun j u hu => by
          have hj : j < 3 := by
            rcases Nat.lt_or_ge j 3 with q | q
            · exact q
            · rw [List.getElem?_eq_none (by simpa using q)] at hu; cases hu
          have := hnew.cell (i := j) (by simpa using hj)
          rw [Addr.add_lit, Nat.zero_add, this]
          match j, hj with
          | 0, _ => simpa using hu
          | 1, _ => simpa using hu
          | 2, _ => simpa using hu⟩)
        have H1C : Hid (∀ u ∈ [Value.int .u64 (sk : Nat), .int .i32 sn, .bool true], u.oneCell' = true) := Lib.hid (by simp [Value.oneCell'])
        have hsz : w2.heap.size ≤ (wr.alloc (.cells #[.int .u64 (sk : Nat), .int .i32 sn, .bool true] 140)).heap.size := by simp; omega
        clear hnew
        go_wp2_with (at_builtin; refine Hid.out ?_)
        refine Lib.hid ?_
        refine wpList_append_src rfl (.tmp 44) (.tmp 49) 26 rfl w2.heap.size 140 (.agg #[.int .u64 0, .int .i32 0, .bool false]) 3 16 (by kernel_rfl) (by kernel_rfl) rfl (by decide) v9 m _ rfl HOW.out (some ⟨wr.heap.size, 0, none⟩) 1 1 [.int .u64 (sk : Nat), .int .i32 sn, .bool true] rfl HSRC.out H1C.out (by omega) (by omega) hsz ?_
        intro v3 w3 hown3 hgrow3
        have hb3 := below_grown HAL.out HOW.out hgrow3 hsz
        rw [HSL.out] at hown3
        have HV := Lib.hid (HNXT.out w3 v3 hb3 hown3)
        have hrow3 := hrowr.low hb3 hg2
        obtain ⟨x0, f0⟩ := hrow3.cell (x * 3) (by omega)
        obtain ⟨x1, f1⟩ := hrow3.cell (x * 3 + 1) (by omega)
        obtain ⟨x2, f2⟩ := hrow3.cell (x * 3 + 2) (by omega)
        clear hown3 hgrow3 hb3 hrow3 hrowr HOW HAL HSRC H1C HNXT HSL hsz q0 q1 q2
        go_upto_region 11 with fail
        have HV1 := Lib.hid (HV.out _ rfl)
        generalize (((w3.setCell ⟨g2, x * 3, none⟩ (.int .u64 0)).setCell ⟨g2, x * 3 + 1, none⟩ (.int .i32 0)).setCell ⟨g2, x * 3 + 2, none⟩ (.bool false)) = V at HV1 ⊢
        clear HV x0 x1 x2 f0 f1 f2
        go_wp2
        go_roundg (gk - 1)
        case measure => omega
        case rel => exact ⟨m + 1, _, by omega, congrArg (Value.int .i64) (by rw [← HNX.out, Int.natCast_emod]; rfl), rfl, HV1⟩
      · obtain rfl : m = r := by omega
        rw [decide_eq_false hmr] at e2
        obtain ⟨wB, hwB⟩ : ∃ x, x = wr := ⟨_, rfl⟩
        subst hwB
        subst e2
        have hk4 := (HI.out.only.block (w.heap.size + 1) (by have := HBL2.out.size; omega) (by simp; omega)).trans HK1.out
        have hbB := HBL2.out.trans (HI.out.only.below (B := w.heap.size) (by simp; omega) HBL2.out.size)
        have hout := HI.out.out
        have hB2 := HI.out.only.size
        obtain ⟨A, c3, rfl, hform⟩ := hout.form
        have hUlt : w.heap.size + 1 < wB.heap.size := by omega
        have hXb := (Below.refl wB.heap.size wB).alloc (Nat.le_refl _) (.cells #[.slice (some ⟨g2, 0, none⟩) T.n cap] 28)
        have hXk := heap_alloc_new wB (.cells #[.slice (some ⟨g2, 0, none⟩) T.n cap] 28)
        have hrow0 : RefT wB (T.relay a m 0) g2 := by
          have e9 : (T.relay a m 0) = ⟨T.n, (T.wipe a (m + 1)).sl⟩ := by
            show T.wipe a (m + 1) = _
            generalize hW : T.wipe a (m + 1) = Wp
            have : Wp.n = T.n := hW ▸ Tb.wipe_n a (m + 1)
            rw [← this]
          rw [e9]
          exact TabRow.ref (T := ⟨T.n, (T.wipe a (m + 1)).sl⟩) hrowr
        have HG0 : Hid (RelInv wB _ T a m (w.heap.size + 1) 0 g2 cap) := Lib.hid ⟨hXb, hrow0.below hXb, hXk, by omega, hg2'⟩
        have hnr : (T.relay a m m).n = T.n := (HRUN.out.relay HGD.out.ok m (Nat.le_refl _)).n
        have HEND : Hid (∀ (w5 : World) (gu cu : Nat), RelInv wB w5 T a m (w.heap.size + 1) m gu cu → (w5.cell? ⟨w.heap.size + 1, 0, none⟩ = some (.slice none 0 0) ∧ w5.frozen? ⟨w.heap.size + 1, 0, none⟩ = false ∧ w5.cell? ⟨wB.heap.size, 0, none⟩ = some (.slice (some ⟨gu, 0, none⟩) T.n cu)) ∧ ∀ V, V = w5.setCell ⟨w.heap.size + 1, 0, none⟩ (.slice (some ⟨gu, 0, none⟩) T.n cu) → V.cell? ⟨w.heap.size + 1, 0, none⟩ = some (.slice (some ⟨gu, 0, none⟩) T.n cu) ∧ DelPost w (T.del k) g (fun v => .tuple #[v, .bool true]) (.returned (.tuple #[tabV gu T.n cu, .bool true])) V) := Lib.hid (by
          intro w5 gu cu hri
          have hk5 := (hri.below.block (w.heap.size + 1) hUlt).trans hk4
          refine ⟨⟨(head_row hk5).cell (i := 0) (by simp), (head_row hk5).frozen 0, (head_row hri.cell).cell (i := 0) (by simp)⟩, fun V hV => ?_⟩
          have hlo := hri.low
          obtain ⟨y0, y1, y2, y3⟩ := FIN.out (T.relay a m m) w5 gu cu (hbB.trans (hri.below.mono hbB.size)) hk5 hri.ref (.inr ⟨by omega, by omega⟩) V (by rw [hnr]; exact hV)
          rw [hnr] at y0
          exact ⟨y0, gu, cu, by rw [HD.out, hnr], y1, by rw [HD.out]; exact y2, y3⟩)
        have HK := Lib.hid hkeys
        have HF := Lib.hid hform
        have HLA := Lib.hid (fun (w5 : World) (i gu cu : Nat) (hi : i < m) (h : RefT w5 (T.relay a m i) gu) => rrelay_lay HGD.out HRUN.out hn i hi HK.out cu h)
        have HFU := Lib.hid (fun i (hi : i < m) => (wipe_full HRUN.out (show i ≤ m by omega)).2.trans (decide_eq_true hi))
        clear hk4 hbB hout hform hXb hXk hrow0 hnr hrowr FIN HD HI HNXT HSL HNX HI0 hkeys hg2' HK1 HBL2
        rcases Nat.eq_zero_or_pos m with hm0 | hmp
        · subst hm0
          go_wp2_with fail
          go_loopg [11] 0 (fun gg s11 wr => ∃ gu cu : Nat, gg = 0 ∧ s11 = .int .i64 0 ∧ Hid (RelInv wB wr T a 0 (w.heap.size + 1) 0 gu cu))
          case atStart => exact ⟨g2, cap, rfl, rfl, HG0⟩
          case round =>
            obtain ⟨gu, cu, hg0, rfl, HI2⟩ := hrel
            obtain ⟨⟨y1, z1, u1⟩, hend⟩ := HEND.out _ gu cu HI2.out
            have HE := Lib.hid hend
            clear hend HEND
            go_wp2_with fail
            obtain ⟨y0, hV⟩ := HE.out _ rfl
            generalize (wr.setCell ⟨w.heap.size + 1, 0, none⟩ (.slice (some ⟨gu, 0, none⟩) T.n cu)) = V at y0 hV ⊢
            exact bodyPost_ret (v := .tuple #[tabV gu T.n cu, .bool true]) (by simp [results, Try.results72, go_sem, y0]) rfl hV
        · obtain ⟨g3, hA, _⟩ := HF.out wB (fun _ _ _ => rfl) 0 hmp
          subst hA
          go_wp2_with fail
          go_loopg [11] m (fun gg s11 wr => ∃ i gu cu : Nat, i + gg = m ∧ s11 = .int .i64 i ∧ Hid (RelInv wB wr T a m (w.heap.size + 1) i gu cu))
          case atStart => exact ⟨0, g2, cap, by omega, rfl, HG0⟩
          case round =>
            obtain ⟨i, gu, cu, hi, rfl, HI2⟩ := hrel
            by_cases hlt : i < m
            · have hltI : (i : Int) < (m : Int) := by omega
              obtain ⟨g3', hA, q0, q1, q2⟩ := HF.out wr (fun k _ hlt => HI2.out.below.block k hlt) i hlt
              injection hA with hA
              injection hA with hA
              subst hA
              rw [HFU.out i hlt] at q2
              have hUr : wB.heap.size < wr.heap.size := (head_row HI2.out.cell).lt
              have u0 : wr.cell? ⟨wB.heap.size, 0, none⟩ = some (.slice (some ⟨gu, 0, none⟩) T.n cu) := (head_row HI2.out.cell).cell (i := 0) (by simp)
              have HL8 := Lib.hid (fun w' (hb : Below wr.heap.size wr w') => HLA.out w' i gu cu hlt (HI2.out.ref.below hb))
              go_wp2_with fail
              go_region_with (first | (go_at_call 88; refine (HL8.out _ (Below.refl _ _).drew).mono ?_; rintro e w6 ⟨g6, c6, rfl, b6, r6, l6⟩; have hB6 := (b6.block wB.heap.size hUr).trans HI2.out.cell; have x6 := (head_row hB6).cell (i := 0) (by simp); have z6 := (head_row hB6).frozen 0))
              all_goals
                have hlow := HI2.out.below.size
                have hl6 : wr.heap.size ≤ g6 := l6
                have hlo := HI2.out.low
                obtain ⟨hU, hO⟩ := one_heap hB6 (.slice (some ⟨g6, 0, none⟩) T.n c6)
                generalize w6.setCell ⟨wB.heap.size, 0, none⟩ (.slice (some ⟨g6, 0, none⟩) T.n c6) = V at hU hO ⊢
                have HN : Hid (RelInv wB V T a m (w.heap.size + 1) (i + 1) g6 c6) := Lib.hid ⟨(HI2.out.below.drew.trans (b6.mono hlow)).trans (hO.below (B := wB.heap.size) (by simp) (Nat.le_trans hlow b6.size)), r6.only hO (by simp; omega), hU, by omega, by omega⟩
                clear hU hO hB6 x6 z6 b6 r6 l6 q0 q1 q2 u0
                go_wp2
                go_roundg (gk - 1)
                case measure => omega
                case rel => exact ⟨i + 1, g6, c6, by omega, by go_num, HN⟩
            · obtain rfl : i = m := by omega
              have hge : ¬ (i : Int) < (i : Int) := by omega
              obtain ⟨⟨y1, z1, u1⟩, hend⟩ := HEND.out _ gu cu HI2.out
              have HE := Lib.hid hend
              clear hend HEND
              go_wp2_with fail
              obtain ⟨y0, hV⟩ := HE.out _ rfl
              generalize (wr.setCell ⟨w.heap.size + 1, 0, none⟩ (.slice (some ⟨gu, 0, none⟩) T.n cu)) = V at y0 hV ⊢
              exact bodyPost_ret (v := .tuple #[tabV gu T.n cu, .bool true]) (by simp [results, Try.results72, go_sem, y0]) rfl hV
end Go.Proofs.Ytnacmhljbnpdpaa
/- The document's own store: Remove. -/
namespace Go.Proofs.Ytnacmhljbnpdpaa
open Go Go.RowKit Go.Deep

/- A store that comes back. -/
def SPost (w : World) (n m : Nat) (Q : Nat → List Ent) (T : Tb) (K : List Nat) (f : Value → Value) (e : Ending) (w' : World) : Prop :=
  ∃ o' oc' g' c' K', e = .returned (f (.agg (refSC o' n oc' m g' T.n c'))) ∧ Below w.heap.size w w' ∧ RSA w' o' n oc' m g' c' Q T K' ∧ ∀ k ∈ K', k ∈ K ∨ w.heap.size ≤ k
theorem sres_post {w w5 : World} {B1 o n oc m g c : Nat} {Q : Nat → List Ent} {T : Tb} {K5 K : List Nat} {a0 a1 a2 : Value} (hB : w5.heap[B1]? = some (.cells #[a0, a1, a2] 30 (0, 0))) (hb : Below w.heap.size w w5) (h1 : w.heap.size ≤ B1) (hr : RSA w5 o n oc m g c Q T K5) (hne : B1 ∉ K5) (hK : ∀ k ∈ K5, k ∈ K ∨ w.heap.size ≤ k) (f : Value → Value) :
    ∀ V, V = ((w5.setCell ⟨B1, 0, none⟩ (.slice (some ⟨o, 0, none⟩) n oc)).setCell ⟨B1, 1, none⟩ (.int .i64 (m : Nat))).setCell ⟨B1, 2, none⟩ (.slice (some ⟨g, 0, none⟩) T.n c) →
      (V.cell? ⟨B1, 0, none⟩ = some (.slice (some ⟨o, 0, none⟩) n oc) ∧ V.cell? ⟨B1, 1, none⟩ = some (.int .i64 (m : Nat)) ∧ V.cell? ⟨B1, 2, none⟩ = some (.slice (some ⟨g, 0, none⟩) T.n c)) ∧ SPost w n m Q T K f (.returned (f (.agg (refSC o n oc m g T.n c)))) V := by
  intro V hV
  obtain ⟨h2, o', oc', K', h3, h4, h5, h6⟩ := sres_fin hB hb h1 hr hne hK f V hV
  exact ⟨h2, o, oc, g, c, K5, rfl, h4, by
    subst hV
    exact hr.only (three_heap hB _ _ _).2 (fun k hk => by simp; exact fun e => hne (e ▸ hk)), hK⟩
/- The table laid anew. -/
theorem RSA.table {w w' : World} {o n oc m g c g' c' : Nat} {Q : Nat → List Ent} {T U : Tb} {K : List Nat} (h : RSA w o n oc m g c Q T K) (hb : Below w.heap.size w w') (hr : RefT w' U g') : RSA w' o n oc m g' c' Q U (g' :: K) := by
  have hk := h.below hb
  refine ⟨hk.n8, hk.cap, ⟨by simp [hk.q.kin], fun t ht => ?_⟩, hr, by simp, fun k hk' => ?_, hk.len, hk.room⟩
  · obtain ⟨F, cf, h1, h2⟩ := hk.q.row t ht
    exact ⟨F, cf, h1, h2.kept (fun _ _ => rfl) (fun x hx => by simp [hx])⟩
  · rcases List.mem_cons.1 hk' with rfl | hk'
    · exact hr.lt
    · exact hk.old k hk'

section
variable {w : World} {o n oc m g c : Nat} {Q : Nat → List Ent} {T : Tb} {K : List Nat}
set_option maxHeartbeats 2000000 in
theorem srem_in (h : RSA w o n oc m g c Q T K) (hq : Uq n Q) (gd : T.Good) (hTn : T.n ≤ 100000) (hkeys : T.Keys) (t0 i0 : Nat) (ht0 : t0 < n) (hi0 : i0 < (Q t0).length) (hk64 : ((Q t0)[i0]).key < 18446744073709551616) :
    Calls Try.prog 49 #[.agg (refSC o n oc m g T.n c), .int .u64 (((Q t0)[i0]).key : Nat)] w (SPost w n m (upd Q t0 (cutE (Q t0) i0)) (T.del ((Q t0)[i0]).key) K (fun v => .tuple #[v, .bool true])) := by
  have hbA := ((Below.refl w.heap.size w).alloc (Nat.le_refl _) (.cells (refSC o n oc m g T.n c) 30)).alloc (by simp) (.cells #[.slice none 0 0, .int .i64 0, .slice none 0 0] 30)
  have HP := Lib.hid (splace_in (h.below hbA) t0 i0 ht0 hi0 (fun t i ht hi e => hq t t0 i i0 ht ht0 hi hi0 e))
  have HR := Lib.hid h
  have h8 := h.n8
  have HQ := Lib.hid hq
  have HTK := Lib.hid (fun (w3 : World) (g' c' : Nat) (U : Tb) (hb : Below w.heap.size w w3) (hr : RefT w3 U g') => stake_walk (h.table (c' := c') hb hr) hq t0 i0 ht0 hi0)
  obtain ⟨k, hk⟩ : ∃ k, ((Q t0)[i0]).key = k := ⟨_, rfl⟩
  rw [hk] at HP hk64 HTK ⊢
  have HDL := Lib.hid (fun (w1 : World) (hb : Below w.heap.size w w1) => rdel_walk (h.below hb).t gd hTn k c hk64 hkeys)
  clear h hq gd hkeys hbA hk
  generalize upd Q t0 (cutE (Q t0) i0) = Q' at HTK ⊢
  generalize T.del k = U at HDL ⊢
  go_enter Try.func49, Try.ntmps49
  go_wp2_with fail
  refine HP.out.mono ?_
  rintro e w1 ⟨rfl, hb⟩
  obtain ⟨hb1, hs1, hB0, hB1⟩ := two_blocks hb
  obtain ⟨⟨a0, a1, a2⟩, z0, z1, z2⟩ := three_at hB0
  have HB1 := Lib.hid hb1
  have HBB0 := Lib.hid hB0
  have HBB1 := Lib.hid hB1
  have hs0 : w.heap.size < w1.heap.size := by omega
  have h0 : ¬ ((t0 : Int) < 0) := by omega
  clear hb hb1 hB0 hB1 HP
  go_wp2_with fail
  refine (HDL.out w1 HB1.out).mono ?_
  rintro e w2 ⟨g2, c2, rfl, hb2, hr2, hg2⟩
  have hgl := HR.out.t.lt
  have hz2 := hb2.size
  have hsw2 : w.heap.size < w2.heap.size := by omega
  have hB02 := (hb2.block w.heap.size hs0).trans HBB0.out
  have hB12 := (hb2.block (w.heap.size + 1) hs1).trans HBB1.out
  clear a0 a1 a2 z0 z1 z2
  obtain ⟨⟨a0, a1, a2⟩, z0, z1, z2⟩ := three_at hB02
  have hset : ∀ X, X = (w2.setCell ⟨w.heap.size, 2, none⟩ (.slice (some ⟨g2, 0, none⟩) U.n c2)).alloc (.cells #[.slice (some ⟨g2, 0, none⟩) U.n c2] 28) →
      X.heap[w.heap.size]? = some (.cells (refSC o n oc m g2 U.n c2) 30 (0, 0)) ∧ X.heap[w.heap.size + 1]? = some (.cells #[.slice none 0 0, .int .i64 0, .slice none 0 0] 30 (0, 0)) ∧ Below w.heap.size w X ∧ RefT X U g2 ∧ w1.heap.size ≤ X.heap.size := by
    rintro X rfl
    have o1 : Only [w.heap.size] w2 (w2.setCell ⟨w.heap.size, 2, none⟩ (.slice (some ⟨g2, 0, none⟩) U.n c2)) := (Only.refl _ w2).setCell (by simp) _
    have k1 : (w2.setCell ⟨w.heap.size, 2, none⟩ (.slice (some ⟨g2, 0, none⟩) U.n c2)).heap[w.heap.size]? = some (.cells (refSC o n oc m g2 U.n c2) 30 (0, 0)) := by simp [World.setCell, Array.getElem?_modify, hB02]
    have hsz := o1.size
    have oa := (Only.refl [] (w2.setCell ⟨w.heap.size, 2, none⟩ (.slice (some ⟨g2, 0, none⟩) U.n c2))).alloc (.cells #[.slice (some ⟨g2, 0, none⟩) U.n c2] 28)
    refine ⟨(oa.block _ (by omega) (by simp)).trans k1, (oa.block _ (by omega) (by simp)).trans ((o1.block _ (by omega) (by simp)).trans hB12), (HB1.out.trans (hb2.mono (by omega))).trans ((o1.alloc _).below (by simp) (by omega)), (hr2.only o1 (by simp; omega)).only oa (by simp), ?_⟩
    have := oa.size
    omega
  have HSET := Lib.hid hset
  clear hB02 hB12 hset hb2 hr2
  go_wp2_with fail
  obtain ⟨k0, k1, hbX, hrX, hzX⟩ := HSET.out _ rfl
  generalize (w2.setCell ⟨w.heap.size, 2, none⟩ (.slice (some ⟨g2, 0, none⟩) U.n c2)).alloc (.cells #[.slice (some ⟨g2, 0, none⟩) U.n c2] 28) = X at k0 k1 hbX hrX hzX ⊢
  clear a0 a1 a2 z0 z1 z2 HSET
  refine (HTK.out X g2 c2 U hbX hrX).mono ?_
  rintro e w4 ⟨o4, oc4, K4, rfl, hb4, hr4, hk4⟩
  have hB14 := (hb4.block (w.heap.size + 1) (by omega)).trans k1
  have hs1K : ∀ k ∈ K4, k ∈ K ∨ k = g2 ∨ X.heap.size ≤ k := fun k hk => by
    rcases hk4 k hk with q | q
    · rcases List.mem_cons.1 q with q | q
      · exact .inr (.inl q)
      · exact .inl q
    · exact .inr (.inr q)
  have hgK := HR.out.gin
  have HF := Lib.hid (sres_post (f := fun v => .tuple #[v, .bool true]) hB14 (hbX.trans (hb4.mono hbX.size)) (by omega) hr4 (fun hk => by
    rcases hs1K _ hk with q | q | q
    · have := HR.out.old _ q; omega
    · omega
    · omega) (fun k hk => by
    rcases hs1K k hk with q | q | q
    · exact .inl q
    · rcases hg2 with q2 | q2
      · exact .inl (by rw [q, q2]; exact hgK)
      · exact .inr (by omega)
    · exact .inr (by omega)))
  obtain ⟨⟨x0, x1, x2⟩, z0, z1, z2⟩ := three_at hB14
  clear hb4 hr4 hk4 hB14 hs1K k0 k1 hbX hrX
  go_wp2_with fail
  obtain ⟨⟨y0, y1, y2⟩, hP⟩ := HF.out _ rfl
  generalize (((w4.setCell ⟨w.heap.size + 1, 0, none⟩ (.slice (some ⟨o4, 0, none⟩) n oc4)).setCell ⟨w.heap.size + 1, 1, none⟩ (.int .i64 (m : Nat))).setCell ⟨w.heap.size + 1, 2, none⟩ (.slice (some ⟨g2, 0, none⟩) U.n c2)) = V at y0 y1 y2 hP ⊢
  exact bodyPost_ret (v := .tuple #[.agg (refSC o4 n oc4 m g2 U.n c2), .bool true]) (by simp [results, Try.results49, go_sem, y0, y1, y2]) rfl hP
end
end Go.Proofs.Ytnacmhljbnpdpaa
/- The document's own store: Remove where there is none; Set. -/
namespace Go.Proofs.Ytnacmhljbnpdpaa
open Go Go.RowKit Go.Deep

/- A row of its own, one cell of it laid anew. -/
def setE (flag : Bool) (x e : Ent) : Ent := if flag then { x with flag := e.flag } else { x with val := e.val }
theorem own_set {w : World} {B : Nat} {v : Value} {xs : List Ent} (h : w.ownsRow B 40 3 v xs.length (entL xs)) {i : Nat} (hi : i < xs.length) : ∃ b c, v = .slice (some ⟨b, 0, none⟩) xs.length c ∧ B ≤ b ∧ b < w.heap.size ∧ EntAt w b i xs[i] ∧ w.frozen? ⟨b, i * 3 + 1, none⟩ = false ∧ w.frozen? ⟨b, i * 3 + 2, none⟩ = false ∧
    (∀ y : Nat, EntRow (w.setCell ⟨b, i * 3 + 1, none⟩ (.int .u64 (y : Nat))) (some ⟨b, 0, none⟩) (xs.set i { xs[i] with val := y }) c [b]) ∧
    (∀ y : Int, EntRow (w.setCell ⟨b, i * 3 + 2, none⟩ (.int .i64 y)) (some ⟨b, 0, none⟩) (xs.set i { xs[i] with flag := y }) c [b]) := by
  obtain ⟨F, c, Kx, rfl, hx, hK⟩ := own_ent h
  obtain ⟨g, cap, cur, e1, hB, hlt, hle, hg, _⟩ := own_cur h (by omega)
  injection e1 with e1 _ e2
  subst e1 e2
  have hat : ∀ j (hj : j < xs.length), EntAt w g j xs[j] := fun j hj => by
    obtain ⟨b', e, q⟩ := hx.at_ hj
    injection e with e
    injection e with e
    subst e
    exact q
  have key : ∀ (d : Nat) (u : Value) (z : Ent), d < 3 → (∀ j, j < 3 → eC z j = if j = d then u else eC xs[i] j) → EntRow (w.setCell ⟨g, i * 3 + d, none⟩ u) (some ⟨g, 0, none⟩) (xs.set i z) c [g] := by
    intro d u z hd hz
    refine ⟨by simpa using hle, .inr ⟨g, rfl, by simp, fun j hj => ?_⟩⟩
    have hj' : j < xs.length := by simpa using hj
    have hc : ∀ jj, jj < 3 → (w.setCell ⟨g, i * 3 + d, none⟩ u).cell? ⟨g, j * 3 + jj, none⟩ = some (eC (xs.set i z)[j] jj) := by
      intro jj hjj
      by_cases e : j = i
      · subst e
        rw [List.getElem_set_self, hz jj hjj]
        by_cases e2 : jj = d
        · subst e2
          rw [if_pos rfl, World.cell?_setCell_same' _ _ _ (by rw [(hat j hj').cell jj hjj]; rfl)]
        · rw [if_neg e2, World.cell?_setCell_other _ _ _ _ (by simp <;> omega), (hat j hj').cell jj hjj]
      · rw [List.getElem_set_ne (fun q => e q.symm), World.cell?_setCell_other _ _ _ _ (by simp <;> omega), (hat j hj').cell jj hjj]
    exact ⟨hc 0 (by decide), hc 1 (by decide), hc 2 (by decide)⟩
  have hv : ∀ y : Nat, EntRow (w.setCell ⟨g, i * 3 + 1, none⟩ (.int .u64 (y : Nat))) (some ⟨g, 0, none⟩) (xs.set i { xs[i] with val := y }) c [g] := fun y => key 1 _ _ (by decide) (fun j hj => by
    match j, hj with
    | 0, _ => rfl
    | 1, _ => rfl
    | 2, _ => rfl)
  refine ⟨g, c, rfl, hB, hlt, hat i hi, (head_row hg).frozen _, (head_row hg).frozen _, hv, fun y => key 2 _ _ (by decide) (fun j hj => by
    match j, hj with
    | 0, _ => rfl
    | 1, _ => rfl
    | 2, _ => rfl)⟩

section
variable {w : World} {o n oc m g c : Nat} {Q : Nat → List Ent} {T : Tb} {K : List Nat}
theorem srem_out (h : RSA w o n oc m g c Q T K) (k : Nat) (hu : NoKey n Q k) :
    Calls Try.prog 49 #[.agg (refSC o n oc m g T.n c), .int .u64 (k : Nat)] w (SPost w n m Q T K (fun v => .tuple #[v, .bool false])) := by
  have hbA := ((Below.refl w.heap.size w).alloc (Nat.le_refl _) (.cells (refSC o n oc m g T.n c) 30)).alloc (by simp) (.cells #[.slice none 0 0, .int .i64 0, .slice none 0 0] 30)
  have HP := Lib.hid (splace_out (h.below hbA) k hu)
  have HR := Lib.hid h
  clear h hu hbA
  go_enter Try.func49, Try.ntmps49
  go_wp2_with fail
  refine HP.out.mono ?_
  rintro e w1 ⟨rfl, hb⟩
  obtain ⟨hb1, hs1, hB0, hB1⟩ := two_blocks hb
  obtain ⟨⟨a0, a1, a2⟩, _⟩ := three_at hB0
  obtain ⟨⟨x0, x1, x2⟩, z0, z1, z2⟩ := three_at hB1
  have HF := Lib.hid (sres_post (f := fun v => .tuple #[v, .bool false]) hB1 hb1 (by omega) (HR.out.below hb1) (fun hk => by have := HR.out.old _ hk; omega) (K := K) (fun k hk => .inl hk))
  clear hb hb1 hB0 hB1 HP
  go_wp2_with fail
  obtain ⟨⟨y0, y1, y2⟩, hP⟩ := HF.out _ rfl
  generalize (((w1.setCell ⟨w.heap.size + 1, 0, none⟩ (.slice (some ⟨o, 0, none⟩) n oc)).setCell ⟨w.heap.size + 1, 1, none⟩ (.int .i64 (m : Nat))).setCell ⟨w.heap.size + 1, 2, none⟩ (.slice (some ⟨g, 0, none⟩) T.n c)) = V at y0 y1 y2 hP ⊢
  exact bodyPost_ret (v := .tuple #[.agg (refSC o n oc m g T.n c), .bool false]) (by simp [results, Try.results49, go_sem, y0, y1, y2]) rfl hP
theorem sset_out (h : RSA w o n oc m g c Q T K) (x : Ent) (flag : Bool) (hu : NoKey n Q x.key) :
    Calls Try.prog 50 #[.agg (refSC o n oc m g T.n c), entV x, .bool flag] w (SPost w n m Q T K (fun v => .tuple #[v, .bool false])) := by
  have hbA := (((Below.refl w.heap.size w).alloc (Nat.le_refl _) (.cells (refSC o n oc m g T.n c) 30)).alloc (by simp) (.cells #[.int .u64 (x.key : Nat), .int .u64 (x.val : Nat), .int .i64 x.flag] 40)).alloc (by simp; omega) (.cells #[.slice none 0 0, .int .i64 0, .slice none 0 0] 30)
  have HP := Lib.hid (splace_out (h.below hbA) x.key hu)
  have HR := Lib.hid h
  clear h hu hbA
  go_enter Try.func50, Try.ntmps50
  go_wp2_with fail
  refine HP.out.mono ?_
  rintro e w1 ⟨rfl, hb⟩
  obtain ⟨hb1, hs1, hB0, _, hB2⟩ := three_blocks hb
  obtain ⟨⟨a0, a1, a2⟩, _⟩ := three_at hB0
  obtain ⟨⟨x0, x1, x2⟩, z0, z1, z2⟩ := three_at hB2
  have HF := Lib.hid (sres_post (f := fun v => .tuple #[v, .bool false]) hB2 hb1 (by omega) (HR.out.below hb1) (fun hk => by have := HR.out.old _ hk; omega) (K := K) (fun k hk => .inl hk))
  clear hb hb1 hB0 hB2 HP
  go_wp2_with fail
  obtain ⟨⟨y0, y1, y2⟩, hP⟩ := HF.out _ rfl
  generalize (((w1.setCell ⟨w.heap.size + 2, 0, none⟩ (.slice (some ⟨o, 0, none⟩) n oc)).setCell ⟨w.heap.size + 2, 1, none⟩ (.int .i64 (m : Nat))).setCell ⟨w.heap.size + 2, 2, none⟩ (.slice (some ⟨g, 0, none⟩) T.n c)) = V at y0 y1 y2 hP ⊢
  exact bodyPost_ret (v := .tuple #[.agg (refSC o n oc m g T.n c), .bool false]) (by simp [results, Try.results50, go_sem, y0, y1, y2]) rfl hP
end
end Go.Proofs.Ytnacmhljbnpdpaa
/- The document's own store: Set. -/
namespace Go.Proofs.Ytnacmhljbnpdpaa
open Go Go.RowKit Go.Deep

section
variable {w : World} {o n oc m g c : Nat} {Q : Nat → List Ent} {T : Tb} {K : List Nat}
set_option maxHeartbeats 2000000 in
theorem sset_in (h : RSA w o n oc m g c Q T K) (hq : Uq n Q) (t0 i0 : Nat) (ht0 : t0 < n) (hi0 : i0 < (Q t0).length) (x : Ent) (hxk : ((Q t0)[i0]).key = x.key) (flag : Bool) :
    Calls Try.prog 50 #[.agg (refSC o n oc m g T.n c), entV x, .bool flag] w (SPost w n m (upd Q t0 ((Q t0).set i0 (setE flag ((Q t0)[i0]) x))) T K (fun v => .tuple #[v, .bool true])) := by
  have hbA := (((Below.refl w.heap.size w).alloc (Nat.le_refl _) (.cells (refSC o n oc m g T.n c) 30)).alloc (by simp) (.cells #[.int .u64 (x.key : Nat), .int .u64 (x.val : Nat), .int .i64 x.flag] 40)).alloc (by simp; omega) (.cells #[.slice none 0 0, .int .i64 0, .slice none 0 0] 30)
  have hp := splace_in (h.below hbA) t0 i0 ht0 hi0 (fun t i ht hi e => hq t t0 i i0 ht ht0 hi hi0 e)
  rw [hxk] at hp
  have HP := Lib.hid hp
  have HR := Lib.hid h
  have h8 := h.n8
  have hl := h.len t0 ht0
  have ho := h.old o h.q.kin
  have HWT := Lib.hid (fun (w3 : World) (hb : Below w.heap.size w w3) (F : Option Addr) (ys : List Ent) (cx : Nat) (Kx : List Nat) (hx : EntRow w3 F ys cx Kx) (hKx : ∀ k ∈ Kx, k < w3.heap.size) (hly : ys.length ≤ 1000000) => swith_walk (h.below hb) t0 ht0 F ys cx hx hKx hly)
  have htI : (t0 : Int) < (n : Int) := by omega
  clear h hq hbA hp
  obtain ⟨xs, hxs⟩ : ∃ xs, Q t0 = xs := ⟨_, rfl⟩
  have HXS := Lib.hid hxs
  subst hxs
  have hiI : (i0 : Int) < ((Q t0).length : Int) := by omega
  go_enter Try.func50, Try.ntmps50
  go_wp2_with fail
  refine HP.out.mono ?_
  rintro e w1 ⟨rfl, hb⟩
  obtain ⟨hb1, hs1, hB0, hBe, hB2⟩ := three_blocks hb
  obtain ⟨⟨a0, a1, a2⟩, _⟩ := three_at hB0
  obtain ⟨F, cf, hc, hf⟩ := (HR.out.below hb1).q.row t0 ht0
  have hold1 := (HR.out.below hb1).old
  have hal := (Below.refl w1.heap.size w1).alloc (Nat.le_refl _) (.cells #[] 40)
  have hown := World.ownsRow_lit (base := w1.heap.size) (e := 40) (size := 3) w1 #[] 0 (Nat.le_refl _) (by unfold maxLen; omega) rfl
  have HOWN := Lib.hid hown
  have HAL := Lib.hid hal
  have HSRC := Lib.hid (hf.src (w' := w1.alloc (.cells #[] 40)) (fun k hk => hal.block k (hold1 k hk)))
  have HONE := Lib.hid (entL_one (Q t0))
  have HB1 := Lib.hid hb1
  have HBB0 := Lib.hid hB0
  have HBBE := Lib.hid hBe
  have HBB2 := Lib.hid hB2
  have hs0 : w.heap.size < w1.heap.size := by omega
  have hse : w.heap.size + 1 < w1.heap.size := by omega
  have hso : o < w1.heap.size := by omega
  have h0 : ¬ ((t0 : Int) < 0) := by omega
  clear hb hb1 hB0 hBe hB2 hf hold1 hal hown HP
  go_wp2_with (at_builtin; refine wpList_append_src rfl (.tmp 21) (.tmp 26) 77 rfl w1.heap.size 40 (.agg #[.int .u64 0, .int .u64 0, .int .i64 0]) 3 24 (by kernel_rfl) (by kernel_rfl) rfl (by decide) _ 0 _ rfl HOWN.out F (Q t0).length cf (entL (Q t0)) rfl HSRC.out HONE.out (by omega) (by omega) (by simp) ?_)
  intro v2 w2 hown2 hgrow2
  have hown2' : w2.ownsRow w1.heap.size 40 3 v2 (Q t0).length (entL (Q t0)) := by simpa using hown2
  have hbl2 : Below w1.heap.size w1 w2 := below_grown HAL.out HOWN.out hgrow2 (by simp)
  have hs2 := hbl2.size
  obtain ⟨b, cb, rfl, hbB, hbl, ⟨q0, q1, q2⟩, f1, f2, hv, hfl⟩ := own_set hown2' hi0
  have hB02 := (hbl2.block w.heap.size hs0).trans HBB0.out
  have hBe2 := (hbl2.block (w.heap.size + 1) hse).trans HBBE.out
  have hB22 := (hbl2.block (w.heap.size + 2) hs1).trans HBB2.out
  obtain ⟨⟨e0, e1, e2⟩, _⟩ := three_at hBe2
  have HSETF : Hid (∀ X, X = w2.setCell ⟨b, i0 * 3 + 2, none⟩ (.int .i64 x.flag) → X.heap[w.heap.size]? = some (.cells (refSC o n oc m g T.n c) 30 (0, 0)) ∧ X.heap[w.heap.size + 2]? = some (.cells #[.slice none 0 0, .int .i64 0, .slice none 0 0] 30 (0, 0)) ∧ Below w.heap.size w X ∧ w1.heap.size ≤ X.heap.size ∧ b < X.heap.size ∧ EntRow X (some ⟨b, 0, none⟩) ((Q t0).set i0 { (Q t0)[i0] with flag := x.flag }) cb [b]) := Lib.hid (by
    rintro X rfl
    have o1 : Only [b] w2 (w2.setCell ⟨b, i0 * 3 + 2, none⟩ (.int .i64 x.flag)) := (Only.refl _ w2).setCell (by simp) _
    have := o1.size
    exact ⟨(o1.block _ (by omega) (by simp; omega)).trans hB02, (o1.block _ (by omega) (by simp; omega)).trans hB22, (HB1.out.trans (hbl2.mono (by omega))).trans (o1.below (by simp; omega) (by omega)), by omega, by omega, hfl x.flag⟩)
  have HSETV : Hid (∀ X, X = w2.setCell ⟨b, i0 * 3 + 1, none⟩ (.int .u64 (x.val : Nat)) → X.heap[w.heap.size]? = some (.cells (refSC o n oc m g T.n c) 30 (0, 0)) ∧ X.heap[w.heap.size + 2]? = some (.cells #[.slice none 0 0, .int .i64 0, .slice none 0 0] 30 (0, 0)) ∧ Below w.heap.size w X ∧ w1.heap.size ≤ X.heap.size ∧ b < X.heap.size ∧ EntRow X (some ⟨b, 0, none⟩) ((Q t0).set i0 { (Q t0)[i0] with val := x.val }) cb [b]) := Lib.hid (by
    rintro X rfl
    have o1 : Only [b] w2 (w2.setCell ⟨b, i0 * 3 + 1, none⟩ (.int .u64 (x.val : Nat))) := (Only.refl _ w2).setCell (by simp) _
    have := o1.size
    exact ⟨(o1.block _ (by omega) (by simp; omega)).trans hB02, (o1.block _ (by omega) (by simp; omega)).trans hB22, (HB1.out.trans (hbl2.mono (by omega))).trans (o1.below (by simp; omega) (by omega)), by omega, by omega, hv x.val⟩)
  clear a0 a1 a2 hc hown2 hown2' hgrow2 hbl2 hB02 hBe2 hB22 hv hfl HOWN HSRC HONE HAL HBB0 HBBE HBB2
  have hsw2 : w.heap.size < w2.heap.size := by omega
  -- the walk's end, for either field
  have hend : ∀ (X : World) (ys : List Ent), ys.length = (Q t0).length → X.heap[w.heap.size + 2]? = some (.cells #[.slice none 0 0, .int .i64 0, .slice none 0 0] 30 (0, 0)) → Below w.heap.size w X → w1.heap.size ≤ X.heap.size → b < X.heap.size → EntRow X (some ⟨b, 0, none⟩) ys cb [b] →
      Calls Try.prog 70 #[.agg (refSC o n oc m g T.n c), .int .i64 (t0 : Nat), .slice (some ⟨b, 0, none⟩) (Q t0).length cb] X fun e w' => ∃ o4 oc4, e = .returned (.agg (refSC o4 n oc4 m g T.n c)) ∧ w'.heap[w.heap.size + 2]? = some (.cells #[.slice none 0 0, .int .i64 0, .slice none 0 0] 30 (0, 0)) ∧
        ∀ V, V = ((w'.setCell ⟨w.heap.size + 2, 0, none⟩ (.slice (some ⟨o4, 0, none⟩) n oc4)).setCell ⟨w.heap.size + 2, 1, none⟩ (.int .i64 (m : Nat))).setCell ⟨w.heap.size + 2, 2, none⟩ (.slice (some ⟨g, 0, none⟩) T.n c) →
          (V.cell? ⟨w.heap.size + 2, 0, none⟩ = some (.slice (some ⟨o4, 0, none⟩) n oc4) ∧ V.cell? ⟨w.heap.size + 2, 1, none⟩ = some (.int .i64 (m : Nat)) ∧ V.cell? ⟨w.heap.size + 2, 2, none⟩ = some (.slice (some ⟨g, 0, none⟩) T.n c)) ∧ SPost w n m (upd Q t0 ys) T K (fun v => .tuple #[v, .bool true]) (.returned (.tuple #[.agg (refSC o4 n oc4 m g T.n c), .bool true])) V := by
    intro X ys hys hB2 hbX hzX hbX' hrow
    rw [← hys]
    refine (HWT.out X hbX (some ⟨b, 0, none⟩) ys cb [b] hrow (by simpa using hbX') (by omega)).mono ?_
    rintro e w4 ⟨o4, oc4, K4, rfl, hb4, hr4, hk4⟩
    have hB4 := (hb4.block (w.heap.size + 2) (by omega)).trans hB2
    have hs1K : ∀ k ∈ K4, k ∈ K ∨ w1.heap.size ≤ k := fun k hk => by
      rcases hk4 k hk with q | q | q
      · exact .inl q
      · right; simp at q; omega
      · right; omega
    exact ⟨o4, oc4, rfl, hB4, sres_post (f := fun v => .tuple #[v, .bool true]) hB4 (hbX.trans (hb4.mono hbX.size)) (by omega) hr4 (fun hk => by
      rcases hs1K _ hk with q | q
      · have := HR.out.old _ q; omega
      · omega) (fun k hk => (hs1K k hk).imp id (fun q => by omega))⟩
  have HEND := Lib.hid hend
  clear hend HWT
  cases flag
  · go_upto_region 8 with fail
    obtain ⟨k0, k2, hbX, hzX, hbX', hrow⟩ := HSETV.out _ rfl
    generalize w2.setCell ⟨b, i0 * 3 + 1, none⟩ (.int .u64 (x.val : Nat)) = X at k0 k2 hbX hzX hbX' hrow ⊢
    have HE := Lib.hid (HEND.out X _ (by simp) k2 hbX hzX hbX' hrow)
    obtain ⟨⟨a0, a1, a2⟩, _⟩ := three_at k0
    clear q0 q1 q2 f1 f2 e0 e1 e2 k0 k2 hbX hrow HSETF HSETV HEND
    go_wp2_with fail
    refine HE.out.mono ?_
    rintro e w4 ⟨o4, oc4, rfl, hB4, hF⟩
    have HF := Lib.hid hF
    obtain ⟨⟨x0, x1, x2⟩, z0, z1, z2⟩ := three_at hB4
    clear hF hB4 a0 a1 a2
    go_wp2_with fail
    obtain ⟨⟨y0, y1, y2⟩, hP⟩ := HF.out _ rfl
    generalize (((w4.setCell ⟨w.heap.size + 2, 0, none⟩ (.slice (some ⟨o4, 0, none⟩) n oc4)).setCell ⟨w.heap.size + 2, 1, none⟩ (.int .i64 (m : Nat))).setCell ⟨w.heap.size + 2, 2, none⟩ (.slice (some ⟨g, 0, none⟩) T.n c)) = V at y0 y1 y2 hP ⊢
    exact bodyPost_ret (v := .tuple #[.agg (refSC o4 n oc4 m g T.n c), .bool true]) (by simp [results, Try.results50, go_sem, y0, y1, y2]) rfl hP
  · go_upto_region 8 with fail
    obtain ⟨k0, k2, hbX, hzX, hbX', hrow⟩ := HSETF.out _ rfl
    generalize w2.setCell ⟨b, i0 * 3 + 2, none⟩ (.int .i64 x.flag) = X at k0 k2 hbX hzX hbX' hrow ⊢
    have HE := Lib.hid (HEND.out X _ (by simp) k2 hbX hzX hbX' hrow)
    obtain ⟨⟨a0, a1, a2⟩, _⟩ := three_at k0
    clear q0 q1 q2 f1 f2 e0 e1 e2 k0 k2 hbX hrow HSETF HSETV HEND
    go_wp2_with fail
    refine HE.out.mono ?_
    rintro e w4 ⟨o4, oc4, rfl, hB4, hF⟩
    have HF := Lib.hid hF
    obtain ⟨⟨x0, x1, x2⟩, z0, z1, z2⟩ := three_at hB4
    clear hF hB4 a0 a1 a2
    go_wp2_with fail
    obtain ⟨⟨y0, y1, y2⟩, hP⟩ := HF.out _ rfl
    generalize (((w4.setCell ⟨w.heap.size + 2, 0, none⟩ (.slice (some ⟨o4, 0, none⟩) n oc4)).setCell ⟨w.heap.size + 2, 1, none⟩ (.int .i64 (m : Nat))).setCell ⟨w.heap.size + 2, 2, none⟩ (.slice (some ⟨g, 0, none⟩) T.n c)) = V at y0 y1 y2 hP ⊢
    exact bodyPost_ret (v := .tuple #[.agg (refSC o4 n oc4 m g T.n c), .bool true]) (by simp [results, Try.results50, go_sem, y0, y1, y2]) rfl hP
end
end Go.Proofs.Ytnacmhljbnpdpaa
/- The document's own store: Keys, Same. -/
namespace Go.Proofs.Ytnacmhljbnpdpaa
open Go Go.RowKit Go.Deep

def k64 (ks : List Nat) : List Value := ks.map (fun k => .int .u64 (k : Nat))
/- A row of keys. -/
structure KeysAt (w : World) (v : Value) (ks : List Nat) : Prop where
  mem : ∃ F c, v = .slice F ks.length c ∧ ∀ i (h : i < ks.length), ∃ b, F = some ⟨b, 0, none⟩ ∧ b < w.heap.size ∧ w.cell? ⟨b, i, none⟩ = some (.int .u64 (ks[i] : Nat))
theorem KeysAt.below {w w' : World} {v : Value} {ks : List Nat} (h : KeysAt w v ks) (hb : Below w.heap.size w w') : KeysAt w' v ks := by
  obtain ⟨F, c, e, h1⟩ := h.mem
  refine ⟨F, c, e, fun i hi => ?_⟩
  obtain ⟨b, e2, h2, h3⟩ := h1 i hi
  exact ⟨b, e2, Nat.lt_of_lt_of_le h2 hb.size, (hb.cell (p := ⟨b, i, none⟩) h2).trans h3⟩
theorem keys_own {w : World} {B : Nat} {v : Value} {ks : List Nat} (h : w.ownsRow B 35 1 v ks.length (k64 ks)) : KeysAt w v ks := by
  rcases Nat.eq_zero_or_pos ks.length with h0 | h0
  · rcases h.2 with ⟨rfl, _⟩ | ⟨g, cap, cur, rfl, _⟩
    · exact ⟨none, 0, by rw [h0], fun i hi => by omega⟩
    · exact ⟨_, _, rfl, fun i hi => by omega⟩
  · obtain ⟨g, cap, cur, rfl, _, hlt, _, _, hc⟩ := own_cur h h0
    refine ⟨_, _, rfl, fun i hi => ⟨g, rfl, hlt, ?_⟩⟩
    rw [hc i (by simpa [k64] using hi)]
    simp [k64]

section
variable {w : World} {o n oc m g c : Nat} {Q : Nat → List Ent} {T : Tb} {K : List Nat}
set_option maxHeartbeats 1000000 in
theorem skeys_in (h : RSA w o n oc m g c Q T K) (t : Nat) (ht : t < n) :
    Calls Try.prog 32 #[.agg (refSC o n oc m g T.n c), .int .i64 (t : Nat)] w fun e w' => ∃ v, e = .returned v ∧ Below w.heap.size w w' ∧ KeysAt w' v ((Q t).map Ent.key) := by
  have hbA := (Below.refl w.heap.size w).alloc (Nat.le_refl _) (.cells (refSC o n oc m g T.n c) 30)
  have HR := Lib.hid (h.below hbA)
  have h8 := h.n8
  have hl := h.len t ht
  have ho := h.old o h.q.kin
  have htI : (t : Int) < (n : Int) := by omega
  have hk0 := heap_alloc_new w (.cells (refSC o n oc m g T.n c) 30)
  have HK0 := Lib.hid hk0
  have HBA := Lib.hid hbA
  obtain ⟨ks, hks⟩ : ∃ ks, (Q t).map Ent.key = ks := ⟨_, rfl⟩
  have HKS : Hid (ks.length = (Q t).length ∧ ∀ i (hi : i < (Q t).length) (hi' : i < ks.length), ks[i] = ((Q t)[i]).key) := Lib.hid (by subst hks; exact ⟨by simp, fun i hi _ => by simp⟩)
  rw [hks]
  clear h hbA hk0 hks
  go_enter Try.func32, Try.ntmps32
  go_wp2_with fail
  simp only [decide_eq_false (show ¬ n ≤ t by omega), Bool.or_false]
  go_loopg [5, 6] (Q t).length (fun gg s5 s6 wr => ∃ (i : Nat) (v5 : Value), i + gg = (Q t).length ∧ v5 = s5 ∧ s6 = .int .i64 (i : Nat) ∧ Hid (Below (w.heap.size + 1) (w.alloc (.cells (refSC o n oc m g T.n c) 30)) wr ∧ wr.ownsRow (w.heap.size + 1) 35 1 v5 i (k64 (ks.take i))))
  case atStart => exact ⟨0, _, by omega, rfl, rfl, Lib.hid ⟨Below.refl _ _, World.ownsRow_nil _ _ _ _⟩⟩
  case round =>
    obtain ⟨i, v5, hi, rfl, rfl, HI⟩ := hrel
    have hsz : w.heap.size + 1 ≤ wr.heap.size := by have := HI.out.1.size; simpa using this
    have hold : ∀ k, k < w.heap.size + 1 → wr.heap[k]? = (w.alloc (.cells (refSC o n oc m g T.n c) 30)).heap[k]? := fun k hk => HI.out.1.block k hk
    obtain ⟨⟨a0, a1, a2⟩, _⟩ := three_at ((hold w.heap.size (by omega)).trans HK0.out)
    obtain ⟨F, cf, hc, hf⟩ := HR.out.q.row t ht
    have hc := (World.cell?_of_block (w := w.alloc (.cells (refSC o n oc m g T.n c) 30)) (w' := wr) (a := ⟨o, t, none⟩) (hold o (by omega))).trans hc
    have hKb : ∀ k ∈ K, k < w.heap.size + 1 := fun k hk => by have := HR.out.old k hk; simpa using this
    by_cases hlt : i < (Q t).length
    · have hltI : (i : Int) < ((Q t).length : Int) := by omega
      obtain ⟨b, hF, q0, _, _⟩ := (hf.kept (K' := K) (fun k hk => hold k (hKb k hk)) (fun _ => id)).at_ hlt
      subst hF
      obtain ⟨x, hx⟩ : ∃ x, ((Q t)[i]).key = x := ⟨_, rfl⟩
      rw [hx] at q0
      have hik : i < ks.length := by rw [HKS.out.1]; exact hlt
      have HAP : Hid (k64 (ks.take i) ++ [.int .u64 (x : Nat)] = k64 (ks.take (i + 1))) := Lib.hid (by
        rw [List.take_succ_eq_append_getElem hik, HKS.out.2 i hlt hik, hx]
        simp [k64])
      have HOW := Lib.hid (HI.out.2.alloc (.cells #[.int .u64 (x : Nat)] 35))
      have HAL := Lib.hid ((Below.refl (w.heap.size + 1) wr).alloc hsz (.cells #[.int .u64 (x : Nat)] 35))
      have hnew : (wr.alloc (.cells #[.int .u64 (x : Nat)] 35)).cell? ⟨wr.heap.size, 0, none⟩ = some (.int .u64 (x : Nat)) := (head_row (heap_alloc_new wr (.cells #[.int .u64 (x : Nat)] 35))).cell (i := 0) (by simp)
      have HSRC : Hid ((some (⟨wr.heap.size, 0, none⟩ : Addr) = none ∧ 1 = 0 ∧ 1 = 0 ∧ [Value.int .u64 (x : Nat)] = []) ∨ ∃ ad, some (⟨wr.heap.size, 0, none⟩ : Addr) = some ad ∧ [Value.int .u64 (x : Nat)].length = 1 * 1 ∧ ∀ j u, [Value.int .u64 (x : Nat)][j]? = some u → (wr.alloc (.cells #[.int .u64 (x : Nat)] 35)).cell? (ad.add j) = some u) := Lib.hid (.inr ⟨_, rfl, rfl, fun j u hu => by
        match j with
        | 0 => rw [Addr.add_lit, Nat.zero_add, hnew]; simpa using hu
        | j + 1 => simp at hu⟩)
      have H1C : Hid (∀ u ∈ [Value.int .u64 (x : Nat)], u.oneCell' = true) := Lib.hid (by simp [Value.oneCell'])
      have hszA : w.heap.size + 1 ≤ (wr.alloc (.cells #[.int .u64 (x : Nat)] 35)).heap.size := by simp; omega
      have HBW := Lib.hid HI.out.1
      clear hnew hold hf hx
      go_wp2_with (at_builtin; refine wpList_append_src rfl (.tmp 26) (.tmp 36) 45 rfl (w.heap.size + 1) 35 (.int .u64 0) 1 8 (by kernel_rfl) (by kernel_rfl) rfl (by decide) v5 i _ rfl HOW.out (some ⟨wr.heap.size, 0, none⟩) 1 1 [.int .u64 (x : Nat)] rfl HSRC.out H1C.out (by omega) (by omega) hszA ?_)
      intro v6 w6 hown6 hgrow6
      have hb6 := below_grown HAL.out HOW.out hgrow6 hszA
      rw [HAP.out] at hown6
      have HN := Lib.hid (And.intro (HBW.out.trans hb6) hown6)
      clear hown6 hgrow6 hb6 a0 a1 a2 hc q0
      go_wp2
      go_roundg (gk - 1)
      case measure => omega
      case rel => exact ⟨i + 1, v6, by omega, rfl, by go_num, HN⟩
    · have hltI : ¬ (i : Int) < ((Q t).length : Int) := by omega
      obtain rfl : i = (Q t).length := by omega
      have hfin := HI.out.2
      have hlm : (Q t).length = ks.length := HKS.out.1.symm
      rw [hlm, List.take_length] at hfin
      have HK := Lib.hid (keys_own hfin)
      have HB := Lib.hid (HBA.out.trans (HI.out.1.mono (by omega)))
      clear hfin hlm hold hf
      go_wp2
      go_ret
      exact ⟨_, rfl, HB.out, HK.out⟩
theorem skeys_out (_ : RSA w o n oc m g c Q T K) (t : Int) (ht : t < 0 ∨ (n : Int) ≤ t) :
    Calls Try.prog 32 #[.agg (refSC o n oc m g T.n c), .int .i64 t] w fun e w' => e = .returned (.slice none 0 0) ∧ Below w.heap.size w w' := by
  have HBA := Lib.hid ((Below.refl w.heap.size w).alloc (Nat.le_refl _) (.cells (refSC o n oc m g T.n c) 30))
  by_cases h0 : t < 0
  · go_enter Try.func32, Try.ntmps32
    go_wp2
    go_ret
    exact ⟨rfl, HBA.out⟩
  · have h1 : (n : Int) ≤ t := by omega
    go_enter Try.func32, Try.ntmps32
    go_wp2
    go_ret
    exact ⟨rfl, HBA.out⟩
end
theorem ssame_walk {w : World} {a b : Value} {ks : List Nat} (ha : KeysAt w a ks) (hb : KeysAt w b ks) (hl : ks.length ≤ 1000000) :
    Calls Try.prog 33 #[a, b] w fun e w' => e = .returned (.bool true) ∧ Below w.heap.size w w' := by
  obtain ⟨F, c, rfl, h1⟩ := ha.mem
  obtain ⟨G, d, rfl, h2⟩ := hb.mem
  have H1 := Lib.hid h1
  have H2 := Lib.hid h2
  clear ha hb h1 h2
  go_enter Try.func33, Try.ntmps33
  go_wp2_with fail
  go_loopg [5] ks.length (fun gg s5 wr => ∃ i : Nat, i + gg = ks.length ∧ s5 = .int .i64 (i : Nat) ∧ Hid (Below w.heap.size w wr))
  case atStart => exact ⟨0, by omega, rfl, Lib.hid (Below.refl _ _)⟩
  case round =>
    obtain ⟨i, hi, rfl, HB⟩ := hrel
    by_cases hlt : i < ks.length
    · have hltI : (i : Int) < (ks.length : Int) := by omega
      obtain ⟨b1, hF, l1, q1⟩ := H1.out i hlt
      obtain ⟨b2, hG, l2, q2⟩ := H2.out i hlt
      subst hF hG
      have q1 := (HB.out.cell (p := ⟨b1, i, none⟩) l1).trans q1
      have q2 := (HB.out.cell (p := ⟨b2, i, none⟩) l2).trans q2
      clear l1 l2
      go_wp2_with fail
      go_quiet (fail)
      go_wp2
      go_roundg (gk - 1)
      case measure => omega
      case rel => exact ⟨i + 1, by omega, by go_num, Lib.hid ⟨HB.out.os, HB.out.tape, HB.out.output, HB.out.size, HB.out.block⟩⟩
    · have hltI : ¬ (i : Int) < (ks.length : Int) := by omega
      go_wp2
      go_ret
      exact ⟨rfl, HB.out⟩
end Go.Proofs.Ytnacmhljbnpdpaa
