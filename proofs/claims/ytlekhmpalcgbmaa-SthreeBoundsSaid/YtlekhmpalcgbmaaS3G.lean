/- Three simple queues, the document's own: to evict from Small. -/
import Derived.Test.YtlekhmpalcgbmaaS3F
import Derived.Test.YtlekhmpalcgbmaaSqG
import Derived.Deep.RegionHeld3
import Derived.Deep.RegionWith
import Derived.Deep.CutRange
namespace Go.Proofs.Ytlekhmpalcgbmaa
open Go Go.RowKit Go.Deep

theorem fromSmall_c (s : L10) : s.fromSmall.1.c = s.c := rfl
set_option maxHeartbeats 4000000 in
theorem r10fsmall_snoc (N : Nat) (ih : 0 < N → ∀ {w : World} {u1 u2 u3 : Value} {c : Nat} {sm m : List It} {gh : List Nat}, (sm ≠ [] ∨ m ≠ []) → sm.length ≤ N - 1 → St10 w ⟨c, sm, m, gh⟩ u1 u2 u3 → sm.length + m.length ≤ 100000000 → gh.length ≤ 99999999 → 1 ≤ c → c ≤ 1048576 → (∀ y ∈ sm ++ m, y.f ≤ 3) → Calls Try.prog 69 #[.agg (l10C c u1 u2 u3)] w (P10k w (L10.fromSmall ⟨c, sm, m, gh⟩).1 (L10.fromSmall ⟨c, sm, m, gh⟩).2 u1 u2 u3)) {w : World} {u1 u2 u3 : Value} {c : Nat} {l : List It} {x : It} {m : List It} {gh : List Nat} (hN : l.length + 1 ≤ N) (hs : St10 w ⟨c, l ++ [x], m, gh⟩ u1 u2 u3) (hl : l.length + 1 + m.length ≤ 100000000) (hgl : gh.length ≤ 99999999) (hc1 : 1 ≤ c) (hc2 : c ≤ 1048576) (hf : ∀ y ∈ l ++ [x] ++ m, y.f ≤ 3) :
    Calls Try.prog 69 #[.agg (l10C c u1 u2 u3)] w (P10k w (L10.fromSmall ⟨c, l ++ [x], m, gh⟩).1 (L10.fromSmall ⟨c, l ++ [x], m, gh⟩).2 u1 u2 u3) := by
  obtain ⟨F1, d1, rfl, hcap, _, h3⟩ := hs.g1.mem
  obtain ⟨F2, d2, rfl, -⟩ := hs.g2.mem
  obtain ⟨F3, n3, d3, rfl⟩ := hs.form3
  obtain ⟨g, off, hF, hg, q0, q1⟩ := h3 l.length (by simp)
  subst hF
  have hx : (l ++ [x])[l.length]'(by simp) = x := by simp
  rw [hx] at q0 q1
  have hlen : (l ++ [x]).length = l.length + 1 := by simp
  rw [L10.fromSmall_snoc]
  obtain ⟨R, hR⟩ : ∃ R, (if 1 < x.f then L10.fromSmall ⟨c, l, ⟨x.key, 0⟩ :: m, gh⟩ else ((⟨c, l, m, (fr x.key gh).take (room c)⟩ : L10), x.key)) = R := ⟨_, rfl⟩
  have HR := Lib.hid hR
  rw [hR]
  clear hR
  have HX0 := Lib.hid (Bx10.start w T10 (by decide) hs)
  have HT : Hid (∀ W, Below w.heap.size w W → IV W (.slice (some ⟨g, off, none⟩) l.length d1) l) := Lib.hid (fun W hb => by
    obtain ⟨F', d', e, hk⟩ := (hs.g1.below hb).take l.length (by simp)
    injection e with e1 e2 e3
    subst e1 e3
    rw [List.take_left] at hk
    exact hk)
  have hfx : x.f ≤ 3 := hf x (by simp)
  have HFY := Lib.hid hf
  rw [hlen] at HX0 hcap hs ⊢
  obtain ⟨n, hn⟩ : ∃ n, l.length = n := ⟨_, rfl⟩
  obtain ⟨n2, hn2⟩ : ∃ n2, m.length = n2 := ⟨_, rfl⟩
  have HN := Lib.hid (And.intro hn hn2)
  rw [hn2] at HX0 hs hl ⊢
  rw [hn] at HX0 hcap hl hN q0 q1 HT hs ⊢
  have HS := Lib.hid hs
  have hkc : n ≤ d1 := by omega
  have hkcI : (n : Int) ≤ (d1 : Int) := by omega
  have hnI : (n : Int) ≤ 100000000 := by omega
  have hn2I : (n2 : Int) ≤ 100000000 := by omega
  have HIH := Lib.hid ih
  have HNN := Lib.hid hN
  have HGL := Lib.hid hgl
  have HLL := Lib.hid hl
  obtain ⟨kx, fx⟩ := x
  simp only at *
  clear hs hf h3 hx hlen hn hn2 ih hN hcap hgl
  have hx1 := HX0.out.step (low_one ((w.alloc (.cells (l10C c (.slice (some ⟨g, off, none⟩) (n + 1) d1) (.slice F2 n2 d2) (.slice F3 n3 d3)) T10)).alloc (.cells z10 T10)) (.cells #[.int .u64 (kx : Nat), .int .i64 (fx : Nat)] TI10))
  have hx2 := hx1.step (low_one (((w.alloc (.cells (l10C c (.slice (some ⟨g, off, none⟩) (n + 1) d1) (.slice F2 n2 d2) (.slice F3 n3 d3)) T10)).alloc (.cells z10 T10)).alloc (.cells #[.int .u64 (kx : Nat), .int .i64 (fx : Nat)] TI10)) (.cells #[] TI10))
  have how := OwnI.empty (e := TI10) hx1.bo.low.size hx1.bo.low
  have HSRC := Lib.hid (HT.out _ hx2.bo.low)
  have ht0 := (IV.one ((w.alloc (.cells (l10C c (.slice (some ⟨g, off, none⟩) (n + 1) d1) (.slice F2 n2 d2) (.slice F3 n3 d3)) T10)).alloc (.cells z10 T10)) TI10 ⟨kx, fx⟩).below (low_one (((w.alloc (.cells (l10C c (.slice (some ⟨g, off, none⟩) (n + 1) d1) (.slice F2 n2 d2) (.slice F3 n3 d3)) T10)).alloc (.cells z10 T10)).alloc (.cells #[.int .u64 (kx : Nat), .int .i64 (fx : Nat)] TI10)) (.cells #[] TI10))
  simp only [World.size_alloc] at how ht0
  have HOW := Lib.hid how
  have HX2 := Lib.hid hx2
  have HT0 := Lib.hid ht0
  clear hx1 hx2 how ht0 HX0
  go_enter Try.func69, Try.ntmps69
  go_wp2_with (at_builtin; refine wpList_append_iv (e := TI10) rfl (.tmp 21) (.tmp 25) rfl w.heap.size (by kernel_rfl) (by kernel_rfl) _ [] rfl HOW.out _ l rfl HSRC.out (by have := HN.out.1; simp; omega) HX2.out.bo.low.size ?_)
  intro v3 w3 hown3 hkp hkt
  obtain ⟨Fr, nr, dr, rfl⟩ := hown3.iv.form
  have hx3 := HX2.out.grown hkt (by decide) hown3.low (HS.out.below hown3.low)
  obtain ⟨ht, hT0, hT1⟩ := (hkp.iv HT0.out (Off.blk (by omega))).1.box
  obtain ⟨⟨x0, x1, x2, x3⟩, xf0, xf1, xf2, xf3⟩ := c4_at hx3.bo.box
  have hbb := (head_row hx3.bo.box).lt
  have hxa := hx3.set1 hown3.iv
  have hoa : Only [w.heap.size] w3 (w3.setCell ⟨w.heap.size, 1, none⟩ (.slice Fr nr dr)) := (Only.refl _ _).setCell (by simp) _
  have HT0A := Lib.hid ((World.cell?_of_block (w := w3) (a := ⟨w.heap.size + 1 + 1, 0, none⟩) (hoa.block _ ht (by simp; omega))).trans hT0)
  have HT1A := Lib.hid ((World.cell?_of_block (w := w3) (a := ⟨w.heap.size + 1 + 1, 1, none⟩) (hoa.block _ ht (by simp; omega))).trans hT1)
  have HNW := Lib.hid (Nw.of_iown (.slice (some ⟨g, off, none⟩) (n + 1) d1) hown3 (Nat.le_refl w.heap.size))
  have HXA := Lib.hid hxa
  dsimp only at x0
  have hta : w.heap.size + 1 + 1 < (w3.setCell ⟨w.heap.size, 1, none⟩ (.slice Fr nr dr)).heap.size := by simpa using ht
  clear hx3 hxa hoa hown3 hkp hkt HOW HSRC HT0 HX2 ht hT0 hT1
  go_upto_region 6 with fail
  generalize w3.setCell ⟨w.heap.size, 1, none⟩ (.slice Fr nr dr) = wa at *
  clear x0 x1 x2 x3 xf0 xf1 xf2 xf3 hbb
  obtain ⟨⟨x0, x1, x2, x3⟩, xf0, xf1, xf2, xf3⟩ := c4_at HXA.out.bo.box
  have hbb := (head_row HXA.out.bo.box).lt
  have hT0 := HT0A.out
  have hT1 := HT1A.out
  dsimp only at x0 x1 x2 x3 hT0 hT1
  by_cases h1 : 1 < fx
  · have hr := HR.out
    rw [if_pos h1] at hr
    have HR2 := Lib.hid hr
    have hfI : (1 : Int) < (fx : Int) := by omega
    have how : OwnI TI10 wa.heap.size wa (wa.alloc (.cells #[.int .u64 (kx : Nat), .int .i64 0] TI10)) (.slice (some ⟨wa.heap.size, 0, none⟩) 1 1) [⟨kx, 0⟩] := OwnI.one (e := TI10) (Nat.le_refl wa.heap.size) (Below.refl _ wa) ⟨kx, 0⟩
    have HSRC := Lib.hid (HXA.out.st.g2.below (low_one wa (.cells #[.int .u64 (kx : Nat), .int .i64 0] TI10)))
    have HOW := Lib.hid how
    clear how HR hr h1
    go_wp2_with (at_builtin; refine wpList_append_iv (e := TI10) rfl (.tmp 34) (.tmp 36) rfl wa.heap.size (by kernel_rfl) (by kernel_rfl) _ [⟨kx, 0⟩] rfl HOW.out _ m rfl HSRC.out (by have := HN.out.2; simp; omega) (by simp) ?_)
    intro v5 w5 hown5 hkp hkt
    obtain ⟨Fq, nq, dq, rfl⟩ := hown5.iv.form
    have hx5 := HXA.out.step hown5.low
    have hx6 := hx5.set2 hown5.iv
    clear x0 x1 x2 x3 xf0 xf1 xf2 xf3 hbb
    obtain ⟨⟨x0, x1, x2, x3⟩, xf0, xf1, xf2, xf3⟩ := c4_at hx5.bo.box
    have hbb := (head_row hx5.bo.box).lt
    have HNQ := Lib.hid (Nw.of_iown (.slice F2 n2 d2) hown5 HXA.out.bo.low.size)
    have HX6 := Lib.hid hx6
    have KR : Hid (∀ W, St10 W ⟨c, l, ⟨kx, 0⟩ :: m, gh⟩ (.slice Fr nr dr) (.slice Fq nq dq) (.slice F3 n3 d3) → Calls Try.prog 69 #[.agg (l10C c (.slice Fr nr dr) (.slice Fq nq dq) (.slice F3 n3 d3))] W (P10k W R.1 R.2 (.slice Fr nr dr) (.slice Fq nq dq) (.slice F3 n3 d3))) := Lib.hid (fun W h => by
      have h1 := HNN.out
      have h2 := HN.out
      have h3 := HLL.out
      rw [← HR2.out]
      refine HIH.out (by omega) (.inr (by simp)) (by omega) h (by simp; omega) HGL.out hc1 hc2 (fun y hy => ?_)
      rcases List.mem_append.1 hy with hy | hy
      · exact HFY.out y (List.mem_append_left _ (List.mem_append_left _ hy))
      · rcases List.mem_cons.1 hy with rfl | hy
        · exact Nat.zero_le _
        · exact HFY.out y (List.mem_append_right _ hy))
    dsimp only at x0 x1 x2 x3
    clear hx5 hx6 hown5 hkp hkt HOW HSRC HXA HT0A HT1A hT0 hT1 hta
    go_wp2_with fail
    generalize w5.setCell ⟨w.heap.size, 2, none⟩ (.slice Fq nq dq) = wb at HX6 ⊢
    refine (KR.out wb HX6.out.st).mono ?_
    rintro e w7 ⟨v1, v2, v3, he, hb7, hs7, hw1, hw2, hw3⟩
    obtain ⟨Fc1, nc1, dc1, rfl⟩ := hs7.form1
    obtain ⟨Fc2, nc2, dc2, rfl⟩ := hs7.form2
    obtain ⟨Fc3, nc3, dc3, rfl⟩ := hs7.form3
    have hR1 : R.1.c = c := by rw [← HR2.out]; exact fromSmall_c _
    rw [hR1] at he
    subst he
    have hbo := HX6.out.bo.step hb7
    have hlb := HX6.out.bo.low.size
    obtain ⟨⟨y0, y1, y2, y3⟩, yf0, yf1, yf2, yf3⟩ := c4_at hbo.res
    have hrr := (head_row hbo.res).lt
    have HBO := Lib.hid hbo
    have HSC := Lib.hid hs7
    have HNW2 := Lib.hid (And.intro (HNW.out.trans hw1 hlb) (And.intro (HNQ.out.trans hw2 hlb) ((Nw.refl w.heap.size (.slice F3 n3 d3)).trans hw3 hlb)))
    have HRC := Lib.hid hR1
    clear hbo hlb hb7 hs7 hw1 hw2 hw3 hR1 KR HNW HNQ HX6 x0 x1 x2 x3 xf0 xf1 xf2 xf3 hbb
    go_wp2
    have HO : Hid (Only [w.heap.size, w.heap.size + 1] w7 ((((w7.setCell ⟨w.heap.size + 1, 0, none⟩ (.int .i64 (c : Nat))).setCell ⟨w.heap.size + 1, 1, none⟩ (.slice Fc1 nc1 dc1)).setCell ⟨w.heap.size + 1, 2, none⟩ (.slice Fc2 nc2 dc2)).setCell ⟨w.heap.size + 1, 3, none⟩ (.slice Fc3 nc3 dc3))) := Lib.hid (((((Only.refl _ _).setCell (by simp) _).setCell (by simp) _).setCell (by simp) _).setCell (by simp) _)
    exact bodyPost_ret (v := .tuple #[.agg (l10C c (.slice Fc1 nc1 dc1) (.slice Fc2 nc2 dc2) (.slice Fc3 nc3 dc3)), .int .u64 (R.2 : Nat)]) (by simp [results, Try.results69, go_sem, y0, y1, y2, y3]) rfl ⟨_, _, _, by rw [HRC.out], HBO.out.fin HO.out, HBO.out.st10 HO.out HSC.out, HNW2.out⟩
  · have hr := HR.out
    rw [if_neg h1] at hr
    subst hr
    have hfI : ¬ (1 : Int) < (fx : Int) := by omega
    have K2 := Lib.hid (rfront_walk HXA.out.st.g3 (by have := HGL.out; show gh.length ≤ 100000000; omega) kx)
    clear HR h1 HIH HFY HNN HT1A HT0A
    go_wp2_with fail
    refine K2.out.mono ?_
    rintro e vb ⟨ob, rfl, hb⟩
    obtain ⟨Fb, nb, db, rfl⟩ := hb.kv.form
    have hxb := HXA.out.step hb.low
    have hT0b := (hb.low.cell (p := ⟨w.heap.size + 1 + 1, 0, none⟩) hta).trans hT0
    have htb := Nat.lt_of_lt_of_le hta hb.low.size
    clear x0 x1 x2 x3 xf0 xf1 xf2 xf3 hbb hT0 hT1 hta
    obtain ⟨⟨x0, x1, x2, x3⟩, xf0, xf1, xf2, xf3⟩ := c4_at hxb.bo.box
    have hbb := (head_row hxb.bo.box).lt
    have hyb := hxb.set3 hb.kv
    have hob : Only [w.heap.size] vb (vb.setCell ⟨w.heap.size, 3, none⟩ (.slice Fb nb db)) := (Only.refl _ _).setCell (by simp) _
    have hT0c := (World.cell?_of_block (w := vb) (a := ⟨w.heap.size + 1 + 1, 0, none⟩) (hob.block _ htb (by simp; omega))).trans hT0b
    have HN3 := Lib.hid (Nw.of_own (B := w.heap.size) (.slice F3 n3 d3) hb HXA.out.bo.low.size)
    have htc : w.heap.size + 1 + 1 < (vb.setCell ⟨w.heap.size, 3, none⟩ (.slice Fb nb db)).heap.size := by simpa using htb
    generalize hWb : vb.setCell ⟨w.heap.size, 3, none⟩ (.slice Fb nb db) = wb at hyb hT0c htc
    have HWb := Lib.hid hWb
    have HXb := Lib.hid hyb
    have hlw := HXA.out.bo.low.size
    have HLW := Lib.hid hlw
    clear hb hWb hxb hyb hob hlw HXA K2 hT0b htb
    have KF := Lib.hid (fun (W : World) (hb : Below wb.heap.size wb W) => r10fall_walk (HXb.out.st.below hb) (show (fr kx gh).length ≤ 100000000 from by have := fr_len kx gh; have := HGL.out; omega) hc1 hc2)
    have HLD : Hid (∀ W : World, Below wb.heap.size wb W → W.cell? ⟨w.heap.size, 0, none⟩ = some (.int .i64 (c : Nat)) ∧ W.cell? ⟨w.heap.size, 1, none⟩ = some (.slice Fr nr dr) ∧ W.cell? ⟨w.heap.size, 2, none⟩ = some (.slice F2 n2 d2) ∧ W.cell? ⟨w.heap.size, 3, none⟩ = some (.slice Fb nb db) ∧ W.cell? ⟨w.heap.size + 1 + 1, 0, none⟩ = some (.int .u64 (kx : Nat))) := Lib.hid (fun W hb => by
      obtain ⟨⟨q0, q1, q2, q3⟩, _⟩ := c4_at (HXb.out.step hb).bo.box
      exact ⟨q0, q1, q2, q3, (hb.cell (p := ⟨w.heap.size + 1 + 1, 0, none⟩) htc).trans hT0c⟩)
    clear hT0c htc
    dsimp only at x0 x1 x2 x3
    go_upto_region 10 with fail
    rw [HWb.out]
    clear HWb x0 x1 x2 x3 xf0 xf1 xf2 xf3 hbb
    obtain ⟨x0, x1, x2, x3, x4⟩ := HLD.out _ (Below.refl _ _)
    go_region_held3 (fun w' => w'.cell? ⟨w.heap.size, 0, none⟩ = some (.int .i64 (c : Nat)) ∧ w'.cell? ⟨w.heap.size, 1, none⟩ = some (.slice Fr nr dr) ∧ w'.cell? ⟨w.heap.size, 2, none⟩ = some (.slice F2 n2 d2) ∧ w'.cell? ⟨w.heap.size, 3, none⟩ = some (.slice Fb nb db) ∧ w'.cell? ⟨w.heap.size + 1 + 1, 0, none⟩ = some (.int .u64 (kx : Nat))) (first | with_reducible exact kk5 | go_keep)
      (first
        | (go_at_call 55; refine (KF.out _ (below_drewn (Below.refl _ _) _)).mono ?_; rintro e w5 ⟨v1, v2, v3, he, hb5, hs5, hw1, hw2, hw3⟩; have hB5 := (below_drewn (Below.refl wb.heap.size wb) _).trans hb5; obtain ⟨Fc1, nc1, dc1, rfl⟩ := hs5.form1; obtain ⟨Fc2, nc2, dc2, rfl⟩ := hs5.form2; obtain ⟨Fc3, nc3, dc3, rfl⟩ := hs5.form3; have he' : e = .returned (.agg (l10C c (.slice Fc1 nc1 dc1) (.slice Fc2 nc2 dc2) (.slice Fc3 nc3 dc3))) := he; subst he'; obtain ⟨⟨y0, y1, y2, y3⟩, yf0, yf1, yf2, yf3⟩ := c4_at (HXb.out.step hB5).bo.res; have hrr := (head_row (HXb.out.step hB5).bo.res).lt; have kk5 := HLD.out w5 hB5))
    have HBO := Lib.hid (HXb.out.bo.step hB5)
    have HSC := Lib.hid hs5
    have hlb := HXb.out.bo.low.size
    have HNW2 := Lib.hid (And.intro (HNW.out.trans hw1 hlb) (And.intro ((Nw.refl w.heap.size (.slice F2 n2 d2)).trans hw2 hlb) (HN3.out.trans hw3 hlb)))
    clear hlb hb5 hs5 hw1 hw2 hw3 hB5 kk5 x0 x1 x2 x3 x4 HNW HN3 HXb KF HLD
    go_wp2
    have HO : Hid (Only [w.heap.size, w.heap.size + 1] w5 ((((w5.setCell ⟨w.heap.size + 1, 0, none⟩ (.int .i64 (c : Nat))).setCell ⟨w.heap.size + 1, 1, none⟩ (.slice Fc1 nc1 dc1)).setCell ⟨w.heap.size + 1, 2, none⟩ (.slice Fc2 nc2 dc2)).setCell ⟨w.heap.size + 1, 3, none⟩ (.slice Fc3 nc3 dc3))) := Lib.hid (((((Only.refl _ _).setCell (by simp) _).setCell (by simp) _).setCell (by simp) _).setCell (by simp) _)
    exact bodyPost_ret (v := .tuple #[.agg (l10C c (.slice Fc1 nc1 dc1) (.slice Fc2 nc2 dc2) (.slice Fc3 nc3 dc3)), .int .u64 (kx : Nat)]) (by simp [results, Try.results69, go_sem, y0, y1, y2, y3]) rfl ⟨_, _, _, rfl, HBO.out.fin HO.out, HBO.out.st10 HO.out HSC.out, HNW2.out⟩
set_option maxHeartbeats 4000000 in
theorem r10fsmall_nil {w : World} {u1 u2 u3 : Value} {c : Nat} {m : List It} {gh : List Nat} (hm : m ≠ []) (hs : St10 w ⟨c, [], m, gh⟩ u1 u2 u3) (hl : m.length ≤ 100000000) (hf : ∀ y ∈ m, y.f ≤ 3) :
    Calls Try.prog 69 #[.agg (l10C c u1 u2 u3)] w (P10k w (L10.fromSmall ⟨c, [], m, gh⟩).1 (L10.fromSmall ⟨c, [], m, gh⟩).2 u1 u2 u3) := by
  obtain ⟨F1, d1, rfl, hcap, _, h3⟩ := hs.g1.mem
  obtain ⟨F2, n2, d2, rfl⟩ := hs.form2
  obtain ⟨F3, n3, d3, rfl⟩ := hs.form3
  rw [L10.fromSmall_nil]
  have HX0 := Lib.hid (Bx10.start w T10 (by decide) hs)
  have KM := Lib.hid (r10fmain_walk (s := ⟨c, [], m, gh⟩) HX0.out.st hm hl hf)
  have HRC : Hid ((L10.fromMain ⟨c, [], m, gh⟩).1.c = c) := Lib.hid rfl
  rw [show ([] : List It).length = 0 from rfl] at HX0 KM ⊢
  generalize L10.fromMain ⟨c, [], m, gh⟩ = R at *
  clear hs h3 hcap hm hl hf
  obtain ⟨⟨x0, x1, x2, x3⟩, xf0, xf1, xf2, xf3⟩ := c4_at HX0.out.bo.box
  have hbb := (head_row HX0.out.bo.box).lt
  dsimp only at x0 x1 x2 x3
  generalize hW0 : World.alloc _ (.cells z10 T10) = W0 at HX0 KM x0 x1 x2 x3 xf0 xf1 xf2 xf3 hbb
  have HW0 := Lib.hid hW0
  clear hW0
  go_enter Try.func69, Try.ntmps69
  go_wp2_with fail
  rw [HW0.out]
  clear HW0
  refine KM.out.mono ?_
  rintro e w7 ⟨v1, v2, v3, he, hb7, hs7, hw1, hw2, hw3⟩
  obtain ⟨Fc1, nc1, dc1, rfl⟩ := hs7.form1
  obtain ⟨Fc2, nc2, dc2, rfl⟩ := hs7.form2
  obtain ⟨Fc3, nc3, dc3, rfl⟩ := hs7.form3
  rw [HRC.out] at he
  subst he
  have hbo := HX0.out.bo.step hb7
  have hlb := HX0.out.bo.low.size
  obtain ⟨⟨y0, y1, y2, y3⟩, yf0, yf1, yf2, yf3⟩ := c4_at hbo.res
  have hrr := (head_row hbo.res).lt
  have HBO := Lib.hid hbo
  have HSC := Lib.hid hs7
  have HNW2 := Lib.hid (And.intro ((Nw.refl w.heap.size (.slice F1 0 d1)).trans hw1 hlb) (And.intro ((Nw.refl w.heap.size (.slice F2 n2 d2)).trans hw2 hlb) ((Nw.refl w.heap.size (.slice F3 n3 d3)).trans hw3 hlb)))
  clear hbo hlb hb7 hs7 hw1 hw2 hw3 KM HX0 x0 x1 x2 x3 xf0 xf1 xf2 xf3 hbb
  go_wp2
  have HO : Hid (Only [w.heap.size, w.heap.size + 1] w7 ((((w7.setCell ⟨w.heap.size + 1, 0, none⟩ (.int .i64 (c : Nat))).setCell ⟨w.heap.size + 1, 1, none⟩ (.slice Fc1 nc1 dc1)).setCell ⟨w.heap.size + 1, 2, none⟩ (.slice Fc2 nc2 dc2)).setCell ⟨w.heap.size + 1, 3, none⟩ (.slice Fc3 nc3 dc3))) := Lib.hid (((((Only.refl _ _).setCell (by simp) _).setCell (by simp) _).setCell (by simp) _).setCell (by simp) _)
  exact bodyPost_ret (v := .tuple #[.agg (l10C c (.slice Fc1 nc1 dc1) (.slice Fc2 nc2 dc2) (.slice Fc3 nc3 dc3)), .int .u64 (R.2 : Nat)]) (by simp [results, Try.results69, go_sem, y0, y1, y2, y3]) rfl ⟨_, _, _, by rw [HRC.out], HBO.out.fin HO.out, HBO.out.st10 HO.out HSC.out, HNW2.out⟩
theorem r10fsmall_all : ∀ (N : Nat) {w : World} {u1 u2 u3 : Value} {c : Nat} {sm m : List It} {gh : List Nat}, (sm ≠ [] ∨ m ≠ []) → sm.length ≤ N → St10 w ⟨c, sm, m, gh⟩ u1 u2 u3 → sm.length + m.length ≤ 100000000 → gh.length ≤ 99999999 → 1 ≤ c → c ≤ 1048576 → (∀ y ∈ sm ++ m, y.f ≤ 3) → Calls Try.prog 69 #[.agg (l10C c u1 u2 u3)] w (P10k w (L10.fromSmall ⟨c, sm, m, gh⟩).1 (L10.fromSmall ⟨c, sm, m, gh⟩).2 u1 u2 u3) := by
  intro N
  induction N with
  | zero =>
    intro w u1 u2 u3 c sm m gh h1 h2 h3 h4 h5 h6 h7 h8
    obtain rfl : sm = [] := List.length_eq_zero_iff.1 (by omega)
    exact r10fsmall_nil (by simpa using h1) h3 (by simpa using h4) (by simpa using h8)
  | succ N ih =>
    intro w u1 u2 u3 c sm m gh h1 h2 h3 h4 h5 h6 h7 h8
    rcases List.eq_nil_or_concat sm with rfl | ⟨l, x, rfl⟩
    · exact r10fsmall_nil (by simpa using h1) h3 (by simpa using h4) (by simpa using h8)
    · simp only [List.concat_eq_append] at *
      rw [List.length_append, List.length_singleton] at h2 h4
      exact r10fsmall_snoc (N + 1) (fun _ => ih) h2 h3 h4 h5 h6 h7 h8
theorem r10fsmall_walk {w : World} {u1 u2 u3 : Value} {s : L10} (hs : St10 w s u1 u2 u3) (hm : s.small ≠ [] ∨ s.main ≠ []) (hl : s.small.length + s.main.length ≤ 100000000) (hg : s.ghost.length ≤ 99999999) (hc1 : 1 ≤ s.c) (hc2 : s.c ≤ 1048576) (hf : ∀ y ∈ s.small ++ s.main, y.f ≤ 3) : Calls Try.prog 69 #[.agg (l10C s.c u1 u2 u3)] w (P10k w s.fromSmall.1 s.fromSmall.2 u1 u2 u3) :=
  r10fsmall_all _ hm (Nat.le_refl _) hs hl hg hc1 hc2 hf
end Go.Proofs.Ytlekhmpalcgbmaa
