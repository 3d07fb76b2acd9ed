/- Three simple queues, the document's own: to evict from Main. -/
import Derived.Test.YtlekhmpalcgbmaaS3T
namespace Go.Proofs.Ytlekhmpalcgbmaa
open Go Go.RowKit Go.Deep

def P10k (w : World) (s : L10) (k : Nat) (u1 u2 u3 : Value) (e : Ending) (w' : World) : Prop := ∃ v1 v2 v3, e = .returned (.tuple #[.agg (l10C s.c v1 v2 v3), .int .u64 (k : Nat)]) ∧ Below w.heap.size w w' ∧ St10 w' s v1 v2 v3 ∧ Nw w.heap.size u1 v1 ∧ Nw w.heap.size u2 v2 ∧ Nw w.heap.size u3 v3
theorem Bx10.grown {w w1 w2 : World} {T e : TypeId} {b r : Nat} {s : L10} {u1 u2 u3 : Value} (h : Bx10 w w1 T b r s u1 u2 u3) (hk : Kt e w1 w2) (hT : T ≠ e) (hlow : Below w.heap.size w w2) (hs : St10 w2 s u1 u2 u3) : Bx10 w w2 T b r s u1 u2 u3 := ⟨h.bo.kti hk hT hlow, hs⟩
theorem below_drew {B : Nat} {w0 w : World} (h : Below B w0 w) : Below B w0 w.drew := ⟨h.os, h.tape, h.output, h.size, h.block⟩
theorem sum_snoc (l : List It) (x : It) : ((l ++ [x]).map It.f).sum = (l.map It.f).sum + x.f := by simp
set_option maxHeartbeats 4000000 in
theorem r10fmain_step (N : Nat) (ih : 0 < N → ∀ {w : World} {u1 u2 u3 : Value} {c : Nat} {sm m : List It} {gh : List Nat}, m ≠ [] → (m.map It.f).sum ≤ N - 1 → St10 w ⟨c, sm, m, gh⟩ u1 u2 u3 → m.length ≤ 100000000 → (∀ y ∈ m, y.f ≤ 3) → Calls Try.prog 70 #[.agg (l10C c u1 u2 u3)] w (P10k w (L10.fromMain ⟨c, sm, m, gh⟩).1 (L10.fromMain ⟨c, sm, m, gh⟩).2 u1 u2 u3)) {w : World} {u1 u2 u3 : Value} {c : Nat} {sm m : List It} {gh : List Nat} (hm : m ≠ []) (hN : (m.map It.f).sum ≤ N) (hs : St10 w ⟨c, sm, m, gh⟩ u1 u2 u3) (hl : m.length ≤ 100000000) (hf : ∀ y ∈ m, y.f ≤ 3) :
    Calls Try.prog 70 #[.agg (l10C c u1 u2 u3)] w (P10k w (L10.fromMain ⟨c, sm, m, gh⟩).1 (L10.fromMain ⟨c, sm, m, gh⟩).2 u1 u2 u3) := by
  obtain ⟨l, x, rfl⟩ := snoc_of hm
  rw [sum_snoc] at hN
  obtain ⟨F1, n1, d1, rfl⟩ := hs.form1
  obtain ⟨F2, d2, rfl, hcap, _, h3⟩ := hs.g2.mem
  obtain ⟨F3, n3, d3, rfl⟩ := hs.form3
  obtain ⟨g, off, hF, hg, q0, q1⟩ := h3 l.length (by simp)
  subst hF
  have hx : (l ++ [x])[l.length]'(by simp) = x := by simp
  rw [hx] at q0 q1
  have hlen : (l ++ [x]).length = l.length + 1 := by simp
  rw [hlen] at hl
  rw [L10.fromMain_snoc]
  obtain ⟨R, hR⟩ : ∃ R, (if x.f = 0 then ((⟨c, sm, l, gh⟩ : L10), x.key) else L10.fromMain ⟨c, sm, ⟨x.key, x.f - 1⟩ :: l, gh⟩) = R := ⟨_, rfl⟩
  have HR := Lib.hid hR
  rw [hR]
  clear hR
  have HX0 := Lib.hid (Bx10.start w T10 (by decide) hs)
  have HT : Hid (∀ W, Below w.heap.size w W → IV W (.slice (some ⟨g, off, none⟩) l.length d2) l) := Lib.hid (fun W hb => by
    obtain ⟨F', d', e, hk⟩ := (hs.g2.below hb).take l.length (by simp)
    injection e with e1 e2 e3
    subst e1 e3
    rw [List.take_left] at hk
    exact hk)
  have hfx : x.f ≤ 3 := hf x (by simp)
  have HFY := Lib.hid hf
  rw [hlen] at HX0 hcap hs ⊢
  obtain ⟨n, hn⟩ : ∃ n, l.length = n := ⟨_, rfl⟩
  have HN := Lib.hid hn
  rw [hn] at HX0 hcap hl q0 q1 HT hs ⊢
  have HS := Lib.hid hs
  have hkc : n ≤ d2 := by omega
  have hkcI : (n : Int) ≤ (d2 : Int) := by omega
  have hnI : (n : Int) ≤ 100000000 := by omega
  have HIH := Lib.hid ih
  have HNN := Lib.hid hN
  obtain ⟨kx, fx⟩ := x
  simp only at *
  clear hs hf hm h3 hx hlen hn ih hN hcap
  have hx1 := HX0.out.step (low_one ((w.alloc (.cells (l10C c (.slice F1 n1 d1) (.slice (some ⟨g, off, none⟩) (n + 1) d2) (.slice F3 n3 d3)) T10)).alloc (.cells z10 T10)) (.cells #[.int .u64 (kx : Nat), .int .i64 (fx : Nat)] TI10))
  have hx2 := hx1.step (low_one (((w.alloc (.cells (l10C c (.slice F1 n1 d1) (.slice (some ⟨g, off, none⟩) (n + 1) d2) (.slice F3 n3 d3)) T10)).alloc (.cells z10 T10)).alloc (.cells #[.int .u64 (kx : Nat), .int .i64 (fx : Nat)] TI10)) (.cells #[] TI10))
  have how := OwnI.empty (e := TI10) hx1.bo.low.size hx1.bo.low
  have HSRC := Lib.hid (HT.out _ hx2.bo.low)
  have ht0 := (IV.one ((w.alloc (.cells (l10C c (.slice F1 n1 d1) (.slice (some ⟨g, off, none⟩) (n + 1) d2) (.slice F3 n3 d3)) T10)).alloc (.cells z10 T10)) TI10 ⟨kx, fx⟩).below (low_one (((w.alloc (.cells (l10C c (.slice F1 n1 d1) (.slice (some ⟨g, off, none⟩) (n + 1) d2) (.slice F3 n3 d3)) T10)).alloc (.cells z10 T10)).alloc (.cells #[.int .u64 (kx : Nat), .int .i64 (fx : Nat)] TI10)) (.cells #[] TI10))
  simp only [World.size_alloc] at how ht0
  have HOW := Lib.hid how
  have HX2 := Lib.hid hx2
  have HT0 := Lib.hid ht0
  clear hx1 hx2 how ht0 HX0
  go_enter Try.func70, Try.ntmps70
  go_wp2_with (at_builtin; refine wpList_append_iv (e := TI10) rfl (.tmp 16) (.tmp 20) rfl w.heap.size (by kernel_rfl) (by kernel_rfl) _ [] rfl HOW.out _ l rfl HSRC.out (by have := HN.out; simp; omega) HX2.out.bo.low.size ?_)
  intro v3 w3 hown3 hkp hkt
  obtain ⟨Fr, nr, dr, rfl⟩ := hown3.iv.form
  have hx3 := HX2.out.grown hkt (by decide) hown3.low (HS.out.below hown3.low)
  obtain ⟨ht, hT0, hT1⟩ := (hkp.iv HT0.out (Off.blk (by omega))).1.box
  obtain ⟨⟨x0, x1, x2, x3⟩, xf0, xf1, xf2, xf3⟩ := c4_at hx3.bo.box
  obtain ⟨⟨y0, y1, y2, y3⟩, yf0, yf1, yf2, yf3⟩ := c4_at hx3.bo.res
  have hbb := (head_row hx3.bo.box).lt
  have hrr := (head_row hx3.bo.res).lt
  have HX3 := Lib.hid hx3
  have HO3 := Lib.hid hown3
  clear hx3 hown3 hkp hkt HOW HSRC HT0 HX2
  by_cases h0 : fx = 0
  · subst h0
    have hr := HR.out
    rw [if_pos rfl] at hr
    subst hr
    clear HR
    have hT2 : w3.cell? ⟨w.heap.size + 1 + 1, 1, none⟩ = some (.int .i64 0) := hT1
    dsimp only at x0 hT0
    clear hT1
    have hxa := HX3.out.set2 HO3.out.iv
    have hoa : Only [w.heap.size] w3 (w3.setCell ⟨w.heap.size, 2, none⟩ (.slice Fr nr dr)) := (Only.refl _ _).setCell (by simp) _
    have hTa := (World.cell?_of_block (w := w3) (a := ⟨w.heap.size + 1 + 1, 0, none⟩) (hoa.block _ ht (by simp; omega))).trans hT0
    have HNW := Lib.hid (Nw.of_iown (.slice (some ⟨g, off, none⟩) (n + 1) d2) HO3.out (Nat.le_refl w.heap.size))
    have HXA := Lib.hid hxa
    have HTA := Lib.hid hTa
    clear hxa hTa hoa HO3
    go_wp2_with fail
    generalize w3.setCell ⟨w.heap.size, 2, none⟩ (.slice Fr nr dr) = wa at HXA HTA ⊢
    clear x0 x1 x2 x3 xf0 xf1 xf2 xf3 y0 y1 y2 y3 yf0 yf1 yf2 yf3 hbb hrr hT0 hT2 HX3 ht
    obtain ⟨⟨x0, x1, x2, x3⟩, xf0, xf1, xf2, xf3⟩ := c4_at HXA.out.bo.box
    obtain ⟨⟨y0, y1, y2, y3⟩, yf0, yf1, yf2, yf3⟩ := c4_at HXA.out.bo.res
    have hbb := (head_row HXA.out.bo.box).lt
    have hrr := (head_row HXA.out.bo.res).lt
    have hTa := HTA.out
    dsimp only at x0
    go_region
    go_wp2
    exact bodyPost_ret (v := .tuple #[.agg (l10C c (.slice F1 n1 d1) (.slice Fr nr dr) (.slice F3 n3 d3)), .int .u64 (kx : Nat)]) (by simp [results, Try.results70, go_sem, y0, y1, y2, y3]) rfl ⟨_, _, _, rfl, below_drew (HXA.out.bo.fin HXA.out.only), (HXA.out.bo.st10 HXA.out.only HXA.out.st).below (below_drew (Below.refl _ _)), Nw.refl _ _, HNW.out, Nw.refl _ _⟩
  · obtain ⟨fy, rfl⟩ : ∃ fy, fx = fy + 1 := ⟨fx - 1, by omega⟩
    have hr := HR.out
    rw [if_neg h0, Nat.add_sub_cancel] at hr
    have HR2 := Lib.hid hr
    have hfI : ¬ ((fy : Int) + 1) ≤ 0 := by omega
    have hfJ : (fy : Int) ≤ 2 := by omega
    have hT2 : w3.cell? ⟨w.heap.size + 1 + 1, 1, none⟩ = some (.int .i64 ((fy : Int) + 1)) := hT1
    dsimp only at x0 hT0
    have how := OwnI.one (e := TI10) HX3.out.bo.low.size HX3.out.bo.low ⟨kx, fy⟩
    have hx4 := HX3.out.step (low_one w3 (.cells #[.int .u64 (kx : Nat), .int .i64 (fy : Nat)] TI10))
    have HSRC := Lib.hid (HO3.out.iv.below (low_one w3 (.cells #[.int .u64 (kx : Nat), .int .i64 (fy : Nat)] TI10)))
    have HX4 := Lib.hid hx4
    have HOW := Lib.hid how
    clear hT1 how hx4 HR hr h0 HO3
    go_wp2_with (at_builtin; refine wpList_append_iv (e := TI10) rfl (.tmp 36) (.tmp 37) rfl w.heap.size (by kernel_rfl) (by kernel_rfl) _ [⟨kx, fy⟩] rfl HOW.out _ l rfl HSRC.out (by have := HN.out; simp; omega) HX4.out.bo.low.size ?_)
    intro v5 w5 hown5 hkp hkt
    obtain ⟨Fq, nq, dq, rfl⟩ := hown5.iv.form
    have hx5 := (HX4.out.grown hkt (by decide) hown5.low (HS.out.below hown5.low))
    have hx6 := hx5.set2 hown5.iv
    clear x0 x1 x2 x3 xf0 xf1 xf2 xf3 y0 y1 y2 y3 yf0 yf1 yf2 yf3 hbb hrr
    obtain ⟨⟨x0, x1, x2, x3⟩, xf0, xf1, xf2, xf3⟩ := c4_at hx5.bo.box
    have hbb := (head_row hx5.bo.box).lt
    have HNW := Lib.hid (Nw.of_iown (.slice (some ⟨g, off, none⟩) (n + 1) d2) hown5 (Nat.le_refl w.heap.size))
    have HX6 := Lib.hid hx6
    have KR : Hid (∀ W, St10 W ⟨c, sm, ⟨kx, fy⟩ :: l, gh⟩ (.slice F1 n1 d1) (.slice Fq nq dq) (.slice F3 n3 d3) → Calls Try.prog 70 #[.agg (l10C c (.slice F1 n1 d1) (.slice Fq nq dq) (.slice F3 n3 d3))] W (P10k W R.1 R.2 (.slice F1 n1 d1) (.slice Fq nq dq) (.slice F3 n3 d3))) := Lib.hid (fun W h => by
      have h1 := HNN.out
      have h2 := HN.out
      rw [← HR2.out]
      refine HIH.out (by omega) (by simp) (by simp; omega) h (by simp; omega) (fun y hy => ?_)
      rcases List.mem_cons.1 hy with rfl | hy
      · show fy ≤ 3
        omega
      · exact HFY.out y (List.mem_append_left _ hy))
    dsimp only at x0
    clear hx5 hx6 hown5 hkp hkt HX4 HOW HSRC HX3 hT0 hT2 ht
    go_wp2_with fail
    generalize w5.setCell ⟨w.heap.size, 2, none⟩ (.slice Fq nq dq) = wa at HX6 ⊢
    refine (KR.out wa HX6.out.st).mono ?_
    rintro e w7 ⟨v1, v2, v3, he, hb7, hs7, hw1, hw2, hw3⟩
    obtain ⟨Fc1, nc1, dc1, rfl⟩ := hs7.form1
    obtain ⟨Fc2, nc2, dc2, rfl⟩ := hs7.form2
    obtain ⟨Fc3, nc3, dc3, rfl⟩ := hs7.form3
    have hR1 : R.1.c = c := by rw [← HR2.out]; rfl
    rw [hR1] at he
    subst he
    have hbo := HX6.out.bo.step hb7
    have hlb := HX6.out.bo.low.size
    obtain ⟨⟨y0, y1, y2, y3⟩, yf0, yf1, yf2, yf3⟩ := c4_at hbo.res
    have hrr := (head_row hbo.res).lt
    have HBO := Lib.hid hbo
    have HSC := Lib.hid hs7
    have HNW2 := Lib.hid (And.intro ((Nw.refl w.heap.size (.slice F1 n1 d1)).trans hw1 hlb) (And.intro (HNW.out.trans hw2 hlb) ((Nw.refl w.heap.size (.slice F3 n3 d3)).trans hw3 hlb)))
    have HRC := Lib.hid hR1
    clear hbo hlb hb7 hs7 hw1 hw2 hw3 hR1 KR HNW HX6 x0 x1 x2 x3 xf0 xf1 xf2 xf3 hbb
    go_wp2
    have HO : Hid (Only [w.heap.size, w.heap.size + 1] w7 ((((w7.setCell ⟨w.heap.size + 1, 0, none⟩ (.int .i64 (c : Nat))).setCell ⟨w.heap.size + 1, 1, none⟩ (.slice Fc1 nc1 dc1)).setCell ⟨w.heap.size + 1, 2, none⟩ (.slice Fc2 nc2 dc2)).setCell ⟨w.heap.size + 1, 3, none⟩ (.slice Fc3 nc3 dc3))) := Lib.hid (((((Only.refl _ _).setCell (by simp) _).setCell (by simp) _).setCell (by simp) _).setCell (by simp) _)
    exact bodyPost_ret (v := .tuple #[.agg (l10C c (.slice Fc1 nc1 dc1) (.slice Fc2 nc2 dc2) (.slice Fc3 nc3 dc3)), .int .u64 (R.2 : Nat)]) (by simp [results, Try.results70, go_sem, y0, y1, y2, y3]) rfl ⟨_, _, _, by rw [HRC.out], HBO.out.fin HO.out, HBO.out.st10 HO.out HSC.out, HNW2.out⟩
theorem r10fmain_all : ∀ (N : Nat) {w : World} {u1 u2 u3 : Value} {c : Nat} {sm m : List It} {gh : List Nat}, m ≠ [] → (m.map It.f).sum ≤ N → St10 w ⟨c, sm, m, gh⟩ u1 u2 u3 → m.length ≤ 100000000 → (∀ y ∈ m, y.f ≤ 3) → Calls Try.prog 70 #[.agg (l10C c u1 u2 u3)] w (P10k w (L10.fromMain ⟨c, sm, m, gh⟩).1 (L10.fromMain ⟨c, sm, m, gh⟩).2 u1 u2 u3) := by
  intro N
  induction N with
  | zero => exact fun h1 h2 h3 h4 h5 => r10fmain_step 0 (fun h => absurd h (by omega)) h1 h2 h3 h4 h5
  | succ N ih => exact fun h1 h2 h3 h4 h5 => r10fmain_step (N + 1) (fun _ => ih) h1 h2 h3 h4 h5
theorem r10fmain_walk {w : World} {u1 u2 u3 : Value} {s : L10} (hs : St10 w s u1 u2 u3) (hm : s.main ≠ []) (hl : s.main.length ≤ 100000000) (hf : ∀ y ∈ s.main, y.f ≤ 3) : Calls Try.prog 70 #[.agg (l10C s.c u1 u2 u3)] w (P10k w s.fromMain.1 s.fromMain.2 u1 u2 u3) :=
  r10fmain_all _ hm (Nat.le_refl _) hs hl hf
end Go.Proofs.Ytlekhmpalcgbmaa
