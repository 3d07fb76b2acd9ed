/- Three simple queues, the document's own: shrink. -/
import Derived.Test.YtlekhmpalcgbmaaS3G
import Derived.Deep.QuietTactic
import Derived.BigQuiet
namespace Go.Proofs.Ytlekhmpalcgbmaa
open Go Go.RowKit Go.Deep

/- Where the loop stands: the state is σ; v: what was evicted. -/
structure At10 (w wr : World) (b r : Nat) (s : L10) (N : Nat) (σ : L10) (u1 u2 u3 v : Value) : Prop where
  bx : Bx10 w wr T10 b r σ u1 u2 u3
  ko : ∃ acc, KO w.heap.size w wr v acc ∧ acc ++ (L10.shrN (σ.total - N) σ).2 = s.shrOut N ∧ acc.length ≤ 3000000
  li : (L10.shrN (σ.total - N) σ).1 = s.shr N
  fine : σ.Fine
  c : σ.c = s.c
  tot : σ.total ≤ 1048576
  gl : σ.ghost.length ≤ 2000000
  off : Off u1 v ∧ Off u2 v ∧ Off u3 v
/- What the loop's next step leaves. -/
structure Nx10 (s : L10) (N f : Nat) (acc : List Nat) (σ : L10) (x : Nat) : Prop where
  out : (acc ++ [x]) ++ (L10.shrN f σ).2 = s.shrOut N
  li : (L10.shrN f σ).1 = s.shr N
  fine : σ.Fine
  c : σ.c = s.c
  tot : σ.total ≤ 1048576
  f : σ.total - N = f
  gl : σ.ghost.length ≤ 2000000
theorem nx10 {s σ : L10} {N f : Nat} {acc : List Nat} (fine : σ.Fine) (c : σ.c = s.c) (hc : s.c ≤ 1048576) (tot : σ.total ≤ 1048576) (gl : σ.ghost.length ≤ 2000000) (hf : σ.total - N = f + 1) (li : (L10.shrN (f + 1) σ).1 = s.shr N) (out : acc ++ (L10.shrN (f + 1) σ).2 = s.shrOut N) :
    Nx10 s N f acc σ.evict.1 σ.evict.2 := by
  have e := L10.ev_evict (s := σ) (by omega)
  have ht := e.total
  exact ⟨by rw [List.append_assoc]; exact out, li, fine.ev e, e.c.trans c, by omega, by omega, e.gl _ (by have := room_le σ.c; omega) gl⟩
section
variable {w wr : World} {u1 u2 u3 : Value} {s : L10}
set_option maxHeartbeats 800000 in
theorem r10shrink_walk (hs : St10 w s u1 u2 u3) (fine : s.Fine) (h1 : s.total ≤ 1048576) (h2 : s.ghost.length ≤ 2000000) (hc1 : 1 ≤ s.c) (hc : s.c ≤ 1048576) (N : Nat) (hN : N ≤ 1048576) : Calls Try.prog 53 #[.agg (l10C s.c u1 u2 u3), .int .i64 (N : Nat)] w (P10o w (s.shr N) (s.shrOut N)) := by
  obtain ⟨F1, n1, d1, rfl⟩ := hs.form1
  obtain ⟨F2, n2, d2, rfl⟩ := hs.form2
  obtain ⟨F3, n3, d3, rfl⟩ := hs.form3
  have hx0 := Bx10.start w T10 (by decide) hs
  have HI0 : Hid (At10 w ((w.alloc (.cells (l10C s.c (.slice F1 n1 d1) (.slice F2 n2 d2) (.slice F3 n3 d3)) T10)).alloc (.cells z10 T10)) w.heap.size (w.heap.size + 1) s N s (.slice F1 n1 d1) (.slice F2 n2 d2) (.slice F3 n3 d3) (.slice none 0 0)) :=
    Lib.hid ⟨hx0, ⟨[], KO.nil hx0.bo.low, rfl, by simp⟩, rfl, fine, rfl, h1, h2, Off.nil _, Off.nil _, Off.nil _⟩
  have HSL : Hid ((s.shrOut N).length ≤ 1048576) := Lib.hid (by rw [L10.shrOut_len fine]; omega)
  have HSC : Hid ((s.shr N).c = s.c) := Lib.hid (L10.shr_c fine N)
  obtain ⟨q, hq⟩ : ∃ q, tgt s.c = q := ⟨_, rfl⟩
  have hqc : q ≤ s.c := by rw [← hq]; unfold tgt; split <;> omega
  have hqI : (q : Int) ≤ 1048576 := by omega
  have KT := Lib.hid (fun (W : World) (m : Nat) => target_quiet (w := W) s.c hc m)
  rw [hq] at KT
  have HQ := Lib.hid hq
  clear hx0 hs hq hqc fine h1 h2
  go_enter Try.func53, Try.ntmps53
  go_wp2_with fail
  generalize World.alloc _ (.cells z10 T10) = W0 at HI0 ⊢
  go_loopg [6] (s.total - N) (fun gg s6 wr => ∃ (σ : L10) (u1 u2 u3 v6 : Value), gg = σ.total - N ∧ v6 = s6 ∧ Hid (At10 w wr w.heap.size (w.heap.size + 1) s N σ u1 u2 u3 v6))
  case atStart => exact ⟨s, _, _, _, _, rfl, rfl, HI0⟩
  case round =>
    clear HI0
    obtain ⟨σ, u1, u2, u3, v6, hi, rfl, HI⟩ := hrel
    obtain ⟨F1, d1, rfl, -⟩ := HI.out.bx.st.g1.mem
    obtain ⟨F2, d2, rfl, -⟩ := HI.out.bx.st.g2.mem
    obtain ⟨F3, n3, d3, rfl⟩ := HI.out.bx.st.form3
    have htot : σ.small.length + σ.main.length ≤ 1048576 := HI.out.tot
    have htt : σ.total = σ.small.length + σ.main.length := rfl
    obtain ⟨n1, hn1⟩ : ∃ n, σ.small.length = n := ⟨_, rfl⟩
    obtain ⟨n2, hn2⟩ : ∃ n, σ.main.length = n := ⟨_, rfl⟩
    rw [hn1, hn2] at htot htt HI
    have hn1I : (n1 : Int) ≤ 1048576 := by omega
    have hn2I : (n2 : Int) ≤ 1048576 := by omega
    obtain ⟨⟨x0, x1, x2, x3⟩, xf0, xf1, xf2, xf3⟩ := c4_at HI.out.bx.bo.box
    have hbb := (head_row HI.out.bx.bo.box).lt
    rw [HI.out.c] at x0
    by_cases hgt : N < n1 + n2
    · obtain ⟨f, hf⟩ : ∃ f, σ.total - N = f + 1 := ⟨σ.total - N - 1, by omega⟩
      have hgtI : (N : Int) < (n1 : Int) + (n2 : Int) := by omega
      obtain ⟨acc, hko, hac, hal⟩ := HI.out.ko
      have hli := HI.out.li
      rw [hf] at hac hli
      have HNXT := Lib.hid (nx10 HI.out.fine HI.out.c hc HI.out.tot HI.out.gl hf hli hac)
      have KSM : Hid ((q ≤ n1 ∨ n2 = 0) → ∀ W : World, Below wr.heap.size wr W → Calls Try.prog 69 #[.agg (l10C s.c (.slice F1 n1 d1) (.slice F2 n2 d2) (.slice F3 n3 d3))] W (P10k W σ.evict.1 σ.evict.2 (.slice F1 n1 d1) (.slice F2 n2 d2) (.slice F3 n3 d3))) := Lib.hid (fun h W hb => by
        have hh : tgt σ.c ≤ σ.small.length ∨ σ.main.length = 0 := by rw [HI.out.c, HQ.out, hn1, hn2]; exact h
        have h3 := r10fsmall_walk (HI.out.bx.st.below hb) (by
          by_cases e : σ.small = []
          · exact .inr (fun e2 => by rw [e] at hn1; rw [e2] at hn2; simp at hn1 hn2; omega)
          · exact .inl e) (by rw [hn1, hn2]; omega) (by have := HI.out.gl; omega) (by rw [HI.out.c]; exact hc1) (by rw [HI.out.c]; exact hc) HI.out.fine.f
        rw [HI.out.c] at h3
        rw [show σ.evict = σ.fromSmall by unfold L10.evict; rw [if_pos hh]]
        exact h3)
      have KMN : Hid (¬ (q ≤ n1 ∨ n2 = 0) → ∀ W : World, Below wr.heap.size wr W → Calls Try.prog 70 #[.agg (l10C s.c (.slice F1 n1 d1) (.slice F2 n2 d2) (.slice F3 n3 d3))] W (P10k W σ.evict.1 σ.evict.2 (.slice F1 n1 d1) (.slice F2 n2 d2) (.slice F3 n3 d3))) := Lib.hid (fun h W hb => by
        have hh : ¬ (tgt σ.c ≤ σ.small.length ∨ σ.main.length = 0) := by rw [HI.out.c, HQ.out, hn1, hn2]; exact h
        have h3 := r10fmain_walk (HI.out.bx.st.below hb) (fun e => by rw [e] at hn2; simp at hn2; omega) (by rw [hn2]; omega) (fun y hy => HI.out.fine.f y (List.mem_append_right _ hy))
        rw [HI.out.c] at h3
        rw [show σ.evict = σ.fromMain by unfold L10.evict; rw [if_neg hh]]
        exact h3)
      have HKO := Lib.hid hko
      have HOF := Lib.hid HI.out.off
      have HAL : Hid (acc.length ≤ 3000000) := Lib.hid hal
      have HBX := Lib.hid HI.out.bx
      have HHF := Lib.hid hf
      have HGK := Lib.hid hi
      generalize σ.evict = R at *
      clear hko hac hli hal HI hgt hf hi htt hn1 hn2
      by_cases hA : q ≤ n1
      · have hAI : ((q : Nat) : Int) ≤ ((n1 : Nat) : Int) := by omega
        have hAd : decide (((q : Nat) : Int) ≤ ((n1 : Nat) : Int)) = true := decide_eq_true hAI
        have KR := Lib.hid (fun m : Nat => KSM.out (.inl hA) (wr.drewN m) (below_drewn (Below.refl _ _) m))
        clear KSM KMN
        go_upto_region 3 with fail
        go_quiet (first | (go_at_call 25; with_reducible exact KT.out _ _))
        go_wp2_with fail
        refine (KR.out _).mono ?_
        rintro e w5 ⟨v1, v2, v3, he, hb5', hs5, hw1, hw2, hw3⟩
        have hb5 := (below_drewn (Below.refl wr.heap.size wr) _).trans hb5'
        obtain ⟨Fa1, na1, da1, rfl⟩ := hs5.form1
        obtain ⟨Fa2, na2, da2, rfl⟩ := hs5.form2
        obtain ⟨Fa3, na3, da3, rfl⟩ := hs5.form3
        rw [HNXT.out.c] at he
        subst he
        obtain ⟨⟨c9, sm9, mn9, gh9⟩, x⟩ := R
        have hc9 : c9 = s.c := HNXT.out.c
        subst hc9
        dsimp only at hs5 HNXT
        have hxa := (HBX.out.step hb5).step (low_one w5 (.cells (l10C s.c (.slice Fa1 na1 da1) (.slice Fa2 na2 da2) (.slice Fa3 na3 da3)) T10))
        have hsa := hs5.below (low_one w5 (.cells (l10C s.c (.slice Fa1 na1 da1) (.slice Fa2 na2 da2) (.slice Fa3 na3 da3)) T10))
        have hka := (HKO.out.below HBX.out.bo.low.size hb5).alloc (HBX.out.step hb5).bo.low.size (.cells (l10C s.c (.slice Fa1 na1 da1) (.slice Fa2 na2 da2) (.slice Fa3 na3 da3)) T10)
        have hne : w.heap.size ≠ w5.heap.size := by have := (head_row (HBX.out.step hb5).bo.box).lt; omega
        clear x0 x1 x2 x3 xf0 xf1 xf2 xf3 hbb
        obtain ⟨⟨x0, x1, x2, x3⟩, xf0, xf1, xf2, xf3⟩ := c4_at hxa.bo.box
        try dsimp only at x0 x1 x2 x3
        have hbb := (head_row hxa.bo.box).lt
        have hnew := heap_alloc_new w5 (.cells (l10C s.c (.slice Fa1 na1 da1) (.slice Fa2 na2 da2) (.slice Fa3 na3 da3)) T10)
        obtain ⟨⟨z0, z1, z2, z3⟩, zf0, zf1, zf2, zf3⟩ := c4_at hnew
        have HP := Lib.hid (hxa.put hsa)
        have HK2 := Lib.hid (hxa.bo.ko (hxa.putOnly (s' := ⟨s.c, sm9, mn9, gh9⟩) (v1 := .slice Fa1 na1 da1) (v2 := .slice Fa2 na2 da2) (v3 := .slice Fa3 na3 da3)) hka)
        have HO5 := Lib.hid (And.intro (hw1.off HOF.out.1 HKO.out.lt) (And.intro (hw2.off HOF.out.2.1 HKO.out.lt) (hw3.off HOF.out.2.2 HKO.out.lt)))
        clear hxa hsa hka hnew hb5 hb5' hs5 hw1 hw2 hw3 HOF HKO HBX KR KT
        go_upto_region 5 with fail
        generalize w5.alloc (.cells (l10C s.c (.slice Fa1 na1 da1) (.slice Fa2 na2 da2) (.slice Fa3 na3 da3)) T10) = wx at *
        generalize w5.heap.size = P at *
        have hne2 := hne.symm
        go_upto_region 6 with fail
        generalize (((wx.setCell ⟨w.heap.size, 0, none⟩ (.int .i64 (s.c : Nat))).setCell ⟨w.heap.size, 1, none⟩ (.slice Fa1 na1 da1)).setCell ⟨w.heap.size, 2, none⟩ (.slice Fa2 na2 da2)).setCell ⟨w.heap.size, 3, none⟩ (.slice Fa3 na3 da3) = w6 at HP HK2 ⊢
        have HOW := Lib.hid (HK2.out.alloc HP.out.bo.low.size (.cells #[.int .u64 (x : Nat)] 35))
        have HSRC := Lib.hid (KV.one w6 x)
        have HBX := Lib.hid (HP.out.step (low_one w6 (.cells #[.int .u64 (x : Nat)] 35)))
        have hszA : w.heap.size ≤ (w6.alloc (.cells #[.int .u64 (x : Nat)] 35)).heap.size := HBX.out.bo.low.size
        have halen := HAL.out
        clear x0 x1 x2 x3 xf0 xf1 xf2 xf3 z0 z1 z2 z3 zf0 zf1 zf2 zf3 hbb HP HK2 HAL hne hne2 hgtI
        go_wp2_with (at_builtin; refine wpList_append_kv rfl (.tmp 39) (.tmp 41) rfl w.heap.size (by kernel_rfl) (by kernel_rfl) v6 acc rfl HOW.out _ [x] rfl HSRC.out (by simp; omega) hszA ?_)
        intro v7 w7 hown7 hkp hkt
        have hst := HBX.out.st
        obtain ⟨k1, f1⟩ := hkp.iv hst.g1 HO5.out.1
        obtain ⟨k2, f2⟩ := hkp.iv hst.g2 HO5.out.2.1
        obtain ⟨k3, f3⟩ := hkp.kv hst.g3 HO5.out.2.2
        have hx := HNXT.out
        have hff := hx.f
        have HNX : Hid (At10 w w7 w.heap.size (w.heap.size + 1) s N ⟨s.c, sm9, mn9, gh9⟩ (.slice Fa1 na1 da1) (.slice Fa2 na2 da2) (.slice Fa3 na3 da3) v7) := Lib.hid
          ⟨⟨HBX.out.bo.kt hkt hown7.low, k1, k2, k3⟩, ⟨acc ++ [x], hown7, by rw [hff]; exact hx.out, by have h9 := congrArg List.length hx.out; have h8 := HSL.out; rw [List.length_append] at h9; omega⟩, by rw [hff]; exact hx.li, hx.fine, rfl, hx.tot, hx.gl, f1, f2, f3⟩
        have hgf : f < gk := by have := HHF.out; have := HGK.out; omega
        have HFF := Lib.hid hff
        clear hst k1 f1 k2 f2 k3 f3 hff hown7 hkp hkt hx HO5 HHF HGK HOW HSRC HBX halen HNXT
        go_wp2
        go_roundg f
        case measure => omega
        case rel => exact ⟨⟨s.c, sm9, mn9, gh9⟩, _, _, _, _, HFF.out.symm, rfl, HNX⟩
      · have hAI : ¬ ((q : Nat) : Int) ≤ ((n1 : Nat) : Int) := by omega
        have hAd : decide (((q : Nat) : Int) ≤ ((n1 : Nat) : Int)) = false := decide_eq_false hAI
        by_cases hB : n2 = 0
        · obtain rfl : n2 = 0 := hB
          have KR := Lib.hid (fun m : Nat => KSM.out (.inr rfl) (wr.drewN m) (below_drewn (Below.refl _ _) m))
          clear KSM KMN
          go_upto_region 3 with fail
          go_quiet (first | (go_at_call 25; with_reducible exact KT.out _ _))
          go_wp2_with fail
          refine (KR.out _).mono ?_
          rintro e w5 ⟨v1, v2, v3, he, hb5', hs5, hw1, hw2, hw3⟩
          have hb5 := (below_drewn (Below.refl wr.heap.size wr) _).trans hb5'
          obtain ⟨Fa1, na1, da1, rfl⟩ := hs5.form1
          obtain ⟨Fa2, na2, da2, rfl⟩ := hs5.form2
          obtain ⟨Fa3, na3, da3, rfl⟩ := hs5.form3
          rw [HNXT.out.c] at he
          subst he
          obtain ⟨⟨c9, sm9, mn9, gh9⟩, x⟩ := R
          have hc9 : c9 = s.c := HNXT.out.c
          subst hc9
          dsimp only at hs5 HNXT
          have hxa := (HBX.out.step hb5).step (low_one w5 (.cells (l10C s.c (.slice Fa1 na1 da1) (.slice Fa2 na2 da2) (.slice Fa3 na3 da3)) T10))
          have hsa := hs5.below (low_one w5 (.cells (l10C s.c (.slice Fa1 na1 da1) (.slice Fa2 na2 da2) (.slice Fa3 na3 da3)) T10))
          have hka := (HKO.out.below HBX.out.bo.low.size hb5).alloc (HBX.out.step hb5).bo.low.size (.cells (l10C s.c (.slice Fa1 na1 da1) (.slice Fa2 na2 da2) (.slice Fa3 na3 da3)) T10)
          have hne : w.heap.size ≠ w5.heap.size := by have := (head_row (HBX.out.step hb5).bo.box).lt; omega
          clear x0 x1 x2 x3 xf0 xf1 xf2 xf3 hbb
          obtain ⟨⟨x0, x1, x2, x3⟩, xf0, xf1, xf2, xf3⟩ := c4_at hxa.bo.box
          try dsimp only at x0 x1 x2 x3
          have hbb := (head_row hxa.bo.box).lt
          have hnew := heap_alloc_new w5 (.cells (l10C s.c (.slice Fa1 na1 da1) (.slice Fa2 na2 da2) (.slice Fa3 na3 da3)) T10)
          obtain ⟨⟨z0, z1, z2, z3⟩, zf0, zf1, zf2, zf3⟩ := c4_at hnew
          have HP := Lib.hid (hxa.put hsa)
          have HK2 := Lib.hid (hxa.bo.ko (hxa.putOnly (s' := ⟨s.c, sm9, mn9, gh9⟩) (v1 := .slice Fa1 na1 da1) (v2 := .slice Fa2 na2 da2) (v3 := .slice Fa3 na3 da3)) hka)
          have HO5 := Lib.hid (And.intro (hw1.off HOF.out.1 HKO.out.lt) (And.intro (hw2.off HOF.out.2.1 HKO.out.lt) (hw3.off HOF.out.2.2 HKO.out.lt)))
          clear hxa hsa hka hnew hb5 hb5' hs5 hw1 hw2 hw3 HOF HKO HBX KR KT
          go_upto_region 5 with fail
          generalize w5.alloc (.cells (l10C s.c (.slice Fa1 na1 da1) (.slice Fa2 na2 da2) (.slice Fa3 na3 da3)) T10) = wx at *
          generalize w5.heap.size = P at *
          have hne2 := hne.symm
          go_upto_region 6 with fail
          generalize (((wx.setCell ⟨w.heap.size, 0, none⟩ (.int .i64 (s.c : Nat))).setCell ⟨w.heap.size, 1, none⟩ (.slice Fa1 na1 da1)).setCell ⟨w.heap.size, 2, none⟩ (.slice Fa2 na2 da2)).setCell ⟨w.heap.size, 3, none⟩ (.slice Fa3 na3 da3) = w6 at HP HK2 ⊢
          have HOW := Lib.hid (HK2.out.alloc HP.out.bo.low.size (.cells #[.int .u64 (x : Nat)] 35))
          have HSRC := Lib.hid (KV.one w6 x)
          have HBX := Lib.hid (HP.out.step (low_one w6 (.cells #[.int .u64 (x : Nat)] 35)))
          have hszA : w.heap.size ≤ (w6.alloc (.cells #[.int .u64 (x : Nat)] 35)).heap.size := HBX.out.bo.low.size
          have halen := HAL.out
          clear x0 x1 x2 x3 xf0 xf1 xf2 xf3 z0 z1 z2 z3 zf0 zf1 zf2 zf3 hbb HP HK2 HAL hne hne2 hgtI
          go_wp2_with (at_builtin; refine wpList_append_kv rfl (.tmp 39) (.tmp 41) rfl w.heap.size (by kernel_rfl) (by kernel_rfl) v6 acc rfl HOW.out _ [x] rfl HSRC.out (by simp; omega) hszA ?_)
          intro v7 w7 hown7 hkp hkt
          have hst := HBX.out.st
          obtain ⟨k1, f1⟩ := hkp.iv hst.g1 HO5.out.1
          obtain ⟨k2, f2⟩ := hkp.iv hst.g2 HO5.out.2.1
          obtain ⟨k3, f3⟩ := hkp.kv hst.g3 HO5.out.2.2
          have hx := HNXT.out
          have hff := hx.f
          have HNX : Hid (At10 w w7 w.heap.size (w.heap.size + 1) s N ⟨s.c, sm9, mn9, gh9⟩ (.slice Fa1 na1 da1) (.slice Fa2 na2 da2) (.slice Fa3 na3 da3) v7) := Lib.hid
            ⟨⟨HBX.out.bo.kt hkt hown7.low, k1, k2, k3⟩, ⟨acc ++ [x], hown7, by rw [hff]; exact hx.out, by have h9 := congrArg List.length hx.out; have h8 := HSL.out; rw [List.length_append] at h9; omega⟩, by rw [hff]; exact hx.li, hx.fine, rfl, hx.tot, hx.gl, f1, f2, f3⟩
          have hgf : f < gk := by have := HHF.out; have := HGK.out; omega
          have HFF := Lib.hid hff
          clear hst k1 f1 k2 f2 k3 f3 hff hown7 hkp hkt hx HO5 HHF HGK HOW HSRC HBX halen HNXT
          go_wp2
          go_roundg f
          case measure => omega
          case rel => exact ⟨⟨s.c, sm9, mn9, gh9⟩, _, _, _, _, HFF.out.symm, rfl, HNX⟩
        · have hBd : ((((n2 : Nat) : Int)) == 0) = false := by rw [beq_eq_false_iff_ne]; omega
          have KR := Lib.hid (fun m : Nat => KMN.out (by omega) (wr.drewN m) (below_drewn (Below.refl _ _) m))
          clear KSM KMN
          go_upto_region 3 with fail
          go_quiet (first | (go_at_call 25; with_reducible exact KT.out _ _))
          go_wp2_with fail
          refine (KR.out _).mono ?_
          rintro e w5 ⟨v1, v2, v3, he, hb5', hs5, hw1, hw2, hw3⟩
          have hb5 := (below_drewn (Below.refl wr.heap.size wr) _).trans hb5'
          obtain ⟨Fa1, na1, da1, rfl⟩ := hs5.form1
          obtain ⟨Fa2, na2, da2, rfl⟩ := hs5.form2
          obtain ⟨Fa3, na3, da3, rfl⟩ := hs5.form3
          rw [HNXT.out.c] at he
          subst he
          obtain ⟨⟨c9, sm9, mn9, gh9⟩, x⟩ := R
          have hc9 : c9 = s.c := HNXT.out.c
          subst hc9
          dsimp only at hs5 HNXT
          have hxa := (HBX.out.step hb5).step (low_one w5 (.cells (l10C s.c (.slice Fa1 na1 da1) (.slice Fa2 na2 da2) (.slice Fa3 na3 da3)) T10))
          have hsa := hs5.below (low_one w5 (.cells (l10C s.c (.slice Fa1 na1 da1) (.slice Fa2 na2 da2) (.slice Fa3 na3 da3)) T10))
          have hka := (HKO.out.below HBX.out.bo.low.size hb5).alloc (HBX.out.step hb5).bo.low.size (.cells (l10C s.c (.slice Fa1 na1 da1) (.slice Fa2 na2 da2) (.slice Fa3 na3 da3)) T10)
          have hne : w.heap.size ≠ w5.heap.size := by have := (head_row (HBX.out.step hb5).bo.box).lt; omega
          clear x0 x1 x2 x3 xf0 xf1 xf2 xf3 hbb
          obtain ⟨⟨x0, x1, x2, x3⟩, xf0, xf1, xf2, xf3⟩ := c4_at hxa.bo.box
          try dsimp only at x0 x1 x2 x3
          have hbb := (head_row hxa.bo.box).lt
          have hnew := heap_alloc_new w5 (.cells (l10C s.c (.slice Fa1 na1 da1) (.slice Fa2 na2 da2) (.slice Fa3 na3 da3)) T10)
          obtain ⟨⟨z0, z1, z2, z3⟩, zf0, zf1, zf2, zf3⟩ := c4_at hnew
          have HP := Lib.hid (hxa.put hsa)
          have HK2 := Lib.hid (hxa.bo.ko (hxa.putOnly (s' := ⟨s.c, sm9, mn9, gh9⟩) (v1 := .slice Fa1 na1 da1) (v2 := .slice Fa2 na2 da2) (v3 := .slice Fa3 na3 da3)) hka)
          have HO5 := Lib.hid (And.intro (hw1.off HOF.out.1 HKO.out.lt) (And.intro (hw2.off HOF.out.2.1 HKO.out.lt) (hw3.off HOF.out.2.2 HKO.out.lt)))
          clear hxa hsa hka hnew hb5 hb5' hs5 hw1 hw2 hw3 HOF HKO HBX KR KT
          go_upto_region 8 with fail
          generalize w5.alloc (.cells (l10C s.c (.slice Fa1 na1 da1) (.slice Fa2 na2 da2) (.slice Fa3 na3 da3)) T10) = wx at *
          generalize w5.heap.size = P at *
          have hne2 := hne.symm
          go_upto_region 9 with fail
          generalize (((wx.setCell ⟨w.heap.size, 0, none⟩ (.int .i64 (s.c : Nat))).setCell ⟨w.heap.size, 1, none⟩ (.slice Fa1 na1 da1)).setCell ⟨w.heap.size, 2, none⟩ (.slice Fa2 na2 da2)).setCell ⟨w.heap.size, 3, none⟩ (.slice Fa3 na3 da3) = w6 at HP HK2 ⊢
          have HOW := Lib.hid (HK2.out.alloc HP.out.bo.low.size (.cells #[.int .u64 (x : Nat)] 35))
          have HSRC := Lib.hid (KV.one w6 x)
          have HBX := Lib.hid (HP.out.step (low_one w6 (.cells #[.int .u64 (x : Nat)] 35)))
          have hszA : w.heap.size ≤ (w6.alloc (.cells #[.int .u64 (x : Nat)] 35)).heap.size := HBX.out.bo.low.size
          have halen := HAL.out
          clear x0 x1 x2 x3 xf0 xf1 xf2 xf3 z0 z1 z2 z3 zf0 zf1 zf2 zf3 hbb HP HK2 HAL hne hne2 hgtI
          go_wp2_with (at_builtin; refine wpList_append_kv rfl (.tmp 49) (.tmp 51) rfl w.heap.size (by kernel_rfl) (by kernel_rfl) v6 acc rfl HOW.out _ [x] rfl HSRC.out (by simp; omega) hszA ?_)
          intro v7 w7 hown7 hkp hkt
          have hst := HBX.out.st
          obtain ⟨k1, f1⟩ := hkp.iv hst.g1 HO5.out.1
          obtain ⟨k2, f2⟩ := hkp.iv hst.g2 HO5.out.2.1
          obtain ⟨k3, f3⟩ := hkp.kv hst.g3 HO5.out.2.2
          have hx := HNXT.out
          have hff := hx.f
          have HNX : Hid (At10 w w7 w.heap.size (w.heap.size + 1) s N ⟨s.c, sm9, mn9, gh9⟩ (.slice Fa1 na1 da1) (.slice Fa2 na2 da2) (.slice Fa3 na3 da3) v7) := Lib.hid
            ⟨⟨HBX.out.bo.kt hkt hown7.low, k1, k2, k3⟩, ⟨acc ++ [x], hown7, by rw [hff]; exact hx.out, by have h9 := congrArg List.length hx.out; have h8 := HSL.out; rw [List.length_append] at h9; omega⟩, by rw [hff]; exact hx.li, hx.fine, rfl, hx.tot, hx.gl, f1, f2, f3⟩
          have hgf : f < gk := by have := HHF.out; have := HGK.out; omega
          have HFF := Lib.hid hff
          clear hst k1 f1 k2 f2 k3 f3 hff hown7 hkp hkt hx HO5 HHF HGK HOW HSRC HBX halen HNXT
          go_wp2
          go_roundg f
          case measure => omega
          case rel => exact ⟨⟨s.c, sm9, mn9, gh9⟩, _, _, _, _, HFF.out.symm, rfl, HNX⟩
    · have hgtI : ¬ (N : Int) < (n1 : Int) + (n2 : Int) := by omega
      obtain ⟨acc, hko, hac, hal⟩ := HI.out.ko
      have hli := HI.out.li
      rw [show σ.total - N = 0 by omega] at hac hli
      have HE : Hid (s.shr N = σ ∧ s.shrOut N = acc) := Lib.hid ⟨hli.symm, by rw [← hac]; simp [L10.shrN]⟩
      have HX := Lib.hid HI.out.bx
      have HCC := Lib.hid HI.out.c
      have HA := Lib.hid hko.kv
      obtain ⟨⟨y0, y1, y2, y3⟩, yf0, yf1, yf2, yf3⟩ := c4_at HI.out.bx.bo.res
      have hrr := (head_row HI.out.bx.bo.res).lt
      clear hko hac hal hli HI hgt hi htt hn1 hn2
      go_wp2
      exact bodyPost_ret (v := .tuple #[.agg (l10C s.c (.slice F1 n1 d1) (.slice F2 n2 d2) (.slice F3 n3 d3)), v6]) (by simp [results, Try.results53, go_sem, y0, y1, y2, y3]) rfl (by rw [HE.out.1, HE.out.2, ← HCC.out]; exact HX.out.doneo HA.out)
end
end Go.Proofs.Ytlekhmpalcgbmaa
