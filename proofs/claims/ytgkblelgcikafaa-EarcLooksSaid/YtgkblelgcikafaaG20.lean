/- Words and walks: RcT. -/
import Derived.Test.YtgkblelgcikafaaG19
namespace Go.Proofs.Ytgkblelgcikafaa
open Go Go.RowKit Go.Deep
def L11.rep (s : L11) (g : Bool) : L11 := if s.t1.length + s.t2.length < s.c then s else s.ev (decide (fst1 s.p g s.t1.length s.t2.length))
def L11.repOut (s : L11) (g : Bool) : List Nat := if s.t1.length + s.t2.length < s.c then [] else [s.evk (decide (fst1 s.p g s.t1.length s.t2.length))]
theorem L11.rep_cut {s : L11} (h : s.Fine) (hl : s.t1.length + s.t2.length ≤ s.c) (hp : 1 ≤ s.c) (g : Bool) : s.rep g = s.cut (s.c - 1) g ∧ s.repOut g = s.cutOut (s.c - 1) g := by
  unfold L11.rep L11.repOut L11.cut L11.cutOut L11.li L11.lm
  by_cases h1 : s.t1.length + s.t2.length < s.c
  · have hm : s.many (s.c - 1) = 0 := by unfold L11.many; omega
    rw [if_pos h1, if_pos h1, hm]
    simp [cuI, cuM, cuO]
  · have hm : s.many (s.c - 1) = 1 := by unfold L11.many; omega
    rw [if_neg h1, if_neg h1, hm]
    by_cases hf : fst1 s.p g s.t1.length s.t2.length
    · have h0 := fst1_pos hf (by omega)
      rw [decide_eq_true hf, cuI_in hf, cuM_in hf, cuO_in hf]
      have hd : s.t1.drop (s.t1.length - 1) = [s.t1.getD (s.t1.length - 1) 0] := by
        rw [List.drop_eq_getElem_cons (by omega), List.drop_eq_nil_of_le (by omega)]
        simp [List.getD_eq_getElem?_getD, List.getElem?_eq_getElem (show s.t1.length - 1 < s.t1.length by omega)]
      have hn : s.t1.getD (s.t1.length - 1) 0 ∉ s.b1 := fun hb => by
        have h2 := count_in.1 hb
        have h3 : s.t1.getD (s.t1.length - 1) 0 ∈ s.t1 := List.mem_of_mem_drop (i := s.t1.length - 1) (by rw [hd]; simp)
        have h4 := count_in.1 h3
        have h5 := h.one (s.t1.getD (s.t1.length - 1) 0)
        unfold L11.cnt at h5
        omega
      simp only [cuI, cuM, cuO, L11.ev, L11.evk, List.take_length, List.drop_length, List.nil_append]
      rw [fr, wo_none8 hn, hd]
      simp
    · have h0 := fst1_neg hf
      rw [decide_eq_false hf, cuI_out hf, cuM_out hf, cuO_out hf]
      have hd : s.t2.drop (s.t2.length - 1) = [s.t2.getD (s.t2.length - 1) 0] := by
        rw [List.drop_eq_getElem_cons (by omega), List.drop_eq_nil_of_le (by omega)]
        simp [List.getD_eq_getElem?_getD, List.getElem?_eq_getElem (show s.t2.length - 1 < s.t2.length by omega)]
      have hn : s.t2.getD (s.t2.length - 1) 0 ∉ s.b2 := fun hb => by
        have h2 := count_in.1 hb
        have h3 : s.t2.getD (s.t2.length - 1) 0 ∈ s.t2 := List.mem_of_mem_drop (i := s.t2.length - 1) (by rw [hd]; simp)
        have h4 := count_in.1 h3
        have h5 := h.one (s.t2.getD (s.t2.length - 1) 0)
        unfold L11.cnt at h5
        omega
      simp only [cuI, cuM, cuO, L11.ev, L11.evk, List.take_length, List.drop_length, List.nil_append]
      rw [fr, wo_none8 hn, hd]
      simp
section
variable {w : World} {u1 u2 u3 u4 : Value} {s : L11}
set_option maxHeartbeats 4000000 in
theorem r11replace_walk (g : Bool) (hs : St11 w s u1 u2 u3 u4) (hc : s.c ≤ 1048576) (hp : s.p ≤ 1048576) (hc1 : 1 ≤ s.c) (l1 : s.t1.length ≤ 1048576) (l2 : s.t2.length ≤ 1048576) (l3 : s.b1.length ≤ 99999999) (l4 : s.b2.length ≤ 99999999) : Calls Try.prog 77 #[.agg (l11C s.c s.p u1 u2 u3 u4), .bool g] w (P11n w (s.rep g) (s.repOut g) u1 u2 u3 u4) := by
  obtain ⟨F1, d1, rfl, -⟩ := hs.g1.mem
  obtain ⟨F2, d2, rfl, -⟩ := hs.g2.mem
  obtain ⟨F3, n3, d3, rfl⟩ := hs.form3
  obtain ⟨F4, n4, d4, rfl⟩ := hs.form4
  have HX0 := Lib.hid (Bx11.start w T11 (by decide) hs)
  unfold L11.rep L11.repOut
  have KE : Hid (∀ q, q = decide (fst1 s.p g s.t1.length s.t2.length) → ¬ s.t1.length + s.t2.length < s.c → ∀ W, Below w.heap.size w W → Calls Try.prog 56 #[.agg (l11C s.c s.p (.slice F1 s.t1.length d1) (.slice F2 s.t2.length d2) (.slice F3 n3 d3) (.slice F4 n4 d4)), .bool q] W (P11n W (s.ev q) [s.evk q] (.slice F1 s.t1.length d1) (.slice F2 s.t2.length d2) (.slice F3 n3 d3) (.slice F4 n4 d4))) := Lib.hid (fun q hq hn W hb => r11evict_walk q (hs.below hb) (fun e => fst1_pos (of_decide_eq_true (hq.symm.trans e)) (by omega)) (fun e => fst1_neg (of_decide_eq_false (hq.symm.trans e))) (by omega) (by omega) l3 l4)
  obtain ⟨n1, hn1⟩ : ∃ n, s.t1.length = n := ⟨_, rfl⟩
  obtain ⟨n2, hn2⟩ : ∃ n, s.t2.length = n := ⟨_, rfl⟩
  rw [hn1, hn2] at KE HX0 ⊢
  rw [hn1] at l1
  rw [hn2] at l2
  have HCP : Hid (∀ q, (s.ev q).c = s.c ∧ (s.ev q).p = s.p) := Lib.hid (fun q => by cases q <;> exact ⟨rfl, rfl⟩)
  have HST := Lib.hid (fun (W : World) (h : Below w.heap.size w W) => hs.below h)
  rw [hn1, hn2] at HST
  clear hs hn1 hn2 l3 l4
  generalize s.ev = EV at *
  generalize s.evk = EK at *
  obtain ⟨c, pp, q1, q2, q3, q4⟩ := s
  simp only at *
  have i1 : (n1 : Int) ≤ 1048576 := by omega
  have i2 : (n2 : Int) ≤ 1048576 := by omega
  have hlow := HX0.out.bo.low
  generalize hW0 : World.alloc _ (.cells z11 T11) = W0 at HX0 hlow
  have HW0 := Lib.hid hW0
  have HLW := Lib.hid hlow
  clear hW0 hlow
  by_cases hlt : n1 + n2 < c
  · rw [if_pos hlt, if_pos hlt]
    have hltI : (n1 : Int) + (n2 : Int) < (c : Int) := by omega
    clear KE HX0 HLW HW0
    go_enter Try.func77, Try.ntmps77
    go_wp2
    exact bodyPost_ret (v := .tuple #[.agg (l11C c pp (.slice F1 n1 d1) (.slice F2 n2 d2) (.slice F3 n3 d3) (.slice F4 n4 d4)), .slice none 0 0]) (by simp [results, Try.results77, go_sem]) rfl ⟨_, _, _, _, _, rfl, low_two w _ _, HST.out _ (low_two w _ _), KV.nil _, Nw.refl _ _, Nw.refl _ _, Nw.refl _ _, Nw.refl _ _⟩
  · rw [if_neg hlt, if_neg hlt]
    have hltI : ¬ (n1 : Int) + (n2 : Int) < (c : Int) := by omega
    by_cases hz : n2 = 0
    · rcases Nat.lt_trichotomy n1 pp with hpl | hpe | hpg
      · subst hz
        have j0 : ¬ (n1 : Int) ≤ 0 := by omega
        have j1 : ¬ (pp : Int) < (n1 : Int) := by omega
        have j2 : ((n1 : Int) == (pp : Int)) = false := by rw [beq_eq_false_iff_ne]; omega
        have hq : decide (fst1 pp g n1 0) = true := decide_eq_true (by unfold fst1; first | exact .inl rfl | exact .inr ⟨by omega, .inl (by omega)⟩ | exact .inr ⟨by omega, .inr ⟨rfl, rfl⟩⟩)
        have KQ := Lib.hid (KE.out true hq.symm hlt W0 HLW.out)
        rw [hq]
        clear hq hlt
        clear KE
        obtain ⟨hec, hep⟩ := HCP.out true
        obtain ⟨k0, hk0⟩ : ∃ k0, EK true = k0 := ⟨_, rfl⟩
        obtain ⟨se, hse⟩ : ∃ se, EV true = se := ⟨_, rfl⟩
        rw [hse, hk0] at KQ
        rw [hse] at hec hep
        rw [hse, hk0]
        clear hse hk0 HCP
        obtain ⟨⟨x0, x1, x2, x3, x4, x5⟩, xf0, xf1, xf2, xf3, xf4, xf5⟩ := c6_at HX0.out.bo.box
        obtain ⟨⟨y0, y1, y2, y3, y4, y5⟩, yf0, yf1, yf2, yf3, yf4, yf5⟩ := c6_at HX0.out.bo.res
        have hbb := (head_row HX0.out.bo.box).lt
        have hrr := (head_row HX0.out.bo.res).lt
        go_enter Try.func77, Try.ntmps77
        go_wp2_with fail
        rw [HW0.out]
        clear HW0
        go_wp2_with fail
        refine KQ.out.mono ?_
        rintro e wc ⟨v1, v2, v3, v4, o, he, hbc, hsc, hoc, hw1, hw2, hw3, hw4⟩
        obtain ⟨Fc1, nc1, dc1, rfl⟩ := hsc.form1
        obtain ⟨Fc2, nc2, dc2, rfl⟩ := hsc.form2
        obtain ⟨Fc3, nc3, dc3, rfl⟩ := hsc.form3
        obtain ⟨Fc4, nc4, dc4, rfl⟩ := hsc.form4
        rw [hec, hep] at he
        subst he
        have hbo := HX0.out.bo.step hbc
        clear x0 x1 x2 x3 x4 x5 xf0 xf1 xf2 xf3 xf4 xf5 y0 y1 y2 y3 y4 y5 yf0 yf1 yf2 yf3 yf4 yf5 hbb hrr
        obtain ⟨⟨y0, y1, y2, y3, y4, y5⟩, yf0, yf1, yf2, yf3, yf4, yf5⟩ := c6_at hbo.res
        have hrr := (head_row hbo.res).lt
        have HBO := Lib.hid hbo
        have HSC := Lib.hid (And.intro hsc hoc)
        have hlb := HLW.out.size
        have HNW := Lib.hid (And.intro ((Nw.refl w.heap.size (.slice F1 n1 d1)).trans hw1 hlb) (And.intro ((Nw.refl w.heap.size (.slice F2 0 d2)).trans hw2 hlb) (And.intro ((Nw.refl w.heap.size (.slice F3 n3 d3)).trans hw3 hlb) ((Nw.refl w.heap.size (.slice F4 n4 d4)).trans hw4 hlb))))
        have HEC := Lib.hid (And.intro hec hep)
        clear hlb hw1 hw2 hw3 hw4 hbo hsc hoc hbc KQ HX0 HLW hec hep
        go_wp2
        have HO : Hid (Only [w.heap.size, w.heap.size + 1] wc ((((((wc.setCell ⟨w.heap.size + 1, 0, none⟩ (.int .i64 (c : Nat))).setCell ⟨w.heap.size + 1, 1, none⟩ (.int .i64 (pp : Nat))).setCell ⟨w.heap.size + 1, 2, none⟩ (.slice Fc1 nc1 dc1)).setCell ⟨w.heap.size + 1, 3, none⟩ (.slice Fc2 nc2 dc2)).setCell ⟨w.heap.size + 1, 4, none⟩ (.slice Fc3 nc3 dc3)).setCell ⟨w.heap.size + 1, 5, none⟩ (.slice Fc4 nc4 dc4))) := Lib.hid (((((((Only.refl _ _).setCell (by simp) _).setCell (by simp) _).setCell (by simp) _).setCell (by simp) _).setCell (by simp) _).setCell (by simp) _)
        exact bodyPost_ret (v := .tuple #[.agg (l11C c pp (.slice Fc1 nc1 dc1) (.slice Fc2 nc2 dc2) (.slice Fc3 nc3 dc3) (.slice Fc4 nc4 dc4)), o]) (by simp [results, Try.results77, go_sem, y0, y1, y2, y3, y4, y5]) rfl ⟨_, _, _, _, _, by rw [HEC.out.1, HEC.out.2], HBO.out.fin HO.out, HBO.out.st11 HO.out HSC.out.1, HBO.out.kv HO.out HSC.out.2, HNW.out⟩
      · cases g
        · subst hz
          have j0 : ¬ (n1 : Int) ≤ 0 := by omega
          subst hpe
          have j1 : ¬ (n1 : Int) < (n1 : Int) := by omega
          have hq : decide (fst1 n1 false n1 0) = true := decide_eq_true (by unfold fst1; first | exact .inl rfl | exact .inr ⟨by omega, .inl (by omega)⟩ | exact .inr ⟨by omega, .inr ⟨rfl, rfl⟩⟩)
          have KQ := Lib.hid (KE.out true hq.symm hlt W0 HLW.out)
          rw [hq]
          clear hq hlt
          clear KE
          obtain ⟨hec, hep⟩ := HCP.out true
          obtain ⟨k0, hk0⟩ : ∃ k0, EK true = k0 := ⟨_, rfl⟩
          obtain ⟨se, hse⟩ : ∃ se, EV true = se := ⟨_, rfl⟩
          rw [hse, hk0] at KQ
          rw [hse] at hec hep
          rw [hse, hk0]
          clear hse hk0 HCP
          obtain ⟨⟨x0, x1, x2, x3, x4, x5⟩, xf0, xf1, xf2, xf3, xf4, xf5⟩ := c6_at HX0.out.bo.box
          obtain ⟨⟨y0, y1, y2, y3, y4, y5⟩, yf0, yf1, yf2, yf3, yf4, yf5⟩ := c6_at HX0.out.bo.res
          have hbb := (head_row HX0.out.bo.box).lt
          have hrr := (head_row HX0.out.bo.res).lt
          go_enter Try.func77, Try.ntmps77
          go_wp2_with fail
          rw [HW0.out]
          clear HW0
          go_wp2_with fail
          refine KQ.out.mono ?_
          rintro e wc ⟨v1, v2, v3, v4, o, he, hbc, hsc, hoc, hw1, hw2, hw3, hw4⟩
          obtain ⟨Fc1, nc1, dc1, rfl⟩ := hsc.form1
          obtain ⟨Fc2, nc2, dc2, rfl⟩ := hsc.form2
          obtain ⟨Fc3, nc3, dc3, rfl⟩ := hsc.form3
          obtain ⟨Fc4, nc4, dc4, rfl⟩ := hsc.form4
          rw [hec, hep] at he
          subst he
          have hbo := HX0.out.bo.step hbc
          clear x0 x1 x2 x3 x4 x5 xf0 xf1 xf2 xf3 xf4 xf5 y0 y1 y2 y3 y4 y5 yf0 yf1 yf2 yf3 yf4 yf5 hbb hrr
          obtain ⟨⟨y0, y1, y2, y3, y4, y5⟩, yf0, yf1, yf2, yf3, yf4, yf5⟩ := c6_at hbo.res
          have hrr := (head_row hbo.res).lt
          have HBO := Lib.hid hbo
          have HSC := Lib.hid (And.intro hsc hoc)
          have hlb := HLW.out.size
          have HNW := Lib.hid (And.intro ((Nw.refl w.heap.size (.slice F1 n1 d1)).trans hw1 hlb) (And.intro ((Nw.refl w.heap.size (.slice F2 0 d2)).trans hw2 hlb) (And.intro ((Nw.refl w.heap.size (.slice F3 n3 d3)).trans hw3 hlb) ((Nw.refl w.heap.size (.slice F4 n4 d4)).trans hw4 hlb))))
          have HEC := Lib.hid (And.intro hec hep)
          clear hlb hw1 hw2 hw3 hw4 hbo hsc hoc hbc KQ HX0 HLW hec hep
          go_wp2
          have HO : Hid (Only [w.heap.size, w.heap.size + 1] wc ((((((wc.setCell ⟨w.heap.size + 1, 0, none⟩ (.int .i64 (c : Nat))).setCell ⟨w.heap.size + 1, 1, none⟩ (.int .i64 (n1 : Nat))).setCell ⟨w.heap.size + 1, 2, none⟩ (.slice Fc1 nc1 dc1)).setCell ⟨w.heap.size + 1, 3, none⟩ (.slice Fc2 nc2 dc2)).setCell ⟨w.heap.size + 1, 4, none⟩ (.slice Fc3 nc3 dc3)).setCell ⟨w.heap.size + 1, 5, none⟩ (.slice Fc4 nc4 dc4))) := Lib.hid (((((((Only.refl _ _).setCell (by simp) _).setCell (by simp) _).setCell (by simp) _).setCell (by simp) _).setCell (by simp) _).setCell (by simp) _)
          exact bodyPost_ret (v := .tuple #[.agg (l11C c n1 (.slice Fc1 nc1 dc1) (.slice Fc2 nc2 dc2) (.slice Fc3 nc3 dc3) (.slice Fc4 nc4 dc4)), o]) (by simp [results, Try.results77, go_sem, y0, y1, y2, y3, y4, y5]) rfl ⟨_, _, _, _, _, by rw [HEC.out.1, HEC.out.2], HBO.out.fin HO.out, HBO.out.st11 HO.out HSC.out.1, HBO.out.kv HO.out HSC.out.2, HNW.out⟩
        · subst hz
          have j0 : ¬ (n1 : Int) ≤ 0 := by omega
          subst hpe
          have j1 : ¬ (n1 : Int) < (n1 : Int) := by omega
          have hq : decide (fst1 n1 true n1 0) = true := decide_eq_true (by unfold fst1; first | exact .inl rfl | exact .inr ⟨by omega, .inl (by omega)⟩ | exact .inr ⟨by omega, .inr ⟨rfl, rfl⟩⟩)
          have KQ := Lib.hid (KE.out true hq.symm hlt W0 HLW.out)
          rw [hq]
          clear hq hlt
          clear KE
          obtain ⟨hec, hep⟩ := HCP.out true
          obtain ⟨k0, hk0⟩ : ∃ k0, EK true = k0 := ⟨_, rfl⟩
          obtain ⟨se, hse⟩ : ∃ se, EV true = se := ⟨_, rfl⟩
          rw [hse, hk0] at KQ
          rw [hse] at hec hep
          rw [hse, hk0]
          clear hse hk0 HCP
          obtain ⟨⟨x0, x1, x2, x3, x4, x5⟩, xf0, xf1, xf2, xf3, xf4, xf5⟩ := c6_at HX0.out.bo.box
          obtain ⟨⟨y0, y1, y2, y3, y4, y5⟩, yf0, yf1, yf2, yf3, yf4, yf5⟩ := c6_at HX0.out.bo.res
          have hbb := (head_row HX0.out.bo.box).lt
          have hrr := (head_row HX0.out.bo.res).lt
          go_enter Try.func77, Try.ntmps77
          go_wp2_with fail
          rw [HW0.out]
          clear HW0
          go_wp2_with fail
          refine KQ.out.mono ?_
          rintro e wc ⟨v1, v2, v3, v4, o, he, hbc, hsc, hoc, hw1, hw2, hw3, hw4⟩
          obtain ⟨Fc1, nc1, dc1, rfl⟩ := hsc.form1
          obtain ⟨Fc2, nc2, dc2, rfl⟩ := hsc.form2
          obtain ⟨Fc3, nc3, dc3, rfl⟩ := hsc.form3
          obtain ⟨Fc4, nc4, dc4, rfl⟩ := hsc.form4
          rw [hec, hep] at he
          subst he
          have hbo := HX0.out.bo.step hbc
          clear x0 x1 x2 x3 x4 x5 xf0 xf1 xf2 xf3 xf4 xf5 y0 y1 y2 y3 y4 y5 yf0 yf1 yf2 yf3 yf4 yf5 hbb hrr
          obtain ⟨⟨y0, y1, y2, y3, y4, y5⟩, yf0, yf1, yf2, yf3, yf4, yf5⟩ := c6_at hbo.res
          have hrr := (head_row hbo.res).lt
          have HBO := Lib.hid hbo
          have HSC := Lib.hid (And.intro hsc hoc)
          have hlb := HLW.out.size
          have HNW := Lib.hid (And.intro ((Nw.refl w.heap.size (.slice F1 n1 d1)).trans hw1 hlb) (And.intro ((Nw.refl w.heap.size (.slice F2 0 d2)).trans hw2 hlb) (And.intro ((Nw.refl w.heap.size (.slice F3 n3 d3)).trans hw3 hlb) ((Nw.refl w.heap.size (.slice F4 n4 d4)).trans hw4 hlb))))
          have HEC := Lib.hid (And.intro hec hep)
          clear hlb hw1 hw2 hw3 hw4 hbo hsc hoc hbc KQ HX0 HLW hec hep
          go_wp2
          have HO : Hid (Only [w.heap.size, w.heap.size + 1] wc ((((((wc.setCell ⟨w.heap.size + 1, 0, none⟩ (.int .i64 (c : Nat))).setCell ⟨w.heap.size + 1, 1, none⟩ (.int .i64 (n1 : Nat))).setCell ⟨w.heap.size + 1, 2, none⟩ (.slice Fc1 nc1 dc1)).setCell ⟨w.heap.size + 1, 3, none⟩ (.slice Fc2 nc2 dc2)).setCell ⟨w.heap.size + 1, 4, none⟩ (.slice Fc3 nc3 dc3)).setCell ⟨w.heap.size + 1, 5, none⟩ (.slice Fc4 nc4 dc4))) := Lib.hid (((((((Only.refl _ _).setCell (by simp) _).setCell (by simp) _).setCell (by simp) _).setCell (by simp) _).setCell (by simp) _).setCell (by simp) _)
          exact bodyPost_ret (v := .tuple #[.agg (l11C c n1 (.slice Fc1 nc1 dc1) (.slice Fc2 nc2 dc2) (.slice Fc3 nc3 dc3) (.slice Fc4 nc4 dc4)), o]) (by simp [results, Try.results77, go_sem, y0, y1, y2, y3, y4, y5]) rfl ⟨_, _, _, _, _, by rw [HEC.out.1, HEC.out.2], HBO.out.fin HO.out, HBO.out.st11 HO.out HSC.out.1, HBO.out.kv HO.out HSC.out.2, HNW.out⟩
      · subst hz
        have j0 : ¬ (n1 : Int) ≤ 0 := by omega
        have j1 : (pp : Int) < (n1 : Int) := by omega
        have hq : decide (fst1 pp g n1 0) = true := decide_eq_true (by unfold fst1; first | exact .inl rfl | exact .inr ⟨by omega, .inl (by omega)⟩ | exact .inr ⟨by omega, .inr ⟨rfl, rfl⟩⟩)
        have KQ := Lib.hid (KE.out true hq.symm hlt W0 HLW.out)
        rw [hq]
        clear hq hlt
        clear KE
        obtain ⟨hec, hep⟩ := HCP.out true
        obtain ⟨k0, hk0⟩ : ∃ k0, EK true = k0 := ⟨_, rfl⟩
        obtain ⟨se, hse⟩ : ∃ se, EV true = se := ⟨_, rfl⟩
        rw [hse, hk0] at KQ
        rw [hse] at hec hep
        rw [hse, hk0]
        clear hse hk0 HCP
        obtain ⟨⟨x0, x1, x2, x3, x4, x5⟩, xf0, xf1, xf2, xf3, xf4, xf5⟩ := c6_at HX0.out.bo.box
        obtain ⟨⟨y0, y1, y2, y3, y4, y5⟩, yf0, yf1, yf2, yf3, yf4, yf5⟩ := c6_at HX0.out.bo.res
        have hbb := (head_row HX0.out.bo.box).lt
        have hrr := (head_row HX0.out.bo.res).lt
        go_enter Try.func77, Try.ntmps77
        go_wp2_with fail
        rw [HW0.out]
        clear HW0
        go_wp2_with fail
        refine KQ.out.mono ?_
        rintro e wc ⟨v1, v2, v3, v4, o, he, hbc, hsc, hoc, hw1, hw2, hw3, hw4⟩
        obtain ⟨Fc1, nc1, dc1, rfl⟩ := hsc.form1
        obtain ⟨Fc2, nc2, dc2, rfl⟩ := hsc.form2
        obtain ⟨Fc3, nc3, dc3, rfl⟩ := hsc.form3
        obtain ⟨Fc4, nc4, dc4, rfl⟩ := hsc.form4
        rw [hec, hep] at he
        subst he
        have hbo := HX0.out.bo.step hbc
        clear x0 x1 x2 x3 x4 x5 xf0 xf1 xf2 xf3 xf4 xf5 y0 y1 y2 y3 y4 y5 yf0 yf1 yf2 yf3 yf4 yf5 hbb hrr
        obtain ⟨⟨y0, y1, y2, y3, y4, y5⟩, yf0, yf1, yf2, yf3, yf4, yf5⟩ := c6_at hbo.res
        have hrr := (head_row hbo.res).lt
        have HBO := Lib.hid hbo
        have HSC := Lib.hid (And.intro hsc hoc)
        have hlb := HLW.out.size
        have HNW := Lib.hid (And.intro ((Nw.refl w.heap.size (.slice F1 n1 d1)).trans hw1 hlb) (And.intro ((Nw.refl w.heap.size (.slice F2 0 d2)).trans hw2 hlb) (And.intro ((Nw.refl w.heap.size (.slice F3 n3 d3)).trans hw3 hlb) ((Nw.refl w.heap.size (.slice F4 n4 d4)).trans hw4 hlb))))
        have HEC := Lib.hid (And.intro hec hep)
        clear hlb hw1 hw2 hw3 hw4 hbo hsc hoc hbc KQ HX0 HLW hec hep
        go_wp2
        have HO : Hid (Only [w.heap.size, w.heap.size + 1] wc ((((((wc.setCell ⟨w.heap.size + 1, 0, none⟩ (.int .i64 (c : Nat))).setCell ⟨w.heap.size + 1, 1, none⟩ (.int .i64 (pp : Nat))).setCell ⟨w.heap.size + 1, 2, none⟩ (.slice Fc1 nc1 dc1)).setCell ⟨w.heap.size + 1, 3, none⟩ (.slice Fc2 nc2 dc2)).setCell ⟨w.heap.size + 1, 4, none⟩ (.slice Fc3 nc3 dc3)).setCell ⟨w.heap.size + 1, 5, none⟩ (.slice Fc4 nc4 dc4))) := Lib.hid (((((((Only.refl _ _).setCell (by simp) _).setCell (by simp) _).setCell (by simp) _).setCell (by simp) _).setCell (by simp) _).setCell (by simp) _)
        exact bodyPost_ret (v := .tuple #[.agg (l11C c pp (.slice Fc1 nc1 dc1) (.slice Fc2 nc2 dc2) (.slice Fc3 nc3 dc3) (.slice Fc4 nc4 dc4)), o]) (by simp [results, Try.results77, go_sem, y0, y1, y2, y3, y4, y5]) rfl ⟨_, _, _, _, _, by rw [HEC.out.1, HEC.out.2], HBO.out.fin HO.out, HBO.out.st11 HO.out HSC.out.1, HBO.out.kv HO.out HSC.out.2, HNW.out⟩
    · by_cases hz1 : n1 = 0
      · subst hz1
        have j3 : ((n2 : Int) == 0) = false := by rw [beq_eq_false_iff_ne]; omega
        have hq : decide (fst1 pp g 0 n2) = false := decide_eq_false (by unfold fst1; rintro (h | ⟨h1, h2 | ⟨h2, h3⟩⟩) <;> first | omega | cases h3)
        have KQ := Lib.hid (KE.out false hq.symm hlt W0 HLW.out)
        rw [hq]
        clear hq hlt
        clear KE
        obtain ⟨hec, hep⟩ := HCP.out false
        obtain ⟨k0, hk0⟩ : ∃ k0, EK false = k0 := ⟨_, rfl⟩
        obtain ⟨se, hse⟩ : ∃ se, EV false = se := ⟨_, rfl⟩
        rw [hse, hk0] at KQ
        rw [hse] at hec hep
        rw [hse, hk0]
        clear hse hk0 HCP
        obtain ⟨⟨x0, x1, x2, x3, x4, x5⟩, xf0, xf1, xf2, xf3, xf4, xf5⟩ := c6_at HX0.out.bo.box
        obtain ⟨⟨y0, y1, y2, y3, y4, y5⟩, yf0, yf1, yf2, yf3, yf4, yf5⟩ := c6_at HX0.out.bo.res
        have hbb := (head_row HX0.out.bo.box).lt
        have hrr := (head_row HX0.out.bo.res).lt
        go_enter Try.func77, Try.ntmps77
        go_wp2_with fail
        rw [HW0.out]
        clear HW0
        go_wp2_with fail
        refine KQ.out.mono ?_
        rintro e wc ⟨v1, v2, v3, v4, o, he, hbc, hsc, hoc, hw1, hw2, hw3, hw4⟩
        obtain ⟨Fc1, nc1, dc1, rfl⟩ := hsc.form1
        obtain ⟨Fc2, nc2, dc2, rfl⟩ := hsc.form2
        obtain ⟨Fc3, nc3, dc3, rfl⟩ := hsc.form3
        obtain ⟨Fc4, nc4, dc4, rfl⟩ := hsc.form4
        rw [hec, hep] at he
        subst he
        have hbo := HX0.out.bo.step hbc
        clear x0 x1 x2 x3 x4 x5 xf0 xf1 xf2 xf3 xf4 xf5 y0 y1 y2 y3 y4 y5 yf0 yf1 yf2 yf3 yf4 yf5 hbb hrr
        obtain ⟨⟨y0, y1, y2, y3, y4, y5⟩, yf0, yf1, yf2, yf3, yf4, yf5⟩ := c6_at hbo.res
        have hrr := (head_row hbo.res).lt
        have HBO := Lib.hid hbo
        have HSC := Lib.hid (And.intro hsc hoc)
        have hlb := HLW.out.size
        have HNW := Lib.hid (And.intro ((Nw.refl w.heap.size (.slice F1 0 d1)).trans hw1 hlb) (And.intro ((Nw.refl w.heap.size (.slice F2 n2 d2)).trans hw2 hlb) (And.intro ((Nw.refl w.heap.size (.slice F3 n3 d3)).trans hw3 hlb) ((Nw.refl w.heap.size (.slice F4 n4 d4)).trans hw4 hlb))))
        have HEC := Lib.hid (And.intro hec hep)
        clear hlb hw1 hw2 hw3 hw4 hbo hsc hoc hbc KQ HX0 HLW hec hep
        go_wp2
        have HO : Hid (Only [w.heap.size, w.heap.size + 1] wc ((((((wc.setCell ⟨w.heap.size + 1, 0, none⟩ (.int .i64 (c : Nat))).setCell ⟨w.heap.size + 1, 1, none⟩ (.int .i64 (pp : Nat))).setCell ⟨w.heap.size + 1, 2, none⟩ (.slice Fc1 nc1 dc1)).setCell ⟨w.heap.size + 1, 3, none⟩ (.slice Fc2 nc2 dc2)).setCell ⟨w.heap.size + 1, 4, none⟩ (.slice Fc3 nc3 dc3)).setCell ⟨w.heap.size + 1, 5, none⟩ (.slice Fc4 nc4 dc4))) := Lib.hid (((((((Only.refl _ _).setCell (by simp) _).setCell (by simp) _).setCell (by simp) _).setCell (by simp) _).setCell (by simp) _).setCell (by simp) _)
        exact bodyPost_ret (v := .tuple #[.agg (l11C c pp (.slice Fc1 nc1 dc1) (.slice Fc2 nc2 dc2) (.slice Fc3 nc3 dc3) (.slice Fc4 nc4 dc4)), o]) (by simp [results, Try.results77, go_sem, y0, y1, y2, y3, y4, y5]) rfl ⟨_, _, _, _, _, by rw [HEC.out.1, HEC.out.2], HBO.out.fin HO.out, HBO.out.st11 HO.out HSC.out.1, HBO.out.kv HO.out HSC.out.2, HNW.out⟩
      · rcases Nat.lt_trichotomy n1 pp with hpl | hpe | hpg
        · have j3 : ((n2 : Int) == 0) = false := by rw [beq_eq_false_iff_ne]; omega
          have j0 : ¬ (n1 : Int) ≤ 0 := by omega
          have j1 : ¬ (pp : Int) < (n1 : Int) := by omega
          have j2 : ((n1 : Int) == (pp : Int)) = false := by rw [beq_eq_false_iff_ne]; omega
          have hq : decide (fst1 pp g n1 n2) = false := decide_eq_false (by unfold fst1; rintro (h | ⟨h1, h2 | ⟨h2, h3⟩⟩) <;> first | omega | cases h3)
          have KQ := Lib.hid (KE.out false hq.symm hlt W0 HLW.out)
          rw [hq]
          clear hq hlt
          clear KE
          obtain ⟨hec, hep⟩ := HCP.out false
          obtain ⟨k0, hk0⟩ : ∃ k0, EK false = k0 := ⟨_, rfl⟩
          obtain ⟨se, hse⟩ : ∃ se, EV false = se := ⟨_, rfl⟩
          rw [hse, hk0] at KQ
          rw [hse] at hec hep
          rw [hse, hk0]
          clear hse hk0 HCP
          obtain ⟨⟨x0, x1, x2, x3, x4, x5⟩, xf0, xf1, xf2, xf3, xf4, xf5⟩ := c6_at HX0.out.bo.box
          obtain ⟨⟨y0, y1, y2, y3, y4, y5⟩, yf0, yf1, yf2, yf3, yf4, yf5⟩ := c6_at HX0.out.bo.res
          have hbb := (head_row HX0.out.bo.box).lt
          have hrr := (head_row HX0.out.bo.res).lt
          go_enter Try.func77, Try.ntmps77
          go_wp2_with fail
          rw [HW0.out]
          clear HW0
          go_wp2_with fail
          refine KQ.out.mono ?_
          rintro e wc ⟨v1, v2, v3, v4, o, he, hbc, hsc, hoc, hw1, hw2, hw3, hw4⟩
          obtain ⟨Fc1, nc1, dc1, rfl⟩ := hsc.form1
          obtain ⟨Fc2, nc2, dc2, rfl⟩ := hsc.form2
          obtain ⟨Fc3, nc3, dc3, rfl⟩ := hsc.form3
          obtain ⟨Fc4, nc4, dc4, rfl⟩ := hsc.form4
          rw [hec, hep] at he
          subst he
          have hbo := HX0.out.bo.step hbc
          clear x0 x1 x2 x3 x4 x5 xf0 xf1 xf2 xf3 xf4 xf5 y0 y1 y2 y3 y4 y5 yf0 yf1 yf2 yf3 yf4 yf5 hbb hrr
          obtain ⟨⟨y0, y1, y2, y3, y4, y5⟩, yf0, yf1, yf2, yf3, yf4, yf5⟩ := c6_at hbo.res
          have hrr := (head_row hbo.res).lt
          have HBO := Lib.hid hbo
          have HSC := Lib.hid (And.intro hsc hoc)
          have hlb := HLW.out.size
          have HNW := Lib.hid (And.intro ((Nw.refl w.heap.size (.slice F1 n1 d1)).trans hw1 hlb) (And.intro ((Nw.refl w.heap.size (.slice F2 n2 d2)).trans hw2 hlb) (And.intro ((Nw.refl w.heap.size (.slice F3 n3 d3)).trans hw3 hlb) ((Nw.refl w.heap.size (.slice F4 n4 d4)).trans hw4 hlb))))
          have HEC := Lib.hid (And.intro hec hep)
          clear hlb hw1 hw2 hw3 hw4 hbo hsc hoc hbc KQ HX0 HLW hec hep
          go_wp2
          have HO : Hid (Only [w.heap.size, w.heap.size + 1] wc ((((((wc.setCell ⟨w.heap.size + 1, 0, none⟩ (.int .i64 (c : Nat))).setCell ⟨w.heap.size + 1, 1, none⟩ (.int .i64 (pp : Nat))).setCell ⟨w.heap.size + 1, 2, none⟩ (.slice Fc1 nc1 dc1)).setCell ⟨w.heap.size + 1, 3, none⟩ (.slice Fc2 nc2 dc2)).setCell ⟨w.heap.size + 1, 4, none⟩ (.slice Fc3 nc3 dc3)).setCell ⟨w.heap.size + 1, 5, none⟩ (.slice Fc4 nc4 dc4))) := Lib.hid (((((((Only.refl _ _).setCell (by simp) _).setCell (by simp) _).setCell (by simp) _).setCell (by simp) _).setCell (by simp) _).setCell (by simp) _)
          exact bodyPost_ret (v := .tuple #[.agg (l11C c pp (.slice Fc1 nc1 dc1) (.slice Fc2 nc2 dc2) (.slice Fc3 nc3 dc3) (.slice Fc4 nc4 dc4)), o]) (by simp [results, Try.results77, go_sem, y0, y1, y2, y3, y4, y5]) rfl ⟨_, _, _, _, _, by rw [HEC.out.1, HEC.out.2], HBO.out.fin HO.out, HBO.out.st11 HO.out HSC.out.1, HBO.out.kv HO.out HSC.out.2, HNW.out⟩
        · cases g
          · have j3 : ((n2 : Int) == 0) = false := by rw [beq_eq_false_iff_ne]; omega
            have j0 : ¬ (n1 : Int) ≤ 0 := by omega
            subst hpe
            have j1 : ¬ (n1 : Int) < (n1 : Int) := by omega
            have hq : decide (fst1 n1 false n1 n2) = false := decide_eq_false (by unfold fst1; rintro (h | ⟨h1, h2 | ⟨h2, h3⟩⟩) <;> first | omega | cases h3)
            have KQ := Lib.hid (KE.out false hq.symm hlt W0 HLW.out)
            rw [hq]
            clear hq hlt
            clear KE
            obtain ⟨hec, hep⟩ := HCP.out false
            obtain ⟨k0, hk0⟩ : ∃ k0, EK false = k0 := ⟨_, rfl⟩
            obtain ⟨se, hse⟩ : ∃ se, EV false = se := ⟨_, rfl⟩
            rw [hse, hk0] at KQ
            rw [hse] at hec hep
            rw [hse, hk0]
            clear hse hk0 HCP
            obtain ⟨⟨x0, x1, x2, x3, x4, x5⟩, xf0, xf1, xf2, xf3, xf4, xf5⟩ := c6_at HX0.out.bo.box
            obtain ⟨⟨y0, y1, y2, y3, y4, y5⟩, yf0, yf1, yf2, yf3, yf4, yf5⟩ := c6_at HX0.out.bo.res
            have hbb := (head_row HX0.out.bo.box).lt
            have hrr := (head_row HX0.out.bo.res).lt
            go_enter Try.func77, Try.ntmps77
            go_wp2_with fail
            rw [HW0.out]
            clear HW0
            go_wp2_with fail
            refine KQ.out.mono ?_
            rintro e wc ⟨v1, v2, v3, v4, o, he, hbc, hsc, hoc, hw1, hw2, hw3, hw4⟩
            obtain ⟨Fc1, nc1, dc1, rfl⟩ := hsc.form1
            obtain ⟨Fc2, nc2, dc2, rfl⟩ := hsc.form2
            obtain ⟨Fc3, nc3, dc3, rfl⟩ := hsc.form3
            obtain ⟨Fc4, nc4, dc4, rfl⟩ := hsc.form4
            rw [hec, hep] at he
            subst he
            have hbo := HX0.out.bo.step hbc
            clear x0 x1 x2 x3 x4 x5 xf0 xf1 xf2 xf3 xf4 xf5 y0 y1 y2 y3 y4 y5 yf0 yf1 yf2 yf3 yf4 yf5 hbb hrr
            obtain ⟨⟨y0, y1, y2, y3, y4, y5⟩, yf0, yf1, yf2, yf3, yf4, yf5⟩ := c6_at hbo.res
            have hrr := (head_row hbo.res).lt
            have HBO := Lib.hid hbo
            have HSC := Lib.hid (And.intro hsc hoc)
            have hlb := HLW.out.size
            have HNW := Lib.hid (And.intro ((Nw.refl w.heap.size (.slice F1 n1 d1)).trans hw1 hlb) (And.intro ((Nw.refl w.heap.size (.slice F2 n2 d2)).trans hw2 hlb) (And.intro ((Nw.refl w.heap.size (.slice F3 n3 d3)).trans hw3 hlb) ((Nw.refl w.heap.size (.slice F4 n4 d4)).trans hw4 hlb))))
            have HEC := Lib.hid (And.intro hec hep)
            clear hlb hw1 hw2 hw3 hw4 hbo hsc hoc hbc KQ HX0 HLW hec hep
            go_wp2
            have HO : Hid (Only [w.heap.size, w.heap.size + 1] wc ((((((wc.setCell ⟨w.heap.size + 1, 0, none⟩ (.int .i64 (c : Nat))).setCell ⟨w.heap.size + 1, 1, none⟩ (.int .i64 (n1 : Nat))).setCell ⟨w.heap.size + 1, 2, none⟩ (.slice Fc1 nc1 dc1)).setCell ⟨w.heap.size + 1, 3, none⟩ (.slice Fc2 nc2 dc2)).setCell ⟨w.heap.size + 1, 4, none⟩ (.slice Fc3 nc3 dc3)).setCell ⟨w.heap.size + 1, 5, none⟩ (.slice Fc4 nc4 dc4))) := Lib.hid (((((((Only.refl _ _).setCell (by simp) _).setCell (by simp) _).setCell (by simp) _).setCell (by simp) _).setCell (by simp) _).setCell (by simp) _)
            exact bodyPost_ret (v := .tuple #[.agg (l11C c n1 (.slice Fc1 nc1 dc1) (.slice Fc2 nc2 dc2) (.slice Fc3 nc3 dc3) (.slice Fc4 nc4 dc4)), o]) (by simp [results, Try.results77, go_sem, y0, y1, y2, y3, y4, y5]) rfl ⟨_, _, _, _, _, by rw [HEC.out.1, HEC.out.2], HBO.out.fin HO.out, HBO.out.st11 HO.out HSC.out.1, HBO.out.kv HO.out HSC.out.2, HNW.out⟩
          · have j3 : ((n2 : Int) == 0) = false := by rw [beq_eq_false_iff_ne]; omega
            have j0 : ¬ (n1 : Int) ≤ 0 := by omega
            subst hpe
            have j1 : ¬ (n1 : Int) < (n1 : Int) := by omega
            have hq : decide (fst1 n1 true n1 n2) = true := decide_eq_true (by unfold fst1; first | exact .inl rfl | exact .inr ⟨by omega, .inl (by omega)⟩ | exact .inr ⟨by omega, .inr ⟨rfl, rfl⟩⟩)
            have KQ := Lib.hid (KE.out true hq.symm hlt W0 HLW.out)
            rw [hq]
            clear hq hlt
            clear KE
            obtain ⟨hec, hep⟩ := HCP.out true
            obtain ⟨k0, hk0⟩ : ∃ k0, EK true = k0 := ⟨_, rfl⟩
            obtain ⟨se, hse⟩ : ∃ se, EV true = se := ⟨_, rfl⟩
            rw [hse, hk0] at KQ
            rw [hse] at hec hep
            rw [hse, hk0]
            clear hse hk0 HCP
            obtain ⟨⟨x0, x1, x2, x3, x4, x5⟩, xf0, xf1, xf2, xf3, xf4, xf5⟩ := c6_at HX0.out.bo.box
            obtain ⟨⟨y0, y1, y2, y3, y4, y5⟩, yf0, yf1, yf2, yf3, yf4, yf5⟩ := c6_at HX0.out.bo.res
            have hbb := (head_row HX0.out.bo.box).lt
            have hrr := (head_row HX0.out.bo.res).lt
            go_enter Try.func77, Try.ntmps77
            go_wp2_with fail
            rw [HW0.out]
            clear HW0
            go_wp2_with fail
            refine KQ.out.mono ?_
            rintro e wc ⟨v1, v2, v3, v4, o, he, hbc, hsc, hoc, hw1, hw2, hw3, hw4⟩
            obtain ⟨Fc1, nc1, dc1, rfl⟩ := hsc.form1
            obtain ⟨Fc2, nc2, dc2, rfl⟩ := hsc.form2
            obtain ⟨Fc3, nc3, dc3, rfl⟩ := hsc.form3
            obtain ⟨Fc4, nc4, dc4, rfl⟩ := hsc.form4
            rw [hec, hep] at he
            subst he
            have hbo := HX0.out.bo.step hbc
            clear x0 x1 x2 x3 x4 x5 xf0 xf1 xf2 xf3 xf4 xf5 y0 y1 y2 y3 y4 y5 yf0 yf1 yf2 yf3 yf4 yf5 hbb hrr
            obtain ⟨⟨y0, y1, y2, y3, y4, y5⟩, yf0, yf1, yf2, yf3, yf4, yf5⟩ := c6_at hbo.res
            have hrr := (head_row hbo.res).lt
            have HBO := Lib.hid hbo
            have HSC := Lib.hid (And.intro hsc hoc)
            have hlb := HLW.out.size
            have HNW := Lib.hid (And.intro ((Nw.refl w.heap.size (.slice F1 n1 d1)).trans hw1 hlb) (And.intro ((Nw.refl w.heap.size (.slice F2 n2 d2)).trans hw2 hlb) (And.intro ((Nw.refl w.heap.size (.slice F3 n3 d3)).trans hw3 hlb) ((Nw.refl w.heap.size (.slice F4 n4 d4)).trans hw4 hlb))))
            have HEC := Lib.hid (And.intro hec hep)
            clear hlb hw1 hw2 hw3 hw4 hbo hsc hoc hbc KQ HX0 HLW hec hep
            go_wp2
            have HO : Hid (Only [w.heap.size, w.heap.size + 1] wc ((((((wc.setCell ⟨w.heap.size + 1, 0, none⟩ (.int .i64 (c : Nat))).setCell ⟨w.heap.size + 1, 1, none⟩ (.int .i64 (n1 : Nat))).setCell ⟨w.heap.size + 1, 2, none⟩ (.slice Fc1 nc1 dc1)).setCell ⟨w.heap.size + 1, 3, none⟩ (.slice Fc2 nc2 dc2)).setCell ⟨w.heap.size + 1, 4, none⟩ (.slice Fc3 nc3 dc3)).setCell ⟨w.heap.size + 1, 5, none⟩ (.slice Fc4 nc4 dc4))) := Lib.hid (((((((Only.refl _ _).setCell (by simp) _).setCell (by simp) _).setCell (by simp) _).setCell (by simp) _).setCell (by simp) _).setCell (by simp) _)
            exact bodyPost_ret (v := .tuple #[.agg (l11C c n1 (.slice Fc1 nc1 dc1) (.slice Fc2 nc2 dc2) (.slice Fc3 nc3 dc3) (.slice Fc4 nc4 dc4)), o]) (by simp [results, Try.results77, go_sem, y0, y1, y2, y3, y4, y5]) rfl ⟨_, _, _, _, _, by rw [HEC.out.1, HEC.out.2], HBO.out.fin HO.out, HBO.out.st11 HO.out HSC.out.1, HBO.out.kv HO.out HSC.out.2, HNW.out⟩
        · have j3 : ((n2 : Int) == 0) = false := by rw [beq_eq_false_iff_ne]; omega
          have j0 : ¬ (n1 : Int) ≤ 0 := by omega
          have j1 : (pp : Int) < (n1 : Int) := by omega
          have hq : decide (fst1 pp g n1 n2) = true := decide_eq_true (by unfold fst1; first | exact .inl rfl | exact .inr ⟨by omega, .inl (by omega)⟩ | exact .inr ⟨by omega, .inr ⟨rfl, rfl⟩⟩)
          have KQ := Lib.hid (KE.out true hq.symm hlt W0 HLW.out)
          rw [hq]
          clear hq hlt
          clear KE
          obtain ⟨hec, hep⟩ := HCP.out true
          obtain ⟨k0, hk0⟩ : ∃ k0, EK true = k0 := ⟨_, rfl⟩
          obtain ⟨se, hse⟩ : ∃ se, EV true = se := ⟨_, rfl⟩
          rw [hse, hk0] at KQ
          rw [hse] at hec hep
          rw [hse, hk0]
          clear hse hk0 HCP
          obtain ⟨⟨x0, x1, x2, x3, x4, x5⟩, xf0, xf1, xf2, xf3, xf4, xf5⟩ := c6_at HX0.out.bo.box
          obtain ⟨⟨y0, y1, y2, y3, y4, y5⟩, yf0, yf1, yf2, yf3, yf4, yf5⟩ := c6_at HX0.out.bo.res
          have hbb := (head_row HX0.out.bo.box).lt
          have hrr := (head_row HX0.out.bo.res).lt
          go_enter Try.func77, Try.ntmps77
          go_wp2_with fail
          rw [HW0.out]
          clear HW0
          go_wp2_with fail
          refine KQ.out.mono ?_
          rintro e wc ⟨v1, v2, v3, v4, o, he, hbc, hsc, hoc, hw1, hw2, hw3, hw4⟩
          obtain ⟨Fc1, nc1, dc1, rfl⟩ := hsc.form1
          obtain ⟨Fc2, nc2, dc2, rfl⟩ := hsc.form2
          obtain ⟨Fc3, nc3, dc3, rfl⟩ := hsc.form3
          obtain ⟨Fc4, nc4, dc4, rfl⟩ := hsc.form4
          rw [hec, hep] at he
          subst he
          have hbo := HX0.out.bo.step hbc
          clear x0 x1 x2 x3 x4 x5 xf0 xf1 xf2 xf3 xf4 xf5 y0 y1 y2 y3 y4 y5 yf0 yf1 yf2 yf3 yf4 yf5 hbb hrr
          obtain ⟨⟨y0, y1, y2, y3, y4, y5⟩, yf0, yf1, yf2, yf3, yf4, yf5⟩ := c6_at hbo.res
          have hrr := (head_row hbo.res).lt
          have HBO := Lib.hid hbo
          have HSC := Lib.hid (And.intro hsc hoc)
          have hlb := HLW.out.size
          have HNW := Lib.hid (And.intro ((Nw.refl w.heap.size (.slice F1 n1 d1)).trans hw1 hlb) (And.intro ((Nw.refl w.heap.size (.slice F2 n2 d2)).trans hw2 hlb) (And.intro ((Nw.refl w.heap.size (.slice F3 n3 d3)).trans hw3 hlb) ((Nw.refl w.heap.size (.slice F4 n4 d4)).trans hw4 hlb))))
          have HEC := Lib.hid (And.intro hec hep)
          clear hlb hw1 hw2 hw3 hw4 hbo hsc hoc hbc KQ HX0 HLW hec hep
          go_wp2
          have HO : Hid (Only [w.heap.size, w.heap.size + 1] wc ((((((wc.setCell ⟨w.heap.size + 1, 0, none⟩ (.int .i64 (c : Nat))).setCell ⟨w.heap.size + 1, 1, none⟩ (.int .i64 (pp : Nat))).setCell ⟨w.heap.size + 1, 2, none⟩ (.slice Fc1 nc1 dc1)).setCell ⟨w.heap.size + 1, 3, none⟩ (.slice Fc2 nc2 dc2)).setCell ⟨w.heap.size + 1, 4, none⟩ (.slice Fc3 nc3 dc3)).setCell ⟨w.heap.size + 1, 5, none⟩ (.slice Fc4 nc4 dc4))) := Lib.hid (((((((Only.refl _ _).setCell (by simp) _).setCell (by simp) _).setCell (by simp) _).setCell (by simp) _).setCell (by simp) _).setCell (by simp) _)
          exact bodyPost_ret (v := .tuple #[.agg (l11C c pp (.slice Fc1 nc1 dc1) (.slice Fc2 nc2 dc2) (.slice Fc3 nc3 dc3) (.slice Fc4 nc4 dc4)), o]) (by simp [results, Try.results77, go_sem, y0, y1, y2, y3, y4, y5]) rfl ⟨_, _, _, _, _, by rw [HEC.out.1, HEC.out.2], HBO.out.fin HO.out, HBO.out.st11 HO.out HSC.out.1, HBO.out.kv HO.out HSC.out.2, HNW.out⟩
end
end Go.Proofs.Ytgkblelgcikafaa
