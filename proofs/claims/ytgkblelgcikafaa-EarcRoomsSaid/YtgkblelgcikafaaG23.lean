/- Words and walks: RcA. -/
import Derived.Test.YtgkblelgcikafaaG22
import Derived.Deep.RegionHeld3
import Derived.Deep.RegionWith
namespace Go.Proofs.Ytgkblelgcikafaa
open Go Go.RowKit Go.Deep
set_option maxRecDepth 8000
namespace L11
variable {s : L11} {n : Nat}
theorem last_split {l : List Nat} (h : 1 ≤ l.length) : l = l.take (l.length - 1) ++ [l.getD (l.length - 1) 0] := by
  have e := take_cut1 (l := l) (i := l.length) h (Nat.le_refl _)
  rw [List.take_length] at e
  exact e
theorem getD_take {l : List Nat} {i k : Nat} (hk : k < i) : (l.take i).getD k 0 = l.getD k 0 := by
  rw [List.getD_eq_getElem?_getD, List.getD_eq_getElem?_getD, List.getElem?_take, if_pos hk]
theorem getD_in {l : List Nat} {k : Nat} (hk : k < l.length) : l.getD k 0 ∈ l := by
  rw [List.getD_eq_getElem?_getD, List.getElem?_eq_getElem hk]
  exact List.getElem_mem hk
theorem back_cut {l b : List Nat} {Q : Nat} (h : 1 ≤ l.length) (hQ : Q ≤ l.length - 1) : (l.take (l.length - 1)).drop Q ++ l.getD (l.length - 1) 0 :: b = l.drop Q ++ b := by
  have e := last_split h
  have hl : (l.take (l.length - 1)).length = l.length - 1 := by rw [List.length_take]; omega
  conv => rhs; rw [e]
  rw [List.drop_append_of_le_length (by omega)]
  simp
theorem ev_in (h : s.Fine) (h1 : 1 ≤ s.t1.length) : s.t1.getD (s.t1.length - 1) 0 ∉ s.b1 := fun hb => by
  have h2 := count_in.1 hb
  have h4 := count_in.1 (getD_in (l := s.t1) (k := s.t1.length - 1) (by omega))
  have h5 := h.one (s.t1.getD (s.t1.length - 1) 0)
  unfold cnt at h5
  omega
theorem ev_out (h : s.Fine) (h1 : 1 ≤ s.t2.length) : s.t2.getD (s.t2.length - 1) 0 ∉ s.b2 := fun hb => by
  have h2 := count_in.1 hb
  have h4 := count_in.1 (getD_in (l := s.t2) (k := s.t2.length - 1) (by omega))
  have h5 := h.one (s.t2.getD (s.t2.length - 1) 0)
  unfold cnt at h5
  omega
theorem ev_true (h : s.Fine) (h1 : 1 ≤ s.t1.length) : s.ev true = ⟨s.c, s.p, s.t1.take (s.t1.length - 1), s.t2, s.t1.getD (s.t1.length - 1) 0 :: s.b1, s.b2⟩ := by
  unfold ev
  simp only
  rw [fr, wo_none8 (ev_in h h1)]
theorem ev_false (h : s.Fine) (h1 : 1 ≤ s.t2.length) : s.ev false = ⟨s.c, s.p, s.t1, s.t2.take (s.t2.length - 1), s.b1, s.t2.getD (s.t2.length - 1) 0 :: s.b2⟩ := by
  unfold ev
  simp only
  rw [fr, wo_none8 (ev_out h h1)]
theorem cut_in (h : s.Fine) (h1 : 1 ≤ s.t1.length) (hn : n < s.t1.length + s.t2.length) {g : Bool} (hf : fst1 s.p g s.t1.length s.t2.length) : (s.ev true).cut n g = s.cut n g ∧ s.evk true :: (s.ev true).cutOut n g = s.cutOut n g := by
  rw [ev_true h h1]
  obtain ⟨f, hfm⟩ : ∃ f, s.many n = f + 1 := ⟨s.many n - 1, by unfold many; omega⟩
  have hlt : (s.t1.take (s.t1.length - 1)).length = s.t1.length - 1 := by rw [List.length_take]; omega
  have hm2 : many ⟨s.c, s.p, s.t1.take (s.t1.length - 1), s.t2, s.t1.getD (s.t1.length - 1) 0 :: s.b1, s.b2⟩ n = f := by
    unfold many at hfm ⊢
    simp only
    omega
  have hle := (cu_le s.p g f (s.t1.length - 1) s.t2.length).1
  unfold cut cutOut li lm
  simp only [hm2, hfm, hlt]
  rw [cuI_in hf, cuM_in hf, cuO_in hf]
  refine ⟨?_, ?_⟩
  · rw [List.take_take, Nat.min_eq_left hle, back_cut h1 hle]
  · congr 1
    exact cuO_congr f _ _ (by unfold many at hfm; omega) (fun j hj => getD_take hj) (fun _ _ => rfl)
theorem cut_out (h : s.Fine) (h1 : 1 ≤ s.t2.length) (hn : n < s.t1.length + s.t2.length) {g : Bool} (hf : ¬ fst1 s.p g s.t1.length s.t2.length) : (s.ev false).cut n g = s.cut n g ∧ s.evk false :: (s.ev false).cutOut n g = s.cutOut n g := by
  rw [ev_false h h1]
  obtain ⟨f, hfm⟩ : ∃ f, s.many n = f + 1 := ⟨s.many n - 1, by unfold many; omega⟩
  have hlt : (s.t2.take (s.t2.length - 1)).length = s.t2.length - 1 := by rw [List.length_take]; omega
  have hm2 : many ⟨s.c, s.p, s.t1, s.t2.take (s.t2.length - 1), s.b1, s.t2.getD (s.t2.length - 1) 0 :: s.b2⟩ n = f := by
    unfold many at hfm ⊢
    simp only
    omega
  have hle := (cu_le s.p g f s.t1.length (s.t2.length - 1)).2
  unfold cut cutOut li lm
  simp only [hm2, hfm, hlt]
  rw [cuI_out hf, cuM_out hf, cuO_out hf]
  refine ⟨?_, ?_⟩
  · rw [List.take_take, Nat.min_eq_left hle, back_cut h1 hle]
  · congr 1
    exact cuO_congr f _ _ (by unfold many at hfm; omega) (fun _ _ => rfl) (fun j hj => getD_take hj)
structure Step (s : L11) (n : Nat) (q : Bool) : Prop where
  cut : (s.ev q).cut n false = s.cut n false
  out : s.evk q :: (s.ev q).cutOut n false = s.cutOut n false
  fine : (s.ev q).Fine
  c : (s.ev q).c = s.c
  p : (s.ev q).p = s.p
  len : (s.ev q).t1.length + (s.ev q).t2.length + 1 = s.t1.length + s.t2.length
  l1 : (s.ev q).t1.length + (s.ev q).b1.length = s.t1.length + s.b1.length
  l2 : (s.ev q).t2.length + (s.ev q).b2.length = s.t2.length + s.b2.length
  h1 : q = true → 1 ≤ s.t1.length
  h2 : q = false → 1 ≤ s.t2.length
theorem step (h : s.Fine) (hn : n < s.t1.length + s.t2.length) {q : Bool} (hq : q = true ↔ fst1 s.p false s.t1.length s.t2.length) : Step s n q := by
  cases q
  · have hf : ¬ fst1 s.p false s.t1.length s.t2.length := fun hf => by simpa using hq.2 hf
    have h2 := fst1_neg hf
    obtain ⟨e1, e2⟩ := cut_out h h2 hn hf
    have e := ev_false h h2
    have hl : (s.t2.take (s.t2.length - 1)).length = s.t2.length - 1 := by rw [List.length_take]; omega
    refine ⟨e1, e2, h.of (fun a => ?_), rfl, rfl, ?_, ?_, ?_, fun h => (by cases h), fun _ => h2⟩
    · rw [e]
      have hs := congrArg (List.count a) (last_split h2)
      rw [List.count_append] at hs
      unfold cnt
      simp only [List.count_cons, List.count_nil] at hs ⊢
      omega
    · rw [e]; simp only; omega
    · rw [e]
    · rw [e]; simp only [List.length_cons]; omega
  · have hf : fst1 s.p false s.t1.length s.t2.length := hq.1 rfl
    have h1 := fst1_pos hf (by omega)
    obtain ⟨e1, e2⟩ := cut_in h h1 hn hf
    have e := ev_true h h1
    have hl : (s.t1.take (s.t1.length - 1)).length = s.t1.length - 1 := by rw [List.length_take]; omega
    refine ⟨e1, e2, h.of (fun a => ?_), rfl, rfl, ?_, ?_, ?_, fun _ => h1, fun h => (by cases h)⟩
    · rw [e]
      have hs := congrArg (List.count a) (last_split h1)
      rw [List.count_append] at hs
      unfold cnt
      simp only [List.count_cons, List.count_nil] at hs ⊢
      omega
    · rw [e]; simp only; omega
    · rw [e]; simp only [List.length_cons]; omega
    · rw [e]
end L11
structure At11 (w wr : World) (b r n pz : Nat) (FIN : L11) (OUT : List Nat) (s : L11) (u1 u2 u3 u4 v : Value) : Prop where
  bx : Bx11 w wr T11 b r s u1 u2 u3 u4
  ko : ∃ acc, KO w.heap.size w wr v acc ∧ acc ++ s.cutOut n false = OUT
  fin : s.cut n false = FIN
  fine : s.Fine
  bd : s.t1.length + s.t2.length ≤ 1048576 ∧ s.t1.length + s.b1.length ≤ 1048576 ∧ s.t2.length + s.b2.length ≤ 3000000
  c : s.c = n
  p : s.p = pz
  off : Off u1 v ∧ Off u2 v ∧ Off u3 v ∧ Off u4 v
section
variable {w wr : World} {u1 u2 u3 u4 : Value} {s : L11}
set_option maxHeartbeats 8000000 in
set_option maxRecDepth 8000 in
theorem r11resize_walk (hs : St11 w s u1 u2 u3 u4) (ok : s.Ok) (n : Int) (hn1 : -9223372036854775808 ≤ n) (hn2 : n ≤ 9223372036854775807) : Calls Try.prog 36 #[.agg (l11C s.c s.p u1 u2 u3 u4), .int .i64 n] w (P11o w (s.resize n) (s.resizeOut n)) := by
  obtain ⟨F1, n1, d1, rfl⟩ := hs.form1
  obtain ⟨F2, n2, d2, rfl⟩ := hs.form2
  obtain ⟨F3, n3, d3, rfl⟩ := hs.form3
  obtain ⟨F4, n4, d4, rfl⟩ := hs.form4
  have HX0 := Lib.hid (Bx11.start w T11 (by decide) hs)
  have KC := Lib.hid (rcap_walk (w := (w.alloc (.cells (l11C s.c s.p (.slice F1 n1 d1) (.slice F2 n2 d2) (.slice F3 n3 d3) (.slice F4 n4 d4)) T11)).alloc (.cells z11 T11)) n hn1 hn2)
  have HCP := Lib.hid (capI_pos n)
  have HLL := Lib.hid (And.intro ok.len (And.intro ok.one (And.intro ok.gone ok.cap)))
  have HPC := ok.pc
  have HFN := Lib.hid ok.fine
  unfold L11.resize L11.resizeOut
  obtain ⟨c', hc'⟩ : ∃ c', capI n = c' := ⟨_, rfl⟩
  rw [hc'] at KC HCP ⊢
  obtain ⟨pz, hpz⟩ : ∃ pz, min s.p c' = pz := ⟨_, rfl⟩
  obtain ⟨FIN, hFIN⟩ : ∃ FIN, (s.sized c').cut c' false = FIN := ⟨_, rfl⟩
  obtain ⟨OUT, hOUT⟩ : ∃ OUT, (s.sized c').cutOut c' false = OUT := ⟨_, rfl⟩
  have HFO := Lib.hid (And.intro hFIN hOUT)
  have HOL : Hid (OUT.length ≤ 2000000) := Lib.hid (by
    rw [← hOUT, L11.cutOut_len]
    have h1 := (s.sized c').many_le c'
    have h2 := HLL.out.1
    have h3 := HLL.out.2.2.2
    have h4 : (s.sized c').t1.length + (s.sized c').t2.length = s.t1.length + s.t2.length := rfl
    omega)
  rw [hFIN, hOUT]
  have hc2 := HCP.out.2
  have hc1 := HCP.out.1
  have hcap := HLL.out.2.2.2
  have hcI : (c' : Int) ≤ 1048576 := by omega
  have hc1I : (1 : Int) ≤ (c' : Int) := by omega
  have hpI : (s.p : Int) ≤ 1048576 := by omega
  have HPZ := Lib.hid hpz
  clear ok hs hc' hFIN hOUT
  generalize hW0 : World.alloc _ (.cells z11 T11) = W0 at HX0 KC
  have HW0 := Lib.hid hW0
  clear hW0
  go_enter Try.func36, Try.ntmps36
  go_wp2_with fail
  rw [HW0.out]
  clear HW0
  refine KC.out.mono ?_
  rintro e w1 ⟨rfl, rfl⟩
  obtain ⟨⟨x0, x1, x2, x3, x4, x5⟩, xf0, xf1, xf2, xf3, xf4, xf5⟩ := c6_at HX0.out.bo.box
  have hbb := (head_row HX0.out.bo.box).lt
  have hy := HX0.out.set0 c'
  go_upto_region 2 with fail
  generalize W0.setCell ⟨w.heap.size, 0, none⟩ (.int .i64 (c' : Nat)) = wa at hy ⊢
  clear x0 x1 x2 x3 x4 x5 xf0 xf1 xf2 xf3 xf4 xf5 hbb HX0 KC
  obtain ⟨⟨x0, x1, x2, x3, x4, x5⟩, xf0, xf1, xf2, xf3, xf4, xf5⟩ := c6_at hy.bo.box
  have hbb := (head_row hy.bo.box).lt
  dsimp only at x0 x1 x2 x3 x4 x5
  have HXa := Lib.hid hy
  clear hy
  obtain ⟨sp, hsp⟩ : ∃ sp, s.p = sp := ⟨_, rfl⟩
  rw [hsp] at x1 hpI
  have HSP := Lib.hid hsp
  clear hsp HPC
  go_cut [] (fun wx => wx = wa.setCell ⟨w.heap.size, 1, none⟩ (.int .i64 (pz : Nat)))
  case first =>
    rw [HSP.out] at hpz
    clear HSP
    rcases Nat.lt_trichotomy sp c' with hq | hq | hq
    · obtain rfl : pz = sp := by omega
      have hqI : (pz : Int) < (c' : Int) := by omega
      clear hpz hq
      go_wp2_with fail
      go_meet
      rfl
    · subst hq
      obtain rfl : pz = sp := by omega
      clear hpz
      go_wp2_with fail
      go_meet
      rfl
    · obtain rfl : pz = c' := by omega
      have hqI : (pz : Int) < (sp : Int) := by omega
      clear hpz hq
      go_wp2_with fail
      go_meet
      rfl
  case rest =>
    subst hcut
    have hx1 := HXa.out.set1 pz
    clear x0 x1 x2 x3 x4 x5 xf0 xf1 xf2 xf3 xf4 xf5 hbb HXa
    have HI0 : Hid (At11 w (wa.setCell ⟨w.heap.size, 1, none⟩ (.int .i64 (pz : Nat))) w.heap.size (w.heap.size + 1) c' pz FIN OUT ⟨c', pz, s.t1, s.t2, s.b1, s.b2⟩ (.slice F1 n1 d1) (.slice F2 n2 d2) (.slice F3 n3 d3) (.slice F4 n4 d4) (.slice none 0 0)) := Lib.hid (by
      have e := HPZ.out
      have hz : s.sized c' = ⟨c', pz, s.t1, s.t2, s.b1, s.b2⟩ := by rw [← e]; rfl
      rw [← hz]
      refine ⟨by rw [hz]; exact hx1, ⟨[], KO.nil hx1.bo.low, HFO.out.2⟩, HFO.out.1, HFN.out.sized c', ?_, rfl, by rw [hz], Off.nil _, Off.nil _, Off.nil _, Off.nil _⟩
      have h1 := HLL.out.1
      have h2 := HLL.out.2.1
      have h3 := HLL.out.2.2.1
      show s.t1.length + s.t2.length ≤ _ ∧ s.t1.length + s.b1.length ≤ _ ∧ s.t2.length + s.b2.length ≤ _
      omega)
    clear hx1 HLL HFN HFO hpI hpz HSP hcap HPZ
    generalize wa.setCell ⟨w.heap.size, 1, none⟩ (.int .i64 (pz : Nat)) = W1 at HI0 ⊢
    go_wp2_with fail
    go_loopg [6, 7, 8] (s.t1.length + s.t2.length - c') (fun gg s6 s7 s8 wr => ∃ (σ : L11) (v1 v2 v3 v4 v6 : Value), gg = σ.t1.length + σ.t2.length - c' ∧ v6 = s6 ∧ Hid (At11 w wr w.heap.size (w.heap.size + 1) c' pz FIN OUT σ v1 v2 v3 v4 v6))
    case atStart => exact ⟨⟨c', pz, s.t1, s.t2, s.b1, s.b2⟩, _, _, _, _, _, rfl, rfl, HI0⟩
    case round =>
      clear HI0
      obtain ⟨σ, v1, v2, v3, v4, v6, hgg, rfl, HI⟩ := hrel
      have g1 := HI.out.bx.st.g1
      have g2 := HI.out.bx.st.g2
      obtain ⟨F1, d1, rfl, -⟩ := g1.mem
      obtain ⟨F2, d2, rfl, -⟩ := g2.mem
      obtain ⟨F3, n3, d3, rfl⟩ := HI.out.bx.st.form3
      obtain ⟨F4, n4, d4, rfl⟩ := HI.out.bx.st.form4
      clear g1 g2
      have hc := HI.out.c
      have hp := HI.out.p
      have hbd := HI.out.bd
      have i1 : (σ.t1.length : Int) ≤ 1048576 := by omega
      have i2 : (σ.t2.length : Int) ≤ 1048576 := by omega
      by_cases hgt : c' < σ.t1.length + σ.t2.length
      · have hgtI : (c' : Int) < (σ.t1.length : Int) + (σ.t2.length : Int) := by omega
        by_cases hq1 : pz < σ.t1.length
        · have hqI : (pz : Int) < (σ.t1.length : Int) := by omega
          have hst := L11.step HI.out.fine (n := c') hgt (q := true) ⟨fun _ => by rw [hp]; unfold fst1; omega, fun _ => rfl⟩
          have KE := Lib.hid (r11evict_walk true HI.out.bx.st hst.h1 hst.h2 (by omega) (by omega) (by omega) (by omega))
          obtain ⟨acc, hko, hac⟩ := HI.out.ko
          obtain ⟨σ', hσ'⟩ : ∃ t, σ.ev true = t := ⟨_, rfl⟩
          obtain ⟨x, hx⟩ : ∃ x, σ.evk true = x := ⟨_, rfl⟩
          have HST : Hid (σ'.cut c' false = FIN ∧ (acc ++ [x]) ++ σ'.cutOut c' false = OUT ∧ σ'.Fine ∧ (σ'.t1.length + σ'.t2.length ≤ 1048576 ∧ σ'.t1.length + σ'.b1.length ≤ 1048576 ∧ σ'.t2.length + σ'.b2.length ≤ 3000000) ∧ σ'.c = c' ∧ σ'.p = pz ∧ σ'.t1.length + σ'.t2.length + 1 = σ.t1.length + σ.t2.length) := Lib.hid (by
            have h1 := hst.len
            have h2 := hst.l1
            have h3 := hst.l2
            have e1 := hst.cut
            have e2 := hst.out
            have e3 := hst.fine
            have e4 := hst.c
            have e5 := hst.p
            rw [hσ'] at h1 h2 h3 e1 e2 e3 e4 e5
            rw [hx] at e2
            refine ⟨e1.trans HI.out.fin, ?_, e3, ⟨by omega, by omega, by omega⟩, e4.trans hc, e5.trans hp, h1⟩
            rw [List.append_assoc, List.singleton_append, e2]
            exact hac)
          rw [hσ', hx] at KE
          have HAL : Hid (acc.length ≤ 2000000) := Lib.hid (by
            have h1 := congrArg List.length hac
            rw [List.length_append] at h1
            have h2 := HOL.out
            omega)
          have HKO := Lib.hid hko
          have HOF := Lib.hid HI.out.off
          have HBO := Lib.hid HI.out.bx
          rw [hc, hp] at KE
          obtain ⟨⟨x0, x1, x2, x3, x4, x5⟩, xf0, xf1, xf2, xf3, xf4, xf5⟩ := c6_at HI.out.bx.bo.box
          rw [hc] at x0
          rw [hp] at x1
          have hbb := (head_row HI.out.bx.bo.box).lt
          have HGG := Lib.hid hgg
          clear hko hac hst hσ' hx HI hgt hbd hgg hc hp hq1
          go_wp2_with fail
          refine KE.out.mono ?_
          rintro e w5 ⟨v1, v2, v3, v4, o5, he, hb5, hs5, ho5, hw1, hw2, hw3, hw4⟩
          obtain ⟨Fa1, na1, da1, rfl⟩ := hs5.form1
          obtain ⟨Fa2, na2, da2, rfl⟩ := hs5.form2
          obtain ⟨Fa3, na3, da3, rfl⟩ := hs5.form3
          obtain ⟨Fa4, na4, da4, rfl⟩ := hs5.form4
          obtain ⟨-, -, -, -, hec, hep, -⟩ := HST.out
          rw [hec, hep] at he
          subst he
          have hxa := (HBO.out.step hb5).step (low_one w5 (.cells (l11C c' pz (.slice Fa1 na1 da1) (.slice Fa2 na2 da2) (.slice Fa3 na3 da3) (.slice Fa4 na4 da4)) T11))
          have hsa := hs5.below (low_one w5 (.cells (l11C c' pz (.slice Fa1 na1 da1) (.slice Fa2 na2 da2) (.slice Fa3 na3 da3) (.slice Fa4 na4 da4)) T11))
          have hoa := ho5.below (low_one w5 (.cells (l11C c' pz (.slice Fa1 na1 da1) (.slice Fa2 na2 da2) (.slice Fa3 na3 da3) (.slice Fa4 na4 da4)) T11))
          have hka := (HKO.out.below HBO.out.bo.low.size hb5).alloc (HBO.out.step hb5).bo.low.size (.cells (l11C c' pz (.slice Fa1 na1 da1) (.slice Fa2 na2 da2) (.slice Fa3 na3 da3) (.slice Fa4 na4 da4)) T11)
          have hne : w.heap.size ≠ w5.heap.size := by have := (head_row (HBO.out.step hb5).bo.box).lt; omega
          clear x0 x1 x2 x3 x4 x5 xf0 xf1 xf2 xf3 xf4 xf5 hbb
          obtain ⟨⟨x0, x1, x2, x3, x4, x5⟩, xf0, xf1, xf2, xf3, xf4, xf5⟩ := c6_at hxa.bo.box
          have hbb := (head_row hxa.bo.box).lt
          have hnew := heap_alloc_new w5 (.cells (l11C c' pz (.slice Fa1 na1 da1) (.slice Fa2 na2 da2) (.slice Fa3 na3 da3) (.slice Fa4 na4 da4)) T11)
          obtain ⟨⟨z0, z1, z2, z3, z4, z5⟩, zf0, zf1, zf2, zf3, zf4, zf5⟩ := c6_at hnew
          have hp1 := hxa.put hsa
          rw [hec, hep] at hp1
          have HP := Lib.hid hp1
          have hpo := hxa.putOnly (s' := σ') (v1 := .slice Fa1 na1 da1) (v2 := .slice Fa2 na2 da2) (v3 := .slice Fa3 na3 da3) (v4 := .slice Fa4 na4 da4)
          rw [hec, hep] at hpo
          have HK2 := Lib.hid (hxa.bo.ko hpo hka)
          have HS2 := Lib.hid (hxa.bo.kv hpo hoa)
          have HO5 := Lib.hid (And.intro (hw1.off HOF.out.1 HKO.out.lt) (And.intro (hw2.off HOF.out.2.1 HKO.out.lt) (And.intro (hw3.off HOF.out.2.2.1 HKO.out.lt) (hw4.off HOF.out.2.2.2 HKO.out.lt))))
          clear hxa hsa hoa hka hnew hb5 hs5 ho5 hw1 hw2 hw3 hw4 HOF HKO HBO KE hp1 hpo hec hep
          go_upto_region 6 with fail
          generalize w5.alloc (.cells (l11C c' pz (.slice Fa1 na1 da1) (.slice Fa2 na2 da2) (.slice Fa3 na3 da3) (.slice Fa4 na4 da4)) T11) = wx at *
          generalize w5.heap.size = P at *
          have hne2 := hne.symm
          go_upto_region 7 with fail
          generalize ((((((wx.setCell ⟨w.heap.size, 0, none⟩ (.int .i64 (c' : Nat))).setCell ⟨w.heap.size, 1, none⟩ (.int .i64 (pz : Nat))).setCell ⟨w.heap.size, 2, none⟩ (.slice Fa1 na1 da1)).setCell ⟨w.heap.size, 3, none⟩ (.slice Fa2 na2 da2)).setCell ⟨w.heap.size, 4, none⟩ (.slice Fa3 na3 da3)).setCell ⟨w.heap.size, 5, none⟩ (.slice Fa4 na4 da4)) = w6 at HP HK2 HS2 ⊢
          have hszA : w.heap.size ≤ w6.heap.size := HP.out.bo.low.size
          have halen := HAL.out
          clear x0 x1 x2 x3 x4 x5 xf0 xf1 xf2 xf3 xf4 xf5 z0 z1 z2 z3 z4 z5 zf0 zf1 zf2 zf3 zf4 zf5 hbb HAL hne hne2
          go_wp2_with (at_builtin; refine wpList_append_kv rfl (.tmp 46) (.tmp 47) rfl w.heap.size (by kernel_rfl) (by kernel_rfl) v6 acc rfl HK2.out _ [x] rfl HS2.out (by simp; omega) hszA ?_)
          intro v7 w7 hown7 hkp hkt
          have hst := HP.out.st
          obtain ⟨k1, f1⟩ := hkp.kv hst.g1 HO5.out.1
          obtain ⟨k2, f2⟩ := hkp.kv hst.g2 HO5.out.2.1
          obtain ⟨k3, f3⟩ := hkp.kv hst.g3 HO5.out.2.2.1
          obtain ⟨k4, f4⟩ := hkp.kv hst.g4 HO5.out.2.2.2
          obtain ⟨a1, a2, a3, a4, a5, a6, a7⟩ := HST.out
          have HNX : Hid (At11 w w7 w.heap.size (w.heap.size + 1) c' pz FIN OUT σ' (.slice Fa1 na1 da1) (.slice Fa2 na2 da2) (.slice Fa3 na3 da3) (.slice Fa4 na4 da4) v7) := Lib.hid
            ⟨⟨HP.out.bo.kt hkt hown7.low, ⟨k1, k2, k3, k4⟩⟩, ⟨acc ++ [x], hown7, a2⟩, a1, a3, a4, a5, a6, f1, f2, f3, f4⟩
          have hgf : σ'.t1.length + σ'.t2.length - c' < gk := by have := HGG.out; omega
          clear hst k1 f1 k2 f2 k3 f3 k4 f4 a1 a2 a3 a4 a5 a6 a7 hown7 hkp hkt HST HO5 HGG HP HK2 HS2 hszA halen
          go_wp2
          go_roundg (σ'.t1.length + σ'.t2.length - c')
          case measure => omega
          case rel => exact ⟨σ', _, _, _, _, _, rfl, rfl, HNX⟩
        · by_cases hq2 : σ.t2.length = 0
          · have hqI : ¬ (pz : Int) < (σ.t1.length : Int) := by omega
            have hqJ : ((σ.t2.length : Int) == 0) = true := by rw [hq2]; rfl
            have hst := L11.step HI.out.fine (n := c') hgt (q := true) ⟨fun _ => by rw [hp]; unfold fst1; omega, fun _ => rfl⟩
            have KE := Lib.hid (r11evict_walk true HI.out.bx.st hst.h1 hst.h2 (by omega) (by omega) (by omega) (by omega))
            obtain ⟨acc, hko, hac⟩ := HI.out.ko
            obtain ⟨σ', hσ'⟩ : ∃ t, σ.ev true = t := ⟨_, rfl⟩
            obtain ⟨x, hx⟩ : ∃ x, σ.evk true = x := ⟨_, rfl⟩
            have HST : Hid (σ'.cut c' false = FIN ∧ (acc ++ [x]) ++ σ'.cutOut c' false = OUT ∧ σ'.Fine ∧ (σ'.t1.length + σ'.t2.length ≤ 1048576 ∧ σ'.t1.length + σ'.b1.length ≤ 1048576 ∧ σ'.t2.length + σ'.b2.length ≤ 3000000) ∧ σ'.c = c' ∧ σ'.p = pz ∧ σ'.t1.length + σ'.t2.length + 1 = σ.t1.length + σ.t2.length) := Lib.hid (by
              have h1 := hst.len
              have h2 := hst.l1
              have h3 := hst.l2
              have e1 := hst.cut
              have e2 := hst.out
              have e3 := hst.fine
              have e4 := hst.c
              have e5 := hst.p
              rw [hσ'] at h1 h2 h3 e1 e2 e3 e4 e5
              rw [hx] at e2
              refine ⟨e1.trans HI.out.fin, ?_, e3, ⟨by omega, by omega, by omega⟩, e4.trans hc, e5.trans hp, h1⟩
              rw [List.append_assoc, List.singleton_append, e2]
              exact hac)
            rw [hσ', hx] at KE
            have HAL : Hid (acc.length ≤ 2000000) := Lib.hid (by
              have h1 := congrArg List.length hac
              rw [List.length_append] at h1
              have h2 := HOL.out
              omega)
            have HKO := Lib.hid hko
            have HOF := Lib.hid HI.out.off
            have HBO := Lib.hid HI.out.bx
            rw [hc, hp] at KE
            obtain ⟨⟨x0, x1, x2, x3, x4, x5⟩, xf0, xf1, xf2, xf3, xf4, xf5⟩ := c6_at HI.out.bx.bo.box
            rw [hc] at x0
            rw [hp] at x1
            have hbb := (head_row HI.out.bx.bo.box).lt
            have HGG := Lib.hid hgg
            clear hko hac hst hσ' hx HI hgt hbd hgg hc hp hq1 hq2
            go_wp2_with fail
            refine KE.out.mono ?_
            rintro e w5 ⟨v1, v2, v3, v4, o5, he, hb5, hs5, ho5, hw1, hw2, hw3, hw4⟩
            obtain ⟨Fa1, na1, da1, rfl⟩ := hs5.form1
            obtain ⟨Fa2, na2, da2, rfl⟩ := hs5.form2
            obtain ⟨Fa3, na3, da3, rfl⟩ := hs5.form3
            obtain ⟨Fa4, na4, da4, rfl⟩ := hs5.form4
            obtain ⟨-, -, -, -, hec, hep, -⟩ := HST.out
            rw [hec, hep] at he
            subst he
            have hxa := (HBO.out.step hb5).step (low_one w5 (.cells (l11C c' pz (.slice Fa1 na1 da1) (.slice Fa2 na2 da2) (.slice Fa3 na3 da3) (.slice Fa4 na4 da4)) T11))
            have hsa := hs5.below (low_one w5 (.cells (l11C c' pz (.slice Fa1 na1 da1) (.slice Fa2 na2 da2) (.slice Fa3 na3 da3) (.slice Fa4 na4 da4)) T11))
            have hoa := ho5.below (low_one w5 (.cells (l11C c' pz (.slice Fa1 na1 da1) (.slice Fa2 na2 da2) (.slice Fa3 na3 da3) (.slice Fa4 na4 da4)) T11))
            have hka := (HKO.out.below HBO.out.bo.low.size hb5).alloc (HBO.out.step hb5).bo.low.size (.cells (l11C c' pz (.slice Fa1 na1 da1) (.slice Fa2 na2 da2) (.slice Fa3 na3 da3) (.slice Fa4 na4 da4)) T11)
            have hne : w.heap.size ≠ w5.heap.size := by have := (head_row (HBO.out.step hb5).bo.box).lt; omega
            clear x0 x1 x2 x3 x4 x5 xf0 xf1 xf2 xf3 xf4 xf5 hbb
            obtain ⟨⟨x0, x1, x2, x3, x4, x5⟩, xf0, xf1, xf2, xf3, xf4, xf5⟩ := c6_at hxa.bo.box
            have hbb := (head_row hxa.bo.box).lt
            have hnew := heap_alloc_new w5 (.cells (l11C c' pz (.slice Fa1 na1 da1) (.slice Fa2 na2 da2) (.slice Fa3 na3 da3) (.slice Fa4 na4 da4)) T11)
            obtain ⟨⟨z0, z1, z2, z3, z4, z5⟩, zf0, zf1, zf2, zf3, zf4, zf5⟩ := c6_at hnew
            have hp1 := hxa.put hsa
            rw [hec, hep] at hp1
            have HP := Lib.hid hp1
            have hpo := hxa.putOnly (s' := σ') (v1 := .slice Fa1 na1 da1) (v2 := .slice Fa2 na2 da2) (v3 := .slice Fa3 na3 da3) (v4 := .slice Fa4 na4 da4)
            rw [hec, hep] at hpo
            have HK2 := Lib.hid (hxa.bo.ko hpo hka)
            have HS2 := Lib.hid (hxa.bo.kv hpo hoa)
            have HO5 := Lib.hid (And.intro (hw1.off HOF.out.1 HKO.out.lt) (And.intro (hw2.off HOF.out.2.1 HKO.out.lt) (And.intro (hw3.off HOF.out.2.2.1 HKO.out.lt) (hw4.off HOF.out.2.2.2 HKO.out.lt))))
            clear hxa hsa hoa hka hnew hb5 hs5 ho5 hw1 hw2 hw3 hw4 HOF HKO HBO KE hp1 hpo hec hep
            go_upto_region 6 with fail
            generalize w5.alloc (.cells (l11C c' pz (.slice Fa1 na1 da1) (.slice Fa2 na2 da2) (.slice Fa3 na3 da3) (.slice Fa4 na4 da4)) T11) = wx at *
            generalize w5.heap.size = P at *
            have hne2 := hne.symm
            go_upto_region 7 with fail
            generalize ((((((wx.setCell ⟨w.heap.size, 0, none⟩ (.int .i64 (c' : Nat))).setCell ⟨w.heap.size, 1, none⟩ (.int .i64 (pz : Nat))).setCell ⟨w.heap.size, 2, none⟩ (.slice Fa1 na1 da1)).setCell ⟨w.heap.size, 3, none⟩ (.slice Fa2 na2 da2)).setCell ⟨w.heap.size, 4, none⟩ (.slice Fa3 na3 da3)).setCell ⟨w.heap.size, 5, none⟩ (.slice Fa4 na4 da4)) = w6 at HP HK2 HS2 ⊢
            have hszA : w.heap.size ≤ w6.heap.size := HP.out.bo.low.size
            have halen := HAL.out
            clear x0 x1 x2 x3 x4 x5 xf0 xf1 xf2 xf3 xf4 xf5 z0 z1 z2 z3 z4 z5 zf0 zf1 zf2 zf3 zf4 zf5 hbb HAL hne hne2
            go_wp2_with (at_builtin; refine wpList_append_kv rfl (.tmp 46) (.tmp 47) rfl w.heap.size (by kernel_rfl) (by kernel_rfl) v6 acc rfl HK2.out _ [x] rfl HS2.out (by simp; omega) hszA ?_)
            intro v7 w7 hown7 hkp hkt
            have hst := HP.out.st
            obtain ⟨k1, f1⟩ := hkp.kv hst.g1 HO5.out.1
            obtain ⟨k2, f2⟩ := hkp.kv hst.g2 HO5.out.2.1
            obtain ⟨k3, f3⟩ := hkp.kv hst.g3 HO5.out.2.2.1
            obtain ⟨k4, f4⟩ := hkp.kv hst.g4 HO5.out.2.2.2
            obtain ⟨a1, a2, a3, a4, a5, a6, a7⟩ := HST.out
            have HNX : Hid (At11 w w7 w.heap.size (w.heap.size + 1) c' pz FIN OUT σ' (.slice Fa1 na1 da1) (.slice Fa2 na2 da2) (.slice Fa3 na3 da3) (.slice Fa4 na4 da4) v7) := Lib.hid
              ⟨⟨HP.out.bo.kt hkt hown7.low, ⟨k1, k2, k3, k4⟩⟩, ⟨acc ++ [x], hown7, a2⟩, a1, a3, a4, a5, a6, f1, f2, f3, f4⟩
            have hgf : σ'.t1.length + σ'.t2.length - c' < gk := by have := HGG.out; omega
            clear hst k1 f1 k2 f2 k3 f3 k4 f4 a1 a2 a3 a4 a5 a6 a7 hown7 hkp hkt HST HO5 HGG HP HK2 HS2 hszA halen
            go_wp2
            go_roundg (σ'.t1.length + σ'.t2.length - c')
            case measure => omega
            case rel => exact ⟨σ', _, _, _, _, _, rfl, rfl, HNX⟩
          · have hqI : ¬ (pz : Int) < (σ.t1.length : Int) := by omega
            have hqJ : ((σ.t2.length : Int) == 0) = false := by rw [beq_eq_false_iff_ne]; omega
            have hst := L11.step HI.out.fine (n := c') hgt (q := false) ⟨fun h => (by cases h), fun h => by rw [hp] at h; rcases h with h | ⟨h1, h2 | ⟨h2, h3⟩⟩ <;> first | omega | cases h3⟩
            have KE := Lib.hid (r11evict_walk false HI.out.bx.st hst.h1 hst.h2 (by omega) (by omega) (by omega) (by omega))
            obtain ⟨acc, hko, hac⟩ := HI.out.ko
            obtain ⟨σ', hσ'⟩ : ∃ t, σ.ev false = t := ⟨_, rfl⟩
            obtain ⟨x, hx⟩ : ∃ x, σ.evk false = x := ⟨_, rfl⟩
            have HST : Hid (σ'.cut c' false = FIN ∧ (acc ++ [x]) ++ σ'.cutOut c' false = OUT ∧ σ'.Fine ∧ (σ'.t1.length + σ'.t2.length ≤ 1048576 ∧ σ'.t1.length + σ'.b1.length ≤ 1048576 ∧ σ'.t2.length + σ'.b2.length ≤ 3000000) ∧ σ'.c = c' ∧ σ'.p = pz ∧ σ'.t1.length + σ'.t2.length + 1 = σ.t1.length + σ.t2.length) := Lib.hid (by
              have h1 := hst.len
              have h2 := hst.l1
              have h3 := hst.l2
              have e1 := hst.cut
              have e2 := hst.out
              have e3 := hst.fine
              have e4 := hst.c
              have e5 := hst.p
              rw [hσ'] at h1 h2 h3 e1 e2 e3 e4 e5
              rw [hx] at e2
              refine ⟨e1.trans HI.out.fin, ?_, e3, ⟨by omega, by omega, by omega⟩, e4.trans hc, e5.trans hp, h1⟩
              rw [List.append_assoc, List.singleton_append, e2]
              exact hac)
            rw [hσ', hx] at KE
            have HAL : Hid (acc.length ≤ 2000000) := Lib.hid (by
              have h1 := congrArg List.length hac
              rw [List.length_append] at h1
              have h2 := HOL.out
              omega)
            have HKO := Lib.hid hko
            have HOF := Lib.hid HI.out.off
            have HBO := Lib.hid HI.out.bx
            rw [hc, hp] at KE
            obtain ⟨⟨x0, x1, x2, x3, x4, x5⟩, xf0, xf1, xf2, xf3, xf4, xf5⟩ := c6_at HI.out.bx.bo.box
            rw [hc] at x0
            rw [hp] at x1
            have hbb := (head_row HI.out.bx.bo.box).lt
            have HGG := Lib.hid hgg
            clear hko hac hst hσ' hx HI hgt hbd hgg hc hp hq1 hq2
            go_wp2_with fail
            refine KE.out.mono ?_
            rintro e w5 ⟨v1, v2, v3, v4, o5, he, hb5, hs5, ho5, hw1, hw2, hw3, hw4⟩
            obtain ⟨Fa1, na1, da1, rfl⟩ := hs5.form1
            obtain ⟨Fa2, na2, da2, rfl⟩ := hs5.form2
            obtain ⟨Fa3, na3, da3, rfl⟩ := hs5.form3
            obtain ⟨Fa4, na4, da4, rfl⟩ := hs5.form4
            obtain ⟨-, -, -, -, hec, hep, -⟩ := HST.out
            rw [hec, hep] at he
            subst he
            have hxa := (HBO.out.step hb5).step (low_one w5 (.cells (l11C c' pz (.slice Fa1 na1 da1) (.slice Fa2 na2 da2) (.slice Fa3 na3 da3) (.slice Fa4 na4 da4)) T11))
            have hsa := hs5.below (low_one w5 (.cells (l11C c' pz (.slice Fa1 na1 da1) (.slice Fa2 na2 da2) (.slice Fa3 na3 da3) (.slice Fa4 na4 da4)) T11))
            have hoa := ho5.below (low_one w5 (.cells (l11C c' pz (.slice Fa1 na1 da1) (.slice Fa2 na2 da2) (.slice Fa3 na3 da3) (.slice Fa4 na4 da4)) T11))
            have hka := (HKO.out.below HBO.out.bo.low.size hb5).alloc (HBO.out.step hb5).bo.low.size (.cells (l11C c' pz (.slice Fa1 na1 da1) (.slice Fa2 na2 da2) (.slice Fa3 na3 da3) (.slice Fa4 na4 da4)) T11)
            have hne : w.heap.size ≠ w5.heap.size := by have := (head_row (HBO.out.step hb5).bo.box).lt; omega
            clear x0 x1 x2 x3 x4 x5 xf0 xf1 xf2 xf3 xf4 xf5 hbb
            obtain ⟨⟨x0, x1, x2, x3, x4, x5⟩, xf0, xf1, xf2, xf3, xf4, xf5⟩ := c6_at hxa.bo.box
            have hbb := (head_row hxa.bo.box).lt
            have hnew := heap_alloc_new w5 (.cells (l11C c' pz (.slice Fa1 na1 da1) (.slice Fa2 na2 da2) (.slice Fa3 na3 da3) (.slice Fa4 na4 da4)) T11)
            obtain ⟨⟨z0, z1, z2, z3, z4, z5⟩, zf0, zf1, zf2, zf3, zf4, zf5⟩ := c6_at hnew
            have hp1 := hxa.put hsa
            rw [hec, hep] at hp1
            have HP := Lib.hid hp1
            have hpo := hxa.putOnly (s' := σ') (v1 := .slice Fa1 na1 da1) (v2 := .slice Fa2 na2 da2) (v3 := .slice Fa3 na3 da3) (v4 := .slice Fa4 na4 da4)
            rw [hec, hep] at hpo
            have HK2 := Lib.hid (hxa.bo.ko hpo hka)
            have HS2 := Lib.hid (hxa.bo.kv hpo hoa)
            have HO5 := Lib.hid (And.intro (hw1.off HOF.out.1 HKO.out.lt) (And.intro (hw2.off HOF.out.2.1 HKO.out.lt) (And.intro (hw3.off HOF.out.2.2.1 HKO.out.lt) (hw4.off HOF.out.2.2.2 HKO.out.lt))))
            clear hxa hsa hoa hka hnew hb5 hs5 ho5 hw1 hw2 hw3 hw4 HOF HKO HBO KE hp1 hpo hec hep
            go_upto_region 6 with fail
            generalize w5.alloc (.cells (l11C c' pz (.slice Fa1 na1 da1) (.slice Fa2 na2 da2) (.slice Fa3 na3 da3) (.slice Fa4 na4 da4)) T11) = wx at *
            generalize w5.heap.size = P at *
            have hne2 := hne.symm
            go_upto_region 7 with fail
            generalize ((((((wx.setCell ⟨w.heap.size, 0, none⟩ (.int .i64 (c' : Nat))).setCell ⟨w.heap.size, 1, none⟩ (.int .i64 (pz : Nat))).setCell ⟨w.heap.size, 2, none⟩ (.slice Fa1 na1 da1)).setCell ⟨w.heap.size, 3, none⟩ (.slice Fa2 na2 da2)).setCell ⟨w.heap.size, 4, none⟩ (.slice Fa3 na3 da3)).setCell ⟨w.heap.size, 5, none⟩ (.slice Fa4 na4 da4)) = w6 at HP HK2 HS2 ⊢
            have hszA : w.heap.size ≤ w6.heap.size := HP.out.bo.low.size
            have halen := HAL.out
            clear x0 x1 x2 x3 x4 x5 xf0 xf1 xf2 xf3 xf4 xf5 z0 z1 z2 z3 z4 z5 zf0 zf1 zf2 zf3 zf4 zf5 hbb HAL hne hne2
            go_wp2_with (at_builtin; refine wpList_append_kv rfl (.tmp 46) (.tmp 47) rfl w.heap.size (by kernel_rfl) (by kernel_rfl) v6 acc rfl HK2.out _ [x] rfl HS2.out (by simp; omega) hszA ?_)
            intro v7 w7 hown7 hkp hkt
            have hst := HP.out.st
            obtain ⟨k1, f1⟩ := hkp.kv hst.g1 HO5.out.1
            obtain ⟨k2, f2⟩ := hkp.kv hst.g2 HO5.out.2.1
            obtain ⟨k3, f3⟩ := hkp.kv hst.g3 HO5.out.2.2.1
            obtain ⟨k4, f4⟩ := hkp.kv hst.g4 HO5.out.2.2.2
            obtain ⟨a1, a2, a3, a4, a5, a6, a7⟩ := HST.out
            have HNX : Hid (At11 w w7 w.heap.size (w.heap.size + 1) c' pz FIN OUT σ' (.slice Fa1 na1 da1) (.slice Fa2 na2 da2) (.slice Fa3 na3 da3) (.slice Fa4 na4 da4) v7) := Lib.hid
              ⟨⟨HP.out.bo.kt hkt hown7.low, ⟨k1, k2, k3, k4⟩⟩, ⟨acc ++ [x], hown7, a2⟩, a1, a3, a4, a5, a6, f1, f2, f3, f4⟩
            have hgf : σ'.t1.length + σ'.t2.length - c' < gk := by have := HGG.out; omega
            clear hst k1 f1 k2 f2 k3 f3 k4 f4 a1 a2 a3 a4 a5 a6 a7 hown7 hkp hkt HST HO5 HGG HP HK2 HS2 hszA halen
            go_wp2
            go_roundg (σ'.t1.length + σ'.t2.length - c')
            case measure => omega
            case rel => exact ⟨σ', _, _, _, _, _, rfl, rfl, HNX⟩
      · have hgtI : ¬ (c' : Int) < (σ.t1.length : Int) + (σ.t2.length : Int) := by omega
        obtain ⟨acc, hko, hac⟩ := HI.out.ko
        obtain ⟨e1, e2⟩ := L11.cut_none (s := σ) (n := c') (by omega) false
        have hfin := HI.out.fin
        rw [e1] at hfin
        rw [e2, List.append_nil] at hac
        have HKV := Lib.hid hko.kv
        have HBX := Lib.hid HI.out.bx
        subst hfin hac
        obtain ⟨sc, sp2, l1, l2, l3, l4⟩ := σ
        dsimp only at hc hp hbd hgt i1 i2 hgtI HBX HI ⊢
        subst hc hp
        obtain ⟨⟨x0, x1, x2, x3, x4, x5⟩, xf0, xf1, xf2, xf3, xf4, xf5⟩ := c6_at HI.out.bx.bo.box
        have hbb := (head_row HI.out.bx.bo.box).lt
        have g3 := HI.out.bx.st.g3
        have g4 := HI.out.bx.st.g4
        dsimp only at x0 x1 x2 x3 x4 x5 g3 g4
        have HF : Hid (⟨sc, sp2, l1, l2, l3.take (sc - l1.length), l4.take (sc - (l3.take (sc - l1.length)).length)⟩ = L11.fall ⟨sc, sp2, l1, l2, l3, l4⟩) := Lib.hid rfl
        rw [← HF.out]
        obtain ⟨F3', d3', ee3, hcap3, -⟩ := g3.mem
        obtain ⟨F4', d4', ee4, hcap4, -⟩ := g4.mem
        injection ee3 with ea3 eb3 ec3
        injection ee4 with ea4 eb4 ec4
        subst ea3 ec3 ea4 ec4
        have HE := Lib.hid (And.intro eb3 eb4)
        have i3 : (n3 : Int) ≤ 1048576 := by omega
        have i4 : (n4 : Int) ≤ 3000000 := by omega
        rw [← eb3] at hcap3
        rw [← eb4] at hcap4
        obtain ⟨n1, hn1⟩ : ∃ n, l1.length = n := ⟨_, rfl⟩
        obtain ⟨n2, hn2⟩ : ∃ n, l2.length = n := ⟨_, rfl⟩
        rw [hn1, hn2] at HBX
        rw [hn1] at x2
        rw [hn2] at x3
        rw [hn1, hn2] at hbd hgt
        rw [hn1] at i1
        rw [hn2] at i2
        rw [hn1, hn2] at hgtI
        rw [hn1]
        have hb1 : n1 + n3 ≤ 1048576 := by omega
        have hle1 : n1 ≤ sc := by omega
        have HR : Hid (Bx11 w wr T11 w.heap.size (w.heap.size + 1) ⟨sc, sp2, l1, l2, l3.take n3, l4⟩ (.slice F1 n1 d1) (.slice F2 n2 d2) (.slice F3 n3 d3) (.slice F4 n4 d4)) := Lib.hid (by
          rw [HE.out.1, List.take_length]
          rw [HE.out.1] at HBX
          exact HBX.out)
        have HN1 := Lib.hid hn1
        clear hko e1 e2 HI hgg HCP HOL HF hn1 hn2 g3 g4 eb3 eb4 hbd x0 x1 x2 x3 x4 x5 xf0 xf1 xf2 xf3 xf4 xf5 hbb hgt HBX
        obtain ⟨⟨x0, x1, x2, x3, x4, x5⟩, xf0, xf1, xf2, xf3, xf4, xf5⟩ := c6_at HR.out.bo.box
        have hbb := (head_row HR.out.bo.box).lt
        dsimp only at x0 x1
        go_wp2_with fail
        clear x0 x1 x2 x3 x4 x5 xf0 xf1 xf2 xf3 xf4 xf5 hbb
        obtain ⟨wB, hwB⟩ : ∃ x, x = wr := ⟨_, rfl⟩
        subst hwB
        go_loopg [] n3 (fun gg wy => ∃ m : Nat, gg = m ∧ Hid ((m ≤ n3 ∧ sc ≤ n1 + m ∨ m = n3)) ∧ Hid (Bx11 w wy T11 w.heap.size (w.heap.size + 1) ⟨sc, sp2, l1, l2, l3.take m, l4⟩ (.slice F1 n1 d1) (.slice F2 n2 d2) (.slice F3 m d3) (.slice F4 n4 d4) ∧ KV wy v6 acc))
        case atStart => exact ⟨n3, rfl, Lib.hid (.inr rfl), Lib.hid ⟨HR.out, HKV.out⟩⟩
        case round =>
          clear HR HKV
          obtain ⟨m, hi, HM, HI⟩ := hrel
          have hmle : m ≤ n3 := by
            rcases HM.out with h | h
            · exact h.1
            · omega
          obtain ⟨⟨x0, x1, x2, x3, x4, x5⟩, xf0, xf1, xf2, xf3, xf4, xf5⟩ := c6_at HI.out.1.bo.box
          have hbb := (head_row HI.out.1.bo.box).lt
          dsimp only at x0 x1
          by_cases hgt : sc < n1 + m
          · obtain ⟨k, rfl⟩ : ∃ k, m = k + 1 := ⟨m - 1, by omega⟩
            have hgtI : (sc : Int) < (n1 : Int) + ((k : Int) + 1) := by omega
            have hkc : k ≤ d3 := by omega
            have hkcI : (k : Int) ≤ (d3 : Int) := by omega
            have hkI : (k : Int) ≤ 1048576 := by omega
            have HMN : Hid (k ≤ n3 ∧ sc ≤ n1 + k ∨ k = n3) := Lib.hid (.inl ⟨by omega, by omega⟩)
            have g3 : KV wr (.slice F3 (k + 1) d3) (l3.take (k + 1)) := HI.out.1.st.g3
            have HNX : Hid (Bx11 w (wr.setCell ⟨w.heap.size, 4, none⟩ (.slice F3 k d3)) T11 w.heap.size (w.heap.size + 1) ⟨sc, sp2, l1, l2, l3.take k, l4⟩ (.slice F1 n1 d1) (.slice F2 n2 d2) (.slice F3 k d3) (.slice F4 n4 d4) ∧ KV (wr.setCell ⟨w.heap.size, 4, none⟩ (.slice F3 k d3)) v6 acc) := Lib.hid (by
              obtain ⟨F', d', e, hk⟩ := g3.take k (by have h3 := HE.out.1; rw [List.length_take]; omega)
              injection e with e1 e2 e3
              subst e1 e3
              rw [List.take_take, Nat.min_eq_left (Nat.le_succ k)] at hk
              exact ⟨HI.out.1.set4 hk, HI.out.1.kv HI.out.2⟩)
            clear HM hgt g3 HI
            go_wp2
            go_roundg (gk - 1)
            case measure => omega
            case rel => exact ⟨k, by omega, HMN, HNX⟩
          · have hgtI : ¬ (sc : Int) < (n1 : Int) + (m : Int) := by omega
            have HT2 : Hid (l3.take (sc - n1) = l3.take m) := Lib.hid (by
              rcases HM.out with h' | h'
              · have : sc - n1 = m := by omega
                rw [this]
              · have := HE.out.1
                rw [List.take_of_length_le (by omega), List.take_of_length_le (by omega)])
            have HLM : Hid ((l3.take m).length = m) := Lib.hid (by have := HE.out.1; rw [List.length_take]; omega)
            have hm4 : m ≤ sc := by omega
            have hmI : (m : Int) ≤ 1048576 := by omega
            have HR2 : Hid (Bx11 w wr T11 w.heap.size (w.heap.size + 1) ⟨sc, sp2, l1, l2, l3.take m, l4.take n4⟩ (.slice F1 n1 d1) (.slice F2 n2 d2) (.slice F3 m d3) (.slice F4 n4 d4) ∧ KV wr v6 acc) := Lib.hid (by
              have e4 := HE.out.2
              rw [List.take_of_length_le (l := l4) (by omega)]
              exact HI.out)
            go_wp2_with fail
            clear x0 x1 x2 x3 x4 x5 xf0 xf1 xf2 xf3 xf4 xf5 hbb HI HM
            obtain ⟨wC, hwC⟩ : ∃ x, x = wr := ⟨_, rfl⟩
            subst hwC
            clear hi
            go_loopg [] n4 (fun gg wy => ∃ j : Nat, gg = j ∧ Hid ((j ≤ n4 ∧ sc ≤ m + j ∨ j = n4)) ∧ Hid (Bx11 w wy T11 w.heap.size (w.heap.size + 1) ⟨sc, sp2, l1, l2, l3.take m, l4.take j⟩ (.slice F1 n1 d1) (.slice F2 n2 d2) (.slice F3 m d3) (.slice F4 j d4) ∧ KV wy v6 acc))
            case atStart => exact ⟨n4, rfl, Lib.hid (.inr rfl), HR2⟩
            case round =>
              clear HR2
              obtain ⟨j, hi, HM, HI⟩ := hrel
              have hjle : j ≤ n4 := by
                rcases HM.out with h | h
                · exact h.1
                · omega
              obtain ⟨⟨x0, x1, x2, x3, x4, x5⟩, xf0, xf1, xf2, xf3, xf4, xf5⟩ := c6_at HI.out.1.bo.box
              have hbb := (head_row HI.out.1.bo.box).lt
              dsimp only at x0 x1
              by_cases hgt : sc < m + j
              · obtain ⟨k, rfl⟩ : ∃ k, j = k + 1 := ⟨j - 1, by omega⟩
                have hgtI : (sc : Int) < (m : Int) + ((k : Int) + 1) := by omega
                have hkc : k ≤ d4 := by omega
                have hkcI : (k : Int) ≤ (d4 : Int) := by omega
                have hkI : (k : Int) ≤ 3000000 := by omega
                have HMN : Hid (k ≤ n4 ∧ sc ≤ m + k ∨ k = n4) := Lib.hid (.inl ⟨by omega, by omega⟩)
                have g4 : KV wr (.slice F4 (k + 1) d4) (l4.take (k + 1)) := HI.out.1.st.g4
                have HNX : Hid (Bx11 w (wr.setCell ⟨w.heap.size, 5, none⟩ (.slice F4 k d4)) T11 w.heap.size (w.heap.size + 1) ⟨sc, sp2, l1, l2, l3.take m, l4.take k⟩ (.slice F1 n1 d1) (.slice F2 n2 d2) (.slice F3 m d3) (.slice F4 k d4) ∧ KV (wr.setCell ⟨w.heap.size, 5, none⟩ (.slice F4 k d4)) v6 acc) := Lib.hid (by
                  obtain ⟨F', d', e, hk⟩ := g4.take k (by have h3 := HE.out.2; rw [List.length_take]; omega)
                  injection e with e1 e2 e3
                  subst e1 e3
                  rw [List.take_take, Nat.min_eq_left (Nat.le_succ k)] at hk
                  exact ⟨HI.out.1.set5 hk, HI.out.1.kv HI.out.2⟩)
                clear HM hgt g4 HI
                go_wp2
                go_roundg (gk - 1)
                case measure => omega
                case rel => exact ⟨k, by omega, HMN, HNX⟩
              · have hgtI : ¬ (sc : Int) < (m : Int) + (j : Int) := by omega
                have HT4 : Hid (l4.take (sc - m) = l4.take j) := Lib.hid (by
                  rcases HM.out with h' | h'
                  · have : sc - m = j := by omega
                    rw [this]
                  · have := HE.out.2
                    rw [List.take_of_length_le (by omega), List.take_of_length_le (by omega)])
                have HFF : Hid (L11.fall ⟨sc, sp2, l1, l2, l3, l4⟩ = ⟨sc, sp2, l1, l2, l3.take m, l4.take j⟩) := Lib.hid (by
                  show (⟨sc, sp2, l1, l2, l3.take (sc - l1.length), l4.take (sc - (l3.take (sc - l1.length)).length)⟩ : L11) = _
                  rw [HN1.out, HT2.out, HLM.out, HT4.out])
                go_wp2_with fail
                clear x0 x1 x2 x3 x4 x5 xf0 xf1 xf2 xf3 xf4 xf5 hbb HM HT2 HT4 HLM
                obtain ⟨wD, hwD⟩ : ∃ x, x = wr := ⟨_, rfl⟩
                subst hwD
                clear hi
                go_loopg [] 0 (fun gg wy => gg = 0 ∧ wy = wD)
                case atStart => exact ⟨rfl, rfl⟩
                case round =>
                  obtain ⟨hi, rfl⟩ := hrel
                  obtain ⟨⟨x0, x1, x2, x3, x4, x5⟩, xf0, xf1, xf2, xf3, xf4, xf5⟩ := c6_at HI.out.1.bo.box
                  have hbb := (head_row HI.out.1.bo.box).lt
                  obtain ⟨⟨y0, y1, y2, y3, y4, y5⟩, yf0, yf1, yf2, yf3, yf4, yf5⟩ := c6_at HI.out.1.bo.res
                  have hrr := (head_row HI.out.1.bo.res).lt
                  dsimp only at x0 x1
                  go_wp2
                  exact bodyPost_ret (v := .tuple #[.agg (l11C sc sp2 (.slice F1 n1 d1) (.slice F2 n2 d2) (.slice F3 m d3) (.slice F4 j d4)), v6]) (by simp [results, Try.results36, go_sem, y0, y1, y2, y3, y4, y5]) rfl (by rw [HFF.out]; exact HI.out.1.doneo HI.out.2)
end
end Go.Proofs.Ytgkblelgcikafaa
