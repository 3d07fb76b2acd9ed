/- Three simple queues: the program's own, to evict until no more than a number stay. -/
import Derived.Test.YtlekhmpalcgbmaaS3Ep
import Derived.Deep.RegionHeld3
import Derived.Deep.RegionWith
import Derived.Deep.DeepCutAuto
namespace Go.Proofs.Ytlekhmpalcgbmaa
open Go Go.RowKit Go.Deep

theorem low_one_le (w : World) (o : Obj) {B : Nat} (h : B ≤ w.heap.size) : Below B w (w.alloc o) := (Below.refl _ _).alloc h o
section
variable {w0 w wa wb : World} {sm mn : List It} {va vb : Value}
abbrev zL10 : Array Value := #[.int .i64 0, .slice none 0 0, .slice none 0 0, .slice none 0 0, .slice none 0 0]
/- The queues are laid anew, and a box of them. -/
theorem ev_rows {Bb : Nat} (hw : Below w.heap.size w wb) (ha : IV wa va sm) (hab : Below wa.heap.size wa wb) (hb : wb.ownsRow Bb QTI10 2 vb mn.length (itL mn)) (hB : wa.heap.size ≤ Bb) (hw2 : w.heap.size ≤ Bb) : Lr w wb sm mn [] [] va vb (.slice none 0 0) (.slice none 0 0) :=
  ⟨ha.below hab, OwnI.iq ⟨hw, own_low hb hw2⟩, KO.nil hw, KO.nil hw, Off.of_lt ha (by decide) hb hB, Off.nil _, Off.nil _, .inl rfl⟩
def EvC (w : World) (t : Nat) (sm mn : List It) (v : Value) (wx : World) : Prop := ∃ (P : Nat) (F1 : Option Addr) (n1 c1 : Nat) (F2 : Option Addr) (n2 c2 : Nat), v = .pointer (some ⟨P, 0, none⟩) ∧ Lr w wx sm mn [] [] (.slice F1 n1 c1) (.slice F2 n2 c2) (.slice none 0 0) (.slice none 0 0) ∧ Bl w wx P t (.slice F1 n1 c1) (.slice F2 n2 c2) (.slice none 0 0) (.slice none 0 0)
theorem evc_b {t : Nat} {F1 F2 : Option Addr} {n1 c1 n2 c2 : Nat} (h : Lr w wb sm mn [] [] (.slice F1 n1 c1) (.slice F2 n2 c2) (.slice none 0 0) (.slice none 0 0)) : EvC w t sm mn (.pointer (some ⟨wb.heap.size, 0, none⟩)) (wb.alloc (.cells (leC t (.slice F1 n1 c1) (.slice F2 n2 c2) (.slice none 0 0) (.slice none 0 0)) LT10)) :=
  ⟨_, _, _, _, _, _, _, rfl, h.below (low_one _ _), h.low.size, heap_alloc_new wb _⟩
theorem evc_a {t P : Nat} {F1 F2 : Option Addr} {n1 c1 n2 c2 : Nat} (h : Lr w wb sm mn [] [] (.slice F1 n1 c1) (.slice F2 n2 c2) (.slice none 0 0) (.slice none 0 0)) (hP : wb.heap[P]? = some (.cells zL10 LT10 (0, 0))) (hge : w.heap.size ≤ P) :
    EvC w t sm mn (.pointer (some ⟨P, 0, none⟩)) (((((wb.setCell ⟨P, 0, none⟩ (.int .i64 (t : Nat))).setCell ⟨P, 1, none⟩ (.slice F1 n1 c1)).setCell ⟨P, 2, none⟩ (.slice F2 n2 c2)).setCell ⟨P, 3, none⟩ (.slice none 0 0)).setCell ⟨P, 4, none⟩ (.slice none 0 0)) := by
  obtain ⟨h1, h2⟩ := c5_set hP (.int .i64 (t : Nat)) (.slice F1 n1 c1) (.slice F2 n2 c2) (.slice none 0 0) (.slice none 0 0)
  exact ⟨_, _, _, _, _, _, _, rfl, h.only_b hge hP rfl h2, hge, h1⟩
end
section
variable {wA w : World} {s : L10} {u1 u2 u3 : Value} {b r : Nat}
/- From the box of the queues on. -/
structure Eq10 (w wr : World) (s σ : L10) (N m P t : Nat) (ev gh : List Nat) (v1 v2 v3 v4 : Value) : Prop where
  rows : Lr w wr σ.small σ.main.reverse ev gh v1 v2 v3 v4
  box : Bl w wr P t v1 v2 v3 v4
  ep : Ep s N m σ ev gh
def EvP (wA : World) (b r : Nat) (s : L10) (N : Nat) (e : Ending) (w' : World) : Prop := ∃ o v1 v2 v3, e = .returned o ∧ Bx10 wA w' PT10 b r (s.shr N).fall v1 v2 v3 ∧ KV w' o (s.shrOut N)
set_option maxHeartbeats 4000000 in
set_option maxRecDepth 4000 in
theorem evict10_walk (hX : Bx10 wA w PT10 b r s u1 u2 u3) (fine : s.Fine) (ht : s.total ≤ 1048576) (hg : s.ghost.length ≤ 2000000) (hc1 : 1 ≤ s.c) (hc : s.c ≤ 1048576) (N : Nat) (hN : N ≤ 1048576) :
    Calls Try.prog 45 #[.pointer (some ⟨b, 0, none⟩), .int .i64 (N : Nat)] w (EvP wA b r s N) := by
  obtain ⟨F1, n1, d1, rfl⟩ := hX.st.form1
  obtain ⟨F2, n2, d2, rfl⟩ := hX.st.form2
  obtain ⟨F3, n3, d3, rfl⟩ := hX.st.form3
  have htt : s.small.length + s.main.length ≤ 1048576 := ht
  have HX := Lib.hid hX
  have hbb := (head_row hX.bo.box).lt
  have HFI := Lib.hid fine
  have HTG := Lib.hid (And.intro ht hg)
  have HCC := Lib.hid (And.intro hc1 hc)
  have HEP : Hid (Ep s N (s.total - N) s [] []) := Lib.hid (Ep.start fine ht N)
  obtain ⟨q, hq⟩ : ∃ q, tgt s.c = q := ⟨_, rfl⟩
  have HQ := Lib.hid hq
  have HTA := Lib.hid (fun W : World => target10_walk (w := W) s.c hc)
  rw [hq] at HTA
  obtain ⟨c, hce⟩ : ∃ c, s.c = c := ⟨_, rfl⟩
  have HCE := Lib.hid hce
  rw [hce] at HTA
  have HCA : Hid (∀ W, Below w.heap.size w W → Calls Try.prog 58 #[.slice F1 n1 d1] W (RetI W s.small)) := Lib.hid (fun W hb => copyI_walk (HX.out.step hb).st.g1 (by omega))
  have HCB : Hid (∀ W, Below w.heap.size w W → Calls Try.prog 58 #[.slice F2 n2 d2] W (RetI W s.main)) := Lib.hid (fun W hb => copyI_walk (HX.out.step hb).st.g2 (by omega))
  have HSS : Hid (∀ w' : World, (∀ k, k < w.heap.size → w'.heap[k]? = w.heap[k]?) → w'.cell? ⟨b, 0, none⟩ = some (.int .i64 (c : Nat)) ∧ w'.cell? ⟨b, 1, none⟩ = some (.slice F1 n1 d1) ∧ w'.cell? ⟨b, 2, none⟩ = some (.slice F2 n2 d2)) := Lib.hid (fun w' hh => by
    obtain ⟨⟨x0, x1, x2, x3⟩, _⟩ := c4_at ((hh b (head_row hX.bo.box).lt).trans hX.bo.box)
    rw [hce] at x0
    exact ⟨x0, x1, x2⟩)
  obtain ⟨x0, x1, x2⟩ := HSS.out w (fun _ _ => rfl)
  have hNI : (N : Int) ≤ 1048576 := by omega
  clear hX fine ht hg hc1 hc hq hce htt
  go_enter Try.func45, Try.ntmps45
  go_wp2_with fail
  go_cut [5] (fun s5 wx => EvC w q s.small s.main s5 wx)
  case first =>
    go_region_held3 (fun w' => w'.cell? ⟨b, 0, none⟩ = some (.int .i64 (c : Nat)) ∧ w'.cell? ⟨b, 1, none⟩ = some (.slice F1 n1 d1) ∧ w'.cell? ⟨b, 2, none⟩ = some (.slice F2 n2 d2))
      (first | with_reducible exact kkb | with_reducible exact KK1 _ (c5_set hPb _ _ _ _ _).2 | with_reducible exact kka | go_keep)
      (first
        | (go_at_call 58; refine (HCB.out _ (hbA.trans (low_one_le wa (.cells zL10 LT10) hbA.size))).mono ?_; rintro e wb ⟨vb, rfl, hb⟩; obtain ⟨Fb, nb, db, rfl⟩ := hb.iv.form; have hbB := (hbA.trans (low_one_le wa (.cells zL10 LT10) hbA.size)).trans (hb.low.mono (by have := hbA.size; simp; omega)); have hPb := (hb.low.block wa.heap.size (by simp)).trans (heap_alloc_new wa _); have kkb := HSS.out wb (fun k hk => hbB.block k hk); obtain ⟨⟨z0, z1, z2, z3, z4⟩, zf0, zf1, zf2, zf3, zf4⟩ := c5_at hPb; have hPl := (head_row hPb).lt; have KK1 := fun (W : World) (ho : Only [wa.heap.size] wb W) => HSS.out W (fun k hk => (ho.block k (Nat.lt_of_lt_of_le hk hbB.size) (by have := hbA.size; simp; omega)).trans (hbB.block k hk)))
        | (go_at_call 58; refine (HCB.out wa hbA).mono ?_; rintro e wb ⟨vb, rfl, hb⟩; obtain ⟨Fb, nb, db, rfl⟩ := hb.iv.form; have hbB := hbA.trans (hb.low.mono hbA.size); have hPb := (hb.low.block w.heap.size (head_row hPa).lt).trans hPa; have kkb := HSS.out wb (fun k hk => hbB.block k hk); obtain ⟨⟨z0, z1, z2, z3, z4⟩, zf0, zf1, zf2, zf3, zf4⟩ := c5_at hPb; have hPl := (head_row hPb).lt; have KK1 := fun (W : World) (ho : Only [w.heap.size] wb W) => HSS.out W (fun k hk => (ho.block k (Nat.lt_of_lt_of_le hk hbB.size) (by simp; omega)).trans (hbB.block k hk)))
        | (go_at_call 58; refine (HCB.out wa hbA).mono ?_; rintro e wb ⟨vb, rfl, hb⟩; obtain ⟨Fb, nb, db, rfl⟩ := hb.iv.form; have hbB := hbA.trans (hb.low.mono hbA.size); have kkb := HSS.out wb (fun k hk => hbB.block k hk))
        | (go_at_call 58; refine (HCA.out _ (below_drewn (low_one w (.cells zL10 LT10)) _)).mono ?_; rintro e wa ⟨va, rfl, ha⟩; obtain ⟨Fa, na, da, rfl⟩ := ha.iv.form; have hbA := (below_drewn (low_one w (.cells zL10 LT10)) _).trans (ha.low.mono (by simp)); have hPa := (ha.low.block w.heap.size (by simp)).trans (heap_alloc_new w (.cells zL10 LT10)); have kka := HSS.out wa (fun k hk => hbA.block k hk))
        | (go_at_call 58; refine (HCA.out _ (below_drewn (Below.refl _ _) _)).mono ?_; rintro e wa ⟨va, rfl, ha⟩; obtain ⟨Fa, na, da, rfl⟩ := ha.iv.form; have hbA := (below_drewn (Below.refl w.heap.size w) _).trans ha.low; have kka := HSS.out wa (fun k hk => hbA.block k hk))
        | (go_at_call 61; refine (HTA.out _).mono ?_; rintro e wt ⟨rfl, rfl⟩))
    all_goals
      go_wp2_with fail
      go_meet
      first
        | exact evc_a (ev_rows hbB ha.iv (hb.low.mono (Nat.le_refl _)) hb.own (Nat.le_refl _) hbA.size) hPb (Nat.le_refl _)
        | exact evc_a (ev_rows hbB ha.iv ((low_one wa (.cells zL10 LT10)).trans (hb.low.mono (by simp))) hb.own (by simp) (by have := hbA.size; simp; omega)) hPb hbA.size
        | exact evc_b (ev_rows hbB ha.iv (hb.low.mono (Nat.le_refl _)) hb.own (Nat.le_refl _) hbA.size)
  case rest =>
    obtain ⟨P, Fa, na, ca, Fb, nb, cb, rfl, hl, hb⟩ := hcut
    have hna : na = s.small.length := by
      obtain ⟨F, c', e, _⟩ := hl.sm.mem
      injection e
    have hnb : nb = s.main.length := by
      obtain ⟨F, c', e, _⟩ := hl.mn.iv.mem
      injection e
    have hab : s.small.length + s.main.length ≤ 1048576 := HTG.out.1
    have KR := Lib.hid (revI_walk hl.mn hl.low.size (by omega))
    have HL := Lib.hid hl
    have HB := Lib.hid hb
    obtain ⟨⟨y0, y1, y2, y3, y4⟩, yf0, yf1, yf2, yf3, yf4⟩ := hb.cells
    have hpl := hb.lt
    have hnaI : (na : Int) ≤ 1048576 := by omega
    have hnbI : (nb : Int) ≤ 1048576 := by omega
    have HNB := Lib.hid (And.intro hna hnb)
    clear hna hnb hab hl hb HSS HCA HCB HTA x0 x1 x2 hbb
    go_wp2_with fail
    refine KR.out.mono ?_
    rintro e w2 ⟨rfl, hq2, hg2⟩
    have HL2 := Lib.hid (HL.out.app2 hq2 ⟨hg2, .inl rfl⟩)
    have HB2 := Lib.hid (HL.out.bl2 HB.out ⟨hg2, .inl rfl⟩)
    clear hq2 hg2 HL HB KR y0 y1 y2 y3 y4 yf0 yf1 yf2 yf3 yf4 hpl
    obtain ⟨⟨y0, y1, y2, y3, y4⟩, yf0, yf1, yf2, yf3, yf4⟩ := HB2.out.cells
    have hpl := HB2.out.lt
    go_upto_region 3 with fail
    go_cut [34, 35] (fun s34 s35 wx => s34 = .int .i64 ((na : Int) + (nb : Int) - (N : Int)) ∧ s35 = .int .i64 0 ∧ wx = w2)
    case first =>
      by_cases hN0 : N = 0
      · subst hN0
        go_wp2_with fail
        go_meet
        exact ⟨by simp, rfl, rfl⟩
      · have hN1 : (0 : Int) < (N : Int) := by omega
        go_wp2_with fail
        go_meet
        exact ⟨rfl, rfl, rfl⟩
    case rest =>
      obtain ⟨rfl, rfl, rfl⟩ := hcut
      go_wp2_with fail
      generalize hGT : s.total - N = T at HEP ⊢
      have hTn : (T : Int) = (na : Int) + (nb : Int) - (N : Int) ∨ T = 0 ∧ (na : Int) + (nb : Int) ≤ (N : Int) := by have : s.total = s.small.length + s.main.length := rfl; have := HNB.out; omega
      clear hGT
      go_loopg [35] T (fun gg s35 wr => ∃ (i : Nat) (σ : L10) (ev gh : List Nat) (v1 v2 v3 v4 : Value), i + gg = T ∧ s35 = .int .i64 (i : Nat) ∧ Hid (Eq10 w wr s σ N gg P q ev gh v1 v2 v3 v4))
      case atStart => exact ⟨0, s, [], [], _, _, _, _, by omega, rfl, Lib.hid ⟨HL2.out, HB2.out, HEP.out⟩⟩
      case round =>
        clear HL2 HB2 HEP y0 y1 y2 y3 y4 yf0 yf1 yf2 yf3 yf4 hpl
        obtain ⟨i, σ, ev, gh, v1, v2, v3, v4, hi, rfl, HI⟩ := hrel
        obtain ⟨G1, m1, e1, rfl⟩ := HI.out.rows.sm.form
        obtain ⟨G2, m2, e2, rfl⟩ := HI.out.rows.mn.frm
        obtain ⟨G3, m3, e3, rfl⟩ := HI.out.rows.ev.kv.form
        obtain ⟨G4, m4, e4, rfl⟩ := HI.out.rows.gh.kv.form
        obtain ⟨⟨y0, y1, y2, y3, y4⟩, yf0, yf1, yf2, yf3, yf4⟩ := HI.out.box.cells
        have hpl := HI.out.box.lt
        have hlen := HI.out.ep.len HFI.out HTG.out.1
        by_cases hlt : i < T
        · have hltI : (i : Int) < (na : Int) + (nb : Int) - (N : Int) := by omega
          have KE := Lib.hid (eone_walk HI.out.rows (by rw [HI.out.ep.c, HQ.out]; exact HI.out.box) (by have := HI.out.ep.m; omega) HI.out.ep.tot (by rw [HI.out.ep.c]; exact HCC.out.2) (fun x hx => HI.out.ep.fine.f x (List.mem_append_right _ hx)) (by omega) (by omega))
          have HEN : Hid (Ep s N (gk - 1) σ.evict.1 (ev ++ [σ.evict.2]) (gh ++ remL σ)) := Lib.hid (by
            have h := HI.out.ep
            rw [show gk = gk - 1 + 1 by omega] at h
            exact h.next)
          have HEC := Lib.hid HI.out.ep.c
          clear HI hlt
          go_wp2_with fail
          refine KE.out.mono ?_
          rintro e w5 ⟨v1', v2', v3', v4', rfl, hl5, hb5⟩
          rw [HEC.out, HQ.out] at hb5
          have HNX : Hid (Eq10 w w5 s σ.evict.1 N (gk - 1) P q (ev ++ [σ.evict.2]) (gh ++ remL σ) v1' v2' v3' v4') := Lib.hid ⟨hl5, hb5, HEN.out⟩
          clear hl5 hb5 HEN HEC KE y0 y1 y2 y3 y4 yf0 yf1 yf2 yf3 yf4 hpl hlen
          go_wp2
          go_roundg (gk - 1)
          case measure => omega
          case rel => exact ⟨i + 1, σ.evict.1, _, _, _, _, _, _, by omega, by go_num, HNX⟩
        · have hltI : ¬ (i : Int) < (na : Int) + (nb : Int) - (N : Int) := by omega
          have HFIN : Hid ((s.shr N).fall = ⟨s.c, σ.small, σ.main, (gh.reverse ++ s.ghost).take (room s.c)⟩ ∧ s.shrOut N = ev) := Lib.hid (by
            have h := HI.out.ep
            rw [show gk = 0 by omega] at h
            exact ⟨h.fin.2.2, h.fin.2.1.symm⟩)
          have HLE := Lib.hid hlen
          have hml : σ.main.reverse.length ≤ 100000000 := by
            have h1 : σ.small.length + σ.main.length ≤ 1048576 := HI.out.ep.tot
            rw [List.length_reverse]
            omega
          have KR := Lib.hid (revI_walk HI.out.rows.mn HI.out.rows.low.size hml)
          rw [List.reverse_reverse] at KR
          clear hlen hml hlt
          go_wp2_with fail
          refine KR.out.mono ?_
          rintro e w6 ⟨rfl, hq6, hg6⟩
          have hl6 := HI.out.rows.app2 hq6 ⟨hg6, .inl rfl⟩
          have hb6 := HI.out.rows.bl2 HI.out.box ⟨hg6, .inl rfl⟩
          have HL6 := Lib.hid hl6
          have HB6 := Lib.hid hb6
          clear hq6 hg6 hl6 hb6 HI KR y0 y1 y2 y3 y4 yf0 yf1 yf2 yf3 yf4 hpl
          obtain ⟨⟨y0, y1, y2, y3, y4⟩, yf0, yf1, yf2, yf3, yf4⟩ := HB6.out.cells
          have hpl := HB6.out.lt
          have KG := Lib.hid (revK_walk HL6.out.gh HL6.out.low.size (by have := HLE.out.2; omega))
          go_wp2_with fail
          refine KG.out.mono ?_
          rintro e w7 ⟨rfl, hq7, hg7⟩
          have hl7 := HL6.out.app4 hq7 ⟨hg7, .inl rfl⟩
          have hb7 := HL6.out.gh.bl HB6.out ⟨hg7, .inl rfl⟩
          have hxq := HX.out.step hl7.low
          have hne : b ≠ P := by have := hb7.ge; have := (head_row HX.out.bo.box).lt; omega
          have hne2 : P ≠ b := fun e => hne e.symm
          clear y0 y1 y2 y3 y4 yf0 yf1 yf2 yf3 yf4 hpl HL6 HB6 KG
          obtain ⟨⟨y0, y1, y2, y3, y4⟩, yf0, yf1, yf2, yf3, yf4⟩ := hb7.cells
          have hpl := hb7.lt
          obtain ⟨⟨x0, x1, x2, x3⟩, xf0, xf1, xf2, xf3⟩ := c4_at hxq.bo.box
          have hbb := (head_row hxq.bo.box).lt
          have hx1 := hxq.set1 hl7.sm
          have hx2 := hx1.set2 (hxq.bo.iv ((Only.refl _ _).setCell (by simp) _) hl7.mn.iv)
          have hk3 := hx1.kv (i := 2) (x := (.slice G2 m2 e2)) (hxq.kv (i := 1) (x := (.slice G1 m1 e1)) hl7.ev.kv)
          have hk4 := hx1.kv (i := 2) (x := (.slice G2 m2 e2)) (hxq.kv (i := 1) (x := (.slice G1 m1 e1)) hl7.gh.kv)
          have hP7 : ((w7.setCell ⟨b, 1, none⟩ (.slice G1 m1 e1)).setCell ⟨b, 2, none⟩ (.slice G2 m2 e2)).heap[P]? = some (.cells (leC q (.slice G1 m1 e1) (.slice G2 m2 e2) (.slice G3 m3 e3) (.slice G4 m4 e4)) LT10 (0, 0)) := (Below.heap_setCell _ _ _ _ hne2).trans ((Below.heap_setCell _ _ _ _ hne2).trans hb7.at_)
          have HX2 := Lib.hid hx2
          have HK3 := Lib.hid hk3
          have HK4 := Lib.hid hk4
          have HP7 := Lib.hid hP7
          clear hq7 hg7 hl7 hb7 hxq hx1 hx2 hk3 hk4 hP7 HX
          go_upto_region 10 with fail
          generalize (w7.setCell ⟨b, 1, none⟩ (.slice G1 m1 e1)).setCell ⟨b, 2, none⟩ (.slice G2 m2 e2) = W at HX2 HK3 HK4 HP7 ⊢
          clear y0 y1 y2 y3 y4 yf0 yf1 yf2 yf3 yf4 hpl x0 x1 x2 x3 xf0 xf1 xf2 xf3 hbb
          have HSX : Hid (∀ w' : World, Below W.heap.size W w' → w'.cell? ⟨b, 0, none⟩ = some (.int .i64 (s.c : Nat)) ∧ w'.cell? ⟨b, 3, none⟩ = some (.slice F3 n3 d3) ∧ w'.cell? ⟨P, 4, none⟩ = some (.slice G4 m4 e4) ∧ w'.frozen? ⟨b, 3, none⟩ = false ∧ b < w'.heap.size) := Lib.hid (fun w' hb => by
            obtain ⟨⟨x0, x1, x2, x3⟩, xf0, xf1, xf2, xf3⟩ := c4_at (HX2.out.step hb).bo.box
            obtain ⟨⟨y0, y1, y2, y3, y4⟩, _⟩ := c5_at ((hb.block P (head_row HP7.out).lt).trans HP7.out)
            exact ⟨x0, x3, y4, xf3, (head_row (HX2.out.step hb).bo.box).lt⟩)
          obtain ⟨x0, x3, y4, xf3, hbb⟩ := HSX.out W (Below.refl _ _)
          have hpl := (head_row HP7.out).lt
          have hfl : [gh.reverse, s.ghost].flatten = gh.reverse ++ s.ghost := by simp
          have hll : (gh.reverse ++ s.ghost).length ≤ 100000000 := by
            have h1 := HLE.out.2
            have h2 := HTG.out.2
            rw [List.length_append, List.length_reverse]
            omega
          have HC : Hid (∀ (W : World) (v : Value), KVV W v [gh.reverse, s.ghost] → Calls Try.prog 66 #[v] W (OwnK W (gh.reverse ++ s.ghost))) := Lib.hid (fun W v hv => by
            have h := concat_walk hv (by simp) (by rw [hfl]; exact hll)
            rw [hfl] at h
            exact h)
          have HV := Lib.hid (KVV.two HK4.out HX2.out.st.g3 25)
          obtain ⟨R, hR⟩ : ∃ R, room s.c = R := ⟨_, rfl⟩
          have KRM := Lib.hid (fun W : World => room10_walk (w := W) s.c HCC.out.2 HCC.out.1)
          have hRI : R ≤ 1048576 := by have := room_le s.c; have := HCC.out.2; omega
          rw [hR] at KRM HFIN
          have HHL := Lib.hid hll
          clear hR hfl hll HLE HTG HCC HFI HQ
          obtain ⟨ys, hys⟩ : ∃ ys, gh.reverse ++ s.ghost = ys := ⟨_, rfl⟩
          rw [hys] at HC HFIN HHL
          clear hys
          go_wp2_with fail
          go_cut [] (fun wx => ∃ Fg ng dg, Bx10 wA wx PT10 b r ⟨s.c, σ.small, σ.main, ys.take R⟩ (.slice G1 m1 e1) (.slice G2 m2 e2) (.slice Fg ng dg) ∧ KV wx (.slice G3 m3 e3) ev ∧ wx.heap[P]? = some (.cells (leC q (.slice G1 m1 e1) (.slice G2 m2 e2) (.slice G3 m3 e3) (.slice G4 m4 e4)) LT10 (0, 0)))
          case first =>
            go_region_law
              (first
                | (go_simp; go_at_call 66; refine (HC.out _ _ (HV.out.below (below_drewn (Below.refl _ _) _))).mono ?_; rintro e wp ⟨vp, rfl, ha⟩; have hba := (below_drewn (low_one W (.cells #[(.slice G4 m4 e4), .slice F3 n3 d3] 25)) _).trans (ha.low.mono (by simp)); obtain ⟨kk0, kk1, kk2, kk3, kk4⟩ := HSX.out wp hba)
                | (go_simp; go_at_call 67; refine (KRM.out _).mono ?_; rintro e wk ⟨rfl, rfl⟩)
                | (go_simp; go_at_call 65; refine (fall_walk ha.kv HHL.out (R : Nat) (by omega) (by omega)).mono ?_; rintro e wq ⟨vq1, vq2, rfl, hbq, hkq1, hkq2⟩; obtain ⟨Fg, ng, dg, rfl⟩ := hkq2.form; have hbq2 := hba.trans (hbq.mono hba.size); obtain ⟨qq0, qq1, qq2, qq3, qq4⟩ := HSX.out wq hbq2))
            all_goals
              go_wp2_with fail
              go_meet
              rw [Int.toNat_natCast] at hkq2
              exact ⟨_, _, _, (HX2.out.step hbq2).set3 hkq2, (HX2.out.step hbq2).kv (HK3.out.below hbq2), (Below.heap_setCell _ _ _ _ hne2).trans ((hbq2.block P (head_row HP7.out).lt).trans HP7.out)⟩
          case rest =>
            obtain ⟨Fg, ng, dg, hxz, hkz, hpz⟩ := hcut
            have HF := Lib.hid (And.intro hxz hkz)
            obtain ⟨⟨z0, z1, z2, z3, z4⟩, _⟩ := c5_at hpz
            clear hxz hkz hpz HX2 HK3 HK4 HP7 HSX HC HV KRM x0 x3 y4 xf3 hbb hpl
            go_wp2
            go_ret
            refine ⟨(.slice G3 m3 e3), (.slice G1 m1 e1), (.slice G2 m2 e2), .slice Fg ng dg, rfl, ?_, ?_⟩
            · rw [HFIN.out.1]
              exact HF.out.1
            · rw [HFIN.out.2]
              exact HF.out.2
end
end Go.Proofs.Ytlekhmpalcgbmaa
