/- Words and walks: EaLo EaRo. -/
import Derived.Test.YtgkblelgcikafaaG30
import Derived.Deep.DeepCutAuto
namespace Go.Proofs.Ytgkblelgcikafaa
open Go Go.RowKit Go.Deep
section
variable {v : Value} {l : List Act8}
set_option maxHeartbeats 8000000 in
set_option maxRecDepth 4000 in
theorem looks17_short (w : World) (c : Nat) (hc : c < 256) (ha : AV w v l) (hl : l.length ≤ 60) (k : Nat) (hk : k < 18446744073709551616) : Calls Try.prog 4 #[.int .u8 (c : Nat), v, .int .u64 (k : Nat)] w (RetB w true) := by
  have HA := Lib.hid ha
  have HK := Lib.hid hk
  clear hk
  have HAW := Lib.hid (awake17_walk w)
  obtain ⟨A, cap, rfl, _⟩ := ha.mem
  obtain ⟨m0, hm0⟩ : ∃ m : Nat, 1 + c % 12 = m := ⟨_, rfl⟩
  have hmI : (1 : Int) + (c : Int) % 12 = (m0 : Int) := by omega
  have hc0 : (L11.new (m0 : Int)).c ≤ 14 := by rw [L11.new_c m0 (by omega) (by omega)]; omega
  have HNW : Hid (∀ W, Below w.heap.size w W → Calls Try.prog 8 #[.int .i64 (m0 : Int)] W fun e w' => ∃ xp, e = .returned (ptr xp) ∧ EC w w' xp (L11.new (m0 : Int)) 14) := Lib.hid (fun W hb => (enew_walk hb (m0 : Int) (by omega) (by omega)).mono (fun e w' ⟨xp, he, h, _⟩ => ⟨xp, he, h.more (by decide) (by decide)⟩))
  have HNR := Lib.hid (fun W => r11new_walk (w := W) (m0 : Int) (by omega) (by omega))
  have hok0 : (L11.new (m0 : Int)).Ok := L11.ok_new _
  obtain ⟨s0, hs0⟩ : ∃ s0, L11.new (m0 : Int) = s0 := ⟨_, rfl⟩
  rw [hs0] at HNW HNR hok0 hc0
  have HOK0 := Lib.hid hok0
  obtain ⟨na, hna⟩ : ∃ na, l.length = na := ⟨_, rfl⟩
  rw [hna] at hl HA ⊢
  have HNA := Lib.hid hna
  have HAX : Hid (∀ W, Below w.heap.size w W → ∀ i (hi : i < l.length), l[i].Ok ∧ ∃ g off, A = some ⟨g, off, none⟩ ∧ g < w.heap.size ∧ ActAt W g (off + i * 3) l[i]) := Lib.hid (fun W hb i hi => by
    obtain ⟨A', c', e, h1⟩ := HA.out.mem
    injection e with e1 _ _
    subst e1
    obtain ⟨ok, g, off, e2, hg, hcc⟩ := h1 i hi
    exact ⟨ok, g, off, e2, hg, hcc.keep (hb.block g hg)⟩)
  have HOKR : Hid (∀ i, (s0.runS (l.take i)).Ok ∧ (s0.runS (l.take i)).c ≤ 14) := Lib.hid (fun i => ⟨HOK0.out.runS _ (fun x hx => by
    obtain ⟨j, hj, rfl⟩ := List.getElem_of_mem (List.mem_of_mem_take hx)
    exact (HAX.out w (Below.refl _ _) j hj).1), L11.runS_c _ hc0⟩)
  clear ha hok0 hs0 hna HA hm0 hc0
  have q1 : (0 : Int) ≤ (c : Int) := by omega
  have q2 : (c : Int) ≤ 255 := by omega
  have hlI : ¬ (60 : Int) < (na : Int) := by omega
  go_enter Try.func4, Try.ntmps4
  go_wp2_with fail
  refine HAW.out.mono ?_
  rintro e w1 ⟨rfl, hb1⟩
  have HL1 := Lib.hid hb1
  clear hb1 HAW
  go_wp2_with fail
  try rw [hmI]
  refine (HNW.out w1 HL1.out).mono ?_
  rintro e w2 ⟨xp, rfl, h2⟩
  have H2 := Lib.hid h2
  clear h2 HNW HL1
  go_wp2_with fail
  try rw [hmI]
  refine (HNR.out w2).mono ?_
  rintro e w4 ⟨q_1, q_2, q_3, q_4, rfl, hb4, hk4⟩
  obtain ⟨Fb1, nb1, db1, rfl⟩ := hk4.form1; obtain ⟨Fb2, nb2, db2, rfl⟩ := hk4.form2; obtain ⟨Fb3, nb3, db3, rfl⟩ := hk4.form3; obtain ⟨Fb4, nb4, db4, rfl⟩ := hk4.form4
  have HI0 : Hid (ES w (w4.alloc (.cells (l11C s0.c s0.p (.slice Fb1 nb1 db1) (.slice Fb2 nb2 db2) (.slice Fb3 nb3 db3) (.slice Fb4 nb4 db4)) T11)) xp w4.heap.size T11 s0 Fb1 nb1 db1 Fb2 nb2 db2 Fb3 nb3 db3 Fb4 nb4 db4) := Lib.hid ⟨(H2.out.still hb4).still (low_one w4 _), heap_alloc_new w4 _, hk4.below (low_one w4 _), by have := H2.out.below.size; have := hb4.size; omega⟩
  clear hb4 hk4 HNR H2
  go_wp2_with fail
  generalize (w4.alloc (.cells (l11C s0.c s0.p (.slice Fb1 nb1 db1) (.slice Fb2 nb2 db2) (.slice Fb3 nb3 db3) (.slice Fb4 nb4 db4)) T11)) = wI at HI0 ⊢
  generalize w4.heap.size = b7 at HI0 ⊢
  go_loopg [10, 11, 12] na (fun gg s10 s11 s12 wr => ∃ (i : Nat) (F1 : Option Addr) (n1 d1 : Nat) (F2 : Option Addr) (n2 d2 : Nat) (F3 : Option Addr) (n3 d3 : Nat) (F4 : Option Addr) (n4 d4 : Nat), i + gg = na ∧ s10 = .int .i64 (i : Nat) ∧ Hid (ES w wr xp b7 T11 (s0.runS (l.take i)) F1 n1 d1 F2 n2 d2 F3 n3 d3 F4 n4 d4))
  case atStart => exact ⟨0, _, _, _, _, _, _, _, _, _, _, _, _, by omega, rfl, HI0⟩
  case round =>
    obtain ⟨i, F1, n1, d1, F2, n2, d2, F3, n3, d3, F4, n4, d4, hi, rfl, HI⟩ := hrel
    by_cases hlt : i < na
    · have hltI : (i : Int) < (na : Int) := by omega
      have hil : i < l.length := by rw [HNA.out]; exact hlt
      obtain ⟨wf, g, off, hA, hg, hac⟩ := HAX.out wr HI.out.ec.below i hil
      obtain ⟨hok, hcc⟩ := HOKR.out i
      have hok2 := (HOKR.out (i + 1)).1
      have HNX := Lib.hid (s0.runS_next hil)
      obtain ⟨σ, hσ⟩ : ∃ σ, s0.runS (l.take i) = σ := ⟨_, rfl⟩
      obtain ⟨x, hx⟩ : ∃ x, l[i] = x := ⟨_, rfl⟩
      rw [hσ] at HI hok HNX hcc
      rw [hx] at wf hac HNX
      rw [HNX.out] at hok2
      have HOK2 := Lib.hid hok2
      have HOUT := Lib.hid (hok.actOutLen wf)
      clear hσ hx hok2
      subst hA
      have hgw : ∀ W, Below w.heap.size w W → g < W.heap.size := fun W hb => Nat.lt_of_lt_of_le hg hb.size
      have HAG : Hid (∀ W, Below w.heap.size w W → ActAt W g (off + i * 3) x) := Lib.hid (fun W hb => hac.keep ((hb.block g hg).trans (HI.out.ec.below.block g hg).symm))
      have HDO := Lib.hid (edo_walk HI.out.ec hcc x wf)
      have hWF := Lib.hid wf
      have hOK := Lib.hid hok
      obtain ⟨a0, a1, a2⟩ := hac
      clear HAX HOKR wf hok
      go_wp2_with fail
      refine HDO.out.mono ?_
      rintro e w5 ⟨o5, rfl, hp, ho5⟩
      have hbox5 := (hp.2 b7 (NP.cells HI.out.box (by decide))).trans HI.out.box
      have hst5 := HI.out.st.kn hp.2
      have hg5 := hgw w5 hp.1.below
      have hac5 := HAG.out w5 hp.1.below
      have hb5l := (head_row hbox5).lt
      have HEC5 := Lib.hid hp.1
      have HO5 := Lib.hid ho5
      have HBX5 := Lib.hid hbox5
      have HGE := Lib.hid HI.out.ge
      have HDR : Hid (∀ W, Below w5.heap.size w5 W → Calls Try.prog 11 #[.agg (l11C σ.c σ.p (.slice F1 n1 d1) (.slice F2 n2 d2) (.slice F3 n3 d3) (.slice F4 n4 d4)), .agg (act8C x)] W (P11o W (σ.act x) (σ.actOut x))) := Lib.hid (fun W hb => r11do_walk (hst5.below hb) hOK.out x hWF.out)
      have HSR : Hid (∀ w' : World, (∀ k, k < w5.heap.size → w'.heap[k]? = w5.heap[k]?) → w'.cell? ⟨b7, 0, none⟩ = some (.int .i64 ((σ).c : Nat)) ∧ w'.cell? ⟨b7, 1, none⟩ = some (.int .i64 ((σ).p : Nat)) ∧ w'.cell? ⟨b7, 2, none⟩ = some (.slice F1 n1 d1) ∧ w'.cell? ⟨b7, 3, none⟩ = some (.slice F2 n2 d2) ∧ w'.cell? ⟨b7, 4, none⟩ = some (.slice F3 n3 d3) ∧ w'.cell? ⟨b7, 5, none⟩ = some (.slice F4 n4 d4) ∧ w'.cell? ⟨g, off + i * 3, none⟩ = some (.int .u8 (x.kind : Nat)) ∧ w'.cell? ⟨g, off + i * 3 + 1, none⟩ = some (.int .u64 (x.key : Nat)) ∧ w'.cell? ⟨g, off + i * 3 + 2, none⟩ = some (.int .u16 (x.n : Nat))) := Lib.hid (fun w' hh => by
        obtain ⟨⟨x0, x1, x2, x3, x4, x5⟩, _⟩ := c6_at ((hh b7 hb5l).trans hbox5)
        obtain ⟨a0, a1, a2⟩ := hac5.keep (hh g hg5)
        exact ⟨x0, x1, x2, x3, x4, x5, a0, a1, a2⟩)
      clear a0 a1 a2 hp ho5 hbox5 hst5 hac5 HDO HI HAG hgw
      obtain ⟨x0, x1, x2, x3, x4, x5, a0, a1, a2⟩ := HSR.out w5 (fun _ _ => rfl)
      obtain ⟨w5c, hw5⟩ : ∃ y, y = w5 := ⟨_, rfl⟩
      subst hw5
      go_upto_region 10 with fail
      go_cut [11, 12] (fun s11 s12 wx => ∃ oo, oo = s12 ∧ Af11 w5c T11 (σ.act x) (σ.actOut x) s11 oo wx)
      case first =>
        go_region_held3 (fun w' => w'.cell? ⟨b7, 0, none⟩ = some (.int .i64 ((σ).c : Nat)) ∧ w'.cell? ⟨b7, 1, none⟩ = some (.int .i64 ((σ).p : Nat)) ∧ w'.cell? ⟨b7, 2, none⟩ = some (.slice F1 n1 d1) ∧ w'.cell? ⟨b7, 3, none⟩ = some (.slice F2 n2 d2) ∧ w'.cell? ⟨b7, 4, none⟩ = some (.slice F3 n3 d3) ∧ w'.cell? ⟨b7, 5, none⟩ = some (.slice F4 n4 d4) ∧ w'.cell? ⟨g, off + i * 3, none⟩ = some (.int .u8 (x.kind : Nat)) ∧ w'.cell? ⟨g, off + i * 3 + 1, none⟩ = some (.int .u64 (x.key : Nat)) ∧ w'.cell? ⟨g, off + i * 3 + 2, none⟩ = some (.int .u16 (x.n : Nat)))
          (first | with_reducible exact kk0 | with_reducible exact KK1 _ (c6_set hP5 _ _ _ _ _ _).2 | go_keep)
          (first
          | (go_at_call 11; refine (HDR.out _ (below_drewn (low_one w5c (.cells z11 T11)) _)).mono ?_; rintro e w6 ⟨q_1, q_2, q_3, q_4, o6, he, hb6, hk6, ho6⟩; obtain ⟨Fa1, na1, da1, rfl⟩ := hk6.form1; obtain ⟨Fa2, na2, da2, rfl⟩ := hk6.form2; obtain ⟨Fa3, na3, da3, rfl⟩ := hk6.form3; obtain ⟨Fa4, na4, da4, rfl⟩ := hk6.form4; subst he; have hbA := (below_drewn (Below.refl (w5c.alloc (.cells z11 T11)).heap.size (w5c.alloc (.cells z11 T11))) _).trans hb6; have kk0 := HSR.out w6 (fun k hk => (hbA.block k (by simp; omega)).trans (Below.heap_alloc w5c _ k hk)); have hP5 := (hbA.block w5c.heap.size (by simp)).trans (heap_alloc_new w5c _); have KK1 := fun (W : World) (ho : Only [w5c.heap.size] w6 W) => HSR.out W (fun k hk => (ho.block k (by have := hbA.size; simp at this; omega) (by simp; omega)).trans ((hbA.block k (by simp; omega)).trans (Below.heap_alloc w5c _ k hk))); obtain ⟨⟨z0, z1, z2, z3, z4, z5⟩, zf0, zf1, zf2, zf3, zf4, zf5⟩ := c6_at hP5)
          | (go_at_call 11; refine (HDR.out _ (below_drewn (Below.refl _ _) _)).mono ?_; rintro e w6 ⟨q_1, q_2, q_3, q_4, o6, he, hb6, hk6, ho6⟩; obtain ⟨Fa1, na1, da1, rfl⟩ := hk6.form1; obtain ⟨Fa2, na2, da2, rfl⟩ := hk6.form2; obtain ⟨Fa3, na3, da3, rfl⟩ := hk6.form3; obtain ⟨Fa4, na4, da4, rfl⟩ := hk6.form4; subst he; have hbA := (below_drewn (Below.refl w5c.heap.size w5c) _).trans hb6; have kk0 := HSR.out w6 (fun k hk => hbA.block k hk)))
        all_goals
          go_wp2_with fail
          go_meet
          first
            | exact ⟨_, rfl, af11_b hbA hk6 ho6⟩
            | exact ⟨_, rfl, af11_a (zs := z11) (by decide) rfl ⟨_, _, _, _, _, _, rfl⟩ hbA hP5 hk6 ho6⟩
      case rest =>
        obtain ⟨o2, rfl, P2, Fd1, nd1, dd1, Fd2, nd2, dd2, Fd3, nd3, dd3, Fd4, nd4, dd4, rfl, hbc, hP2, hcell, hst, hou⟩ := hcut
        have hbx := (hbc.block b7 hb5l).trans HBX5.out
        have hne : P2 ≠ b7 := by omega
        have hne' := Ne.symm hne
        obtain ⟨⟨j0, j1, j2, j3, j4, j5⟩, _⟩ := c6_at hcell
        obtain ⟨⟨y0, y1, y2, y3, y4, y5⟩, yf0, yf1, yf2, yf3, yf4, yf5⟩ := c6_at hbx
        have HN : Hid (ES w ((((((wc.setCell ⟨b7, 0, none⟩ (.int .i64 ((σ.act x).c : Nat))).setCell ⟨b7, 1, none⟩ (.int .i64 ((σ.act x).p : Nat))).setCell ⟨b7, 2, none⟩ (.slice Fd1 nd1 dd1)).setCell ⟨b7, 3, none⟩ (.slice Fd2 nd2 dd2)).setCell ⟨b7, 4, none⟩ (.slice Fd3 nd3 dd3)).setCell ⟨b7, 5, none⟩ (.slice Fd4 nd4 dd4)) xp b7 T11 (s0.runS (l.take (i + 1))) Fd1 nd1 dd1 Fd2 nd2 dd2 Fd3 nd3 dd3 Fd4 nd4 dd4) := Lib.hid (by
          rw [HNX.out]
          exact (es_store (Fp1 := Fd1) (np1 := nd1) (dp1 := dd1) (Fp2 := Fd2) (np2 := nd2) (dp2 := dd2) (Fp3 := Fd3) (np3 := nd3) (dp3 := dd3) (Fp4 := Fd4) (np4 := nd4) (dp4 := dd4) (HEC5.out.still hbc) hbx hst HGE.out (by decide) (by decide)).1)
        clear x0 x1 x2 x3 x4 x5 a0 a1 a2 hbc hst hou hcell hbx HSR HDR HEC5 HO5 HBX5 HGE hP2
        go_wp2
        go_roundg (na - i - 1)
        case measure => omega
        case rel => exact ⟨i + 1, _, _, _, _, _, _, _, _, _, _, _, _, by omega, by go_num, HN⟩
    · have hltI : ¬ (i : Int) < (na : Int) := by omega
      have hok := (HOKR.out i).1
      obtain ⟨σ, hσ⟩ : ∃ σ, s0.runS (l.take i) = σ := ⟨_, rfl⟩
      rw [hσ] at HI hok
      have HOK := Lib.hid hok
      have hkl := hok.keysLen
      clear hσ hok
      obtain ⟨⟨y0, y1, y2, y3, y4, y5⟩, _⟩ := c6_at HI.out.box
      go_wp2_with fail
      refine (r11keys_walk HI.out.st HOK.out).mono ?_
      rintro e w5 ⟨v5, rfl, hb, hk5⟩
      have HI5 := Lib.hid (HI.out.low hb)
      have HV5 := Lib.hid hk5
      clear hb hk5 HI y0 y1 y2 y3 y4 y5
      have HSS : Hid (∀ w' : World, Below w5.heap.size w5 w' → w'.cell? ⟨b7, 0, none⟩ = some (.int .i64 ((σ).c : Nat)) ∧ w'.cell? ⟨b7, 1, none⟩ = some (.int .i64 ((σ).p : Nat)) ∧ w'.cell? ⟨b7, 2, none⟩ = some (.slice F1 n1 d1) ∧ w'.cell? ⟨b7, 3, none⟩ = some (.slice F2 n2 d2) ∧ w'.cell? ⟨b7, 4, none⟩ = some (.slice F3 n3 d3) ∧ w'.cell? ⟨b7, 5, none⟩ = some (.slice F4 n4 d4)) := Lib.hid (fun w' hb => (HI5.out.low hb).cells)
      obtain ⟨y0, y1, y2, y3, y4, y5⟩ := HSS.out w5 (Below.refl _ _)
      go_upto_region 13 with fail
      go_region_held3 (fun w' => w'.cell? ⟨b7, 0, none⟩ = some (.int .i64 ((σ).c : Nat)) ∧ w'.cell? ⟨b7, 1, none⟩ = some (.int .i64 ((σ).p : Nat)) ∧ w'.cell? ⟨b7, 2, none⟩ = some (.slice F1 n1 d1) ∧ w'.cell? ⟨b7, 3, none⟩ = some (.slice F2 n2 d2) ∧ w'.cell? ⟨b7, 4, none⟩ = some (.slice F3 n3 d3) ∧ w'.cell? ⟨b7, 5, none⟩ = some (.slice F4 n4 d4))
        (first | with_reducible exact kkf | with_reducible exact kke | with_reducible exact kkc | with_reducible exact kkb | with_reducible exact kka | go_keep)
        (first
        | (go_at_call 16; refine (ekeys_walk (HI5.out.ec.still (below_drewn (Below.refl w5.heap.size w5) _))).mono ?_; rintro e wa ⟨va, rfl, hba, hka⟩; have hBa := (below_drewn (Below.refl w5.heap.size w5) _).trans hba; have kka := HSS.out wa hBa)
        | (go_at_call 12; refine (same_walk hka (HV5.out.below hBa) hkl).mono ?_; rintro e wb ⟨rfl, hbb⟩; rw [decide_eq_true rfl]; have hBb := hBa.trans (hbb.mono hBa.size); have kkb := HSS.out wb hBb)
        | (go_at_call 17; refine (ehas_walk (HI5.out.ec.still hBb) k HK.out).mono ?_; rintro e wc ⟨rfl, hbc⟩; have hBc := hBb.trans (hbc.mono hBb.size); have kkc := HSS.out wc hBc)
        | (go_at_call 18; refine (rhas_walk (HV5.out.below hBc) hkl k).mono ?_; rintro e wd ⟨rfl, rfl⟩)
        | (go_at_call 19; refine (eghosts_walk (HI5.out.ec.still hBc)).mono ?_; rintro e we ⟨rfl, hbe⟩; have hBe := hBc.trans (hbe.mono hBc.size); have kke := HSS.out we hBe)
        | (go_at_call 20; refine (r11ghosts_walk (HI5.out.st.below hBe) HOK.out).mono ?_; rintro e wf ⟨rfl, hbf⟩; have hBf := hBe.trans (hbf.mono hBe.size); have kkf := HSS.out wf hBf))
      have HL := Lib.hid (HI5.out.ec.below.trans (hBf.mono HI5.out.ec.below.size))
      go_wp2
      go_ret
      exact ⟨rfl, HL.out⟩
theorem looks17_walk (w : World) (c : Nat) (hc : c < 256) (ha : AV w v l) (k : Nat) (hk : k < 18446744073709551616) : Calls Try.prog 4 #[.int .u8 (c : Nat), v, .int .u64 (k : Nat)] w (RetB w true) := by
  by_cases hl : l.length ≤ 60
  · exact looks17_short w c hc ha hl k hk
  · have HAW := Lib.hid (awake17_walk w)
    obtain ⟨A, cap, rfl, _⟩ := ha.mem
    obtain ⟨na, hna⟩ : ∃ na, l.length = na := ⟨_, rfl⟩
    rw [hna] at hl ⊢
    have hlI : (60 : Int) < (na : Int) := by omega
    clear ha hna
    go_enter Try.func4, Try.ntmps4
    go_wp2_with fail
    refine HAW.out.mono ?_
    rintro e w1 ⟨rfl, hb1⟩
    have HB := Lib.hid hb1
    clear hb1
    go_wp2
    go_ret
    exact ⟨rfl, HB.out⟩
end
section
variable {w : World}
theorem rgrown_walk (c d : Nat) : Calls Try.prog 21 #[.int .i64 (c : Nat), .int .i64 (d : Nat)] w fun e w' => e = .returned (.int .i64 (max c d : Nat)) ∧ w = w' := by
  by_cases h : c < d
  · have hI : (c : Int) < (d : Int) := by omega
    have hm : Hid (max c d = d) := Lib.hid (by omega)
    go_enter Try.func21, Try.ntmps21
    go_wp2
    go_ret
    exact ⟨by rw [hm.out]; rfl, rfl⟩
  · have hI : ¬ (c : Int) < (d : Int) := by omega
    have hm : Hid (max c d = c) := Lib.hid (by omega)
    go_enter Try.func21, Try.ntmps21
    go_wp2
    go_ret
    exact ⟨by rw [hm.out]; rfl, rfl⟩
theorem rmost_walk (c : Nat) (hc : c ≤ 10000) : Calls Try.prog 23 #[.int .i64 (c : Nat)] w fun e w' => e = .returned (.int .i64 (12 * (c : Int) + 32)) ∧ w = w' := by
  have hI : (c : Int) ≤ 10000 := by omega
  have hJ : (0 : Int) ≤ (c : Int) := by omega
  go_enter Try.func23, Try.ntmps23
  go_wp2
  go_ret
  exact ⟨rfl, rfl⟩
end
section
variable {v : Value} {l : List Act8}
set_option maxHeartbeats 8000000 in
set_option maxRecDepth 4000 in
theorem rooms17_short (w : World) (c : Nat) (hc : c < 256) (ha : AV w v l) (hl : l.length ≤ 60) : Calls Try.prog 5 #[.int .u8 (c : Nat), v] w (RetB w true) := by
  have HA := Lib.hid ha
  have HAW := Lib.hid (awake17_walk w)
  obtain ⟨A, cap, rfl, _⟩ := ha.mem
  obtain ⟨m0, hm0⟩ : ∃ m : Nat, 1 + c % 12 = m := ⟨_, rfl⟩
  have hmI : (1 : Int) + (c : Int) % 12 = (m0 : Int) := by omega
  have hcm : (L11.new (m0 : Int)).c = m0 := L11.new_c m0 (by omega) (by omega)
  have hm14 : m0 ≤ 14 := by omega
  have hc0 : (L11.new (m0 : Int)).c ≤ 14 := by omega
  have HNW : Hid (∀ W, Below w.heap.size w W → Calls Try.prog 8 #[.int .i64 (m0 : Int)] W fun e w' => ∃ xp, e = .returned (ptr xp) ∧ EC w w' xp (L11.new (m0 : Int)) m0) := Lib.hid (fun W hb => (enew_walk hb (m0 : Int) (by omega) (by omega)).mono (fun e w' ⟨xp, he, h, _⟩ => ⟨xp, he, h.more (Nat.zero_le _) (by omega)⟩))
  have hok0 : (L11.new (m0 : Int)).Ok := L11.ok_new _
  obtain ⟨s0, hs0⟩ : ∃ s0, L11.new (m0 : Int) = s0 := ⟨_, rfl⟩
  rw [hs0] at HNW hok0 hc0 hcm
  have HOK0 := Lib.hid hok0
  obtain ⟨na, hna⟩ : ∃ na, l.length = na := ⟨_, rfl⟩
  rw [hna] at hl HA ⊢
  have HNA := Lib.hid hna
  have HAX : Hid (∀ W, Below w.heap.size w W → ∀ i (hi : i < l.length), l[i].Ok ∧ ∃ g off, A = some ⟨g, off, none⟩ ∧ g < w.heap.size ∧ ActAt W g (off + i * 3) l[i]) := Lib.hid (fun W hb i hi => by
    obtain ⟨A', c', e, h1⟩ := HA.out.mem
    injection e with e1 _ _
    subst e1
    obtain ⟨ok, g, off, e2, hg, hcc⟩ := h1 i hi
    exact ⟨ok, g, off, e2, hg, hcc.keep (hb.block g hg)⟩)
  have HOKR : Hid (∀ i, (s0.runS (l.take i)).Ok ∧ (s0.runS (l.take i)).c ≤ 14) := Lib.hid (fun i => ⟨HOK0.out.runS _ (fun x hx => by
    obtain ⟨j, hj, rfl⟩ := List.getElem_of_mem (List.mem_of_mem_take hx)
    exact (HAX.out w (Below.refl _ _) j hj).1), L11.runS_c _ hc0⟩)
  clear ha hok0 hs0 hna HA hm0 hc0
  have q1 : (0 : Int) ≤ (c : Int) := by omega
  have q2 : (c : Int) ≤ 255 := by omega
  have hlI : ¬ (60 : Int) < (na : Int) := by omega
  go_enter Try.func5, Try.ntmps5
  go_wp2_with fail
  refine HAW.out.mono ?_
  rintro e w1 ⟨rfl, hb1⟩
  have HL1 := Lib.hid hb1
  clear hb1 HAW
  go_wp2_with fail
  try rw [hmI]
  refine (HNW.out w1 HL1.out).mono ?_
  rintro e w2 ⟨xp, rfl, h2⟩
  have H2 := Lib.hid h2
  clear h2 HNW HL1
  go_wp2_with fail
  try rw [hmI]
  have HI0 : Hid (EC w w2 xp s0 m0 ∧ s0.c ≤ m0 ∧ m0 ≤ 14) := Lib.hid ⟨H2.out, by omega, hm14⟩
  clear hcm hm14 H2
  go_loopg [7, 8, 9, 10] na (fun gg s7 s8 s9 s10 wr => ∃ (i top : Nat), i + gg = na ∧ s7 = .int .i64 (top : Nat) ∧ s8 = .int .i64 (i : Nat) ∧ Hid (EC w wr xp (s0.runS (l.take i)) top ∧ (s0.runS (l.take i)).c ≤ top ∧ top ≤ 14))
  case atStart => exact ⟨0, m0, by omega, rfl, rfl, HI0⟩
  case round =>
    obtain ⟨i, top, hi, rfl, rfl, HI⟩ := hrel
    by_cases hlt : i < na
    · have hltI : (i : Int) < (na : Int) := by omega
      have hil : i < l.length := by rw [HNA.out]; exact hlt
      obtain ⟨wf, g, off, hA, hg, hac⟩ := HAX.out wr HI.out.1.below i hil
      have hcn := (HOKR.out (i + 1)).2
      have HNX := Lib.hid (s0.runS_next hil)
      obtain ⟨σ, hσ⟩ : ∃ σ, s0.runS (l.take i) = σ := ⟨_, rfl⟩
      obtain ⟨x, hx⟩ : ∃ x, l[i] = x := ⟨_, rfl⟩
      rw [hσ] at HI HNX
      rw [hx] at wf hac HNX
      rw [HNX.out] at hcn
      clear hσ hx
      subst hA
      have HDO := Lib.hid (edo_walk HI.out.1 HI.out.2.1 x wf)
      have ht14 := HI.out.2.2
      obtain ⟨a0, a1, a2⟩ := hac
      clear HAX HOKR wf
      go_wp2_with fail
      refine HDO.out.mono ?_
      rintro e w5 ⟨o5, rfl, hp, _⟩
      obtain ⟨σ', hσ'⟩ : ∃ σ', σ.act x = σ' := ⟨_, rfl⟩
      rw [hσ'] at hp hcn HNX
      have HEC5 := Lib.hid hp.1
      clear a0 a1 a2 hp HDO HI hσ'
      go_wp2_with fail
      refine (estate_walk HEC5.out).mono ?_
      rintro e w6 ⟨u1, u2, u3, u4, rfl, hb6, _⟩
      have hfld : ∀ w : World, (Instr.field PT11 (.agg (l11C σ'.c σ'.p u1 u2 u3 u4)) 0).run Try.prog w = .ok (.int .i64 (σ'.c : Nat)) w := fun _ => by kernel_rfl
      have HEC6 := Lib.hid (HEC5.out.still hb6)
      clear hb6 HEC5
      go_wp2_with fail
      refine (rgrown_walk top σ'.c).mono ?_
      rintro e w7 ⟨rfl, rfl⟩
      obtain ⟨t2, ht2⟩ : ∃ t2, max top σ'.c = t2 := ⟨_, rfl⟩
      have htl : top ≤ t2 ∧ σ'.c ≤ t2 ∧ t2 ≤ 14 := by omega
      rw [ht2]
      have HEC7 := Lib.hid (HEC6.out.more htl.1 (by omega))
      have HCC := Lib.hid htl.2
      have hq2 : (t2 : Int) ≤ 14 := by omega
      have hq3 : (0 : Int) ≤ (t2 : Int) := by omega
      clear HEC6 hfld htl ht2 ht14 hcn
      go_wp2_with fail
      refine (erooms_walk HEC7.out).mono ?_
      rintro e w8 ⟨ra, rb, rfl, hb8, r1, r2, r3, r4⟩
      have HEC8 := Lib.hid (HEC7.out.still hb8)
      have hra : ¬ (12 * (t2 : Int) + 32 < (ra : Int)) := by omega
      have hrb : ¬ (12 * (t2 : Int) + 32 < (rb : Int)) := by omega
      have hla : ¬ ((ra : Int) < (σ'.keys.length : Int)) := by omega
      have hlb : ¬ ((rb : Int) < (σ'.keys.length : Int)) := by omega
      have hM := Lib.hid (fun (W : World) => rmost_walk (w := W) t2 (by omega))
      clear hb8 HEC7 r1 r2 r3 r4
      go_wp2_with fail
      refine (hM.out _).mono ?_
      rintro e w9 ⟨rfl, rfl⟩
      go_wp2_with fail
      refine (hM.out _).mono ?_
      rintro e w9 ⟨rfl, rfl⟩
      go_wp2_with fail
      refine (ekeys_walk HEC8.out).mono ?_
      rintro e w10 ⟨v10, rfl, hb, hv⟩
      obtain ⟨F10, d10, rfl, _⟩ := hv.mem
      have HEC10 := Lib.hid (HEC8.out.still hb)
      clear hb hv HEC8
      go_wp2_with fail
      refine (ekeys_walk HEC10.out).mono ?_
      rintro e w11 ⟨v11, rfl, hb, hv⟩
      obtain ⟨F11, d11, rfl, _⟩ := hv.mem
      have HN : Hid (EC w w11 xp (s0.runS (l.take (i + 1))) t2 ∧ (s0.runS (l.take (i + 1))).c ≤ t2 ∧ t2 ≤ 14) := Lib.hid (by rw [HNX.out]; exact ⟨HEC10.out.still hb, HCC.out⟩)
      clear hb hv HEC10
      go_wp2
      go_roundg (na - i - 1)
      case measure => omega
      case rel => exact ⟨i + 1, t2, by omega, rfl, by go_num, HN⟩
    · have hltI : ¬ (i : Int) < (na : Int) := by omega
      have HL := Lib.hid HI.out.1.below
      clear HI
      go_wp2
      go_ret
      exact ⟨rfl, HL.out⟩
theorem rooms17_walk (w : World) (c : Nat) (hc : c < 256) (ha : AV w v l) : Calls Try.prog 5 #[.int .u8 (c : Nat), v] w (RetB w true) := by
  by_cases hl : l.length ≤ 60
  · exact rooms17_short w c hc ha hl
  · have HAW := Lib.hid (awake17_walk w)
    obtain ⟨A, cap, rfl, _⟩ := ha.mem
    obtain ⟨na, hna⟩ : ∃ na, l.length = na := ⟨_, rfl⟩
    rw [hna] at hl ⊢
    have hlI : (60 : Int) < (na : Int) := by omega
    clear ha hna
    go_enter Try.func5, Try.ntmps5
    go_wp2_with fail
    refine HAW.out.mono ?_
    rintro e w1 ⟨rfl, hb1⟩
    have HB := Lib.hid hb1
    clear hb1
    go_wp2
    go_ret
    exact ⟨rfl, HB.out⟩
end
end Go.Proofs.Ytgkblelgcikafaa
