/- Words and walks: ElLo. -/
import Derived.Test.YtkhikpnlpcankaaGreatG40
import Derived.Deep.DeepCutAuto
namespace Go.Proofs.YtkhikpnlpcankaaGreat
open Go Go.RowKit Go.Deep
section
variable {v : Value} {l : List Act8}
set_option maxHeartbeats 8000000 in
set_option maxRecDepth 4000 in
theorem looks18_short (w : World) (c : Nat) (hc : c < 256) (ha : AV w v l) (hl : l.length ≤ 60) (k : Nat) (hk : k < 18446744073709551616) : Calls Tryz.prog 4 #[.int .u8 (c : Nat), v, .int .u64 (k : Nat)] w (RetB w true) := by
  have HA := Lib.hid ha
  have HK := Lib.hid hk
  clear hk
  have HAW := Lib.hid (awake18_walk w)
  obtain ⟨A, cap, rfl, _⟩ := ha.mem
  obtain ⟨m0, hm0⟩ : ∃ m : Nat, 1 + c % 12 = m := ⟨_, rfl⟩
  have hmI : (1 : Int) + (c : Int) % 12 = (m0 : Int) := by omega
  have hc0 : (L12.new (m0 : Int)).c ≤ 14 := by rw [L12.new_c m0 (by omega) (by omega)]; omega
  have HNW : Hid (∀ W, Below w.heap.size w W → Calls Tryz.prog 7 #[.int .i64 (m0 : Int)] W fun e w' => ∃ xp, e = .returned (ptr xp) ∧ EC w w' xp (L12.new (m0 : Int)) 14) := Lib.hid (fun W hb => (enew_walk hb (m0 : Int) (by omega) (by omega)).mono (fun e w' ⟨xp, he, h, _⟩ => ⟨xp, he, h.more (by decide) (by decide)⟩))
  have HNR := Lib.hid (fun W => r12new_walk (w := W) (m0 : Int) (by omega) (by omega))
  have hok0 : (L12.new (m0 : Int)).Ok := L12.ok_new _
  obtain ⟨s0, hs0⟩ : ∃ s0, L12.new (m0 : Int) = s0 := ⟨_, rfl⟩
  rw [hs0] at HNW HNR hok0 hc0
  have HOK0 := Lib.hid hok0
  obtain ⟨na, hna⟩ : ∃ na, l.length = na := ⟨_, rfl⟩
  rw [hna] at hl HA ⊢
  have HNA := Lib.hid hna
  have HAX : Hid (∀ W, Below w.heap.size w W → ∀ i (hi : i < l.length), l[i].Ok ∧ ∃ g off, A = some ⟨g, off, none⟩ ∧ g < w.heap.size ∧ ActAt W g (off + i * 3) l[i]) := Lib.hid (fun W hb i hi => by
    obtain ⟨A', c', e, h1⟩ := HA.out.mem
    injection e with e1 _ _
    subst e1
    obtain ⟨ok, g, off, e2, hg, hcc⟩ := h1 i hi
    exact ⟨ok, g, off, e2, hg, hcc.keep (hb.block g hg)⟩)
  have HOKR : Hid (∀ i, (s0.runS (l.take i)).Ok ∧ (s0.runS (l.take i)).c ≤ 14) := Lib.hid (fun i => ⟨HOK0.out.runS _ (fun x hx => by
    obtain ⟨j, hj, rfl⟩ := List.getElem_of_mem (List.mem_of_mem_take hx)
    exact (HAX.out w (Below.refl _ _) j hj).1), L12.runS_c _ hc0⟩)
  clear ha hok0 hs0 hna HA hm0 hc0
  have q1 : (0 : Int) ≤ (c : Int) := by omega
  have q2 : (c : Int) ≤ 255 := by omega
  have hlI : ¬ (60 : Int) < (na : Int) := by omega
  go_enter Tryz.func4, Tryz.ntmps4
  go_wp2_with fail
  refine HAW.out.mono ?_
  rintro e w1 ⟨rfl, hb1⟩
  have HL1 := Lib.hid hb1
  clear hb1 HAW
  go_wp2_with fail
  try rw [hmI]
  refine (HNW.out w1 HL1.out).mono ?_
  rintro e w2 ⟨xp, rfl, h2⟩
  have H2 := Lib.hid h2
  clear h2 HNW HL1
  go_wp2_with fail
  try rw [hmI]
  refine (HNR.out w2).mono ?_
  rintro e w4 ⟨q_1, q_2, rfl, hb4, hk4⟩
  obtain ⟨Fb1, nb1, db1, rfl⟩ := hk4.form1; obtain ⟨Fb2, nb2, db2, rfl⟩ := hk4.form2
  have HI0 : Hid (ES w (w4.alloc (.cells (l12C s0.c (.slice Fb1 nb1 db1) (.slice Fb2 nb2 db2)) T12)) xp w4.heap.size T12 s0 Fb1 nb1 db1 Fb2 nb2 db2) := Lib.hid ⟨(H2.out.still hb4).still (low_one w4 _), heap_alloc_new w4 _, hk4.below (low_one w4 _), by have := H2.out.below.size; have := hb4.size; omega⟩
  clear hb4 hk4 HNR H2
  go_wp2_with fail
  generalize (w4.alloc (.cells (l12C s0.c (.slice Fb1 nb1 db1) (.slice Fb2 nb2 db2)) T12)) = wI at HI0 ⊢
  generalize w4.heap.size = b7 at HI0 ⊢
  go_loopg [10, 11, 12] na (fun gg s10 s11 s12 wr => ∃ (i : Nat) (F1 : Option Addr) (n1 d1 : Nat) (F2 : Option Addr) (n2 d2 : Nat), i + gg = na ∧ s10 = .int .i64 (i : Nat) ∧ Hid (ES w wr xp b7 T12 (s0.runS (l.take i)) F1 n1 d1 F2 n2 d2))
  case atStart => exact ⟨0, _, _, _, _, _, _, by omega, rfl, HI0⟩
  case round =>
    obtain ⟨i, F1, n1, d1, F2, n2, d2, hi, rfl, HI⟩ := hrel
    by_cases hlt : i < na
    · have hltI : (i : Int) < (na : Int) := by omega
      have hil : i < l.length := by rw [HNA.out]; exact hlt
      obtain ⟨wf, g, off, hA, hg, hac⟩ := HAX.out wr HI.out.ec.below i hil
      obtain ⟨hok, hcc⟩ := HOKR.out i
      have hok2 := (HOKR.out (i + 1)).1
      have HNX := Lib.hid (s0.runS_next hil)
      obtain ⟨σ, hσ⟩ : ∃ σ, s0.runS (l.take i) = σ := ⟨_, rfl⟩
      obtain ⟨x, hx⟩ : ∃ x, l[i] = x := ⟨_, rfl⟩
      rw [hσ] at HI hok HNX hcc
      rw [hx] at wf hac HNX
      rw [HNX.out] at hok2
      have HOK2 := Lib.hid hok2
      have HOUT := Lib.hid (hok.actOutLen wf)
      clear hσ hx hok2
      subst hA
      have hgw : ∀ W, Below w.heap.size w W → g < W.heap.size := fun W hb => Nat.lt_of_lt_of_le hg hb.size
      have HAG : Hid (∀ W, Below w.heap.size w W → ActAt W g (off + i * 3) x) := Lib.hid (fun W hb => hac.keep ((hb.block g hg).trans (HI.out.ec.below.block g hg).symm))
      have HDO := Lib.hid (edo_walk HI.out.ec hcc x wf)
      have hWF := Lib.hid wf
      have hOK := Lib.hid hok
      obtain ⟨a0, a1, a2⟩ := hac
      clear HAX HOKR wf hok
      go_wp2_with fail
      refine HDO.out.mono ?_
      rintro e w5 ⟨o5, rfl, hp, ho5⟩
      have hbox5 := (hp.2 b7 (NP.cells HI.out.box (by decide))).trans HI.out.box
      have hst5 := HI.out.st.kn hp.2
      have hg5 := hgw w5 hp.1.below
      have hac5 := HAG.out w5 hp.1.below
      have hb5l := (head_row hbox5).lt
      have HEC5 := Lib.hid hp.1
      have HO5 := Lib.hid ho5
      have HBX5 := Lib.hid hbox5
      have HGE := Lib.hid HI.out.ge
      have HDR : Hid (∀ W, Below w5.heap.size w5 W → Calls Tryz.prog 10 #[.agg (l12C σ.c (.slice F1 n1 d1) (.slice F2 n2 d2)), .agg (act8C x)] W (P12o W (σ.act x) (σ.actOut x))) := Lib.hid (fun W hb => r12do_walk (hst5.below hb) hOK.out x hWF.out)
      have HSR : Hid (∀ w' : World, (∀ k, k < w5.heap.size → w'.heap[k]? = w5.heap[k]?) → w'.cell? ⟨b7, 0, none⟩ = some (.int .i64 ((σ).c : Nat)) ∧ w'.cell? ⟨b7, 1, none⟩ = some (.slice F1 n1 d1) ∧ w'.cell? ⟨b7, 2, none⟩ = some (.slice F2 n2 d2) ∧ w'.cell? ⟨g, off + i * 3, none⟩ = some (.int .u8 (x.kind : Nat)) ∧ w'.cell? ⟨g, off + i * 3 + 1, none⟩ = some (.int .u64 (x.key : Nat)) ∧ w'.cell? ⟨g, off + i * 3 + 2, none⟩ = some (.int .u16 (x.n : Nat))) := Lib.hid (fun w' hh => by
        obtain ⟨⟨x0, x1, x2⟩, _⟩ := c3_at ((hh b7 hb5l).trans hbox5)
        obtain ⟨a0, a1, a2⟩ := hac5.keep (hh g hg5)
        exact ⟨x0, x1, x2, a0, a1, a2⟩)
      clear a0 a1 a2 hp ho5 hbox5 hst5 hac5 HDO HI HAG hgw
      obtain ⟨x0, x1, x2, a0, a1, a2⟩ := HSR.out w5 (fun _ _ => rfl)
      obtain ⟨w5c, hw5⟩ : ∃ y, y = w5 := ⟨_, rfl⟩
      subst hw5
      go_upto_region 10 with fail
      go_cut [11, 12] (fun s11 s12 wx => ∃ oo, oo = s12 ∧ Af12 w5c T12 (σ.act x) (σ.actOut x) s11 oo wx)
      case first =>
        go_region_held3 (fun w' => w'.cell? ⟨b7, 0, none⟩ = some (.int .i64 ((σ).c : Nat)) ∧ w'.cell? ⟨b7, 1, none⟩ = some (.slice F1 n1 d1) ∧ w'.cell? ⟨b7, 2, none⟩ = some (.slice F2 n2 d2) ∧ w'.cell? ⟨g, off + i * 3, none⟩ = some (.int .u8 (x.kind : Nat)) ∧ w'.cell? ⟨g, off + i * 3 + 1, none⟩ = some (.int .u64 (x.key : Nat)) ∧ w'.cell? ⟨g, off + i * 3 + 2, none⟩ = some (.int .u16 (x.n : Nat)))
          (first | with_reducible exact kk0 | with_reducible exact KK1 _ (c3_set hP5 _ _ _).2 | go_keep)
          (first
          | (go_at_call 10; refine (HDR.out _ (below_drewn (low_one w5c (.cells z12 T12)) _)).mono ?_; rintro e w6 ⟨q_1, q_2, o6, he, hb6, hk6, ho6⟩; obtain ⟨Fa1, na1, da1, rfl⟩ := hk6.form1; obtain ⟨Fa2, na2, da2, rfl⟩ := hk6.form2; subst he; have hbA := (below_drewn (Below.refl (w5c.alloc (.cells z12 T12)).heap.size (w5c.alloc (.cells z12 T12))) _).trans hb6; have kk0 := HSR.out w6 (fun k hk => (hbA.block k (by simp; omega)).trans (Below.heap_alloc w5c _ k hk)); have hP5 := (hbA.block w5c.heap.size (by simp)).trans (heap_alloc_new w5c _); have KK1 := fun (W : World) (ho : Only [w5c.heap.size] w6 W) => HSR.out W (fun k hk => (ho.block k (by have := hbA.size; simp at this; omega) (by simp; omega)).trans ((hbA.block k (by simp; omega)).trans (Below.heap_alloc w5c _ k hk))); obtain ⟨⟨z0, z1, z2⟩, zf0, zf1, zf2⟩ := c3_at hP5)
          | (go_at_call 10; refine (HDR.out _ (below_drewn (Below.refl _ _) _)).mono ?_; rintro e w6 ⟨q_1, q_2, o6, he, hb6, hk6, ho6⟩; obtain ⟨Fa1, na1, da1, rfl⟩ := hk6.form1; obtain ⟨Fa2, na2, da2, rfl⟩ := hk6.form2; subst he; have hbA := (below_drewn (Below.refl w5c.heap.size w5c) _).trans hb6; have kk0 := HSR.out w6 (fun k hk => hbA.block k hk)))
        all_goals
          go_wp2_with fail
          go_meet
          first
            | exact ⟨_, rfl, af12_b hbA hk6 ho6⟩
            | exact ⟨_, rfl, af12_a (zs := z12) (by decide) rfl ⟨_, _, _, rfl⟩ hbA hP5 hk6 ho6⟩
      case rest =>
        obtain ⟨o2, rfl, P2, Fd1, nd1, dd1, Fd2, nd2, dd2, rfl, hbc, hP2, hcell, hst, hou⟩ := hcut
        have hbx := (hbc.block b7 hb5l).trans HBX5.out
        have hne : P2 ≠ b7 := by omega
        have hne' := Ne.symm hne
        obtain ⟨⟨j0, j1, j2⟩, _⟩ := c3_at hcell
        obtain ⟨⟨y0, y1, y2⟩, yf0, yf1, yf2⟩ := c3_at hbx
        have HN : Hid (ES w (((wc.setCell ⟨b7, 0, none⟩ (.int .i64 ((σ.act x).c : Nat))).setCell ⟨b7, 1, none⟩ (.slice Fd1 nd1 dd1)).setCell ⟨b7, 2, none⟩ (.slice Fd2 nd2 dd2)) xp b7 T12 (s0.runS (l.take (i + 1))) Fd1 nd1 dd1 Fd2 nd2 dd2) := Lib.hid (by
          rw [HNX.out]
          exact (es_store (Fp1 := Fd1) (np1 := nd1) (dp1 := dd1) (Fp2 := Fd2) (np2 := nd2) (dp2 := dd2) (HEC5.out.still hbc) hbx hst HGE.out (by decide) (by decide)).1)
        clear x0 x1 x2 a0 a1 a2 hbc hst hou hcell hbx HSR HDR HEC5 HO5 HBX5 HGE hP2
        go_wp2
        go_roundg (na - i - 1)
        case measure => omega
        case rel => exact ⟨i + 1, _, _, _, _, _, _, by omega, by go_num, HN⟩
    · have hltI : ¬ (i : Int) < (na : Int) := by omega
      have hok := (HOKR.out i).1
      obtain ⟨σ, hσ⟩ : ∃ σ, s0.runS (l.take i) = σ := ⟨_, rfl⟩
      rw [hσ] at HI hok
      have HOK := Lib.hid hok
      have hkl := hok.keysLen
      clear hσ hok
      obtain ⟨⟨y0, y1, y2⟩, _⟩ := c3_at HI.out.box
      go_wp2_with fail
      refine (r12keys_walk HI.out.st HOK.out).mono ?_
      rintro e w5 ⟨v5, rfl, hb, hk5⟩
      have HI5 := Lib.hid (HI.out.low hb)
      have HV5 := Lib.hid hk5
      clear hb hk5 HI y0 y1 y2
      have HSS : Hid (∀ w' : World, Below w5.heap.size w5 w' → w'.cell? ⟨b7, 0, none⟩ = some (.int .i64 ((σ).c : Nat)) ∧ w'.cell? ⟨b7, 1, none⟩ = some (.slice F1 n1 d1) ∧ w'.cell? ⟨b7, 2, none⟩ = some (.slice F2 n2 d2)) := Lib.hid (fun w' hb => (HI5.out.low hb).cells)
      obtain ⟨y0, y1, y2⟩ := HSS.out w5 (Below.refl _ _)
      go_upto_region 13 with fail
      go_region_held3 (fun w' => w'.cell? ⟨b7, 0, none⟩ = some (.int .i64 ((σ).c : Nat)) ∧ w'.cell? ⟨b7, 1, none⟩ = some (.slice F1 n1 d1) ∧ w'.cell? ⟨b7, 2, none⟩ = some (.slice F2 n2 d2))
        (first | with_reducible exact kkf | with_reducible exact kke | with_reducible exact kkc | with_reducible exact kkb | with_reducible exact kka | go_keep)
        (first
        | (go_at_call 15; refine (ekeys_walk (HI5.out.ec.still (below_drewn (Below.refl w5.heap.size w5) _))).mono ?_; rintro e wa ⟨va, rfl, hba, hka⟩; have hBa := (below_drewn (Below.refl w5.heap.size w5) _).trans hba; have kka := HSS.out wa hBa)
        | (go_at_call 11; refine (same_walk hka (HV5.out.below hBa) hkl).mono ?_; rintro e wb ⟨rfl, hbb⟩; rw [decide_eq_true rfl]; have hBb := hBa.trans (hbb.mono hBa.size); have kkb := HSS.out wb hBb)
        | (go_at_call 16; refine (ehas_walk (HI5.out.ec.still hBb) k HK.out).mono ?_; rintro e wc ⟨rfl, hbc⟩; have hBc := hBb.trans (hbc.mono hBb.size); have kkc := HSS.out wc hBc)
        | (go_at_call 17; refine (rhas_walk (HV5.out.below hBc) hkl k).mono ?_; rintro e wd ⟨rfl, rfl⟩)
        | (go_at_call 18; refine (eghosts_walk (HI5.out.ec.still hBc)).mono ?_; rintro e we ⟨rfl, hbe⟩; have hBe := hBc.trans (hbe.mono hBc.size); have kke := HSS.out we hBe)
        | (go_at_call 19; refine (r12ghosts_walk (HI5.out.st.below hBe) HOK.out).mono ?_; rintro e wf ⟨rfl, hbf⟩; have hBf := hBe.trans (hbf.mono hBe.size); have kkf := HSS.out wf hBf))
      have HL := Lib.hid (HI5.out.ec.below.trans (hBf.mono HI5.out.ec.below.size))
      go_wp2
      go_ret
      exact ⟨rfl, HL.out⟩
theorem looks18_walk (w : World) (c : Nat) (hc : c < 256) (ha : AV w v l) (k : Nat) (hk : k < 18446744073709551616) : Calls Tryz.prog 4 #[.int .u8 (c : Nat), v, .int .u64 (k : Nat)] w (RetB w true) := by
  by_cases hl : l.length ≤ 60
  · exact looks18_short w c hc ha hl k hk
  · have HAW := Lib.hid (awake18_walk w)
    obtain ⟨A, cap, rfl, _⟩ := ha.mem
    obtain ⟨na, hna⟩ : ∃ na, l.length = na := ⟨_, rfl⟩
    rw [hna] at hl ⊢
    have hlI : (60 : Int) < (na : Int) := by omega
    clear ha hna
    go_enter Tryz.func4, Tryz.ntmps4
    go_wp2_with fail
    refine HAW.out.mono ?_
    rintro e w1 ⟨rfl, hb1⟩
    have HB := Lib.hid hb1
    clear hb1
    go_wp2
    go_ret
    exact ⟨rfl, HB.out⟩
end
end Go.Proofs.YtkhikpnlpcankaaGreat
