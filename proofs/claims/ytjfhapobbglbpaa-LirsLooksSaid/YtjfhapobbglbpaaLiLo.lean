/- Inter-reference recency: Looks, walked. -/
import Derived.Test.YtjfhapobbglbpaaLiU
import Derived.Test.YtjfhapobbglbpaaLiM
namespace Go.Proofs.Ytjfhapobbglbpaa
open Go Go.RowKit Go.Deep

section
variable {w : World} {v : Value} {l : List Act8}
set_option maxHeartbeats 8000000 in
set_option maxRecDepth 4000 in
theorem looks12_short (PO : Pol12Ok) (AW : ∀ w, Calls Try.prog 9 #[] w (RetB w true)) (c : Nat) (hc : c < 256) (ha : AV w v l) (hl : l.length ≤ 60) (k : Nat) (hk : k < 18446744073709551616) : Calls Try.prog 4 #[.int .u8 (c : Nat), v, .int .u64 (k : Nat)] w (RetB w true) := by
  have HAW := Lib.hid (AW w)
  have HRUN : Hid (∀ W, AV W v l → Calls Try.prog 16 #[.int .u8 (c : Nat), v] W (P12 W ((L12.new (1 + c % 12 : Nat)).runS l))) := Lib.hid (fun W h => run12_walk PO c hc h hl)
  have HOKR : Hid (∀ i, ((L12.new (1 + c % 12 : Nat)).runS (l.take i)).Ok) := Lib.hid (fun i => (L12.ok_new _).runS _ (fun x hx => by
    obtain ⟨A, c', _, h1⟩ := ha.mem
    obtain ⟨j, hj, rfl⟩ := List.getElem_of_mem (List.mem_of_mem_take hx)
    exact (h1 j hj).1))
  have HOKN : Hid (((L12.new (1 + c % 12 : Nat)).runS l).Ok) := Lib.hid (by have := HOKR.out l.length; rwa [List.take_length] at this)
  have HAV := Lib.hid ha
  obtain ⟨A, cap, rfl, _⟩ := ha.mem
  obtain ⟨na, hna⟩ : ∃ na, l.length = na := ⟨_, rfl⟩
  rw [hna] at hl HAV HRUN ⊢
  have HNA := Lib.hid hna
  have HAX : Hid (∀ W, Below w.heap.size w W → ∀ i (hi : i < l.length), l[i].Ok ∧ ∃ g off, A = some ⟨g, off, none⟩ ∧ g < w.heap.size ∧ ActAt W g (off + i * 3) l[i]) := Lib.hid (fun W hb i hi => by
    obtain ⟨A', c', e, h1⟩ := HAV.out.mem
    injection e with e1 _ _
    subst e1
    obtain ⟨ok, g, off, e2, hg, hcc⟩ := h1 i hi
    exact ⟨ok, g, off, e2, hg, hcc.keep (hb.block g hg)⟩)
  obtain ⟨m0, hm0⟩ : ∃ m : Nat, 1 + c % 12 = m := ⟨_, rfl⟩
  have hmI : (1 : Int) + (c : Int) % 12 = (m0 : Int) := by omega
  have hm14 : m0 ≤ 12 := by omega
  rw [hm0] at HRUN HOKR HOKN
  obtain ⟨s0, hs0⟩ : ∃ s0, L12.new (m0 : Int) = s0 := ⟨_, rfl⟩
  have HNR := Lib.hid (fun W => r12new_walk (w := W) (m0 : Int) (by omega) (by omega))
  rw [hs0] at HRUN HOKR HOKN HNR
  have HOK0 : Hid (s0.Ok) := Lib.hid (HOKR.out 0)
  obtain ⟨σN, hσN⟩ : ∃ σN, s0.runS l = σN := ⟨_, rfl⟩
  have HσN := Lib.hid hσN
  rw [hσN] at HRUN HOKN
  have HK := Lib.hid hk
  have q2 : (c : Int) ≤ 255 := by omega
  clear ha hs0 hna AW hm0 hσN hk hc
  have q1 : (0 : Int) ≤ (c : Int) := by omega
  have hlI : ¬ (60 : Int) < (na : Int) := by omega
  go_enter Try.func4, Try.ntmps4
  go_wp2_with fail
  refine HAW.out.mono ?_
  rintro e w1 ⟨rfl, hb1⟩
  have HL1 := Lib.hid hb1
  have HAV1 := Lib.hid (HAV.out.below hb1)
  clear hb1 HAW HAV
  go_wp2_with fail
  refine (HRUN.out w1 HAV1.out).mono ?_
  rintro e w2 ⟨q1, q2, rfl, hb2, hk2⟩
  obtain ⟨Fa1, na1, da1, rfl⟩ := hk2.form1
  obtain ⟨Fa2, na2, da2, rfl⟩ := hk2.form2
  have hl2 := HL1.out.trans (hb2.mono HL1.out.size)
  have HL3 := Lib.hid (hl2.alloc hl2.size (.cells (l12C σN.c (.slice Fa1 na1 da1) (.slice Fa2 na2 da2)) PT12))
  have HK3 := Lib.hid (heap_alloc_new w2 (.cells (l12C σN.c (.slice Fa1 na1 da1) (.slice Fa2 na2 da2)) PT12))
  have HS3 := Lib.hid (hk2.below (low_one w2 (.cells (l12C σN.c (.slice Fa1 na1 da1) (.slice Fa2 na2 da2)) PT12)))
  have hz2 := hl2.size
  clear hb2 hk2 hl2 HRUN HL1 HAV1
  go_wp2_with fail
  try rw [hmI]
  generalize hb6e : w2.heap.size = b6 at HK3 hz2 ⊢
  generalize w2.alloc (.cells (l12C σN.c (.slice Fa1 na1 da1) (.slice Fa2 na2 da2)) PT12) = w3 at HL3 HK3 HS3 ⊢
  refine (HNR.out w3).mono ?_
  rintro e w4 ⟨q1, q2, rfl, hb4, hk4⟩
  obtain ⟨Fb1, nb1, db1, rfl⟩ := hk4.form1
  obtain ⟨Fb2, nb2, db2, rfl⟩ := hk4.form2
  have hl4 := HL3.out.trans (hb4.mono HL3.out.size)
  have hb6 : b6 < w4.heap.size := Nat.lt_of_lt_of_le (head_row HK3.out).lt hb4.size
  have HI0 : Hid (Bp w (w4.alloc (.cells (l12C s0.c (.slice Fb1 nb1 db1) (.slice Fb2 nb2 db2)) T12)) PT12 T12 b6 w4.heap.size (l12C σN.c (.slice Fa1 na1 da1) (.slice Fa2 na2 da2)) (l12C s0.c (.slice Fb1 nb1 db1) (.slice Fb2 nb2 db2)) ∧ St12 (w4.alloc (.cells (l12C s0.c (.slice Fb1 nb1 db1) (.slice Fb2 nb2 db2)) T12)) σN (.slice Fa1 na1 da1) (.slice Fa2 na2 da2) ∧ St12 (w4.alloc (.cells (l12C s0.c (.slice Fb1 nb1 db1) (.slice Fb2 nb2 db2)) T12)) s0 (.slice Fb1 nb1 db1) (.slice Fb2 nb2 db2)) := Lib.hid ⟨⟨hl4.alloc hl4.size _, (Below.heap_alloc w4 _ _ hb6).trans ((hb4.block b6 (head_row HK3.out).lt).trans HK3.out), heap_alloc_new w4 _, ⟨hz2, hl4.size, by omega⟩, ⟨rfl, rfl⟩, by decide, by decide⟩, (HS3.out.below hb4).below (low_one w4 _), hk4.below (low_one w4 _)⟩
  clear hb4 hk4 hl4 HNR HL3 HK3 HS3 hb6e
  go_wp2_with fail
  generalize (w4.alloc (.cells (l12C s0.c (.slice Fb1 nb1 db1) (.slice Fb2 nb2 db2)) T12)) = wI at HI0 ⊢
  generalize w4.heap.size = b7 at HI0 hb6 ⊢
  go_loopg [10, 11, 12] na (fun gg s10 s11 s12 wr => ∃ (i : Nat) (Fb1 : Option Addr) (nb1 db1 : Nat) (Fb2 : Option Addr) (nb2 db2 : Nat), i + gg = na ∧ s10 = .int .i64 (i : Nat) ∧ Hid (Bp w wr PT12 T12 b6 b7 (l12C σN.c (.slice Fa1 na1 da1) (.slice Fa2 na2 da2)) (l12C ((s0.runS (l.take i))).c (.slice Fb1 nb1 db1) (.slice Fb2 nb2 db2)) ∧ St12 wr σN (.slice Fa1 na1 da1) (.slice Fa2 na2 da2) ∧ St12 wr ((s0.runS (l.take i))) (.slice Fb1 nb1 db1) (.slice Fb2 nb2 db2)))
  case atStart => exact ⟨0, _, _, _, _, _, _, by omega, rfl, HI0⟩
  case round =>
    obtain ⟨i, Fb1, nb1, db1, Fb2, nb2, db2, hi, rfl, HI⟩ := hrel
    by_cases hlt : i < na
    · have hltI : (i : Int) < (na : Int) := by omega
      have hil : i < l.length := by rw [HNA.out]; exact hlt
      obtain ⟨wf, g, off, hA, hg, hac⟩ := HAX.out wr HI.out.1.low i hil
      have hok := HOKR.out i
      have HNX := Lib.hid (s0.runS_next hil)
      obtain ⟨σ, hσ⟩ : ∃ σ, s0.runS (l.take i) = σ := ⟨_, rfl⟩
      obtain ⟨x, hx⟩ : ∃ x, l[i] = x := ⟨_, rfl⟩
      rw [hσ] at HI hok HNX
      rw [hx] at wf hac HNX
      clear hσ hx
      subst hA
      have hgw : g < wr.heap.size := Nat.lt_of_lt_of_le hg HI.out.1.low.size
      have hbw7 := (head_row HI.out.1.res).lt
      have HDR : Hid (∀ W, Below wr.heap.size wr W → Calls Try.prog 13 #[.agg (l12C σ.c (.slice Fb1 nb1 db1) (.slice Fb2 nb2 db2)), .agg (act8C x)] W (P12o W (σ.act x) (σ.actOut x))) := Lib.hid (fun W hb => r12do_walk (HI.out.2.2.below hb) hok x wf)
      have HAC := Lib.hid hac
      have HSR : Hid (∀ w' : World, (∀ k, k < wr.heap.size → w'.heap[k]? = wr.heap[k]?) → w'.cell? ⟨b7, 0, none⟩ = some (.int .i64 ((σ).c : Nat)) ∧ w'.cell? ⟨b7, 1, none⟩ = some (.slice Fb1 nb1 db1) ∧ w'.cell? ⟨b7, 2, none⟩ = some (.slice Fb2 nb2 db2) ∧ w'.cell? ⟨g, off + i * 3, none⟩ = some (.int .u8 (x.kind : Nat)) ∧ w'.cell? ⟨g, off + i * 3 + 1, none⟩ = some (.int .u64 (x.key : Nat)) ∧ w'.cell? ⟨g, off + i * 3 + 2, none⟩ = some (.int .u16 (x.n : Nat))) := Lib.hid (fun w' hh => by
        obtain ⟨⟨x0, x1, x2⟩, _⟩ := c3_at ((hh b7 hbw7).trans HI.out.1.res)
        obtain ⟨a0, a1, a2⟩ := HAC.out.keep (hh g hgw)
        exact ⟨x0, x1, x2, a0, a1, a2⟩)
      obtain ⟨x0, x1, x2, a0, a1, a2⟩ := HSR.out wr (fun _ _ => rfl)
      clear hac wf hok hg
      go_upto_region 9 with fail
      go_cut [11, 12] (fun s11 s12 wx => ∃ oo, oo = s12 ∧ Af12 wr T12 (σ.act x) (σ.actOut x) s11 oo wx)
      case first =>
        go_region_held3 (fun w' => w'.cell? ⟨b7, 0, none⟩ = some (.int .i64 ((σ).c : Nat)) ∧ w'.cell? ⟨b7, 1, none⟩ = some (.slice Fb1 nb1 db1) ∧ w'.cell? ⟨b7, 2, none⟩ = some (.slice Fb2 nb2 db2) ∧ w'.cell? ⟨g, off + i * 3, none⟩ = some (.int .u8 (x.kind : Nat)) ∧ w'.cell? ⟨g, off + i * 3 + 1, none⟩ = some (.int .u64 (x.key : Nat)) ∧ w'.cell? ⟨g, off + i * 3 + 2, none⟩ = some (.int .u16 (x.n : Nat)))
          (first | with_reducible exact kk0 | with_reducible exact KK1 _ (c3_set hP5 _ _ _).2 | go_keep)
          (first
          | (go_at_call 13; refine (HDR.out _ (below_drewn (low_one wr (.cells z12 T12)) _)).mono ?_; rintro e w5 ⟨q1, q2, o5, he, hb5, hk5, ho5⟩; obtain ⟨Fa1, na1, da1, rfl⟩ := hk5.form1; obtain ⟨Fa2, na2, da2, rfl⟩ := hk5.form2; subst he; have hbA := (below_drewn (Below.refl (wr.alloc (.cells z12 T12)).heap.size (wr.alloc (.cells z12 T12))) _).trans hb5; have kk0 := HSR.out w5 (fun k hk => (hbA.block k (by simp; omega)).trans (Below.heap_alloc wr _ k hk)); have hP5 := (hbA.block wr.heap.size (by simp)).trans (heap_alloc_new wr _); have KK1 := fun (W : World) (ho : Only [wr.heap.size] w5 W) => HSR.out W (fun k hk => (ho.block k (by have := hbA.size; simp at this; omega) (by simp; omega)).trans ((hbA.block k (by simp; omega)).trans (Below.heap_alloc wr _ k hk))); obtain ⟨⟨z0, z1, z2⟩, zf0, zf1, zf2⟩ := c3_at hP5)
          | (go_at_call 13; refine (HDR.out _ (below_drewn (Below.refl _ _) _)).mono ?_; rintro e w5 ⟨q1, q2, o5, he, hb5, hk5, ho5⟩; obtain ⟨Fa1, na1, da1, rfl⟩ := hk5.form1; obtain ⟨Fa2, na2, da2, rfl⟩ := hk5.form2; subst he; have hbA := (below_drewn (Below.refl wr.heap.size wr) _).trans hb5; have kk0 := HSR.out w5 (fun k hk => hbA.block k hk)))
        all_goals
          go_wp2_with fail
          go_meet
          first
            | exact ⟨_, rfl, af12_b hbA hk5 ho5⟩
            | exact ⟨_, rfl, af12_a (zs := z12) (by decide) rfl ⟨_, _, _, rfl⟩ hbA hP5 hk5 ho5⟩
      case rest =>
        obtain ⟨o1, rfl, P1, Fc1, nc1, dc1, Fc2, nc2, dc2, rfl, hbc, hP1, hcell, hst, hou⟩ := hcut
        have HBO := Lib.hid (HI.out.1.step hbc)
        have HCE := Lib.hid hcell
        have HST := Lib.hid hst
        have HSN := Lib.hid (HI.out.2.1.below hbc)
        have hn1 : P1 ≠ b7 := by omega
        have hn1' := Ne.symm hn1
        have hn5 := HBO.out.ge.2.2
        clear x0 x1 x2 a0 a1 a2 hbc hst hou hcell HSR HDR HI
        obtain ⟨⟨k0, k1, k2⟩, _⟩ := c3_at HCE.out
        obtain ⟨⟨z0, z1, z2⟩, zf0, zf1, zf2⟩ := c3_at HBO.out.res
        go_wp2_with fail
        have HN : Hid (Bp w (((wc.setCell ⟨b7, 0, none⟩ (.int .i64 ((σ.act x).c : Nat))).setCell ⟨b7, 1, none⟩ (.slice Fc1 nc1 dc1)).setCell ⟨b7, 2, none⟩ (.slice Fc2 nc2 dc2)) PT12 T12 b6 b7 (l12C σN.c (.slice Fa1 na1 da1) (.slice Fa2 na2 da2)) (l12C ((s0.runS (l.take (i + 1)))).c (.slice Fc1 nc1 dc1) (.slice Fc2 nc2 dc2)) ∧ St12 (((wc.setCell ⟨b7, 0, none⟩ (.int .i64 ((σ.act x).c : Nat))).setCell ⟨b7, 1, none⟩ (.slice Fc1 nc1 dc1)).setCell ⟨b7, 2, none⟩ (.slice Fc2 nc2 dc2)) σN (.slice Fa1 na1 da1) (.slice Fa2 na2 da2) ∧ St12 (((wc.setCell ⟨b7, 0, none⟩ (.int .i64 ((σ.act x).c : Nat))).setCell ⟨b7, 1, none⟩ (.slice Fc1 nc1 dc1)).setCell ⟨b7, 2, none⟩ (.slice Fc2 nc2 dc2)) ((s0.runS (l.take (i + 1)))) (.slice Fc1 nc1 dc1) (.slice Fc2 nc2 dc2)) := Lib.hid (by
          rw [HNX.out]
          obtain ⟨h1, h2⟩ := c3_set HBO.out.res (.int .i64 ((σ.act x).c : Nat)) (.slice Fc1 nc1 dc1) (.slice Fc2 nc2 dc2)
          have ho : Only [b6, b7] wc (((wc.setCell ⟨b7, 0, none⟩ (.int .i64 ((σ.act x).c : Nat))).setCell ⟨b7, 1, none⟩ (.slice Fc1 nc1 dc1)).setCell ⟨b7, 2, none⟩ (.slice Fc2 nc2 dc2)) := h2.mono (by simp)
          exact ⟨⟨HBO.out.fin ho, (h2.block b6 (head_row HBO.out.box).lt (by simp; omega)).trans HBO.out.box, h1, HBO.out.ge, ⟨rfl, rfl⟩, HBO.out.ty⟩, HBO.out.st12 ho HSN.out, HBO.out.st12 ho HST.out⟩)
        go_roundg (na - i - 1)
        case measure => omega
        case rel => exact ⟨i + 1, _, _, _, _, _, _, by omega, by go_num, HN⟩
    · have hltI : ¬ (i : Int) < (na : Int) := by omega
      have hin : i = na := by omega
      have HF : Hid (s0.runS (l.take i) = σN) := Lib.hid (by rw [hin, ← HNA.out, List.take_length]; exact HσN.out)
      rw [HF.out] at HI
      clear hin
      obtain ⟨⟨z0, z1, z2⟩, _⟩ := c3_at HI.out.1.res
      go_wp2_with fail
      refine (r12keys_walk HI.out.2.2 HOKN.out).mono ?_
      rintro e w5 ⟨v5, rfl, hb, hk5⟩
      have HB5 := Lib.hid (HI.out.1.step hb)
      have HS5 := Lib.hid (And.intro (HI.out.2.1.below hb) (HI.out.2.2.below hb))
      have HV5 := Lib.hid hk5
      clear hb hk5 HI z0 z1 z2
      have HSS : Hid (∀ w' : World, Below w5.heap.size w5 w' → w'.cell? ⟨b6, 0, none⟩ = some (.int .i64 ((σN).c : Nat)) ∧ w'.cell? ⟨b6, 1, none⟩ = some (.slice Fa1 na1 da1) ∧ w'.cell? ⟨b6, 2, none⟩ = some (.slice Fa2 na2 da2) ∧ w'.cell? ⟨b7, 0, none⟩ = some (.int .i64 ((σN).c : Nat)) ∧ w'.cell? ⟨b7, 1, none⟩ = some (.slice Fb1 nb1 db1) ∧ w'.cell? ⟨b7, 2, none⟩ = some (.slice Fb2 nb2 db2)) := Lib.hid (fun w' hb => by
        have h := HB5.out.step hb
        obtain ⟨⟨x0, x1, x2⟩, _⟩ := c3_at h.box
        obtain ⟨⟨z0, z1, z2⟩, _⟩ := c3_at h.res
        exact ⟨x0, x1, x2, z0, z1, z2⟩)
      obtain ⟨x0, x1, x2, z0, z1, z2⟩ := HSS.out w5 (Below.refl _ _)
      have hkl := HOKN.out.keysLen
      go_wp2_with fail
      go_region_held3 (fun w' => w'.cell? ⟨b6, 0, none⟩ = some (.int .i64 ((σN).c : Nat)) ∧ w'.cell? ⟨b6, 1, none⟩ = some (.slice Fa1 na1 da1) ∧ w'.cell? ⟨b6, 2, none⟩ = some (.slice Fa2 na2 da2) ∧ w'.cell? ⟨b7, 0, none⟩ = some (.int .i64 ((σN).c : Nat)) ∧ w'.cell? ⟨b7, 1, none⟩ = some (.slice Fb1 nb1 db1) ∧ w'.cell? ⟨b7, 2, none⟩ = some (.slice Fb2 nb2 db2))
        (first | with_reducible exact kkf | with_reducible exact kke | with_reducible exact kkc | with_reducible exact kkb | with_reducible exact kka | go_keep)
        (first
        | (go_at_call 18; refine (PO.keys (HS5.out.1.below (below_drewn (Below.refl w5.heap.size w5) _)) HOKN.out).mono ?_; rintro e wa ⟨va, rfl, hba, hka⟩; have hBa := (below_drewn (Below.refl w5.heap.size w5) _).trans hba; have kka := HSS.out wa hBa)
        | (go_at_call 15; refine (same_walk hka (HV5.out.below hBa) hkl).mono ?_; rintro e wb ⟨rfl, hbb⟩; rw [decide_eq_true rfl]; have hBb := hBa.trans (hbb.mono hBa.size); have kkb := HSS.out wb hBb)
        | (go_at_call 19; refine (PO.has (HS5.out.1.below hBb) HOKN.out k HK.out).mono ?_; rintro e wc ⟨rfl, hbc⟩; have hBc := hBb.trans (hbc.mono hBb.size); have kkc := HSS.out wc hBc)
        | (go_at_call 20; refine (rhas_walk (HV5.out.below hBc) hkl k).mono ?_; rintro e wd ⟨rfl, rfl⟩)
        | (go_at_call 21; refine (PO.ghosts (HS5.out.1.below hBc) HOKN.out).mono ?_; rintro e we ⟨rfl, hbe⟩; have hBe := hBc.trans (hbe.mono hBc.size); have kke := HSS.out we hBe)
        | (go_at_call 22; refine (r12ghosts_walk (HS5.out.2.below hBe) HOKN.out).mono ?_; rintro e wf ⟨rfl, hbf⟩; have hBf := hBe.trans (hbf.mono hBe.size); have kkf := HSS.out wf hBf))
      have HL := Lib.hid (HB5.out.low.trans (hBf.mono HB5.out.low.size))
      go_wp2
      go_ret
      exact ⟨rfl, HL.out⟩
theorem looks12_walk (PO : Pol12Ok) (AW : ∀ w, Calls Try.prog 9 #[] w (RetB w true)) (c : Nat) (hc : c < 256) (ha : AV w v l) (k : Nat) (hk : k < 18446744073709551616) : Calls Try.prog 4 #[.int .u8 (c : Nat), v, .int .u64 (k : Nat)] w (RetB w true) := by
  by_cases hl : l.length ≤ 60
  · exact looks12_short PO AW c hc ha hl k hk
  · have HAW := Lib.hid (fun W => AW W)
    obtain ⟨A, cap, rfl, _⟩ := ha.mem
    obtain ⟨na, hna⟩ : ∃ na, l.length = na := ⟨_, rfl⟩
    rw [hna] at hl ⊢
    have hlI : (60 : Int) < (na : Int) := by omega
    clear ha hna AW
    go_enter Try.func4, Try.ntmps4
    go_wp2_with fail
    refine (HAW.out _).mono ?_
    rintro e w1 ⟨rfl, hb1⟩
    have HB := Lib.hid hb1
    clear hb1
    go_wp2
    go_ret
    exact ⟨rfl, HB.out⟩
end
end Go.Proofs.Ytjfhapobbglbpaa
