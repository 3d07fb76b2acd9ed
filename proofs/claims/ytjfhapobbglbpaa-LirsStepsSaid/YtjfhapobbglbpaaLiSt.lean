/- Inter-reference recency: Steps, walked. -/
import Derived.Test.YtjfhapobbglbpaaLiU
import Derived.Test.YtjfhapobbglbpaaLiM
namespace Go.Proofs.Ytjfhapobbglbpaa
open Go Go.RowKit Go.Deep

section
variable {w : World} {v : Value} {l : List Act8}
set_option maxHeartbeats 8000000 in
set_option maxRecDepth 4000 in
theorem steps12_short (PO : Pol12Ok) (AW : ∀ w, Calls Try.prog 9 #[] w (RetB w true)) (c : Nat) (hc : c < 256) (ha : AV w v l) (hl : l.length ≤ 60) : Calls Try.prog 3 #[.int .u8 (c : Nat), v] w (RetB w true) := by
  have HA := Lib.hid ha
  have HAW := Lib.hid (AW w)
  obtain ⟨A, cap, rfl, _⟩ := ha.mem
  obtain ⟨m0, hm0⟩ : ∃ m : Nat, 1 + c % 12 = m := ⟨_, rfl⟩
  have hmI : (1 : Int) + (c : Int) % 12 = (m0 : Int) := by omega
  have HNW := Lib.hid (fun W => PO.new W (m0 : Int) (by omega) (by omega))
  have HNR := Lib.hid (fun W => r12new_walk (w := W) (m0 : Int) (by omega) (by omega))
  have hok0 : (L12.new (m0 : Int)).Ok := L12.ok_new _
  obtain ⟨s0, hs0⟩ : ∃ s0, L12.new (m0 : Int) = s0 := ⟨_, rfl⟩
  rw [hs0] at HNW HNR hok0
  have HOK0 := Lib.hid hok0
  obtain ⟨na, hna⟩ : ∃ na, l.length = na := ⟨_, rfl⟩
  rw [hna] at hl HA ⊢
  have HNA := Lib.hid hna
  have HAX : Hid (∀ W, Below w.heap.size w W → ∀ i (hi : i < l.length), l[i].Ok ∧ ∃ g off, A = some ⟨g, off, none⟩ ∧ g < w.heap.size ∧ ActAt W g (off + i * 3) l[i]) := Lib.hid (fun W hb i hi => by
    obtain ⟨A', c', e, h1⟩ := HA.out.mem
    injection e with e1 _ _
    subst e1
    obtain ⟨ok, g, off, e2, hg, hcc⟩ := h1 i hi
    exact ⟨ok, g, off, e2, hg, hcc.keep (hb.block g hg)⟩)
  have HOKR : Hid (∀ i, (s0.runS (l.take i)).Ok) := Lib.hid (fun i => HOK0.out.runS _ (fun x hx => by
    obtain ⟨j, hj, rfl⟩ := List.getElem_of_mem (List.mem_of_mem_take hx)
    exact (HAX.out w (Below.refl _ _) j hj).1))
  clear ha hok0 hs0 hna HA hm0 AW
  have q1 : (0 : Int) ≤ (c : Int) := by omega
  have q2 : (c : Int) ≤ 255 := by omega
  have hlI : ¬ (60 : Int) < (na : Int) := by omega
  go_enter Try.func3, Try.ntmps3
  go_wp2_with fail
  refine HAW.out.mono ?_
  rintro e w1 ⟨rfl, hb1⟩
  have HL1 := Lib.hid hb1
  clear hb1 HAW
  go_wp2_with fail
  try rw [hmI]
  refine (HNW.out w1).mono ?_
  rintro e w2 ⟨q1, q2, rfl, hb2, hk2⟩
  obtain ⟨Fa1, na1, da1, rfl⟩ := hk2.form1
  obtain ⟨Fa2, na2, da2, rfl⟩ := hk2.form2
  have hl2 := HL1.out.trans (hb2.mono HL1.out.size)
  have HL3 := Lib.hid (hl2.alloc hl2.size (.cells (l12C s0.c (.slice Fa1 na1 da1) (.slice Fa2 na2 da2)) PT12))
  have HK3 := Lib.hid (heap_alloc_new w2 (.cells (l12C s0.c (.slice Fa1 na1 da1) (.slice Fa2 na2 da2)) PT12))
  have HS3 := Lib.hid (hk2.below (low_one w2 (.cells (l12C s0.c (.slice Fa1 na1 da1) (.slice Fa2 na2 da2)) PT12)))
  have hz2 := hl2.size
  clear hb2 hk2 hl2 HNW HL1
  go_wp2_with fail
  try rw [hmI]
  generalize hb6e : w2.heap.size = b6 at HK3 hz2 ⊢
  generalize w2.alloc (.cells (l12C s0.c (.slice Fa1 na1 da1) (.slice Fa2 na2 da2)) PT12) = w3 at HL3 HK3 HS3 ⊢
  refine (HNR.out w3).mono ?_
  rintro e w4 ⟨q1, q2, rfl, hb4, hk4⟩
  obtain ⟨Fb1, nb1, db1, rfl⟩ := hk4.form1
  obtain ⟨Fb2, nb2, db2, rfl⟩ := hk4.form2
  have hl4 := HL3.out.trans (hb4.mono HL3.out.size)
  have hb6 : b6 < w4.heap.size := Nat.lt_of_lt_of_le (head_row HK3.out).lt hb4.size
  have HI0 : Hid (Bp w (w4.alloc (.cells (l12C s0.c (.slice Fb1 nb1 db1) (.slice Fb2 nb2 db2)) T12)) PT12 T12 b6 w4.heap.size (l12C s0.c (.slice Fa1 na1 da1) (.slice Fa2 na2 da2)) (l12C s0.c (.slice Fb1 nb1 db1) (.slice Fb2 nb2 db2)) ∧ St12 (w4.alloc (.cells (l12C s0.c (.slice Fb1 nb1 db1) (.slice Fb2 nb2 db2)) T12)) s0 (.slice Fa1 na1 da1) (.slice Fa2 na2 da2) ∧ St12 (w4.alloc (.cells (l12C s0.c (.slice Fb1 nb1 db1) (.slice Fb2 nb2 db2)) T12)) s0 (.slice Fb1 nb1 db1) (.slice Fb2 nb2 db2)) := Lib.hid ⟨⟨hl4.alloc hl4.size _, (Below.heap_alloc w4 _ _ hb6).trans ((hb4.block b6 (head_row HK3.out).lt).trans HK3.out), heap_alloc_new w4 _, ⟨hz2, hl4.size, by omega⟩, ⟨rfl, rfl⟩, by decide, by decide⟩, (HS3.out.below hb4).below (low_one w4 _), hk4.below (low_one w4 _)⟩
  clear hb4 hk4 hl4 HNR HL3 HK3 HS3 hb6e
  go_wp2_with fail
  generalize (w4.alloc (.cells (l12C s0.c (.slice Fb1 nb1 db1) (.slice Fb2 nb2 db2)) T12)) = wI at HI0 ⊢
  generalize w4.heap.size = b7 at HI0 hb6 ⊢
  go_loopg [8, 9, 10, 11, 12] na (fun gg s8 s9 s10 s11 s12 wr => ∃ (i : Nat) (Fa1 : Option Addr) (na1 da1 : Nat) (Fa2 : Option Addr) (na2 da2 : Nat) (Fb1 : Option Addr) (nb1 db1 : Nat) (Fb2 : Option Addr) (nb2 db2 : Nat), i + gg = na ∧ s8 = .int .i64 (i : Nat) ∧ Hid (Bp w wr PT12 T12 b6 b7 (l12C ((s0.runS (l.take i))).c (.slice Fa1 na1 da1) (.slice Fa2 na2 da2)) (l12C ((s0.runS (l.take i))).c (.slice Fb1 nb1 db1) (.slice Fb2 nb2 db2)) ∧ St12 wr ((s0.runS (l.take i))) (.slice Fa1 na1 da1) (.slice Fa2 na2 da2) ∧ St12 wr ((s0.runS (l.take i))) (.slice Fb1 nb1 db1) (.slice Fb2 nb2 db2)))
  case atStart => exact ⟨0, _, _, _, _, _, _, _, _, _, _, _, _, by omega, rfl, HI0⟩
  case round =>
    obtain ⟨i, Fa1, na1, da1, Fa2, na2, da2, Fb1, nb1, db1, Fb2, nb2, db2, hi, rfl, HI⟩ := hrel
    by_cases hlt : i < na
    · have hltI : (i : Int) < (na : Int) := by omega
      have hil : i < l.length := by rw [HNA.out]; exact hlt
      obtain ⟨wf, g, off, hA, hg, hac⟩ := HAX.out wr HI.out.1.low i hil
      have hok := HOKR.out i
      have hok2 := HOKR.out (i + 1)
      have HNX := Lib.hid (s0.runS_next hil)
      obtain ⟨σ, hσ⟩ : ∃ σ, s0.runS (l.take i) = σ := ⟨_, rfl⟩
      obtain ⟨x, hx⟩ : ∃ x, l[i] = x := ⟨_, rfl⟩
      rw [hσ] at HI hok HNX
      rw [hx] at wf hac HNX
      rw [HNX.out] at hok2
      have HOK2 := Lib.hid hok2
      have HOUT := Lib.hid (hok.actOutLen wf)
      clear hσ hx hok2
      subst hA
      have hgw : g < wr.heap.size := Nat.lt_of_lt_of_le hg HI.out.1.low.size
      have hbw := (head_row HI.out.1.box).lt
      have hbw7 := (head_row HI.out.1.res).lt
      have HDO : Hid (∀ W, Below wr.heap.size wr W → Calls Try.prog 12 #[.agg (l12C σ.c (.slice Fa1 na1 da1) (.slice Fa2 na2 da2)), .agg (act8C x)] W (P12o W (σ.act x) (σ.actOut x))) := Lib.hid (fun W hb => do12_walk PO (HI.out.2.1.below hb) hok x wf)
      have HDR : Hid (∀ W, Below wr.heap.size wr W → Calls Try.prog 13 #[.agg (l12C σ.c (.slice Fb1 nb1 db1) (.slice Fb2 nb2 db2)), .agg (act8C x)] W (P12o W (σ.act x) (σ.actOut x))) := Lib.hid (fun W hb => r12do_walk (HI.out.2.2.below hb) hok x wf)
      have HAC := Lib.hid hac
      have HSS : Hid (∀ w' : World, (∀ k, k < wr.heap.size → w'.heap[k]? = wr.heap[k]?) → w'.cell? ⟨b6, 0, none⟩ = some (.int .i64 ((σ).c : Nat)) ∧ w'.cell? ⟨b6, 1, none⟩ = some (.slice Fa1 na1 da1) ∧ w'.cell? ⟨b6, 2, none⟩ = some (.slice Fa2 na2 da2) ∧ w'.cell? ⟨g, off + i * 3, none⟩ = some (.int .u8 (x.kind : Nat)) ∧ w'.cell? ⟨g, off + i * 3 + 1, none⟩ = some (.int .u64 (x.key : Nat)) ∧ w'.cell? ⟨g, off + i * 3 + 2, none⟩ = some (.int .u16 (x.n : Nat))) := Lib.hid (fun w' hh => by
        obtain ⟨⟨x0, x1, x2⟩, _⟩ := c3_at ((hh b6 hbw).trans HI.out.1.box)
        obtain ⟨a0, a1, a2⟩ := HAC.out.keep (hh g hgw)
        exact ⟨x0, x1, x2, a0, a1, a2⟩)
      have HSR : Hid (∀ w' : World, (∀ k, k < wr.heap.size → w'.heap[k]? = wr.heap[k]?) → w'.cell? ⟨b7, 0, none⟩ = some (.int .i64 ((σ).c : Nat)) ∧ w'.cell? ⟨b7, 1, none⟩ = some (.slice Fb1 nb1 db1) ∧ w'.cell? ⟨b7, 2, none⟩ = some (.slice Fb2 nb2 db2) ∧ w'.cell? ⟨g, off + i * 3, none⟩ = some (.int .u8 (x.kind : Nat)) ∧ w'.cell? ⟨g, off + i * 3 + 1, none⟩ = some (.int .u64 (x.key : Nat)) ∧ w'.cell? ⟨g, off + i * 3 + 2, none⟩ = some (.int .u16 (x.n : Nat))) := Lib.hid (fun w' hh => by
        obtain ⟨⟨x0, x1, x2⟩, _⟩ := c3_at ((hh b7 hbw7).trans HI.out.1.res)
        obtain ⟨a0, a1, a2⟩ := HAC.out.keep (hh g hgw)
        exact ⟨x0, x1, x2, a0, a1, a2⟩)
      obtain ⟨x0, x1, x2, a0, a1, a2⟩ := HSS.out wr (fun _ _ => rfl)
      clear hac wf hok hg
      go_upto_region 9 with fail
      go_cut [9, 10] (fun s9 s10 wx => ∃ oo, oo = s10 ∧ Af12 wr PT12 (σ.act x) (σ.actOut x) s9 oo wx)
      case first =>
        go_region_held3 (fun w' => w'.cell? ⟨b6, 0, none⟩ = some (.int .i64 ((σ).c : Nat)) ∧ w'.cell? ⟨b6, 1, none⟩ = some (.slice Fa1 na1 da1) ∧ w'.cell? ⟨b6, 2, none⟩ = some (.slice Fa2 na2 da2) ∧ w'.cell? ⟨g, off + i * 3, none⟩ = some (.int .u8 (x.kind : Nat)) ∧ w'.cell? ⟨g, off + i * 3 + 1, none⟩ = some (.int .u64 (x.key : Nat)) ∧ w'.cell? ⟨g, off + i * 3 + 2, none⟩ = some (.int .u16 (x.n : Nat)))
          (first | with_reducible exact kk0 | with_reducible exact KK1 _ (c3_set hP5 _ _ _).2 | go_keep)
          (first
          | (go_at_call 12; refine (HDO.out _ (below_drewn (low_one wr (.cells z12 PT12)) _)).mono ?_; rintro e w5 ⟨q1, q2, o5, he, hb5, hk5, ho5⟩; obtain ⟨Fa1, na1, da1, rfl⟩ := hk5.form1; obtain ⟨Fa2, na2, da2, rfl⟩ := hk5.form2; subst he; have hbA := (below_drewn (Below.refl (wr.alloc (.cells z12 PT12)).heap.size (wr.alloc (.cells z12 PT12))) _).trans hb5; have kk0 := HSS.out w5 (fun k hk => (hbA.block k (by simp; omega)).trans (Below.heap_alloc wr _ k hk)); have hP5 := (hbA.block wr.heap.size (by simp)).trans (heap_alloc_new wr _); have KK1 := fun (W : World) (ho : Only [wr.heap.size] w5 W) => HSS.out W (fun k hk => (ho.block k (by have := hbA.size; simp at this; omega) (by simp; omega)).trans ((hbA.block k (by simp; omega)).trans (Below.heap_alloc wr _ k hk))); obtain ⟨⟨z0, z1, z2⟩, zf0, zf1, zf2⟩ := c3_at hP5)
          | (go_at_call 12; refine (HDO.out _ (below_drewn (Below.refl _ _) _)).mono ?_; rintro e w5 ⟨q1, q2, o5, he, hb5, hk5, ho5⟩; obtain ⟨Fa1, na1, da1, rfl⟩ := hk5.form1; obtain ⟨Fa2, na2, da2, rfl⟩ := hk5.form2; subst he; have hbA := (below_drewn (Below.refl wr.heap.size wr) _).trans hb5; have kk0 := HSS.out w5 (fun k hk => hbA.block k hk)))
        all_goals
          go_wp2_with fail
          go_meet
          first
            | exact ⟨_, rfl, af12_b hbA hk5 ho5⟩
            | exact ⟨_, rfl, af12_a (zs := z12) (by decide) rfl ⟨_, _, _, rfl⟩ hbA hP5 hk5 ho5⟩
      case rest =>
        obtain ⟨o1, rfl, P1, Fc1, nc1, dc1, Fc2, nc2, dc2, rfl, hbc, hP1, hcell, hst, hou⟩ := hcut
        have HBO := Lib.hid (HI.out.1.step hbc)
        have HCE := Lib.hid hcell
        have HST := Lib.hid hst
        have HOU := Lib.hid hou
        have HSR2 : Hid (∀ w' : World, (∀ k, k < wc.heap.size → w'.heap[k]? = wc.heap[k]?) → w'.cell? ⟨b7, 0, none⟩ = some (.int .i64 ((σ).c : Nat)) ∧ w'.cell? ⟨b7, 1, none⟩ = some (.slice Fb1 nb1 db1) ∧ w'.cell? ⟨b7, 2, none⟩ = some (.slice Fb2 nb2 db2) ∧ w'.cell? ⟨g, off + i * 3, none⟩ = some (.int .u8 (x.kind : Nat)) ∧ w'.cell? ⟨g, off + i * 3 + 1, none⟩ = some (.int .u64 (x.key : Nat)) ∧ w'.cell? ⟨g, off + i * 3 + 2, none⟩ = some (.int .u16 (x.n : Nat))) := Lib.hid (fun w' hh => HSR.out w' (fun k hk => (hh k (Nat.lt_of_lt_of_le hk hbc.size)).trans (hbc.block k hk)))
        have HDR2 : Hid (∀ W, Below wc.heap.size wc W → Calls Try.prog 13 #[.agg (l12C σ.c (.slice Fb1 nb1 db1) (.slice Fb2 nb2 db2)), .agg (act8C x)] W (P12o W (σ.act x) (σ.actOut x))) := Lib.hid (fun W hb => HDR.out W (hbc.trans (hb.mono hbc.size)))
        have hwc := hbc.size
        have hP1w := (head_row hcell).lt
        clear x0 x1 x2 a0 a1 a2 hbc hst hou hcell HSS HSR HDO HDR HI
        obtain ⟨x0, x1, x2, a0, a1, a2⟩ := HSR2.out wc (fun _ _ => rfl)
        obtain ⟨w5c, hw5⟩ : ∃ y, y = wc := ⟨_, rfl⟩
        subst hw5
        go_upto_region 10 with fail
        go_cut [11, 12] (fun s11 s12 wx => ∃ oo, oo = s12 ∧ Af12 w5c T12 (σ.act x) (σ.actOut x) s11 oo wx)
        case first =>
          go_region_held3 (fun w' => w'.cell? ⟨b7, 0, none⟩ = some (.int .i64 ((σ).c : Nat)) ∧ w'.cell? ⟨b7, 1, none⟩ = some (.slice Fb1 nb1 db1) ∧ w'.cell? ⟨b7, 2, none⟩ = some (.slice Fb2 nb2 db2) ∧ w'.cell? ⟨g, off + i * 3, none⟩ = some (.int .u8 (x.kind : Nat)) ∧ w'.cell? ⟨g, off + i * 3 + 1, none⟩ = some (.int .u64 (x.key : Nat)) ∧ w'.cell? ⟨g, off + i * 3 + 2, none⟩ = some (.int .u16 (x.n : Nat)))
            (first | with_reducible exact kk0 | with_reducible exact KK1 _ (c3_set hP5 _ _ _).2 | go_keep)
            (first
            | (go_at_call 13; refine (HDR2.out _ (below_drewn (low_one w5c (.cells z12 T12)) _)).mono ?_; rintro e w5 ⟨q1, q2, o5, he, hb5, hk5, ho5⟩; obtain ⟨Fa1, na1, da1, rfl⟩ := hk5.form1; obtain ⟨Fa2, na2, da2, rfl⟩ := hk5.form2; subst he; have hbA := (below_drewn (Below.refl (w5c.alloc (.cells z12 T12)).heap.size (w5c.alloc (.cells z12 T12))) _).trans hb5; have kk0 := HSR2.out w5 (fun k hk => (hbA.block k (by simp; omega)).trans (Below.heap_alloc w5c _ k hk)); have hP5 := (hbA.block w5c.heap.size (by simp)).trans (heap_alloc_new w5c _); have KK1 := fun (W : World) (ho : Only [w5c.heap.size] w5 W) => HSR2.out W (fun k hk => (ho.block k (by have := hbA.size; simp at this; omega) (by simp; omega)).trans ((hbA.block k (by simp; omega)).trans (Below.heap_alloc w5c _ k hk))); obtain ⟨⟨z0, z1, z2⟩, zf0, zf1, zf2⟩ := c3_at hP5)
            | (go_at_call 13; refine (HDR2.out _ (below_drewn (Below.refl _ _) _)).mono ?_; rintro e w5 ⟨q1, q2, o5, he, hb5, hk5, ho5⟩; obtain ⟨Fa1, na1, da1, rfl⟩ := hk5.form1; obtain ⟨Fa2, na2, da2, rfl⟩ := hk5.form2; subst he; have hbA := (below_drewn (Below.refl w5c.heap.size w5c) _).trans hb5; have kk0 := HSR2.out w5 (fun k hk => hbA.block k hk)))
          all_goals
            go_wp2_with fail
            go_meet
            first
              | exact ⟨_, rfl, af12_b hbA hk5 ho5⟩
              | exact ⟨_, rfl, af12_a (zs := z12) (by decide) rfl ⟨_, _, _, rfl⟩ hbA hP5 hk5 ho5⟩
        case rest =>
          obtain ⟨o2, rfl, P2, Fd1, nd1, dd1, Fd2, nd2, dd2, rfl, hbc, hP2, hcell, hst, hou⟩ := hcut
          have HBO6 := Lib.hid (HBO.out.step hbc)
          have HC1 := Lib.hid ((hbc.block P1 hP1w).trans HCE.out)
          have HC2 := Lib.hid hcell
          have HS1 := Lib.hid (HST.out.below hbc)
          have HS2 := Lib.hid hst
          have HO1 := Lib.hid (HOU.out.below hbc)
          have HO2 := Lib.hid hou
          have hn1 : P1 ≠ b6 := by omega
          have hn2 : P1 ≠ b7 := by omega
          have hn3 : P2 ≠ b6 := by omega
          have hn4 : P2 ≠ b7 := by omega
          have hn5 := HBO6.out.ge.2.2
          have hn1' := Ne.symm hn1
          have hn2' := Ne.symm hn2
          have hn3' := Ne.symm hn3
          have hn4' := Ne.symm hn4
          have hn5' := Ne.symm hn5
          clear x0 x1 x2 a0 a1 a2 hbc hst hou hcell HSR2 HDR2 HBO HCE HST HOU
          obtain ⟨⟨k0, k1, k2⟩, _⟩ := c3_at HC1.out
          obtain ⟨⟨j0, j1, j2⟩, _⟩ := c3_at HC2.out
          obtain ⟨⟨y0, y1, y2⟩, yf0, yf1, yf2⟩ := c3_at HBO6.out.box
          obtain ⟨⟨z0, z1, z2⟩, zf0, zf1, zf2⟩ := c3_at HBO6.out.res
          have HN : Hid (∀ W, W = ((((((wc.setCell ⟨b6, 0, none⟩ (.int .i64 ((σ.act x).c : Nat))).setCell ⟨b6, 1, none⟩ (.slice Fc1 nc1 dc1)).setCell ⟨b6, 2, none⟩ (.slice Fc2 nc2 dc2)).setCell ⟨b7, 0, none⟩ (.int .i64 ((σ.act x).c : Nat))).setCell ⟨b7, 1, none⟩ (.slice Fd1 nd1 dd1)).setCell ⟨b7, 2, none⟩ (.slice Fd2 nd2 dd2)) → Bp w W PT12 T12 b6 b7 (l12C ((σ.act x)).c (.slice Fc1 nc1 dc1) (.slice Fc2 nc2 dc2)) (l12C ((σ.act x)).c (.slice Fd1 nd1 dd1) (.slice Fd2 nd2 dd2)) ∧ St12 W ((σ.act x)) (.slice Fc1 nc1 dc1) (.slice Fc2 nc2 dc2) ∧ St12 W ((σ.act x)) (.slice Fd1 nd1 dd1) (.slice Fd2 nd2 dd2) ∧ KV W o1 (σ.actOut x) ∧ KV W o2 (σ.actOut x)) := Lib.hid (by
            rintro W rfl
            obtain ⟨h1, h2⟩ := c3_set HBO6.out.box (.int .i64 ((σ.act x).c : Nat)) (.slice Fc1 nc1 dc1) (.slice Fc2 nc2 dc2)
            have hr := (h2.block b7 (head_row HBO6.out.res).lt (by simp; omega)).trans HBO6.out.res
            obtain ⟨h3, h4⟩ := c3_set hr (.int .i64 ((σ.act x).c : Nat)) (.slice Fd1 nd1 dd1) (.slice Fd2 nd2 dd2)
            have ho : Only [b6, b7] wc _ := (h2.mono (T := [b6, b7]) (by simp)).trans h4 (by simp)
            exact ⟨⟨HBO6.out.fin ho, (h4.block b6 (head_row h1).lt (by simp; omega)).trans h1, h3, HBO6.out.ge, ⟨rfl, rfl⟩, HBO6.out.ty⟩, HBO6.out.st12 ho HS1.out, HBO6.out.st12 ho HS2.out, HBO6.out.kv ho HO1.out, HBO6.out.kv ho HO2.out⟩)
          go_upto_region 13 with fail
          have hW := HN.out _ rfl
          clear HN k0 j0 y0 z0 yf0 zf0 k1 j1 y1 z1 yf1 zf1 k2 j2 y2 z2 yf2 zf2
          generalize ((((((wc.setCell ⟨b6, 0, none⟩ (.int .i64 ((σ.act x).c : Nat))).setCell ⟨b6, 1, none⟩ (.slice Fc1 nc1 dc1)).setCell ⟨b6, 2, none⟩ (.slice Fc2 nc2 dc2)).setCell ⟨b7, 0, none⟩ (.int .i64 ((σ.act x).c : Nat))).setCell ⟨b7, 1, none⟩ (.slice Fd1 nd1 dd1)).setCell ⟨b7, 2, none⟩ (.slice Fd2 nd2 dd2)) = W at hW ⊢
          have HW := Lib.hid hW
          clear hW HBO6 HC1 HC2 HS1 HS2 HO1 HO2
          obtain ⟨⟨y0, y1, y2⟩, _⟩ := c3_at HW.out.1.box
          obtain ⟨⟨z0, z1, z2⟩, _⟩ := c3_at HW.out.1.res
          go_wp2_with fail
          refine (psame12_walk HW.out.2.1 HW.out.2.2.1 HOK2.out).mono ?_
          rintro e w7 ⟨rfl, hb⟩
          have HB7 := Lib.hid (HW.out.1.step hb)
          have HS7 := Lib.hid (And.intro (HW.out.2.1.below hb) (HW.out.2.2.1.below hb))
          have HO7 := Lib.hid (And.intro (HW.out.2.2.2.1.below hb) (HW.out.2.2.2.2.below hb))
          clear hb HW
          go_wp2_with fail
          refine (same_walk HO7.out.1 HO7.out.2 HOUT.out).mono ?_
          rintro e w8 ⟨rfl, hb⟩
          rw [decide_eq_true rfl]
          have HN : Hid (Bp w w8 PT12 T12 b6 b7 (l12C ((s0.runS (l.take (i + 1)))).c (.slice Fc1 nc1 dc1) (.slice Fc2 nc2 dc2)) (l12C ((s0.runS (l.take (i + 1)))).c (.slice Fd1 nd1 dd1) (.slice Fd2 nd2 dd2)) ∧ St12 w8 ((s0.runS (l.take (i + 1)))) (.slice Fc1 nc1 dc1) (.slice Fc2 nc2 dc2) ∧ St12 w8 ((s0.runS (l.take (i + 1)))) (.slice Fd1 nd1 dd1) (.slice Fd2 nd2 dd2)) := Lib.hid (by rw [HNX.out]; exact ⟨HB7.out.step hb, HS7.out.1.below hb, HS7.out.2.below hb⟩)
          clear hb y0 y1 y2 z0 z1 z2
          go_wp2
          go_roundg (na - i - 1)
          case measure => omega
          case rel => exact ⟨i + 1, _, _, _, _, _, _, _, _, _, _, _, _, by omega, by go_num, HN⟩
    · have hltI : ¬ (i : Int) < (na : Int) := by omega
      obtain ⟨⟨y0, y1, y2⟩, _⟩ := c3_at HI.out.1.box
      obtain ⟨⟨z0, z1, z2⟩, _⟩ := c3_at HI.out.1.res
      have hok := HOKR.out i
      go_wp2_with fail
      refine (psame12_walk HI.out.2.1 HI.out.2.2 hok).mono ?_
      rintro e w7 ⟨rfl, hb⟩
      have HL := Lib.hid (HI.out.1.low.trans (hb.mono HI.out.1.low.size))
      clear hb
      go_wp2
      go_ret
      exact ⟨rfl, HL.out⟩
theorem steps12_walk (PO : Pol12Ok) (AW : ∀ w, Calls Try.prog 9 #[] w (RetB w true)) (c : Nat) (hc : c < 256) (ha : AV w v l) : Calls Try.prog 3 #[.int .u8 (c : Nat), v] w (RetB w true) := by
  by_cases hl : l.length ≤ 60
  · exact steps12_short PO AW c hc ha hl
  · have HAW := Lib.hid (AW w)
    obtain ⟨A, cap, rfl, _⟩ := ha.mem
    obtain ⟨na, hna⟩ : ∃ na, l.length = na := ⟨_, rfl⟩
    rw [hna] at hl ⊢
    have hlI : (60 : Int) < (na : Int) := by omega
    clear ha hna AW
    go_enter Try.func3, Try.ntmps3
    go_wp2_with fail
    refine HAW.out.mono ?_
    rintro e w1 ⟨rfl, hb1⟩
    have HB := Lib.hid hb1
    clear hb1
    go_wp2
    go_ret
    exact ⟨rfl, HB.out⟩
end
end Go.Proofs.Ytjfhapobbglbpaa
