/- Three simple queues: the laws' awake. -/
import Derived.Test.YtlekhmpalcgbmaaS3O
import Derived.Test.YtlekhmpalcgbmaaS3V
import Derived.Test.YtlekhmpalcgbmaaSqS
import Derived.Deep.RegionHeld3
import Derived.Deep.RegionWith
import Derived.Deep.CutRange
namespace Go.Proofs.Ytlekhmpalcgbmaa
open Go Go.RowKit Go.Deep

theorem size_alloc10k (w : World) (o : Obj) : (w.alloc o).heap.size = w.heap.size + 1 := by simp
theorem lit10 (w : World) (ks : List Nat) (hl : ks.length ≤ 1000) : KV (w.alloc (.cells (u64L ks).toArray 35)) (.slice (some ⟨w.heap.size, 0, none⟩) ks.length ks.length) ks := KV.lit ks hl
set_option maxHeartbeats 1000000 in
set_option maxRecDepth 4000 in
theorem awake10_walk (PO : Pol10Ok) (w : World) : Calls Try.prog 8 #[] w (RetB w true) := by
  have k0 := L10.ok_new 2
  have k1 := k0.adm 1 (by decide)
  have k2 := k1.adm 2 (by decide)
  have k3 := k2.adm 3 (by decide)
  have k4 := k2.touch 1
  have k5 := k4.touch 1
  have k6 := k5.adm 3 (by decide)
  have e1 : (L10.new 2).adm 1 = ⟨2, [⟨1, 0⟩], [], []⟩ := rfl
  rw [e1] at k1 k2 k3 k4 k5 k6
  have e2 : (⟨2, [⟨1, 0⟩], [], []⟩ : L10).adm 2 = ⟨2, [⟨2, 0⟩, ⟨1, 0⟩], [], []⟩ := rfl
  rw [e2] at k2 k3 k4 k5 k6
  have e3 : (⟨2, [⟨2, 0⟩, ⟨1, 0⟩], [], []⟩ : L10).adm 3 = ⟨2, [⟨3, 0⟩, ⟨2, 0⟩], [], [1]⟩ := rfl
  rw [e3] at k3
  have e4 : (⟨2, [⟨2, 0⟩, ⟨1, 0⟩], [], []⟩ : L10).touch 1 = ⟨2, [⟨2, 0⟩, ⟨1, 1⟩], [], []⟩ := rfl
  rw [e4] at k4 k5 k6
  have e5 : (⟨2, [⟨2, 0⟩, ⟨1, 1⟩], [], []⟩ : L10).touch 1 = ⟨2, [⟨2, 0⟩, ⟨1, 2⟩], [], []⟩ := rfl
  rw [e5] at k5 k6
  have e6 : (⟨2, [⟨2, 0⟩, ⟨1, 2⟩], [], []⟩ : L10).adm 3 = ⟨2, [⟨3, 0⟩], [⟨1, 0⟩], [2]⟩ := rfl
  rw [e6] at k6
  have k7 := k6.drop 1
  have e7 : (⟨2, [⟨3, 0⟩], [⟨1, 0⟩], [2]⟩ : L10).drop 1 = ⟨2, [⟨3, 0⟩], [], [2]⟩ := rfl
  rw [e7] at k7
  have K0 := Lib.hid k0
  have K1 := Lib.hid k1
  have K2 := Lib.hid k2
  have K3 := Lib.hid k3
  have K4 := Lib.hid k4
  have K5 := Lib.hid k5
  have K6 := Lib.hid k6
  have K7 := Lib.hid k7
  have E1 := Lib.hid e1
  have E2 := Lib.hid e2
  have E3 := Lib.hid e3
  have E4 := Lib.hid e4
  have E5 := Lib.hid e5
  have E6 := Lib.hid e6
  have E7 := Lib.hid e7
  clear k0 k1 k2 k3 k4 k5 k6 k7 e1 e2 e3 e4 e5 e6 e7
  go_enter Try.func8, Try.ntmps8
  go_wp2_with fail
  refine (PO.new w 2 (by decide) (by decide)).mono ?_
  rintro e w1 ⟨u1, u2, u3, he, hb, hk⟩
  obtain ⟨Fa1, na1, da1, rfl⟩ := hk.form1
  obtain ⟨Fa2, na2, da2, rfl⟩ := hk.form2
  obtain ⟨Fa3, na3, da3, rfl⟩ := hk.form3
  have he' : e = .returned (.agg (l10C 2 (.slice Fa1 na1 da1) (.slice Fa2 na2 da2) (.slice Fa3 na3 da3))) := he
  subst he'
  have HB := Lib.hid hb
  have KA := Lib.hid (PO.adm hk K0.out 1 (by decide))
  clear he hb hk
  go_wp2_with fail
  refine KA.out.mono ?_
  rintro e w2 ⟨u1, u2, u3, o2, he, hb, hk, _⟩
  obtain ⟨Fb1, nb1, db1, rfl⟩ := hk.form1
  obtain ⟨Fb2, nb2, db2, rfl⟩ := hk.form2
  obtain ⟨Fb3, nb3, db3, rfl⟩ := hk.form3
  have he' : e = .returned (.tuple #[.agg (l10C 2 (.slice Fb1 nb1 db1) (.slice Fb2 nb2 db2) (.slice Fb3 nb3 db3)), o2]) := he
  subst he'
  have hk' : St10 w2 ⟨2, [⟨1, 0⟩], [], []⟩ (.slice Fb1 nb1 db1) (.slice Fb2 nb2 db2) (.slice Fb3 nb3 db3) := by rw [← E1.out]; exact hk
  have hbs := Bs10.new (T := PT10) (by decide) (HB.out.trans (hb.mono HB.out.size)) hk'
  have KB := Lib.hid (PO.adm hbs.st K1.out 2 (by decide))
  have HSB := Lib.hid hbs
  clear he hb hk hk' hbs KA HB
  go_wp2_with fail
  refine KB.out.mono ?_
  rintro e w3 ⟨u1, u2, u3, o3, he, hb, hk, _⟩
  obtain ⟨Ft1, nt1, dt1, rfl⟩ := hk.form1
  obtain ⟨Ft2, nt2, dt2, rfl⟩ := hk.form2
  obtain ⟨Ft3, nt3, dt3, rfl⟩ := hk.form3
  have he' : e = .returned (.tuple #[.agg (l10C 2 (.slice Ft1 nt1 dt1) (.slice Ft2 nt2 dt2) (.slice Ft3 nt3 dt3)), o3]) := he
  subst he'
  have hk' : St10 w3 ⟨2, [⟨2, 0⟩, ⟨1, 0⟩], [], []⟩ (.slice Ft1 nt1 dt1) (.slice Ft2 nt2 dt2) (.slice Ft3 nt3 dt3) := by rw [← E2.out]; exact hk
  have hbt := Bs10.new (T := PT10) (by decide) (HSB.out.step hb).low hk'
  have KC := Lib.hid (PO.adm hbt.st K2.out 3 (by decide))
  have HT := Lib.hid hbt
  clear he hb hk hk' hbt KB HSB
  go_wp2_with fail
  refine KC.out.mono ?_
  rintro e w4 ⟨u1, u2, u3, o4, he, hb, hk, ho⟩
  obtain ⟨Fu1, nu1, du1, rfl⟩ := hk.form1
  obtain ⟨Fu2, nu2, du2, rfl⟩ := hk.form2
  obtain ⟨Fu3, nu3, du3, rfl⟩ := hk.form3
  have he' : e = .returned (.tuple #[.agg (l10C 2 (.slice Fu1 nu1 du1) (.slice Fu2 nu2 du2) (.slice Fu3 nu3 du3)), o4]) := he
  subst he'
  have hk' : St10 w4 ⟨2, [⟨3, 0⟩, ⟨2, 0⟩], [], [1]⟩ (.slice Fu1 nu1 du1) (.slice Fu2 nu2 du2) (.slice Fu3 nu3 du3) := by rw [← E3.out]; exact hk
  have ht4 := HT.out.step hb
  have hbu := Bs10.new (T := PT10) (by decide) ht4.low hk'
  have ho' : KV w4 o4 [1] := ho
  have HU := Lib.hid hbu
  have ht5 := ht4.step (low_one w4 (.cells #[.int .i64 2, (.slice Fu1 nu1 du1), (.slice Fu2 nu2 du2), (.slice Fu3 nu3 du3)] PT10))
  have HO := Lib.hid (ho'.below (low_one w4 (.cells #[.int .i64 2, (.slice Fu1 nu1 du1), (.slice Fu2 nu2 du2), (.slice Fu3 nu3 du3)] PT10)))
  have HT4 := Lib.hid ht5
  have hne : w3.heap.size < w4.heap.size := (head_row ht4.box).lt
  have KD := Lib.hid (PO.touch ht5.st K2.out 1 (by decide))
  obtain ⟨⟨x0, x1, x2, x3⟩, xf0, xf1, xf2, xf3⟩ := c4_at ht5.box
  clear he hb hk hk' hbu ht4 ht5 ho ho' KC HT
  go_wp2_with fail
  refine KD.out.mono ?_
  rintro e w5 ⟨u1, u2, u3, he, hb, hk⟩
  obtain ⟨Fc1, nc1, dc1, rfl⟩ := hk.form1
  obtain ⟨Fc2, nc2, dc2, rfl⟩ := hk.form2
  obtain ⟨Fc3, nc3, dc3, rfl⟩ := hk.form3
  have he' : e = .returned (.agg (l10C 2 (.slice Fc1 nc1 dc1) (.slice Fc2 nc2 dc2) (.slice Fc3 nc3 dc3))) := he
  subst he'
  have hk' : St10 w5 ⟨2, [⟨2, 0⟩, ⟨1, 1⟩], [], []⟩ (.slice Fc1 nc1 dc1) (.slice Fc2 nc2 dc2) (.slice Fc3 nc3 dc3) := by rw [← E4.out]; exact hk
  have KE := Lib.hid (PO.touch hk' K4.out 1 (by decide))
  have HO5 := Lib.hid (HO.out.below hb)
  have HU5 := Lib.hid (HU.out.step hb)
  clear he hb hk hk' KD HT4 HO HU x0 x1 x2 x3 xf0 xf1 xf2 xf3
  go_wp2_with fail
  refine KE.out.mono ?_
  rintro e w6 ⟨u1, u2, u3, he, hb, hk⟩
  obtain ⟨Fd1, nd1, dd1, rfl⟩ := hk.form1
  obtain ⟨Fd2, nd2, dd2, rfl⟩ := hk.form2
  obtain ⟨Fd3, nd3, dd3, rfl⟩ := hk.form3
  have he' : e = .returned (.agg (l10C 2 (.slice Fd1 nd1 dd1) (.slice Fd2 nd2 dd2) (.slice Fd3 nd3 dd3))) := he
  subst he'
  have hk' : St10 w6 ⟨2, [⟨2, 0⟩, ⟨1, 2⟩], [], []⟩ (.slice Fd1 nd1 dd1) (.slice Fd2 nd2 dd2) (.slice Fd3 nd3 dd3) := by rw [← E5.out]; exact hk
  have KF := Lib.hid (PO.adm hk' K5.out 3 (by decide))
  have HO6 := Lib.hid (HO5.out.below hb)
  have HU6 := Lib.hid (HU5.out.step hb)
  clear he hb hk hk' KE HO5 HU5
  go_wp2_with fail
  refine KF.out.mono ?_
  rintro e w7 ⟨u1, u2, u3, o7, he, hb, hk, ho⟩
  obtain ⟨Fv1, nv1, dv1, rfl⟩ := hk.form1
  obtain ⟨Fv2, nv2, dv2, rfl⟩ := hk.form2
  obtain ⟨Fv3, nv3, dv3, rfl⟩ := hk.form3
  have he' : e = .returned (.tuple #[.agg (l10C 2 (.slice Fv1 nv1 dv1) (.slice Fv2 nv2 dv2) (.slice Fv3 nv3 dv3)), o7]) := he
  subst he'
  have hk' : St10 w7 ⟨2, [⟨3, 0⟩], [⟨1, 0⟩], [2]⟩ (.slice Fv1 nv1 dv1) (.slice Fv2 nv2 dv2) (.slice Fv3 nv3 dv3) := by rw [← E6.out]; exact hk
  have hu7 := HU6.out.step hb
  have hbv := Bs10.new (T := PT10) (by decide) hu7.low hk'
  have ho' : KV w7 o7 [2] := ho
  have HM3 := Lib.hid (ho'.below (low_one w7 (.cells #[.int .i64 2, (.slice Fv1 nv1 dv1), (.slice Fv2 nv2 dv2), (.slice Fv3 nv3 dv3)] PT10)))
  have HO3 := Lib.hid ((HO6.out.below hb).below (low_one w7 (.cells #[.int .i64 2, (.slice Fv1 nv1 dv1), (.slice Fv2 nv2 dv2), (.slice Fv3 nv3 dv3)] PT10)))
  have HU3 := Lib.hid (hu7.step (low_one w7 (.cells #[.int .i64 2, (.slice Fv1 nv1 dv1), (.slice Fv2 nv2 dv2), (.slice Fv3 nv3 dv3)] PT10)))
  have HV3 := Lib.hid hbv
  have hne2 : w4.heap.size < w7.heap.size := (head_row hu7.box).lt
  clear he hb hk hk' hu7 hbv ho ho' KF HU6 HO6
  have HL20 := Lib.hid (lit10 (w7.alloc (.cells #[.int .i64 2, (.slice Fv1 nv1 dv1), (.slice Fv2 nv2 dv2), (.slice Fv3 nv3 dv3)] PT10)) [1] (by decide))
  have hlo := low_one (w7.alloc (.cells #[.int .i64 2, (.slice Fv1 nv1 dv1), (.slice Fv2 nv2 dv2), (.slice Fv3 nv3 dv3)] PT10)) (.cells (u64L [1]).toArray 35)
  have HU20 := Lib.hid (HU3.out.step hlo)
  have HV20 := Lib.hid (HV3.out.step hlo)
  have HO20 := Lib.hid (HO3.out.below hlo)
  have HM20 := Lib.hid (HM3.out.below hlo)
  clear hlo HU3 HV3 HO3 HM3
  go_wp2_with fail
  refine (same_walk (ks := [1]) (js := [1]) HO20.out ?_ (by decide)).mono ?_
  · first
      | exact HL20.out
      | (have h := HL20.out; simp only [size_alloc10k] at h; exact h)
  rintro e w30 ⟨rfl, hb⟩
  rw [decide_eq_true rfl]
  have HU30 := Lib.hid (HU20.out.step hb)
  have HV30 := Lib.hid (HV20.out.step hb)
  have HO30 := Lib.hid (HO20.out.below hb)
  have HM30 := Lib.hid (HM20.out.below hb)
  clear hb HU20 HV20 HO20 HM20 HL20
  obtain ⟨⟨x0, x1, x2, x3⟩, _⟩ := c4_at HU30.out.box
  obtain ⟨⟨z0, z1, z2, z3⟩, _⟩ := c4_at HV30.out.box
  have HL21 := Lib.hid (lit10 w30 [1] (by decide))
  have hlo := low_one w30 (.cells (u64L [1]).toArray 35)
  have HU21 := Lib.hid (HU30.out.step hlo)
  have HV21 := Lib.hid (HV30.out.step hlo)
  have HO21 := Lib.hid (HO30.out.below hlo)
  have HM21 := Lib.hid (HM30.out.below hlo)
  clear hlo HU30 HV30 HO30 HM30
  go_wp2_with fail
  refine (same_walk (ks := [1]) (js := [1]) HU21.out.st.g3 ?_ (by decide)).mono ?_
  · first
      | exact HL21.out
      | (have h := HL21.out; simp only [size_alloc10k] at h; exact h)
  rintro e w31 ⟨rfl, hb⟩
  rw [decide_eq_true rfl]
  have HU31 := Lib.hid (HU21.out.step hb)
  have HV31 := Lib.hid (HV21.out.step hb)
  have HO31 := Lib.hid (HO21.out.below hb)
  have HM31 := Lib.hid (HM21.out.below hb)
  clear hb HU21 HV21 HO21 HM21 HL21
  clear x0 x1 x2 x3 z0 z1 z2 z3
  obtain ⟨⟨x0, x1, x2, x3⟩, _⟩ := c4_at HU31.out.box
  obtain ⟨⟨z0, z1, z2, z3⟩, _⟩ := c4_at HV31.out.box
  have HL22 := Lib.hid (lit10 w31 [2] (by decide))
  have hlo := low_one w31 (.cells (u64L [2]).toArray 35)
  have HU22 := Lib.hid (HU31.out.step hlo)
  have HV22 := Lib.hid (HV31.out.step hlo)
  have HO22 := Lib.hid (HO31.out.below hlo)
  have HM22 := Lib.hid (HM31.out.below hlo)
  clear hlo HU31 HV31 HO31 HM31
  go_wp2_with fail
  refine (same_walk (ks := [2]) (js := [2]) HM22.out ?_ (by decide)).mono ?_
  · first
      | exact HL22.out
      | (have h := HL22.out; simp only [size_alloc10k] at h; exact h)
  rintro e w32 ⟨rfl, hb⟩
  rw [decide_eq_true rfl]
  have HU32 := Lib.hid (HU22.out.step hb)
  have HV32 := Lib.hid (HV22.out.step hb)
  have HO32 := Lib.hid (HO22.out.below hb)
  have HM32 := Lib.hid (HM22.out.below hb)
  clear hb HU22 HV22 HO22 HM22 HL22
  clear x0 x1 x2 x3 z0 z1 z2 z3
  obtain ⟨⟨x0, x1, x2, x3⟩, _⟩ := c4_at HU32.out.box
  obtain ⟨⟨z0, z1, z2, z3⟩, _⟩ := c4_at HV32.out.box
  obtain ⟨Fm, cm, em, hcm, _, hm⟩ := HV32.out.st.g2.mem
  injection em with em1 em2 em3
  subst em1 em2 em3
  obtain ⟨g, off, hF, hg, q0, q1⟩ := hm 0 (by simp)
  subst hF
  dsimp only [List.getElem_cons_zero] at q0 q1
  rw [Nat.zero_mul, Nat.add_zero] at q0 q1
  clear hm
  dsimp only at x0 x1 x2 x3 z0 z1 z2 z3
  go_wp2_with fail
  refine (PO.has HV32.out.st K6.out 1 (by decide)).mono ?_
  rintro e w41 ⟨rfl, hb⟩
  rw [show decide (1 ∈ (⟨2, [⟨3, 0⟩], [⟨1, 0⟩], [2]⟩ : L10).keys) = true from rfl]
  have HV41 := Lib.hid (HV32.out.step hb)
  have HU41 := Lib.hid (HU32.out.step hb)
  clear hb HU32 HV32 HO32 HM32 q0 q1 hg x0 x1 x2 x3 z0 z1 z2 z3
  obtain ⟨⟨x0, x1, x2, x3⟩, _⟩ := c4_at HU41.out.box
  go_wp2_with fail
  refine (PO.ghosts HU41.out.st K3.out).mono ?_
  rintro e w42 ⟨he, hb⟩
  have he' : e = .returned (.int .i64 1) := he
  subst he'
  have HV42 := Lib.hid (HV41.out.step hb)
  clear he hb HU41 HV41 x0 x1 x2 x3
  obtain ⟨⟨z0, z1, z2, z3⟩, _⟩ := c4_at HV42.out.box
  go_wp2_with fail
  refine (PO.drop HV42.out.st K6.out 1 (by decide)).mono ?_
  rintro e w43 ⟨u1, u2, u3, he, hb, hk⟩
  obtain ⟨Fy1, ny1, dy1, rfl⟩ := hk.form1
  obtain ⟨Fy2, ny2, dy2, rfl⟩ := hk.form2
  obtain ⟨Fy3, ny3, dy3, rfl⟩ := hk.form3
  have he' : e = .returned (.agg (l10C 2 (.slice Fy1 ny1 dy1) (.slice Fy2 ny2 dy2) (.slice Fy3 ny3 dy3))) := he
  subst he'
  have hk' : St10 w43 ⟨2, [⟨3, 0⟩], [], [2]⟩ (.slice Fy1 ny1 dy1) (.slice Fy2 ny2 dy2) (.slice Fy3 ny3 dy3) := by rw [← E7.out]; exact hk
  have HY := Lib.hid hk'
  have HLO := Lib.hid (HV42.out.low.trans (hb.mono HV42.out.low.size))
  clear he hb hk hk' HV42 z0 z1 z2 z3
  go_wp2_with fail
  refine (PO.keys HY.out K7.out).mono ?_
  rintro e w44 ⟨v, rfl, hb, hk⟩
  have hk' : KV w44 v [3] := hk
  obtain ⟨Fz, cz, rfl, _⟩ := hk'.mem
  have HLZ := Lib.hid (HLO.out.trans (hb.mono HLO.out.size))
  clear hb hk hk' HLO HY
  go_wp2
  go_ret
  exact ⟨rfl, HLZ.out⟩
end Go.Proofs.Ytlekhmpalcgbmaa
