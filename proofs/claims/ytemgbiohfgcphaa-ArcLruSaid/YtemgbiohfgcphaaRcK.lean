/- Adaptive replacement: the laws' awake. -/
import Derived.Test.YtemgbiohfgcphaaRcO
import Derived.Test.YtemgbiohfgcphaaRcV
import Derived.Test.YtemgbiohfgcphaaSqS
import Derived.Deep.RegionHeld3
import Derived.Deep.RegionWith
import Derived.Deep.CutRange
namespace Go.Proofs.Ytemgbiohfgcphaa
open Go Go.RowKit Go.Deep

theorem size_alloc11k (w : World) (o : Obj) : (w.alloc o).heap.size = w.heap.size + 1 := by simp
theorem lit11 (w : World) (ks : List Nat) (hl : ks.length ≤ 1000) : KV (w.alloc (.cells (u64L ks).toArray 32)) (.slice (some ⟨w.heap.size, 0, none⟩) ks.length ks.length) ks := KV.lit ks hl
set_option maxHeartbeats 1000000 in
set_option maxRecDepth 4000 in
theorem awake11_walk (PO : Pol11Ok) (w : World) : Calls Try.prog 9 #[] w (RetB w true) := by
  have k0 := L11.ok_new 2
  have k1 := k0.adm 1 (by decide)
  have k2 := k1.adm 2 (by decide)
  have k3 := k2.touch 1
  have k4 := k3.adm 3 (by decide)
  have k5 := k4.adm 2 (by decide)
  have e1 : (L11.new 2).adm 1 = ⟨2, 0, [1], [], [], []⟩ := rfl
  rw [e1] at k1 k2 k3 k4 k5
  have e2 : (⟨2, 0, [1], [], [], []⟩ : L11).adm 2 = ⟨2, 0, [2, 1], [], [], []⟩ := rfl
  rw [e2] at k2 k3 k4 k5
  have e3 : (⟨2, 0, [2, 1], [], [], []⟩ : L11).touch 1 = ⟨2, 0, [2], [1], [], []⟩ := rfl
  rw [e3] at k3 k4 k5
  have e4 : (⟨2, 0, [2], [1], [], []⟩ : L11).adm 3 = ⟨2, 0, [3], [1], [2], []⟩ := rfl
  rw [e4] at k4 k5
  have e5 : (⟨2, 0, [3], [1], [2], []⟩ : L11).adm 2 = ⟨2, 1, [3], [2], [], [1]⟩ := rfl
  rw [e5] at k5
  have k6 := k5.drop 3
  have e6 : (⟨2, 1, [3], [2], [], [1]⟩ : L11).drop 3 = ⟨2, 1, [], [2], [], [1]⟩ := rfl
  rw [e6] at k6
  have o4 : (⟨2, 0, [2], [1], [], []⟩ : L11).admitOut 3 = [2] := rfl
  have o5 : (⟨2, 0, [3], [1], [2], []⟩ : L11).admitOut 2 = [1] := rfl
  have K0 := Lib.hid k0
  have K1 := Lib.hid k1
  have K2 := Lib.hid k2
  have K3 := Lib.hid k3
  have K4 := Lib.hid k4
  have K5 := Lib.hid k5
  have K6 := Lib.hid k6
  have E1 := Lib.hid e1
  have E2 := Lib.hid e2
  have E3 := Lib.hid e3
  have E4 := Lib.hid e4
  have E5 := Lib.hid e5
  have E6 := Lib.hid e6
  have O4 := Lib.hid o4
  have O5 := Lib.hid o5
  clear k0 k1 k2 k3 k4 k5 k6 e1 e2 e3 e4 e5 e6 o4 o5
  go_enter Try.func9, Try.ntmps9
  go_wp2_with fail
  refine (PO.new w 2 (by decide) (by decide)).mono ?_
  rintro e w1 ⟨u1, u2, u3, u4, he, hb, hk⟩
  obtain ⟨Fa1, na1, da1, rfl⟩ := hk.form1
  obtain ⟨Fa2, na2, da2, rfl⟩ := hk.form2
  obtain ⟨Fa3, na3, da3, rfl⟩ := hk.form3
  obtain ⟨Fa4, na4, da4, rfl⟩ := hk.form4
  have he' : e = .returned (.agg (l11C 2 0 (.slice Fa1 na1 da1) (.slice Fa2 na2 da2) (.slice Fa3 na3 da3) (.slice Fa4 na4 da4))) := he
  subst he'
  have HB := Lib.hid hb
  have KA := Lib.hid (PO.adm hk K0.out 1 (by decide))
  clear he hb hk
  go_wp2_with fail
  refine KA.out.mono ?_
  rintro e w2 ⟨u1, u2, u3, u4, o2, he, hb, hk, _⟩
  obtain ⟨Fb1, nb1, db1, rfl⟩ := hk.form1
  obtain ⟨Fb2, nb2, db2, rfl⟩ := hk.form2
  obtain ⟨Fb3, nb3, db3, rfl⟩ := hk.form3
  obtain ⟨Fb4, nb4, db4, rfl⟩ := hk.form4
  have he' : e = .returned (.tuple #[.agg (l11C 2 0 (.slice Fb1 nb1 db1) (.slice Fb2 nb2 db2) (.slice Fb3 nb3 db3) (.slice Fb4 nb4 db4)), o2]) := he
  subst he'
  have hk' : St11 w2 ⟨2, 0, [1], [], [], []⟩ (.slice Fb1 nb1 db1) (.slice Fb2 nb2 db2) (.slice Fb3 nb3 db3) (.slice Fb4 nb4 db4) := by rw [← E1.out]; exact hk
  have hbs := Bs11.new (T := PT11) (by decide) (HB.out.trans (hb.mono HB.out.size)) hk'
  have KB := Lib.hid (PO.adm hbs.st K1.out 2 (by decide))
  have HSB := Lib.hid hbs
  clear he hb hk hk' hbs KA HB
  go_wp2_with fail
  refine KB.out.mono ?_
  rintro e w3 ⟨u1, u2, u3, u4, o3, he, hb, hk, _⟩
  obtain ⟨Ft1, nt1, dt1, rfl⟩ := hk.form1
  obtain ⟨Ft2, nt2, dt2, rfl⟩ := hk.form2
  obtain ⟨Ft3, nt3, dt3, rfl⟩ := hk.form3
  obtain ⟨Ft4, nt4, dt4, rfl⟩ := hk.form4
  have he' : e = .returned (.tuple #[.agg (l11C 2 0 (.slice Ft1 nt1 dt1) (.slice Ft2 nt2 dt2) (.slice Ft3 nt3 dt3) (.slice Ft4 nt4 dt4)), o3]) := he
  subst he'
  have hk' : St11 w3 ⟨2, 0, [2, 1], [], [], []⟩ (.slice Ft1 nt1 dt1) (.slice Ft2 nt2 dt2) (.slice Ft3 nt3 dt3) (.slice Ft4 nt4 dt4) := by rw [← E2.out]; exact hk
  have hbt := Bs11.new (T := PT11) (by decide) (HSB.out.step hb).low hk'
  have KC := Lib.hid (PO.touch hbt.st K2.out 1 (by decide))
  have HLT := Lib.hid hbt.low
  clear he hb hk hk' hbt KB HSB
  go_wp2_with fail
  refine KC.out.mono ?_
  rintro e w4 ⟨u1, u2, u3, u4, he, hb, hk⟩
  obtain ⟨Fc1, nc1, dc1, rfl⟩ := hk.form1
  obtain ⟨Fc2, nc2, dc2, rfl⟩ := hk.form2
  obtain ⟨Fc3, nc3, dc3, rfl⟩ := hk.form3
  obtain ⟨Fc4, nc4, dc4, rfl⟩ := hk.form4
  have he' : e = .returned (.agg (l11C 2 0 (.slice Fc1 nc1 dc1) (.slice Fc2 nc2 dc2) (.slice Fc3 nc3 dc3) (.slice Fc4 nc4 dc4))) := he
  subst he'
  have hk' : St11 w4 ⟨2, 0, [2], [1], [], []⟩ (.slice Fc1 nc1 dc1) (.slice Fc2 nc2 dc2) (.slice Fc3 nc3 dc3) (.slice Fc4 nc4 dc4) := by rw [← E3.out]; exact hk
  have KD := Lib.hid (PO.adm hk' K3.out 3 (by decide))
  have HL4 := Lib.hid (HLT.out.trans (hb.mono HLT.out.size))
  clear he hb hk hk' KC HLT
  go_wp2_with fail
  refine KD.out.mono ?_
  rintro e w5 ⟨u1, u2, u3, u4, o5, he, hb, hk, ho⟩
  obtain ⟨Fu1, nu1, du1, rfl⟩ := hk.form1
  obtain ⟨Fu2, nu2, du2, rfl⟩ := hk.form2
  obtain ⟨Fu3, nu3, du3, rfl⟩ := hk.form3
  obtain ⟨Fu4, nu4, du4, rfl⟩ := hk.form4
  have he' : e = .returned (.tuple #[.agg (l11C 2 0 (.slice Fu1 nu1 du1) (.slice Fu2 nu2 du2) (.slice Fu3 nu3 du3) (.slice Fu4 nu4 du4)), o5]) := he
  subst he'
  have hk' : St11 w5 ⟨2, 0, [3], [1], [2], []⟩ (.slice Fu1 nu1 du1) (.slice Fu2 nu2 du2) (.slice Fu3 nu3 du3) (.slice Fu4 nu4 du4) := by rw [← E4.out]; exact hk
  have hbu := Bs11.new (T := PT11) (by decide) (HL4.out.trans (hb.mono HL4.out.size)) hk'
  have ho' : KV w5 o5 [2] := by rw [← O4.out]; exact ho
  have HU := Lib.hid hbu
  have HO := Lib.hid (ho'.below (low_one w5 (.cells (l11C 2 0 (.slice Fu1 nu1 du1) (.slice Fu2 nu2 du2) (.slice Fu3 nu3 du3) (.slice Fu4 nu4 du4)) PT11)))
  have KE := Lib.hid (PO.adm hbu.st K4.out 2 (by decide))
  clear he hb hk hk' hbu ho ho' KD HL4
  go_wp2_with fail
  refine KE.out.mono ?_
  rintro e w7 ⟨u1, u2, u3, u4, o7, he, hb, hk, ho⟩
  obtain ⟨Fv1, nv1, dv1, rfl⟩ := hk.form1
  obtain ⟨Fv2, nv2, dv2, rfl⟩ := hk.form2
  obtain ⟨Fv3, nv3, dv3, rfl⟩ := hk.form3
  obtain ⟨Fv4, nv4, dv4, rfl⟩ := hk.form4
  have he' : e = .returned (.tuple #[.agg (l11C 2 1 (.slice Fv1 nv1 dv1) (.slice Fv2 nv2 dv2) (.slice Fv3 nv3 dv3) (.slice Fv4 nv4 dv4)), o7]) := he
  subst he'
  have hk' : St11 w7 ⟨2, 1, [3], [2], [], [1]⟩ (.slice Fv1 nv1 dv1) (.slice Fv2 nv2 dv2) (.slice Fv3 nv3 dv3) (.slice Fv4 nv4 dv4) := by rw [← E5.out]; exact hk
  have hu7 := HU.out.step hb
  have hbv := Bs11.new (T := PT11) (by decide) hu7.low hk'
  have ho' : KV w7 o7 [1] := by rw [← O5.out]; exact ho
  have HM3 := Lib.hid (ho'.below (low_one w7 (.cells (l11C 2 1 (.slice Fv1 nv1 dv1) (.slice Fv2 nv2 dv2) (.slice Fv3 nv3 dv3) (.slice Fv4 nv4 dv4)) PT11)))
  have HO3 := Lib.hid ((HO.out.below hb).below (low_one w7 (.cells (l11C 2 1 (.slice Fv1 nv1 dv1) (.slice Fv2 nv2 dv2) (.slice Fv3 nv3 dv3) (.slice Fv4 nv4 dv4)) PT11)))
  have HU3 := Lib.hid (hu7.step (low_one w7 (.cells (l11C 2 1 (.slice Fv1 nv1 dv1) (.slice Fv2 nv2 dv2) (.slice Fv3 nv3 dv3) (.slice Fv4 nv4 dv4)) PT11)))
  have HV3 := Lib.hid hbv
  have hne2 : w5.heap.size < w7.heap.size := (head_row hu7.box).lt
  clear he hb hk hk' hu7 hbv ho ho' KE HU HO
  have HL20 := Lib.hid (lit11 (w7.alloc (.cells (l11C 2 1 (.slice Fv1 nv1 dv1) (.slice Fv2 nv2 dv2) (.slice Fv3 nv3 dv3) (.slice Fv4 nv4 dv4)) PT11)) [2] (by decide))
  have hlo := low_one (w7.alloc (.cells (l11C 2 1 (.slice Fv1 nv1 dv1) (.slice Fv2 nv2 dv2) (.slice Fv3 nv3 dv3) (.slice Fv4 nv4 dv4)) PT11)) (.cells (u64L [2]).toArray 32)
  have HU20 := Lib.hid (HU3.out.step hlo)
  have HV20 := Lib.hid (HV3.out.step hlo)
  have HO20 := Lib.hid (HO3.out.below hlo)
  have HM20 := Lib.hid (HM3.out.below hlo)
  clear hlo HU3 HV3 HO3 HM3
  go_wp2_with fail
  refine (same_walk (ks := [2]) (js := [2]) HO20.out ?_ (by decide)).mono ?_
  · first
      | exact HL20.out
      | (have h := HL20.out; simp only [size_alloc11k] at h; exact h)
  rintro e w30 ⟨rfl, hb⟩
  rw [decide_eq_true rfl]
  have HU30 := Lib.hid (HU20.out.step hb)
  have HV30 := Lib.hid (HV20.out.step hb)
  have HO30 := Lib.hid (HO20.out.below hb)
  have HM30 := Lib.hid (HM20.out.below hb)
  clear hb HU20 HV20 HO20 HM20 HL20
  obtain ⟨⟨x0, x1, x2, x3, x4, x5⟩, _⟩ := c6_at HU30.out.box
  obtain ⟨⟨z0, z1, z2, z3, z4, z5⟩, _⟩ := c6_at HV30.out.box
  dsimp only at x0 x1 z0 z1
  have HL21 := Lib.hid (lit11 w30 [2] (by decide))
  have hlo := low_one w30 (.cells (u64L [2]).toArray 32)
  have HU21 := Lib.hid (HU30.out.step hlo)
  have HV21 := Lib.hid (HV30.out.step hlo)
  have HO21 := Lib.hid (HO30.out.below hlo)
  have HM21 := Lib.hid (HM30.out.below hlo)
  clear hlo HU30 HV30 HO30 HM30
  go_wp2_with fail
  refine (same_walk (ks := [2]) (js := [2]) HU21.out.st.g3 ?_ (by decide)).mono ?_
  · first
      | exact HL21.out
      | (have h := HL21.out; simp only [size_alloc11k] at h; exact h)
  rintro e w31 ⟨rfl, hb⟩
  rw [decide_eq_true rfl]
  have HU31 := Lib.hid (HU21.out.step hb)
  have HV31 := Lib.hid (HV21.out.step hb)
  have HO31 := Lib.hid (HO21.out.below hb)
  have HM31 := Lib.hid (HM21.out.below hb)
  clear hb HU21 HV21 HO21 HM21 HL21
  clear x0 x1 x2 x3 x4 x5 z0 z1 z2 z3 z4 z5
  obtain ⟨⟨x0, x1, x2, x3, x4, x5⟩, _⟩ := c6_at HU31.out.box
  obtain ⟨⟨z0, z1, z2, z3, z4, z5⟩, _⟩ := c6_at HV31.out.box
  dsimp only at x0 x1 z0 z1
  have HL22 := Lib.hid (lit11 w31 [1] (by decide))
  have hlo := low_one w31 (.cells (u64L [1]).toArray 32)
  have HU22 := Lib.hid (HU31.out.step hlo)
  have HV22 := Lib.hid (HV31.out.step hlo)
  have HO22 := Lib.hid (HO31.out.below hlo)
  have HM22 := Lib.hid (HM31.out.below hlo)
  clear hlo HU31 HV31 HO31 HM31
  go_wp2_with fail
  refine (same_walk (ks := [1]) (js := [1]) HU22.out.st.g2 ?_ (by decide)).mono ?_
  · first
      | exact HL22.out
      | (have h := HL22.out; simp only [size_alloc11k] at h; exact h)
  rintro e w32 ⟨rfl, hb⟩
  rw [decide_eq_true rfl]
  have HU32 := Lib.hid (HU22.out.step hb)
  have HV32 := Lib.hid (HV22.out.step hb)
  have HO32 := Lib.hid (HO22.out.below hb)
  have HM32 := Lib.hid (HM22.out.below hb)
  clear hb HU22 HV22 HO22 HM22 HL22
  clear x0 x1 x2 x3 x4 x5 z0 z1 z2 z3 z4 z5
  obtain ⟨⟨x0, x1, x2, x3, x4, x5⟩, _⟩ := c6_at HU32.out.box
  obtain ⟨⟨z0, z1, z2, z3, z4, z5⟩, _⟩ := c6_at HV32.out.box
  dsimp only at x0 x1 z0 z1
  have HL23 := Lib.hid (lit11 w32 [1] (by decide))
  have hlo := low_one w32 (.cells (u64L [1]).toArray 32)
  have HU23 := Lib.hid (HU32.out.step hlo)
  have HV23 := Lib.hid (HV32.out.step hlo)
  have HO23 := Lib.hid (HO32.out.below hlo)
  have HM23 := Lib.hid (HM32.out.below hlo)
  clear hlo HU32 HV32 HO32 HM32
  go_wp2_with fail
  refine (same_walk (ks := [1]) (js := [1]) HM23.out ?_ (by decide)).mono ?_
  · first
      | exact HL23.out
      | (have h := HL23.out; simp only [size_alloc11k] at h; exact h)
  rintro e w33 ⟨rfl, hb⟩
  rw [decide_eq_true rfl]
  have HU33 := Lib.hid (HU23.out.step hb)
  have HV33 := Lib.hid (HV23.out.step hb)
  have HO33 := Lib.hid (HO23.out.below hb)
  have HM33 := Lib.hid (HM23.out.below hb)
  clear hb HU23 HV23 HO23 HM23 HL23
  clear x0 x1 x2 x3 x4 x5 z0 z1 z2 z3 z4 z5
  obtain ⟨⟨x0, x1, x2, x3, x4, x5⟩, _⟩ := c6_at HU33.out.box
  obtain ⟨⟨z0, z1, z2, z3, z4, z5⟩, _⟩ := c6_at HV33.out.box
  dsimp only at x0 x1 z0 z1
  have HL24 := Lib.hid (lit11 w33 [2] (by decide))
  have hlo := low_one w33 (.cells (u64L [2]).toArray 32)
  have HU24 := Lib.hid (HU33.out.step hlo)
  have HV24 := Lib.hid (HV33.out.step hlo)
  have HO24 := Lib.hid (HO33.out.below hlo)
  have HM24 := Lib.hid (HM33.out.below hlo)
  clear hlo HU33 HV33 HO33 HM33
  go_wp2_with fail
  refine (same_walk (ks := [2]) (js := [2]) HV24.out.st.g2 ?_ (by decide)).mono ?_
  · first
      | exact HL24.out
      | (have h := HL24.out; simp only [size_alloc11k] at h; exact h)
  rintro e w34 ⟨rfl, hb⟩
  rw [decide_eq_true rfl]
  have HU34 := Lib.hid (HU24.out.step hb)
  have HV34 := Lib.hid (HV24.out.step hb)
  have HO34 := Lib.hid (HO24.out.below hb)
  have HM34 := Lib.hid (HM24.out.below hb)
  clear hb HU24 HV24 HO24 HM24 HL24
  clear x0 x1 x2 x3 x4 x5 z0 z1 z2 z3 z4 z5
  obtain ⟨⟨x0, x1, x2, x3, x4, x5⟩, _⟩ := c6_at HU34.out.box
  obtain ⟨⟨z0, z1, z2, z3, z4, z5⟩, _⟩ := c6_at HV34.out.box
  dsimp only at x0 x1 z0 z1
  have HL25 := Lib.hid (lit11 w34 [1] (by decide))
  have hlo := low_one w34 (.cells (u64L [1]).toArray 32)
  have HU25 := Lib.hid (HU34.out.step hlo)
  have HV25 := Lib.hid (HV34.out.step hlo)
  have HO25 := Lib.hid (HO34.out.below hlo)
  have HM25 := Lib.hid (HM34.out.below hlo)
  clear hlo HU34 HV34 HO34 HM34
  go_wp2_with fail
  refine (same_walk (ks := [1]) (js := [1]) HV25.out.st.g4 ?_ (by decide)).mono ?_
  · first
      | exact HL25.out
      | (have h := HL25.out; simp only [size_alloc11k] at h; exact h)
  rintro e w35 ⟨rfl, hb⟩
  rw [decide_eq_true rfl]
  have HU35 := Lib.hid (HU25.out.step hb)
  have HV35 := Lib.hid (HV25.out.step hb)
  have HO35 := Lib.hid (HO25.out.below hb)
  have HM35 := Lib.hid (HM25.out.below hb)
  clear hb HU25 HV25 HO25 HM25 HL25
  clear x0 x1 x2 x3 x4 x5 z0 z1 z2 z3 z4 z5
  clear HU35 HO35 HM35
  obtain ⟨⟨z0, z1, z2, z3, z4, z5⟩, _⟩ := c6_at HV35.out.box
  dsimp only at z0 z1
  go_wp2_with fail
  refine (PO.has HV35.out.st K5.out 3 (by decide)).mono ?_
  rintro e w41 ⟨rfl, hb⟩
  rw [show decide (3 ∈ (⟨2, 1, [3], [2], [], [1]⟩ : L11).keys) = true from rfl]
  have HV41 := Lib.hid (HV35.out.step hb)
  clear hb HV35 z0 z1 z2 z3 z4 z5
  obtain ⟨⟨z0, z1, z2, z3, z4, z5⟩, _⟩ := c6_at HV41.out.box
  dsimp only at z0 z1
  go_wp2_with fail
  refine (PO.ghosts HV41.out.st K5.out).mono ?_
  rintro e w42 ⟨he, hb⟩
  have he' : e = .returned (.int .i64 1) := he
  subst he'
  have HV42 := Lib.hid (HV41.out.step hb)
  clear he hb HV41 z0 z1 z2 z3 z4 z5
  obtain ⟨⟨z0, z1, z2, z3, z4, z5⟩, _⟩ := c6_at HV42.out.box
  dsimp only at z0 z1
  go_wp2_with fail
  refine (PO.drop HV42.out.st K5.out 3 (by decide)).mono ?_
  rintro e w43 ⟨u1, u2, u3, u4, he, hb, hk⟩
  obtain ⟨Fy1, ny1, dy1, rfl⟩ := hk.form1
  obtain ⟨Fy2, ny2, dy2, rfl⟩ := hk.form2
  obtain ⟨Fy3, ny3, dy3, rfl⟩ := hk.form3
  obtain ⟨Fy4, ny4, dy4, rfl⟩ := hk.form4
  have he' : e = .returned (.agg (l11C 2 1 (.slice Fy1 ny1 dy1) (.slice Fy2 ny2 dy2) (.slice Fy3 ny3 dy3) (.slice Fy4 ny4 dy4))) := he
  subst he'
  have hk' : St11 w43 ⟨2, 1, [], [2], [], [1]⟩ (.slice Fy1 ny1 dy1) (.slice Fy2 ny2 dy2) (.slice Fy3 ny3 dy3) (.slice Fy4 ny4 dy4) := by rw [← E6.out]; exact hk
  have HY := Lib.hid hk'
  have HLO := Lib.hid (HV42.out.low.trans (hb.mono HV42.out.low.size))
  clear he hb hk hk' HV42 z0 z1 z2 z3 z4 z5
  go_wp2_with fail
  refine (PO.keys HY.out K6.out).mono ?_
  rintro e w44 ⟨v, rfl, hb, hk⟩
  have hk' : KV w44 v [2] := hk
  obtain ⟨Fz, cz, rfl, _⟩ := hk'.mem
  have HLZ := Lib.hid (HLO.out.trans (hb.mono HLO.out.size))
  clear hb hk hk' HLO HY
  go_wp2
  go_ret
  exact ⟨rfl, HLZ.out⟩
end Go.Proofs.Ytemgbiohfgcphaa
