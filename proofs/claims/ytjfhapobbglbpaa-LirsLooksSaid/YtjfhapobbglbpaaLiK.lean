/- Inter-reference recency: the laws' awake. -/
import Derived.Test.YtjfhapobbglbpaaLiO
import Derived.Test.YtjfhapobbglbpaaLiV
import Derived.Test.YtjfhapobbglbpaaLiJ
import Derived.Test.YtjfhapobbglbpaaSqS
import Derived.Deep.RegionHeld3
import Derived.Deep.RegionWith
import Derived.Deep.CutRange
namespace Go.Proofs.Ytjfhapobbglbpaa
open Go Go.RowKit Go.Deep

theorem size_alloc12k (w : World) (o : Obj) : (w.alloc o).heap.size = w.heap.size + 1 := by simp
theorem lit12 (w : World) (ks : List Nat) (hl : ks.length ≤ 1000) : KV (w.alloc (.cells (u64L ks).toArray 35)) (.slice (some ⟨w.heap.size, 0, none⟩) ks.length ks.length) ks := KV.lit ks hl
set_option maxHeartbeats 1000000 in
set_option maxRecDepth 4000 in
theorem awake12_walk (PO : Pol12Ok) (w : World) : Calls Try.prog 9 #[] w (RetB w true) := by
  have k0 := L12.ok_new 2
  have k1 := k0.adm 1 (by decide)
  have k2 := k1.adm 2 (by decide)
  have k4 := k2.adm 3 (by decide)
  have k5 := k4.adm 2 (by decide)
  have e1 : (L12.new 2).adm 1 = ⟨2, [⟨1, 2⟩], []⟩ := rfl
  rw [e1] at k1 k2 k4 k5
  have e2 : (⟨2, [⟨1, 2⟩], []⟩ : L12).adm 2 = ⟨2, [⟨2, 1⟩, ⟨1, 2⟩], [2]⟩ := rfl
  rw [e2] at k2 k4 k5
  have e4 : (⟨2, [⟨2, 1⟩, ⟨1, 2⟩], [2]⟩ : L12).adm 3 = ⟨2, [⟨3, 1⟩, ⟨2, 0⟩, ⟨1, 2⟩], [3]⟩ := rfl
  rw [e4] at k4 k5
  have e5 : (⟨2, [⟨3, 1⟩, ⟨2, 0⟩, ⟨1, 2⟩], [3]⟩ : L12).adm 2 = ⟨2, [⟨2, 2⟩], [1]⟩ := rfl
  rw [e5] at k5
  have k6 := (k5.drop 2).1
  have e6 : (⟨2, [⟨2, 2⟩], [1]⟩ : L12).drop 2 = ⟨2, [], [1]⟩ := rfl
  rw [e6] at k6
  have o4 : (⟨2, [⟨2, 1⟩, ⟨1, 2⟩], [2]⟩ : L12).admitOut 3 = [2] := rfl
  have o5 : (⟨2, [⟨3, 1⟩, ⟨2, 0⟩, ⟨1, 2⟩], [3]⟩ : L12).admitOut 2 = [3] := rfl
  have K0 := Lib.hid k0
  have K1 := Lib.hid k1
  have K2 := Lib.hid k2
  have K4 := Lib.hid k4
  have K5 := Lib.hid k5
  have K6 := Lib.hid k6
  have E1 := Lib.hid e1
  have E2 := Lib.hid e2
  have E4 := Lib.hid e4
  have E5 := Lib.hid e5
  have E6 := Lib.hid e6
  have O4 := Lib.hid o4
  have O5 := Lib.hid o5
  clear k0 k1 k2 k4 k5 k6 e1 e2 e4 e5 e6 o4 o5
  go_enter Try.func9, Try.ntmps9
  go_wp2_with fail
  refine (PO.new w 2 (by decide) (by decide)).mono ?_
  rintro e w1 ⟨u1, u2, he, hb, hk⟩
  obtain ⟨Fa1, na1, da1, rfl⟩ := hk.form1
  obtain ⟨Fa2, na2, da2, rfl⟩ := hk.form2
  have he' : e = .returned (.agg (l12C 2 (.slice Fa1 na1 da1) (.slice Fa2 na2 da2))) := he
  subst he'
  have HB := Lib.hid hb
  have KA := Lib.hid (PO.adm hk K0.out 1 (by decide))
  clear he hb hk
  go_wp2_with fail
  refine KA.out.mono ?_
  rintro e w2 ⟨u1, u2, o2, he, hb, hk, _⟩
  obtain ⟨Fb1, nb1, db1, rfl⟩ := hk.form1
  obtain ⟨Fb2, nb2, db2, rfl⟩ := hk.form2
  have he' : e = .returned (.tuple #[.agg (l12C 2 (.slice Fb1 nb1 db1) (.slice Fb2 nb2 db2)), o2]) := he
  subst he'
  have hk' : St12 w2 ⟨2, [⟨1, 2⟩], []⟩ (.slice Fb1 nb1 db1) (.slice Fb2 nb2 db2) := by rw [← E1.out]; exact hk
  have hbs := Bs12.new (T := PT12) (by decide) (HB.out.trans (hb.mono HB.out.size)) hk'
  have KB := Lib.hid (PO.adm hbs.st K1.out 2 (by decide))
  have HSB := Lib.hid hbs
  clear he hb hk hk' hbs KA HB
  go_wp2_with fail
  refine KB.out.mono ?_
  rintro e w3 ⟨u1, u2, o3, he, hb, hk, _⟩
  obtain ⟨Ft1, nt1, dt1, rfl⟩ := hk.form1
  obtain ⟨Ft2, nt2, dt2, rfl⟩ := hk.form2
  have he' : e = .returned (.tuple #[.agg (l12C 2 (.slice Ft1 nt1 dt1) (.slice Ft2 nt2 dt2)), o3]) := he
  subst he'
  have hk' : St12 w3 ⟨2, [⟨2, 1⟩, ⟨1, 2⟩], [2]⟩ (.slice Ft1 nt1 dt1) (.slice Ft2 nt2 dt2) := by rw [← E2.out]; exact hk
  have hbt := Bs12.new (T := PT12) (by decide) (HSB.out.step hb).low hk'
  have KD := Lib.hid (PO.adm hbt.st K2.out 3 (by decide))
  have HL4 := Lib.hid hbt.low
  clear he hb hk hk' hbt KB HSB
  go_wp2_with fail
  refine KD.out.mono ?_
  rintro e w5 ⟨u1, u2, o5, he, hb, hk, ho⟩
  obtain ⟨Fu1, nu1, du1, rfl⟩ := hk.form1
  obtain ⟨Fu2, nu2, du2, rfl⟩ := hk.form2
  have he' : e = .returned (.tuple #[.agg (l12C 2 (.slice Fu1 nu1 du1) (.slice Fu2 nu2 du2)), o5]) := he
  subst he'
  have hk' : St12 w5 ⟨2, [⟨3, 1⟩, ⟨2, 0⟩, ⟨1, 2⟩], [3]⟩ (.slice Fu1 nu1 du1) (.slice Fu2 nu2 du2) := by rw [← E4.out]; exact hk
  have hbu := Bs12.new (T := PT12) (by decide) (HL4.out.trans (hb.mono HL4.out.size)) hk'
  have ho' : KV w5 o5 [2] := by rw [← O4.out]; exact ho
  have HU := Lib.hid hbu
  have HO := Lib.hid (ho'.below (low_one w5 (.cells (l12C 2 (.slice Fu1 nu1 du1) (.slice Fu2 nu2 du2)) PT12)))
  have KE := Lib.hid (PO.adm hbu.st K4.out 2 (by decide))
  clear he hb hk hk' hbu ho ho' KD HL4
  go_wp2_with fail
  refine KE.out.mono ?_
  rintro e w7 ⟨u1, u2, o7, he, hb, hk, ho⟩
  obtain ⟨Fv1, nv1, dv1, rfl⟩ := hk.form1
  obtain ⟨Fv2, nv2, dv2, rfl⟩ := hk.form2
  have he' : e = .returned (.tuple #[.agg (l12C 2 (.slice Fv1 nv1 dv1) (.slice Fv2 nv2 dv2)), o7]) := he
  subst he'
  have hk' : St12 w7 ⟨2, [⟨2, 2⟩], [1]⟩ (.slice Fv1 nv1 dv1) (.slice Fv2 nv2 dv2) := by rw [← E5.out]; exact hk
  have hu7 := HU.out.step hb
  have hbv := Bs12.new (T := PT12) (by decide) hu7.low hk'
  have ho' : KV w7 o7 [3] := by rw [← O5.out]; exact ho
  have HM3 := Lib.hid (ho'.below (low_one w7 (.cells (l12C 2 (.slice Fv1 nv1 dv1) (.slice Fv2 nv2 dv2)) PT12)))
  have HO3 := Lib.hid ((HO.out.below hb).below (low_one w7 (.cells (l12C 2 (.slice Fv1 nv1 dv1) (.slice Fv2 nv2 dv2)) PT12)))
  have HU3 := Lib.hid (hu7.step (low_one w7 (.cells (l12C 2 (.slice Fv1 nv1 dv1) (.slice Fv2 nv2 dv2)) PT12)))
  have HV3 := Lib.hid hbv
  have hne2 : w5.heap.size < w7.heap.size := (head_row hu7.box).lt
  clear he hb hk hk' hu7 hbv ho ho' KE HU HO
  have HL20 := Lib.hid (lit12 (w7.alloc (.cells (l12C 2 (.slice Fv1 nv1 dv1) (.slice Fv2 nv2 dv2)) PT12)) [2] (by decide))
  have hlo := low_one (w7.alloc (.cells (l12C 2 (.slice Fv1 nv1 dv1) (.slice Fv2 nv2 dv2)) PT12)) (.cells (u64L [2]).toArray 35)
  have HU20 := Lib.hid (HU3.out.step hlo)
  have HV20 := Lib.hid (HV3.out.step hlo)
  have HO20 := Lib.hid (HO3.out.below hlo)
  have HM20 := Lib.hid (HM3.out.below hlo)
  clear HU3 HV3 HO3 HM3
  clear hlo
  go_wp2_with fail
  refine (same_walk (ks := [2]) (js := [2]) HO20.out ?_ (by decide)).mono ?_
  · first
      | exact HL20.out
      | (have h := HL20.out; simp only [size_alloc12k] at h; exact h)
  rintro e w30 ⟨rfl, hb⟩
  rw [decide_eq_true rfl]
  have HU30 := Lib.hid (HU20.out.step hb)
  have HV30 := Lib.hid (HV20.out.step hb)
  have HO30 := Lib.hid (HO20.out.below hb)
  have HM30 := Lib.hid (HM20.out.below hb)
  clear HU20 HV20 HO20 HM20
  clear hb HL20
  obtain ⟨⟨x0, x1, x2⟩, _⟩ := c3_at HU30.out.box
  obtain ⟨⟨z0, z1, z2⟩, _⟩ := c3_at HV30.out.box
  dsimp only at x0 z0
  go_wp2_with fail
  refine (PO.ghosts HU30.out.st K4.out).mono ?_
  rintro e w31 ⟨he, hb⟩
  have he' : e = .returned (.int .i64 1) := he
  subst he'
  have HU31 := Lib.hid (HU30.out.step hb)
  have HV31 := Lib.hid (HV30.out.step hb)
  have HO31 := Lib.hid (HO30.out.below hb)
  have HM31 := Lib.hid (HM30.out.below hb)
  clear HU30 HV30 HO30 HM30
  clear he hb
  clear x0 x1 x2 z0 z1 z2
  obtain ⟨⟨x0, x1, x2⟩, _⟩ := c3_at HU31.out.box
  obtain ⟨⟨z0, z1, z2⟩, _⟩ := c3_at HV31.out.box
  dsimp only at x0 z0
  go_wp2_with fail
  refine (PO.keys HU31.out.st K4.out).mono ?_
  rintro e w32 ⟨vk, rfl, hb, hk⟩
  have hk' : KV w32 vk [1, 3] := hk
  obtain ⟨Fk31, ck31, ek31, _⟩ := hk'.mem
  subst ek31
  have HU32 := Lib.hid (HU31.out.step hb)
  have HV32 := Lib.hid (HV31.out.step hb)
  have HO32 := Lib.hid (HO31.out.below hb)
  have HM32 := Lib.hid (HM31.out.below hb)
  clear HU31 HV31 HO31 HM31
  have HK := Lib.hid hk'
  clear hb hk hk'
  clear x0 x1 x2 z0 z1 z2
  have HL := Lib.hid (lit12 w32 [1, 3] (by decide))
  have hlo := low_one w32 (.cells (u64L [1, 3]).toArray 35)
  have HU33 := Lib.hid (HU32.out.step hlo)
  have HV33 := Lib.hid (HV32.out.step hlo)
  have HO33 := Lib.hid (HO32.out.below hlo)
  have HM33 := Lib.hid (HM32.out.below hlo)
  clear HU32 HV32 HO32 HM32
  have HK2 := Lib.hid (HK.out.below hlo)
  clear hlo HK
  go_wp2_with fail
  refine (same_walk (ks := [1, 3]) (js := [1, 3]) HK2.out HL.out (by decide)).mono ?_
  rintro e w34 ⟨rfl, hb⟩
  rw [decide_eq_true rfl]
  have HU34 := Lib.hid (HU33.out.step hb)
  have HV34 := Lib.hid (HV33.out.step hb)
  have HO34 := Lib.hid (HO33.out.below hb)
  have HM34 := Lib.hid (HM33.out.below hb)
  clear HU33 HV33 HO33 HM33
  clear hb HL HK2
  obtain ⟨⟨x0, x1, x2⟩, _⟩ := c3_at HU34.out.box
  obtain ⟨⟨z0, z1, z2⟩, _⟩ := c3_at HV34.out.box
  dsimp only at x0 z0
  have HL35 := Lib.hid (lit12 w34 [3] (by decide))
  have hlo := low_one w34 (.cells (u64L [3]).toArray 35)
  have HU35 := Lib.hid (HU34.out.step hlo)
  have HV35 := Lib.hid (HV34.out.step hlo)
  have HO35 := Lib.hid (HO34.out.below hlo)
  have HM35 := Lib.hid (HM34.out.below hlo)
  clear HU34 HV34 HO34 HM34
  clear hlo
  go_wp2_with fail
  refine (same_walk (ks := [3]) (js := [3]) HM35.out ?_ (by decide)).mono ?_
  · first
      | exact HL35.out
      | (have h := HL35.out; simp only [size_alloc12k] at h; exact h)
  rintro e w45 ⟨rfl, hb⟩
  rw [decide_eq_true rfl]
  have HU45 := Lib.hid (HU35.out.step hb)
  have HV45 := Lib.hid (HV35.out.step hb)
  have HO45 := Lib.hid (HO35.out.below hb)
  have HM45 := Lib.hid (HM35.out.below hb)
  clear HU35 HV35 HO35 HM35
  clear hb HL35
  clear x0 x1 x2 z0 z1 z2
  obtain ⟨⟨x0, x1, x2⟩, _⟩ := c3_at HU45.out.box
  obtain ⟨⟨z0, z1, z2⟩, _⟩ := c3_at HV45.out.box
  dsimp only at x0 z0
  go_wp2_with fail
  refine (PO.keys HV45.out.st K5.out).mono ?_
  rintro e w46 ⟨vk, rfl, hb, hk⟩
  have hk' : KV w46 vk [2, 1] := hk
  obtain ⟨Fk45, ck45, ek45, _⟩ := hk'.mem
  subst ek45
  have HU46 := Lib.hid (HU45.out.step hb)
  have HV46 := Lib.hid (HV45.out.step hb)
  have HO46 := Lib.hid (HO45.out.below hb)
  have HM46 := Lib.hid (HM45.out.below hb)
  clear HU45 HV45 HO45 HM45
  have HK := Lib.hid hk'
  clear hb hk hk'
  clear x0 x1 x2 z0 z1 z2
  have HL := Lib.hid (lit12 w46 [2, 1] (by decide))
  have hlo := low_one w46 (.cells (u64L [2, 1]).toArray 35)
  have HU47 := Lib.hid (HU46.out.step hlo)
  have HV47 := Lib.hid (HV46.out.step hlo)
  have HO47 := Lib.hid (HO46.out.below hlo)
  have HM47 := Lib.hid (HM46.out.below hlo)
  clear HU46 HV46 HO46 HM46
  have HK2 := Lib.hid (HK.out.below hlo)
  clear hlo HK
  go_wp2_with fail
  refine (same_walk (ks := [2, 1]) (js := [2, 1]) HK2.out HL.out (by decide)).mono ?_
  rintro e w48 ⟨rfl, hb⟩
  rw [decide_eq_true rfl]
  have HU48 := Lib.hid (HU47.out.step hb)
  have HV48 := Lib.hid (HV47.out.step hb)
  have HO48 := Lib.hid (HO47.out.below hb)
  have HM48 := Lib.hid (HM47.out.below hb)
  clear HU47 HV47 HO47 HM47
  clear hb HL HK2
  obtain ⟨⟨x0, x1, x2⟩, _⟩ := c3_at HU48.out.box
  obtain ⟨⟨z0, z1, z2⟩, _⟩ := c3_at HV48.out.box
  dsimp only at x0 z0
  go_wp2_with fail
  refine (PO.has HV48.out.st K5.out 1 (by decide)).mono ?_
  rintro e w51 ⟨rfl, hb⟩
  rw [show decide (1 ∈ (⟨2, [⟨2, 2⟩], [1]⟩ : L12).keys) = true from rfl]
  have HU51 := Lib.hid (HU48.out.step hb)
  have HV51 := Lib.hid (HV48.out.step hb)
  have HO51 := Lib.hid (HO48.out.below hb)
  have HM51 := Lib.hid (HM48.out.below hb)
  clear HU48 HV48 HO48 HM48
  clear hb
  clear x0 x1 x2 z0 z1 z2
  obtain ⟨⟨x0, x1, x2⟩, _⟩ := c3_at HU51.out.box
  obtain ⟨⟨z0, z1, z2⟩, _⟩ := c3_at HV51.out.box
  dsimp only at x0 z0
  go_wp2_with fail
  refine (PO.has HV51.out.st K5.out 3 (by decide)).mono ?_
  rintro e w52 ⟨rfl, hb⟩
  rw [show decide (3 ∈ (⟨2, [⟨2, 2⟩], [1]⟩ : L12).keys) = false from rfl]
  have HU52 := Lib.hid (HU51.out.step hb)
  have HV52 := Lib.hid (HV51.out.step hb)
  have HO52 := Lib.hid (HO51.out.below hb)
  have HM52 := Lib.hid (HM51.out.below hb)
  clear HU51 HV51 HO51 HM51
  clear hb
  clear x0 x1 x2 z0 z1 z2
  obtain ⟨⟨x0, x1, x2⟩, _⟩ := c3_at HU52.out.box
  obtain ⟨⟨z0, z1, z2⟩, _⟩ := c3_at HV52.out.box
  dsimp only at x0 z0
  go_wp2_with fail
  refine (PO.drop HV52.out.st K5.out 2 (by decide)).mono ?_
  rintro e w53 ⟨u1, u2, he, hb, hk⟩
  obtain ⟨Fy1, ny1, dy1, rfl⟩ := hk.form1
  obtain ⟨Fy2, ny2, dy2, rfl⟩ := hk.form2
  have he' : e = .returned (.agg (l12C 2 (.slice Fy1 ny1 dy1) (.slice Fy2 ny2 dy2))) := he
  subst he'
  have hk' : St12 w53 ⟨2, [], [1]⟩ (.slice Fy1 ny1 dy1) (.slice Fy2 ny2 dy2) := by rw [← E6.out]; exact hk
  have HY := Lib.hid hk'
  have HLO := Lib.hid (HV52.out.low.trans (hb.mono HV52.out.low.size))
  clear he hb hk hk' HV52 HU52 HM52 HO52 x0 x1 x2 z0 z1 z2
  go_wp2_with fail
  refine (PO.keys HY.out K6.out).mono ?_
  rintro e w54 ⟨v, rfl, hb, hk⟩
  have hk' : KV w54 v [1] := hk
  obtain ⟨Fz, cz, rfl, _⟩ := hk'.mem
  have HLZ := Lib.hid (HLO.out.trans (hb.mono HLO.out.size))
  clear hb hk hk' HLO HY
  go_wp2
  go_ret
  exact ⟨rfl, HLZ.out⟩
end Go.Proofs.Ytjfhapobbglbpaa
