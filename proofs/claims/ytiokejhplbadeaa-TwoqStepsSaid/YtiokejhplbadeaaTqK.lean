/- Two queues: the laws' awake. -/
import Derived.Test.YtiokejhplbadeaaTqO
import Derived.Test.YtiokejhplbadeaaTqV
import Derived.Deep.RegionHeld3
import Derived.Deep.RegionWith
import Derived.Deep.CutRange
namespace Go.Proofs.Ytiokejhplbadeaa
open Go Go.RowKit Go.Deep

/- A state behind i admissions of the keys from 1 on. -/
def aw9 : Nat → L9
  | 0 => L9.new 4
  | i + 1 => (aw9 i).adm (i + 1)
theorem aw9_ok : ∀ i, i < 1000000 → (aw9 i).Ok
  | 0, _ => L9.ok_new 4
  | i + 1, h => (aw9_ok i (by omega)).adm (i + 1) (by omega)
theorem size_alloc9k (w : World) (o : Obj) : (w.alloc o).heap.size = w.heap.size + 1 := by simp
theorem lit9 (w : World) (ks : List Nat) (hl : ks.length ≤ 1000) : KV (w.alloc (.cells (u64L ks).toArray 32)) (.slice (some ⟨w.heap.size, 0, none⟩) ks.length ks.length) ks := KV.lit ks hl
set_option maxHeartbeats 1000000 in
set_option maxRecDepth 4000 in
theorem awake9_walk (PO : Pol9Ok) (w : World) : Calls Try.prog 33 #[] w (RetB w true) := by
  have KA : Hid (∀ i, i < 100 → (aw9 i).Ok) := Lib.hid (fun i hi => aw9_ok i (by omega))
  have HC : Hid (∀ i, i < 5 → (aw9 i).c = 4) := Lib.hid (fun i hi => by
    rcases (by omega : i = 0 ∨ i = 1 ∨ i = 2 ∨ i = 3 ∨ i = 4) with rfl | rfl | rfl | rfl | rfl <;> rfl)
  have k5 := (aw9_ok 4 (by omega)).adm 5 (by decide)
  have k6 := k5.adm 1 (by decide)
  have e4 : aw9 4 = ⟨4, [4, 3, 2, 1], [], []⟩ := rfl
  have e5 : (aw9 4).adm 5 = ⟨4, [5, 4, 3, 2], [1], []⟩ := rfl
  have e6 : ((aw9 4).adm 5).adm 1 = ⟨4, [5, 4, 3], [2], [1]⟩ := rfl
  have k4 := aw9_ok 4 (by omega)
  rw [e4] at k4
  rw [e5] at k5
  rw [e6] at k6
  have E4 := Lib.hid e4
  have K4 := Lib.hid k4
  have K5 := Lib.hid k5
  have K6 := Lib.hid k6
  have K7 := Lib.hid (k6.touch 1)
  clear k4 k5 k6 e4 e5 e6
  go_enter Try.func33, Try.ntmps33
  go_wp2_with fail
  refine (PO.new w 4 (by decide) (by decide)).mono ?_
  rintro e w1 ⟨u1, u2, u3, he, hb, hk⟩
  obtain ⟨Fa1, na1, da1, rfl⟩ := hk.form1
  obtain ⟨Fa2, na2, da2, rfl⟩ := hk.form2
  obtain ⟨Fa3, na3, da3, rfl⟩ := hk.form3
  have he' : e = .returned (.agg #[.int .i64 4, (.slice Fa1 na1 da1), (.slice Fa2 na2 da2), (.slice Fa3 na3 da3)]) := he
  subst he'
  have hbs := Bs9.new (T := PT9) (by decide) hb hk
  have HI0 : Hid (Bs9 w (w1.alloc (.cells #[.int .i64 4, (.slice Fa1 na1 da1), (.slice Fa2 na2 da2), (.slice Fa3 na3 da3)] PT9)) PT9 w1.heap.size (aw9 0) (.slice Fa1 na1 da1) (.slice Fa2 na2 da2) (.slice Fa3 na3 da3)) := Lib.hid hbs
  clear hbs hb hk he
  go_wp2_with fail
  generalize w1.alloc (.cells #[.int .i64 4, (.slice Fa1 na1 da1), (.slice Fa2 na2 da2), (.slice Fa3 na3 da3)] PT9) = wI at HI0 ⊢
  generalize w1.heap.size = b1 at HI0 ⊢
  go_loopg [2, 3, 4] 4 (fun gg s2 s3 s4 wr => ∃ (i : Nat) (F1 : Option Addr) (n1 d1 : Nat) (F2 : Option Addr) (n2 d2 : Nat) (F3 : Option Addr) (n3 d3 : Nat), i + gg = 4 ∧ s2 = .int .u64 ((i : Int) + 1) ∧ Hid (Bs9 w wr PT9 b1 (aw9 i) (.slice F1 n1 d1) (.slice F2 n2 d2) (.slice F3 n3 d3)))
  case atStart => exact ⟨0, _, _, _, _, _, _, _, _, _, by omega, rfl, HI0⟩
  case round =>
    clear HI0
    obtain ⟨i, F1, n1, d1, F2, n2, d2, F3, n3, d3, hi, rfl, HI⟩ := hrel
    obtain ⟨⟨x0, x1, x2, x3⟩, xf0, xf1, xf2, xf3⟩ := c4_at HI.out.box
    have hbb := (head_row HI.out.box).lt
    by_cases hlt4 : i < 4
    · have hlt : i < 4 := by omega
      have hltI : (i : Int) + 1 < 5 := by omega
      have hiI : (i : Int) < 4 := by omega
      have KAD := Lib.hid (PO.adm HI.out.st (KA.out i (by omega)) (i + 1) (by omega))
      rw [HC.out i (by omega)] at x0 KAD
      go_wp2_with fail
      refine KAD.out.mono ?_
      rintro e w2 ⟨u1, u2, u3, o2, he, hb, hk, _⟩
      obtain ⟨Fa1, na1, da1, rfl⟩ := hk.form1
      obtain ⟨Fa2, na2, da2, rfl⟩ := hk.form2
      obtain ⟨Fa3, na3, da3, rfl⟩ := hk.form3
      have hcn : ((aw9 i).adm (i + 1)).c = 4 := HC.out (i + 1) (by omega)
      rw [hcn] at he
      subst he
      have hbs := (HI.out.step hb).step (low_one w2 (.cells #[.int .i64 4, (.slice Fa1 na1 da1), (.slice Fa2 na2 da2), (.slice Fa3 na3 da3)] PT9))
      have hst : St9 (w2.alloc (.cells #[.int .i64 4, (.slice Fa1 na1 da1), (.slice Fa2 na2 da2), (.slice Fa3 na3 da3)] PT9)) (aw9 (i + 1)) (.slice Fa1 na1 da1) (.slice Fa2 na2 da2) (.slice Fa3 na3 da3) := hk.below (low_one w2 _)
      have hne : b1 ≠ w2.heap.size := by have := (head_row (HI.out.step hb).box).lt; omega
      have hp := hbs.put hst
      have hnew := heap_alloc_new w2 (.cells #[.int .i64 4, (.slice Fa1 na1 da1), (.slice Fa2 na2 da2), (.slice Fa3 na3 da3)] PT9)
      clear x0 x1 x2 x3 xf0 xf1 xf2 xf3 hbb
      obtain ⟨⟨x0, x1, x2, x3⟩, xf0, xf1, xf2, xf3⟩ := c4_at hbs.box
      rw [HC.out i (by omega)] at x0
      have hbb := (head_row hbs.box).lt
      obtain ⟨⟨z0, z1, z2, z3⟩, zf0, zf1, zf2, zf3⟩ := c4_at hnew
      have HP := Lib.hid hp
      have hcn2 : (aw9 (i + 1)).c = 4 := hcn
      rw [hcn2] at HP
      clear hp hbs hst hnew hb hk KAD HI hcn hcn2
      go_upto_region 6 with fail
      generalize w2.alloc (.cells #[.int .i64 4, (.slice Fa1 na1 da1), (.slice Fa2 na2 da2), (.slice Fa3 na3 da3)] PT9) = wx at *
      generalize w2.heap.size = P at *
      have hne2 := hne.symm
      go_wp2_with fail
      go_roundg (gk - 1)
      case measure => omega
      case rel => exact ⟨i + 1, _, _, _, _, _, _, _, _, _, by omega, by go_num, HP⟩
    · obtain rfl : i = 4 := by omega
      rw [E4.out] at HI x0
      dsimp only at x0
      have hltI : ¬ (4 : Int) + 1 < 5 := by omega
      have KAD := Lib.hid (PO.adm HI.out.st K4.out 5 (by decide))
      clear KA HC hlt4 hi
      go_wp2_with fail
      refine KAD.out.mono ?_
      rintro e w2 ⟨u1, u2, u3, o2, he, hb, hk, ho⟩
      obtain ⟨Ft1, nt1, dt1, rfl⟩ := hk.form1
      obtain ⟨Ft2, nt2, dt2, rfl⟩ := hk.form2
      obtain ⟨Ft3, nt3, dt3, rfl⟩ := hk.form3
      have he' : e = .returned (.tuple #[.agg (l9C 4 (.slice Ft1 nt1 dt1) (.slice Ft2 nt2 dt2) (.slice Ft3 nt3 dt3)), o2]) := he
      subst he'
      have hk' : St9 w2 ⟨4, [5, 4, 3, 2], [1], []⟩ (.slice Ft1 nt1 dt1) (.slice Ft2 nt2 dt2) (.slice Ft3 nt3 dt3) := hk
      have hbt := Bs9.new (T := PT9) (by decide) ((HI.out.step hb).low) hk'
      have HT := Lib.hid hbt
      have ho' : KV w2 o2 [1] := ho
      have HO := Lib.hid (ho'.below (low_one w2 (.cells #[.int .i64 4, (.slice Ft1 nt1 dt1), (.slice Ft2 nt2 dt2), (.slice Ft3 nt3 dt3)] PT9)))
      have KAE := Lib.hid (PO.adm hbt.st K5.out 1 (by decide))
      clear he hb hk hk' hbt ho ho' KAD HI x0 x1 x2 x3 xf0 xf1 xf2 xf3 hbb
      go_wp2_with fail
      refine KAE.out.mono ?_
      rintro e w3 ⟨u1, u2, u3, o3, he, hb, hk, ho⟩
      obtain ⟨Fu1, nu1, du1, rfl⟩ := hk.form1
      obtain ⟨Fu2, nu2, du2, rfl⟩ := hk.form2
      obtain ⟨Fu3, nu3, du3, rfl⟩ := hk.form3
      have he' : e = .returned (.tuple #[.agg (l9C 4 (.slice Fu1 nu1 du1) (.slice Fu2 nu2 du2) (.slice Fu3 nu3 du3)), o3]) := he
      subst he'
      have hk' : St9 w3 ⟨4, [5, 4, 3], [2], [1]⟩ (.slice Fu1 nu1 du1) (.slice Fu2 nu2 du2) (.slice Fu3 nu3 du3) := hk
      have ht3 := HT.out.step hb
      have hbu := Bs9.new (T := PT9) (by decide) ht3.low hk'
      have ho3 : KV w3 o3 [2] := ho
      have HM3 := Lib.hid (ho3.below (low_one w3 (.cells #[.int .i64 4, (.slice Fu1 nu1 du1), (.slice Fu2 nu2 du2), (.slice Fu3 nu3 du3)] PT9)))
      have HO3 := Lib.hid ((HO.out.below hb).below (low_one w3 (.cells #[.int .i64 4, (.slice Fu1 nu1 du1), (.slice Fu2 nu2 du2), (.slice Fu3 nu3 du3)] PT9)))
      have HT3 := Lib.hid (ht3.step (low_one w3 (.cells #[.int .i64 4, (.slice Fu1 nu1 du1), (.slice Fu2 nu2 du2), (.slice Fu3 nu3 du3)] PT9)))
      have HU3 := Lib.hid hbu
      have hne : w2.heap.size < w3.heap.size := (head_row ht3.box).lt
      clear he hb hk hk' hbu ht3 ho ho3 KAE HT HO K4 K5 E4
      have HL20 := Lib.hid (lit9 (w3.alloc (.cells #[.int .i64 4, (.slice Fu1 nu1 du1), (.slice Fu2 nu2 du2), (.slice Fu3 nu3 du3)] PT9)) [1] (by decide))
      have hlo := low_one (w3.alloc (.cells #[.int .i64 4, (.slice Fu1 nu1 du1), (.slice Fu2 nu2 du2), (.slice Fu3 nu3 du3)] PT9)) (.cells (u64L [1]).toArray 32)
      have HT20 := Lib.hid (HT3.out.step hlo)
      have HU20 := Lib.hid (HU3.out.step hlo)
      have HO20 := Lib.hid (HO3.out.below hlo)
      have HM20 := Lib.hid (HM3.out.below hlo)
      clear hlo HT3 HU3 HO3 HM3
      go_wp2_with fail
      refine (same_walk (ks := [1]) (js := [1]) HO20.out ?_ (by decide)).mono ?_
      · first
          | exact HL20.out
          | (have h := HL20.out; simp only [size_alloc9k] at h; exact h)
      rintro e w30 ⟨rfl, hb⟩
      rw [decide_eq_true rfl]
      have HT30 := Lib.hid (HT20.out.step hb)
      have HU30 := Lib.hid (HU20.out.step hb)
      have HO30 := Lib.hid (HO20.out.below hb)
      have HM30 := Lib.hid (HM20.out.below hb)
      clear hb HT20 HU20 HO20 HM20 HL20
      obtain ⟨⟨x0, x1, x2, x3⟩, _⟩ := c4_at HT30.out.box
      obtain ⟨⟨z0, z1, z2, z3⟩, _⟩ := c4_at HU30.out.box
      have HL21 := Lib.hid (lit9 w30 [1] (by decide))
      have hlo := low_one w30 (.cells (u64L [1]).toArray 32)
      have HT21 := Lib.hid (HT30.out.step hlo)
      have HU21 := Lib.hid (HU30.out.step hlo)
      have HO21 := Lib.hid (HO30.out.below hlo)
      have HM21 := Lib.hid (HM30.out.below hlo)
      clear hlo HT30 HU30 HO30 HM30
      go_wp2_with fail
      refine (same_walk (ks := [1]) (js := [1]) HT21.out.st.g2 ?_ (by decide)).mono ?_
      · first
          | exact HL21.out
          | (have h := HL21.out; simp only [size_alloc9k] at h; exact h)
      rintro e w31 ⟨rfl, hb⟩
      rw [decide_eq_true rfl]
      have HT31 := Lib.hid (HT21.out.step hb)
      have HU31 := Lib.hid (HU21.out.step hb)
      have HO31 := Lib.hid (HO21.out.below hb)
      have HM31 := Lib.hid (HM21.out.below hb)
      clear hb HT21 HU21 HO21 HM21 HL21
      clear x0 x1 x2 x3 z0 z1 z2 z3
      obtain ⟨⟨x0, x1, x2, x3⟩, _⟩ := c4_at HT31.out.box
      obtain ⟨⟨z0, z1, z2, z3⟩, _⟩ := c4_at HU31.out.box
      have HL22 := Lib.hid (lit9 w31 [2] (by decide))
      have hlo := low_one w31 (.cells (u64L [2]).toArray 32)
      have HT22 := Lib.hid (HT31.out.step hlo)
      have HU22 := Lib.hid (HU31.out.step hlo)
      have HO22 := Lib.hid (HO31.out.below hlo)
      have HM22 := Lib.hid (HM31.out.below hlo)
      clear hlo HT31 HU31 HO31 HM31
      go_wp2_with fail
      refine (same_walk (ks := [2]) (js := [2]) HM22.out ?_ (by decide)).mono ?_
      · first
          | exact HL22.out
          | (have h := HL22.out; simp only [size_alloc9k] at h; exact h)
      rintro e w32 ⟨rfl, hb⟩
      rw [decide_eq_true rfl]
      have HT32 := Lib.hid (HT22.out.step hb)
      have HU32 := Lib.hid (HU22.out.step hb)
      have HO32 := Lib.hid (HO22.out.below hb)
      have HM32 := Lib.hid (HM22.out.below hb)
      clear hb HT22 HU22 HO22 HM22 HL22
      clear x0 x1 x2 x3 z0 z1 z2 z3
      obtain ⟨⟨x0, x1, x2, x3⟩, _⟩ := c4_at HT32.out.box
      obtain ⟨⟨z0, z1, z2, z3⟩, _⟩ := c4_at HU32.out.box
      have HL23 := Lib.hid (lit9 w32 [1] (by decide))
      have hlo := low_one w32 (.cells (u64L [1]).toArray 32)
      have HT23 := Lib.hid (HT32.out.step hlo)
      have HU23 := Lib.hid (HU32.out.step hlo)
      have HO23 := Lib.hid (HO32.out.below hlo)
      have HM23 := Lib.hid (HM32.out.below hlo)
      clear hlo HT32 HU32 HO32 HM32
      go_wp2_with fail
      refine (same_walk (ks := [1]) (js := [1]) HU23.out.st.g3 ?_ (by decide)).mono ?_
      · first
          | exact HL23.out
          | (have h := HL23.out; simp only [size_alloc9k] at h; exact h)
      rintro e w33 ⟨rfl, hb⟩
      rw [decide_eq_true rfl]
      have HT33 := Lib.hid (HT23.out.step hb)
      have HU33 := Lib.hid (HU23.out.step hb)
      have HO33 := Lib.hid (HO23.out.below hb)
      have HM33 := Lib.hid (HM23.out.below hb)
      clear hb HT23 HU23 HO23 HM23 HL23
      clear x0 x1 x2 x3 z0 z1 z2 z3
      obtain ⟨⟨x0, x1, x2, x3⟩, _⟩ := c4_at HT33.out.box
      obtain ⟨⟨z0, z1, z2, z3⟩, _⟩ := c4_at HU33.out.box
      have HL24 := Lib.hid (lit9 w33 [5, 4, 3] (by decide))
      have hlo := low_one w33 (.cells (u64L [5, 4, 3]).toArray 32)
      have HT24 := Lib.hid (HT33.out.step hlo)
      have HU24 := Lib.hid (HU33.out.step hlo)
      have HO24 := Lib.hid (HO33.out.below hlo)
      have HM24 := Lib.hid (HM33.out.below hlo)
      clear hlo HT33 HU33 HO33 HM33
      go_wp2_with fail
      refine (same_walk (ks := [5, 4, 3]) (js := [5, 4, 3]) HU24.out.st.g1 ?_ (by decide)).mono ?_
      · first
          | exact HL24.out
          | (have h := HL24.out; simp only [size_alloc9k] at h; exact h)
      rintro e w34 ⟨rfl, hb⟩
      rw [decide_eq_true rfl]
      have HT34 := Lib.hid (HT24.out.step hb)
      have HU34 := Lib.hid (HU24.out.step hb)
      have HO34 := Lib.hid (HO24.out.below hb)
      have HM34 := Lib.hid (HM24.out.below hb)
      clear hb HT24 HU24 HO24 HM24 HL24
      clear x0 x1 x2 x3 z0 z1 z2 z3
      obtain ⟨⟨x0, x1, x2, x3⟩, _⟩ := c4_at HT34.out.box
      obtain ⟨⟨z0, z1, z2, z3⟩, _⟩ := c4_at HU34.out.box
      go_wp2_with fail
      refine (PO.ghosts HU34.out.st K6.out).mono ?_
      rintro e w40 ⟨he, hb⟩
      have he' : e = .returned (.int .i64 1) := he
      subst he'
      have HU40 := Lib.hid (HU34.out.step hb)
      clear he hb HU34 HT34 HO34 HM34
      clear x0 x1 x2 x3 z0 z1 z2 z3
      obtain ⟨⟨z0, z1, z2, z3⟩, _⟩ := c4_at HU40.out.box
      go_wp2_with fail
      refine (PO.has HU40.out.st K6.out 1 (by decide)).mono ?_
      rintro e w41 ⟨rfl, hb⟩
      rw [show decide (1 ∈ (⟨4, [5, 4, 3], [2], [1]⟩ : L9).keys) = true from rfl]
      have HU41 := Lib.hid (HU40.out.step hb)
      clear hb HU40 z0 z1 z2 z3
      obtain ⟨⟨z0, z1, z2, z3⟩, _⟩ := c4_at HU41.out.box
      go_wp2_with fail
      refine (PO.touch HU41.out.st K6.out 1 (by decide)).mono ?_
      rintro e w42 ⟨u1, u2, u3, he, hb, hk⟩
      obtain ⟨Fv1, nv1, dv1, rfl⟩ := hk.form1
      obtain ⟨Fv2, nv2, dv2, rfl⟩ := hk.form2
      obtain ⟨Fv3, nv3, dv3, rfl⟩ := hk.form3
      have he' : e = .returned (.agg (l9C 4 (.slice Fv1 nv1 dv1) (.slice Fv2 nv2 dv2) (.slice Fv3 nv3 dv3))) := he
      subst he'
      have hk' : St9 w42 ((⟨4, [5, 4, 3], [2], [1]⟩ : L9).touch 1) (.slice Fv1 nv1 dv1) (.slice Fv2 nv2 dv2) (.slice Fv3 nv3 dv3) := hk
      have HV := Lib.hid hk'
      have HLO := Lib.hid (HU41.out.low.trans (hb.mono HU41.out.low.size))
      clear he hb hk hk' HU41 z0 z1 z2 z3
      go_wp2_with fail
      refine (PO.keys HV.out K7.out).mono ?_
      rintro e w43 ⟨v, rfl, hb, hk⟩
      have hk' : KV w43 v [5, 4, 3, 1] := hk
      obtain ⟨Fz, cz, rfl, _⟩ := hk'.mem
      have HLZ := Lib.hid (HLO.out.trans (hb.mono HLO.out.size))
      clear hb hk hk' HLO HV
      go_wp2
      go_ret
      exact ⟨rfl, HLZ.out⟩
end Go.Proofs.Ytiokejhplbadeaa
