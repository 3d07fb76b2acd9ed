/- Least recently used: the laws' awake. -/
import Derived.Test.YtiokejhplbadeaaLrO
namespace Go.Proofs.Ytiokejhplbadeaa
open Go Go.RowKit Go.Deep

theorem kv_one_at {w : World} {v : Value} {x : Nat} (h : KV w v [x]) : ∃ ad c, v = .slice (some ad) 1 c ∧ w.cell? ad = some (.int .u64 (x : Nat)) := by
  obtain ⟨F, c, e, _, _, h3⟩ := h.mem
  obtain ⟨ad, rfl, _, h5⟩ := h3 0 (by simp)
  exact ⟨ad, c, e, by simpa [Addr.add] using h5⟩
theorem size_alloc8 (w : World) (o : Obj) : (w.alloc o).heap.size = w.heap.size + 1 := by simp
set_option maxHeartbeats 4000000 in
set_option maxRecDepth 4000 in
theorem awake8_walk (PO : Pol8Ok) (w : World) : Calls Try.prog 13 #[] w (RetB w true) := by
  have k0 : (L8.new 2).Ok := L8.ok_new 2
  have k1 := k0.adm 1 (by decide)
  have k2 := k1.adm 2 (by decide)
  have k3 := k2.touch 1
  have k4 := k3.adm 3 (by decide)
  have k5 := k4.drop 1
  have e0 : L8.new 2 = ⟨2, []⟩ := rfl
  have e1 : (L8.new 2).adm 1 = ⟨2, [1]⟩ := rfl
  have e2 : ((L8.new 2).adm 1).adm 2 = ⟨2, [2, 1]⟩ := rfl
  have e3 : (((L8.new 2).adm 1).adm 2).touch 1 = ⟨2, [1, 2]⟩ := rfl
  have e4 : ((((L8.new 2).adm 1).adm 2).touch 1).adm 3 = ⟨2, [3, 1]⟩ := rfl
  have e5 : (((((L8.new 2).adm 1).adm 2).touch 1).adm 3).drop 1 = ⟨2, [3]⟩ := rfl
  rw [e1] at k1
  rw [e2] at k2
  rw [e3] at k3
  rw [e4] at k4
  rw [e5] at k5
  rw [e0] at k0
  have K := Lib.hid (And.intro k0 (And.intro k1 (And.intro k2 (And.intro k3 (And.intro k4 k5)))))
  clear k0 k1 k2 k3 k4 k5 e0 e1 e2 e3 e4 e5
  go_enter Try.func13, Try.ntmps13
  go_wp2_with fail
  refine (PO.new w 2 (by decide) (by decide)).mono ?_
  rintro e w1 ⟨u1, he, hb, hk⟩
  have hk : St8 w1 ⟨2, []⟩ u1 := hk
  obtain ⟨F1, n1, d1, rfl⟩ := hk.form1
  have he' : e = .returned (.agg #[.int .i64 2, .slice F1 n1 d1]) := he
  subst he'
  have HL1 := Lib.hid hb
  have H1 := Lib.hid hk
  clear hb hk he
  go_wp2_with fail
  refine (PO.adm (s := ⟨2, []⟩) H1.out K.out.1 1 (by decide)).mono ?_
  rintro e w2 ⟨u2, o2, he, hb, hk, _⟩
  have hk : St8 w2 ⟨2, [1]⟩ u2 := hk
  obtain ⟨F2, n2, d2, rfl⟩ := hk.form1
  have he' : e = .returned (.tuple #[.agg #[.int .i64 2, .slice F2 n2 d2], o2]) := he
  subst he'
  have HL2 := Lib.hid ((HL1.out.trans (hb.mono HL1.out.size)).alloc (HL1.out.trans (hb.mono HL1.out.size)).size (.cells #[.int .i64 2, .slice F2 n2 d2] PT8))
  have H2 := Lib.hid (hk.below (low_one w2 (.cells #[.int .i64 2, .slice F2 n2 d2] PT8)))
  clear hb hk he HL1 H1
  go_wp2_with fail
  refine (PO.adm (s := ⟨2, [1]⟩) H2.out K.out.2.1 2 (by decide)).mono ?_
  rintro e w3 ⟨u3, o3, he, hb, hk, _⟩
  have hk : St8 w3 ⟨2, [2, 1]⟩ u3 := hk
  obtain ⟨F3, n3, d3, rfl⟩ := hk.form1
  have he' : e = .returned (.tuple #[.agg #[.int .i64 2, .slice F3 n3 d3], o3]) := he
  subst he'
  have HL3 := Lib.hid ((HL2.out.trans (hb.mono HL2.out.size)).alloc (HL2.out.trans (hb.mono HL2.out.size)).size (.cells #[.int .i64 2, .slice F3 n3 d3] PT8))
  have H3 := Lib.hid (hk.below (low_one w3 (.cells #[.int .i64 2, .slice F3 n3 d3] PT8)))
  clear hb hk he HL2 H2
  go_wp2_with fail
  refine (PO.touch (s := ⟨2, [2, 1]⟩) H3.out K.out.2.2.1 1 (by decide)).mono ?_
  rintro e w4 ⟨u4, he, hb, hk⟩
  have hk : St8 w4 ⟨2, [1, 2]⟩ u4 := hk
  obtain ⟨F4, n4, d4, rfl⟩ := hk.form1
  have he' : e = .returned (.agg #[.int .i64 2, .slice F4 n4 d4]) := he
  subst he'
  have HL4 := Lib.hid (HL3.out.trans (hb.mono HL3.out.size))
  have H4 := Lib.hid hk
  clear hb hk he HL3 H3
  go_wp2_with fail
  refine (PO.adm (s := ⟨2, [1, 2]⟩) H4.out K.out.2.2.2.1 3 (by decide)).mono ?_
  rintro e w5 ⟨u5, o5, he, hb, hk, ho⟩
  have hk : St8 w5 ⟨2, [3, 1]⟩ u5 := hk
  have ho : KV w5 o5 [2] := ho
  obtain ⟨F5, n5, d5, rfl⟩ := hk.form1
  obtain ⟨ad, co, rfl, q0⟩ := kv_one_at ho
  have he' : e = .returned (.tuple #[.agg #[.int .i64 2, .slice F5 n5 d5], .slice (some ad) 1 co]) := he
  subst he'
  have hl := HL4.out.trans (hb.mono HL4.out.size)
  have hlo := low_one w5 (.cells #[.int .i64 2, .slice F5 n5 d5] PT8)
  have HL5 := Lib.hid (hl.alloc hl.size (.cells #[.int .i64 2, .slice F5 n5 d5] PT8))
  have H5 := Lib.hid (hk.below hlo)
  obtain ⟨_, _, e6, q1⟩ := kv_one_at (ho.below hlo)
  injection e6 with e7 _ _
  injection e7 with e7
  subst e7
  have HB5 := Lib.hid (heap_alloc_new w5 (.cells #[.int .i64 2, .slice F5 n5 d5] PT8))
  clear hb hk he ho HL4 H4 hl hlo q0
  have HLT := Lib.hid (KV.lit (w := w5.alloc (.cells #[.int .i64 2, .slice F5 n5 d5] PT8)) [3, 1] (by decide))
  have hlo := low_one (w5.alloc (.cells #[.int .i64 2, .slice F5 n5 d5] PT8)) (.cells (u64L [3, 1]).toArray 32)
  have H6 := Lib.hid (H5.out.below hlo)
  have HL6 := Lib.hid (HL5.out.trans (hlo.mono HL5.out.size))
  have HB6 := Lib.hid ((hlo.block w5.heap.size (by simp)).trans HB5.out)
  clear hlo HL5 H5 HB5
  go_wp2_with fail
  refine (same_walk (ks := [3, 1]) (js := [3, 1]) H6.out.g1 ?_ (by decide)).mono ?_
  · have h := HLT.out
    simp only [size_alloc8] at h
    exact h
  rintro e w7 ⟨rfl, hb⟩
  rw [decide_eq_true rfl]
  have H7 := Lib.hid (H6.out.below hb)
  have HL7 := Lib.hid (HL6.out.trans (hb.mono HL6.out.size))
  have HB7 := Lib.hid ((hb.block w5.heap.size (by simp; omega)).trans HB6.out)
  clear hb HL6 H6 HB6 HLT q1
  obtain ⟨⟨x0, x1⟩, _⟩ := c2_at HB7.out
  go_wp2_with fail
  refine (PO.has (s := ⟨2, [3, 1]⟩) H7.out K.out.2.2.2.2.1 1 (by decide)).mono ?_
  rintro e w8 ⟨rfl, hb⟩
  rw [show decide (1 ∈ (⟨2, [3, 1]⟩ : L8).keys) = true from rfl]
  have H8 := Lib.hid (H7.out.below hb)
  have HL8 := Lib.hid (HL7.out.trans (hb.mono HL7.out.size))
  have HB8 := Lib.hid ((hb.block w5.heap.size (head_row HB7.out).lt).trans HB7.out)
  clear hb HL7 H7 HB7 x0 x1
  obtain ⟨⟨x0, x1⟩, _⟩ := c2_at HB8.out
  go_wp2_with fail
  refine (PO.has (s := ⟨2, [3, 1]⟩) H8.out K.out.2.2.2.2.1 2 (by decide)).mono ?_
  rintro e w9 ⟨rfl, hb⟩
  rw [show decide (2 ∈ (⟨2, [3, 1]⟩ : L8).keys) = false from rfl]
  have H9 := Lib.hid (H8.out.below hb)
  have HL9 := Lib.hid (HL8.out.trans (hb.mono HL8.out.size))
  have HB9 := Lib.hid ((hb.block w5.heap.size (head_row HB8.out).lt).trans HB8.out)
  clear hb HL8 H8 HB8 x0 x1
  obtain ⟨⟨x0, x1⟩, _⟩ := c2_at HB9.out
  go_wp2_with fail
  refine (PO.drop (s := ⟨2, [3, 1]⟩) H9.out K.out.2.2.2.2.1 1 (by decide)).mono ?_
  rintro e wa ⟨ua, he, hb, hk⟩
  have hk : St8 wa ⟨2, [3]⟩ ua := hk
  obtain ⟨Fa, na, da, rfl⟩ := hk.form1
  have he' : e = .returned (.agg #[.int .i64 2, .slice Fa na da]) := he
  subst he'
  have HA := Lib.hid hk
  have HLA := Lib.hid (HL9.out.trans (hb.mono HL9.out.size))
  clear hb hk he H9 HL9 HB9 x0 x1
  go_wp2_with fail
  refine (PO.keys (s := ⟨2, [3]⟩) HA.out K.out.2.2.2.2.2).mono ?_
  rintro e wb ⟨vb, rfl, hb, hk⟩
  obtain ⟨_, _, rfl, _⟩ := kv_one_at (x := 3) hk
  have HLB := Lib.hid (HLA.out.trans (hb.mono HLA.out.size))
  clear hb hk
  go_wp2
  go_ret
  exact ⟨rfl, HLB.out⟩
end Go.Proofs.Ytiokejhplbadeaa
