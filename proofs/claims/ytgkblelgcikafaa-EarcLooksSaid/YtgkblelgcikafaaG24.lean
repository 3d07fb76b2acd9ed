/- Words and walks: RcD RcW RcU. -/
import Derived.Test.YtgkblelgcikafaaG1
import Derived.Test.YtgkblelgcikafaaG18
import Derived.Test.YtgkblelgcikafaaG23
import Derived.Deep.RegionHeld3
import Derived.Deep.RegionWith
import Derived.Deep.DeepCutAuto
namespace Go.Proofs.Ytgkblelgcikafaa
open Go Go.RowKit Go.Deep
section
variable {w : World} {u1 u2 u3 u4 : Value} {s : L11}
abbrev Ld11 (w' : World) (b a : Nat) (c : Nat) (p : Nat) (F1 : Option Addr) (n1 d1 : Nat) (F2 : Option Addr) (n2 d2 : Nat) (F3 : Option Addr) (n3 d3 : Nat) (F4 : Option Addr) (n4 d4 : Nat) (x : Act8) : Prop := w'.cell? ⟨b, 0, none⟩ = some (.int .i64 (c : Nat)) ∧ w'.cell? ⟨b, 1, none⟩ = some (.int .i64 (p : Nat)) ∧ w'.cell? ⟨b, 2, none⟩ = some (.slice F1 n1 d1) ∧ w'.cell? ⟨b, 3, none⟩ = some (.slice F2 n2 d2) ∧ w'.cell? ⟨b, 4, none⟩ = some (.slice F3 n3 d3) ∧ w'.cell? ⟨b, 5, none⟩ = some (.slice F4 n4 d4) ∧ w'.cell? ⟨a, 0, none⟩ = some (.int .u8 (x.kind : Nat)) ∧ w'.cell? ⟨a, 1, none⟩ = some (.int .u64 (x.key : Nat)) ∧ w'.cell? ⟨a, 2, none⟩ = some (.int .u16 (x.n : Nat))
theorem ld11 {T : TypeId} {zs : Array Value} {w w1 : World} {b r a : Nat} {c : Nat} {p : Nat} {F1 : Option Addr} {n1 d1 : Nat} {F2 : Option Addr} {n2 d2 : Nat} {F3 : Option Addr} {n3 d3 : Nat} {F4 : Option Addr} {n4 d4 : Nat} {x : Act8} (h : Bo w w1 T b r (l11C c p (.slice F1 n1 d1) (.slice F2 n2 d2) (.slice F3 n3 d3) (.slice F4 n4 d4)) zs) (ha : w1.heap[a]? = some (.cells (act8C x) 34 (0, 0))) : Ld11 w1 b a c p F1 n1 d1 F2 n2 d2 F3 n3 d3 F4 n4 d4 x := by
  obtain ⟨⟨x0, x1, x2, x3, x4, x5⟩, xf0, xf1, xf2, xf3, xf4, xf5⟩ := c6_at h.box
  obtain ⟨⟨a0, a1, a2⟩, _⟩ := c3_at ha
  exact ⟨x0, x1, x2, x3, x4, x5, a0, a1, a2⟩
set_option maxHeartbeats 8000000 in
set_option maxRecDepth 4000 in
theorem r11do_walk (h : St11 w s u1 u2 u3 u4) (ok : s.Ok) (x : Act8) (wf : x.Ok) : Calls Try.prog 11 #[.agg (l11C s.c s.p u1 u2 u3 u4), .agg (act8C x)] w (P11o w (s.act x) (s.actOut x)) := by
  obtain ⟨F1, n1, d1, rfl⟩ := h.form1
  obtain ⟨F2, n2, d2, rfl⟩ := h.form2
  obtain ⟨F3, n3, d3, rfl⟩ := h.form3
  obtain ⟨F4, n4, d4, rfl⟩ := h.form4
  obtain ⟨h0, ha⟩ := Bo.start3 w T11 34 (l11C s.c s.p (.slice F1 n1 d1) (.slice F2 n2 d2) (.slice F3 n3 d3) (.slice F4 n4 d4)) (act8C x) z11 rfl rfl (by decide)
  have HB := Lib.hid h0
  have HA := Lib.hid ha
  have hc := L11.act_cases s x
  obtain ⟨q, hq⟩ : ∃ q, kindA x (decide (x.key ∈ s.keys)) = q := ⟨_, rfl⟩
  have KY : Hid (∀ W, Below w.heap.size w W → Calls Try.prog 15 #[.agg (l11C s.c s.p (.slice F1 n1 d1) (.slice F2 n2 d2) (.slice F3 n3 d3) (.slice F4 n4 d4))] W (RetK W s.keys)) := Lib.hid (fun W hb => r11keys_walk (h.below hb) ok)
  have KH : Hid (∀ W v, KV W v s.keys → Calls Try.prog 18 #[v, .int .u64 (x.key : Nat)] W fun e w' => e = .returned (.bool (decide (x.key ∈ s.keys))) ∧ W = w') := Lib.hid (fun W v hk => rhas_walk hk ok.keysLen x.key)
  have KK : Hid (∀ W, Calls Try.prog 31 #[.agg (act8C x), .bool (decide (x.key ∈ s.keys))] W fun e w' => e = .returned (.int .i64 (q : Nat)) ∧ Below W.heap.size W w') := Lib.hid (fun W => by rw [← hq]; exact rkind_walk x wf _)
  have KS : Hid (∀ W, Calls Try.prog 32 #[.agg (act8C x)] W fun e w' => e = .returned (.int .i64 (sizeA x : Nat)) ∧ Below W.heap.size W w') := Lib.hid (fun W => rsize_walk x wf)
  have KT : Hid (∀ W, Below w.heap.size w W → Calls Try.prog 33 #[.agg (l11C s.c s.p (.slice F1 n1 d1) (.slice F2 n2 d2) (.slice F3 n3 d3) (.slice F4 n4 d4)), .int .u64 (x.key : Nat)] W (P11 W (s.touch x.key))) := Lib.hid (fun W hb => r11touch_walk (h.below hb) ok x.key)
  have KA : Hid (∀ W, Below w.heap.size w W → Calls Try.prog 34 #[.agg (l11C s.c s.p (.slice F1 n1 d1) (.slice F2 n2 d2) (.slice F3 n3 d3) (.slice F4 n4 d4)), .int .u64 (x.key : Nat)] W (P11o W (s.adm x.key) (s.admitOut x.key))) := Lib.hid (fun W hb => r11admit_walk (h.below hb) ok x.key wf.key)
  have KD : Hid (∀ W, Below w.heap.size w W → Calls Try.prog 35 #[.agg (l11C s.c s.p (.slice F1 n1 d1) (.slice F2 n2 d2) (.slice F3 n3 d3) (.slice F4 n4 d4)), .int .u64 (x.key : Nat)] W (P11 W (s.drop x.key))) := Lib.hid (fun W hb => r11drop_walk (h.below hb) ok x.key)
  have hz := sizeA_is x
  have KR : Hid (∀ W, Below w.heap.size w W → Calls Try.prog 36 #[.agg (l11C s.c s.p (.slice F1 n1 d1) (.slice F2 n2 d2) (.slice F3 n3 d3) (.slice F4 n4 d4)), .int .i64 (sizeA x : Nat)] W (P11o W (s.resize (sizeA x : Nat)) (s.resizeOut (sizeA x : Nat)))) := Lib.hid (fun W hb => r11resize_walk (h.below hb) ok _ (by omega) (by omega))
  rw [hq] at hc
  generalize decide (x.key ∈ s.keys) = bb at KH KK hq
  generalize sizeA x = z at KS KR hz hc
  clear hq h0 ha h ok wf hz
  obtain ⟨x0, x1, x2, x3, x4, x5, a0, a1, a2⟩ := ld11 HB.out HA.out
  generalize hW0 : (((w.alloc (.cells (l11C s.c s.p (.slice F1 n1 d1) (.slice F2 n2 d2) (.slice F3 n3 d3) (.slice F4 n4 d4)) T11)).alloc (.cells (act8C x) 34)).alloc (.cells z11 T11)) = W0 at HB HA x0 x1 x2 x3 x4 x5 a0 a1 a2
  have HW0 := Lib.hid hW0
  clear hW0
  have hne0 : w.heap.size + 1 + 1 ≠ w.heap.size := by omega
  have hne1 : w.heap.size ≠ w.heap.size + 1 + 1 := by omega
  rcases hc with ⟨rfl, e1, e2⟩ | ⟨rfl, e1, e2⟩ | ⟨rfl, e1, e2⟩ | ⟨rfl, e1, e2⟩
  · rw [e1, e2]
    clear e1 e2
    go_enter Try.func11, Try.ntmps11
    go_wp2_with fail
    rw [HW0.out]
    clear HW0
    go_region_held3 (fun w' => w'.cell? ⟨w.heap.size, 0, none⟩ = some (.int .i64 ((s).c : Nat)) ∧ w'.cell? ⟨w.heap.size, 1, none⟩ = some (.int .i64 ((s).p : Nat)) ∧ w'.cell? ⟨w.heap.size, 2, none⟩ = some (.slice F1 n1 d1) ∧ w'.cell? ⟨w.heap.size, 3, none⟩ = some (.slice F2 n2 d2) ∧ w'.cell? ⟨w.heap.size, 4, none⟩ = some (.slice F3 n3 d3) ∧ w'.cell? ⟨w.heap.size, 5, none⟩ = some (.slice F4 n4 d4) ∧ w'.cell? ⟨w.heap.size + 1, 0, none⟩ = some (.int .u8 (x.kind : Nat)) ∧ w'.cell? ⟨w.heap.size + 1, 1, none⟩ = some (.int .u64 (x.key : Nat)) ∧ w'.cell? ⟨w.heap.size + 1, 2, none⟩ = some (.int .u16 (x.n : Nat))) (first | with_reducible exact kk5 | with_reducible exact kk4 | go_keep)
      (first
        | (go_at_call 15; refine (KY.out _ (below_drewn HB.out.low _)).mono ?_; rintro e w4 ⟨v4, rfl, hb4, hk4⟩; have hB4 := HB.out.step ((below_drewn (Below.refl _ _) _).trans hb4); have hA4 := (hb4.block (w.heap.size + 1) (head_row HA.out).lt).trans HA.out; have kk4 := ld11 hB4 hA4)
        | (go_at_call 18; refine (KH.out _ _ hk4).mono ?_; rintro e w5 ⟨rfl, rfl⟩)
        | (go_at_call 31; refine (KK.out _).mono ?_; rintro e w6 ⟨rfl, hb6⟩; have hB6 := hB4.step hb6; have hA6 := (hb6.block (w.heap.size + 1) (head_row hA4).lt).trans hA4; have kk5 := ld11 hB6 hA6))
    have HB6 := Lib.hid hB6
    have HA6 := Lib.hid hA6
    obtain ⟨x0, x1, x2, x3, x4, x5, a0, a1, a2⟩ := kk5
    clear hB6 hA6 hb6 hB4 hA4 hb4 hk4 kk4 KY KH KK HB HA
    go_wp2_with fail
    refine (KT.out w6 HB6.out.low).mono ?_
    rintro e w7 ⟨q1, q2, q3, q4, he, hb7, hk7⟩
    obtain ⟨Fa1, na1, da1, rfl⟩ := hk7.form1
    obtain ⟨Fa2, na2, da2, rfl⟩ := hk7.form2
    obtain ⟨Fa3, na3, da3, rfl⟩ := hk7.form3
    obtain ⟨Fa4, na4, da4, rfl⟩ := hk7.form4
    have HB7 := Lib.hid (HB6.out.step hb7)
    have HV := Lib.hid hk7
    subst he
    obtain ⟨⟨y0, y1, y2, y3, y4, y5⟩, yf0, yf1, yf2, yf3, yf4, yf5⟩ := c6_at HB7.out.res
    have hrr := (head_row HB7.out.res).lt
    clear hb7 hk7 HB6 HA6 KT KA KD KR KS
    go_wp2
    have HO : Hid (Only [w.heap.size, w.heap.size + 1 + 1] w7 ((((((w7.setCell ⟨w.heap.size + 1 + 1, 0, none⟩ (.int .i64 ((s.touch x.key).c : Nat))).setCell ⟨w.heap.size + 1 + 1, 1, none⟩ (.int .i64 ((s.touch x.key).p : Nat))).setCell ⟨w.heap.size + 1 + 1, 2, none⟩ (.slice Fa1 na1 da1)).setCell ⟨w.heap.size + 1 + 1, 3, none⟩ (.slice Fa2 na2 da2)).setCell ⟨w.heap.size + 1 + 1, 4, none⟩ (.slice Fa3 na3 da3)).setCell ⟨w.heap.size + 1 + 1, 5, none⟩ (.slice Fa4 na4 da4))) := Lib.hid (((((((Only.refl _ _).setCell (by simp) _).setCell (by simp) _).setCell (by simp) _).setCell (by simp) _).setCell (by simp) _).setCell (by simp) _)
    exact bodyPost_ret (v := .tuple #[.agg (l11C (s.touch x.key).c (s.touch x.key).p (.slice Fa1 na1 da1) (.slice Fa2 na2 da2) (.slice Fa3 na3 da3) (.slice Fa4 na4 da4)), .slice none 0 0]) (by simp [results, Try.results11, go_sem, y0, y1, y2, y3, y4, y5]) rfl ⟨_, _, _, _, _, rfl, HB7.out.fin HO.out, HB7.out.st11 HO.out HV.out, KV.nil _⟩
  · rw [e1, e2]
    clear e1 e2
    go_enter Try.func11, Try.ntmps11
    go_wp2_with fail
    rw [HW0.out]
    clear HW0
    go_region_held3 (fun w' => w'.cell? ⟨w.heap.size, 0, none⟩ = some (.int .i64 ((s).c : Nat)) ∧ w'.cell? ⟨w.heap.size, 1, none⟩ = some (.int .i64 ((s).p : Nat)) ∧ w'.cell? ⟨w.heap.size, 2, none⟩ = some (.slice F1 n1 d1) ∧ w'.cell? ⟨w.heap.size, 3, none⟩ = some (.slice F2 n2 d2) ∧ w'.cell? ⟨w.heap.size, 4, none⟩ = some (.slice F3 n3 d3) ∧ w'.cell? ⟨w.heap.size, 5, none⟩ = some (.slice F4 n4 d4) ∧ w'.cell? ⟨w.heap.size + 1, 0, none⟩ = some (.int .u8 (x.kind : Nat)) ∧ w'.cell? ⟨w.heap.size + 1, 1, none⟩ = some (.int .u64 (x.key : Nat)) ∧ w'.cell? ⟨w.heap.size + 1, 2, none⟩ = some (.int .u16 (x.n : Nat))) (first | with_reducible exact kk5 | with_reducible exact kk4 | go_keep)
      (first
        | (go_at_call 15; refine (KY.out _ (below_drewn HB.out.low _)).mono ?_; rintro e w4 ⟨v4, rfl, hb4, hk4⟩; have hB4 := HB.out.step ((below_drewn (Below.refl _ _) _).trans hb4); have hA4 := (hb4.block (w.heap.size + 1) (head_row HA.out).lt).trans HA.out; have kk4 := ld11 hB4 hA4)
        | (go_at_call 18; refine (KH.out _ _ hk4).mono ?_; rintro e w5 ⟨rfl, rfl⟩)
        | (go_at_call 31; refine (KK.out _).mono ?_; rintro e w6 ⟨rfl, hb6⟩; have hB6 := hB4.step hb6; have hA6 := (hb6.block (w.heap.size + 1) (head_row hA4).lt).trans hA4; have kk5 := ld11 hB6 hA6))
    have HB6 := Lib.hid hB6
    have HA6 := Lib.hid hA6
    obtain ⟨x0, x1, x2, x3, x4, x5, a0, a1, a2⟩ := kk5
    clear hB6 hA6 hb6 hB4 hA4 hb4 hk4 kk4 KY KH KK HB HA
    go_wp2_with fail
    refine (KA.out w6 HB6.out.low).mono ?_
    rintro e w7 ⟨q1, q2, q3, q4, o7, he, hb7, hk7, ho7⟩
    obtain ⟨Fa1, na1, da1, rfl⟩ := hk7.form1
    obtain ⟨Fa2, na2, da2, rfl⟩ := hk7.form2
    obtain ⟨Fa3, na3, da3, rfl⟩ := hk7.form3
    obtain ⟨Fa4, na4, da4, rfl⟩ := hk7.form4
    have HB7 := Lib.hid (HB6.out.step hb7)
    have HV := Lib.hid hk7
    have HVO := Lib.hid ho7
    subst he
    obtain ⟨⟨y0, y1, y2, y3, y4, y5⟩, yf0, yf1, yf2, yf3, yf4, yf5⟩ := c6_at HB7.out.res
    have hrr := (head_row HB7.out.res).lt
    clear hb7 hk7 ho7 HB6 HA6 KT KA KD KR KS
    go_wp2
    have HO : Hid (Only [w.heap.size, w.heap.size + 1 + 1] w7 ((((((w7.setCell ⟨w.heap.size + 1 + 1, 0, none⟩ (.int .i64 ((s.adm x.key).c : Nat))).setCell ⟨w.heap.size + 1 + 1, 1, none⟩ (.int .i64 ((s.adm x.key).p : Nat))).setCell ⟨w.heap.size + 1 + 1, 2, none⟩ (.slice Fa1 na1 da1)).setCell ⟨w.heap.size + 1 + 1, 3, none⟩ (.slice Fa2 na2 da2)).setCell ⟨w.heap.size + 1 + 1, 4, none⟩ (.slice Fa3 na3 da3)).setCell ⟨w.heap.size + 1 + 1, 5, none⟩ (.slice Fa4 na4 da4))) := Lib.hid (((((((Only.refl _ _).setCell (by simp) _).setCell (by simp) _).setCell (by simp) _).setCell (by simp) _).setCell (by simp) _).setCell (by simp) _)
    exact bodyPost_ret (v := .tuple #[.agg (l11C (s.adm x.key).c (s.adm x.key).p (.slice Fa1 na1 da1) (.slice Fa2 na2 da2) (.slice Fa3 na3 da3) (.slice Fa4 na4 da4)), o7]) (by simp [results, Try.results11, go_sem, y0, y1, y2, y3, y4, y5]) rfl ⟨_, _, _, _, _, rfl, HB7.out.fin HO.out, HB7.out.st11 HO.out HV.out, HB7.out.kv HO.out HVO.out⟩
  · rw [e1, e2]
    clear e1 e2
    go_enter Try.func11, Try.ntmps11
    go_wp2_with fail
    rw [HW0.out]
    clear HW0
    go_region_held3 (fun w' => w'.cell? ⟨w.heap.size, 0, none⟩ = some (.int .i64 ((s).c : Nat)) ∧ w'.cell? ⟨w.heap.size, 1, none⟩ = some (.int .i64 ((s).p : Nat)) ∧ w'.cell? ⟨w.heap.size, 2, none⟩ = some (.slice F1 n1 d1) ∧ w'.cell? ⟨w.heap.size, 3, none⟩ = some (.slice F2 n2 d2) ∧ w'.cell? ⟨w.heap.size, 4, none⟩ = some (.slice F3 n3 d3) ∧ w'.cell? ⟨w.heap.size, 5, none⟩ = some (.slice F4 n4 d4) ∧ w'.cell? ⟨w.heap.size + 1, 0, none⟩ = some (.int .u8 (x.kind : Nat)) ∧ w'.cell? ⟨w.heap.size + 1, 1, none⟩ = some (.int .u64 (x.key : Nat)) ∧ w'.cell? ⟨w.heap.size + 1, 2, none⟩ = some (.int .u16 (x.n : Nat))) (first | with_reducible exact kk5 | with_reducible exact kk4 | go_keep)
      (first
        | (go_at_call 15; refine (KY.out _ (below_drewn HB.out.low _)).mono ?_; rintro e w4 ⟨v4, rfl, hb4, hk4⟩; have hB4 := HB.out.step ((below_drewn (Below.refl _ _) _).trans hb4); have hA4 := (hb4.block (w.heap.size + 1) (head_row HA.out).lt).trans HA.out; have kk4 := ld11 hB4 hA4)
        | (go_at_call 18; refine (KH.out _ _ hk4).mono ?_; rintro e w5 ⟨rfl, rfl⟩)
        | (go_at_call 31; refine (KK.out _).mono ?_; rintro e w6 ⟨rfl, hb6⟩; have hB6 := hB4.step hb6; have hA6 := (hb6.block (w.heap.size + 1) (head_row hA4).lt).trans hA4; have kk5 := ld11 hB6 hA6))
    have HB6 := Lib.hid hB6
    have HA6 := Lib.hid hA6
    obtain ⟨x0, x1, x2, x3, x4, x5, a0, a1, a2⟩ := kk5
    clear hB6 hA6 hb6 hB4 hA4 hb4 hk4 kk4 KY KH KK HB HA
    go_wp2_with fail
    refine (KD.out w6 HB6.out.low).mono ?_
    rintro e w7 ⟨q1, q2, q3, q4, he, hb7, hk7⟩
    obtain ⟨Fa1, na1, da1, rfl⟩ := hk7.form1
    obtain ⟨Fa2, na2, da2, rfl⟩ := hk7.form2
    obtain ⟨Fa3, na3, da3, rfl⟩ := hk7.form3
    obtain ⟨Fa4, na4, da4, rfl⟩ := hk7.form4
    have HB7 := Lib.hid (HB6.out.step hb7)
    have HV := Lib.hid hk7
    subst he
    obtain ⟨⟨y0, y1, y2, y3, y4, y5⟩, yf0, yf1, yf2, yf3, yf4, yf5⟩ := c6_at HB7.out.res
    have hrr := (head_row HB7.out.res).lt
    clear hb7 hk7 HB6 HA6 KT KA KD KR KS
    go_wp2
    have HO : Hid (Only [w.heap.size, w.heap.size + 1 + 1] w7 ((((((w7.setCell ⟨w.heap.size + 1 + 1, 0, none⟩ (.int .i64 ((s.drop x.key).c : Nat))).setCell ⟨w.heap.size + 1 + 1, 1, none⟩ (.int .i64 ((s.drop x.key).p : Nat))).setCell ⟨w.heap.size + 1 + 1, 2, none⟩ (.slice Fa1 na1 da1)).setCell ⟨w.heap.size + 1 + 1, 3, none⟩ (.slice Fa2 na2 da2)).setCell ⟨w.heap.size + 1 + 1, 4, none⟩ (.slice Fa3 na3 da3)).setCell ⟨w.heap.size + 1 + 1, 5, none⟩ (.slice Fa4 na4 da4))) := Lib.hid (((((((Only.refl _ _).setCell (by simp) _).setCell (by simp) _).setCell (by simp) _).setCell (by simp) _).setCell (by simp) _).setCell (by simp) _)
    exact bodyPost_ret (v := .tuple #[.agg (l11C (s.drop x.key).c (s.drop x.key).p (.slice Fa1 na1 da1) (.slice Fa2 na2 da2) (.slice Fa3 na3 da3) (.slice Fa4 na4 da4)), .slice none 0 0]) (by simp [results, Try.results11, go_sem, y0, y1, y2, y3, y4, y5]) rfl ⟨_, _, _, _, _, rfl, HB7.out.fin HO.out, HB7.out.st11 HO.out HV.out, KV.nil _⟩
  · rw [e1, e2]
    clear e1 e2
    go_enter Try.func11, Try.ntmps11
    go_wp2_with fail
    rw [HW0.out]
    clear HW0
    go_region_held3 (fun w' => w'.cell? ⟨w.heap.size, 0, none⟩ = some (.int .i64 ((s).c : Nat)) ∧ w'.cell? ⟨w.heap.size, 1, none⟩ = some (.int .i64 ((s).p : Nat)) ∧ w'.cell? ⟨w.heap.size, 2, none⟩ = some (.slice F1 n1 d1) ∧ w'.cell? ⟨w.heap.size, 3, none⟩ = some (.slice F2 n2 d2) ∧ w'.cell? ⟨w.heap.size, 4, none⟩ = some (.slice F3 n3 d3) ∧ w'.cell? ⟨w.heap.size, 5, none⟩ = some (.slice F4 n4 d4) ∧ w'.cell? ⟨w.heap.size + 1, 0, none⟩ = some (.int .u8 (x.kind : Nat)) ∧ w'.cell? ⟨w.heap.size + 1, 1, none⟩ = some (.int .u64 (x.key : Nat)) ∧ w'.cell? ⟨w.heap.size + 1, 2, none⟩ = some (.int .u16 (x.n : Nat))) (first | with_reducible exact kk5 | with_reducible exact kk4 | go_keep)
      (first
        | (go_at_call 15; refine (KY.out _ (below_drewn HB.out.low _)).mono ?_; rintro e w4 ⟨v4, rfl, hb4, hk4⟩; have hB4 := HB.out.step ((below_drewn (Below.refl _ _) _).trans hb4); have hA4 := (hb4.block (w.heap.size + 1) (head_row HA.out).lt).trans HA.out; have kk4 := ld11 hB4 hA4)
        | (go_at_call 18; refine (KH.out _ _ hk4).mono ?_; rintro e w5 ⟨rfl, rfl⟩)
        | (go_at_call 31; refine (KK.out _).mono ?_; rintro e w6 ⟨rfl, hb6⟩; have hB6 := hB4.step hb6; have hA6 := (hb6.block (w.heap.size + 1) (head_row hA4).lt).trans hA4; have kk5 := ld11 hB6 hA6))
    have HB6 := Lib.hid hB6
    have HA6 := Lib.hid hA6
    obtain ⟨x0, x1, x2, x3, x4, x5, a0, a1, a2⟩ := kk5
    clear hB6 hA6 hb6 hB4 hA4 hb4 hk4 kk4 KY KH KK HB HA
    go_wp2_with fail
    clear KT KA KD
    go_region_held3 (fun w' => w'.cell? ⟨w.heap.size, 0, none⟩ = some (.int .i64 ((s).c : Nat)) ∧ w'.cell? ⟨w.heap.size, 1, none⟩ = some (.int .i64 ((s).p : Nat)) ∧ w'.cell? ⟨w.heap.size, 2, none⟩ = some (.slice F1 n1 d1) ∧ w'.cell? ⟨w.heap.size, 3, none⟩ = some (.slice F2 n2 d2) ∧ w'.cell? ⟨w.heap.size, 4, none⟩ = some (.slice F3 n3 d3) ∧ w'.cell? ⟨w.heap.size, 5, none⟩ = some (.slice F4 n4 d4) ∧ w'.cell? ⟨w.heap.size + 1, 0, none⟩ = some (.int .u8 (x.kind : Nat)) ∧ w'.cell? ⟨w.heap.size + 1, 1, none⟩ = some (.int .u64 (x.key : Nat)) ∧ w'.cell? ⟨w.heap.size + 1, 2, none⟩ = some (.int .u16 (x.n : Nat))) (first | with_reducible exact kk7 | with_reducible exact kk8 | go_keep)
      (first
        | (go_at_call 32; refine (KS.out _).mono ?_; rintro e w6b ⟨rfl, hb6⟩; have hB6 := HB6.out.step ((below_drewn (Below.refl _ _) _).trans hb6); have hA6 := (hb6.block (w.heap.size + 1) (head_row HA6.out).lt).trans HA6.out; have kk7 := ld11 hB6 hA6)
        | (go_at_call 36; refine (KR.out _ hB6.low).mono ?_; rintro e w7 ⟨q1, q2, q3, q4, o7, he, hb7, hk7, ho7⟩; obtain ⟨Fa1, na1, da1, rfl⟩ := hk7.form1; obtain ⟨Fa2, na2, da2, rfl⟩ := hk7.form2; obtain ⟨Fa3, na3, da3, rfl⟩ := hk7.form3; obtain ⟨Fa4, na4, da4, rfl⟩ := hk7.form4; have hB7 := hB6.step hb7; subst he; have hA7 := (hb7.block (w.heap.size + 1) (head_row hA6).lt).trans hA6; have kk8 := ld11 hB7 hA7; obtain ⟨⟨y0, y1, y2, y3, y4, y5⟩, yf0, yf1, yf2, yf3, yf4, yf5⟩ := c6_at hB7.res; have hrr := (head_row hB7.res).lt))
    have HB7 := Lib.hid hB7
    have HV := Lib.hid hk7
    have HVO := Lib.hid ho7
    have HO : Hid (Only [w.heap.size, w.heap.size + 1 + 1] w7 ((((((w7.setCell ⟨w.heap.size + 1 + 1, 0, none⟩ (.int .i64 ((s.resize z).c : Nat))).setCell ⟨w.heap.size + 1 + 1, 1, none⟩ (.int .i64 ((s.resize z).p : Nat))).setCell ⟨w.heap.size + 1 + 1, 2, none⟩ (.slice Fa1 na1 da1)).setCell ⟨w.heap.size + 1 + 1, 3, none⟩ (.slice Fa2 na2 da2)).setCell ⟨w.heap.size + 1 + 1, 4, none⟩ (.slice Fa3 na3 da3)).setCell ⟨w.heap.size + 1 + 1, 5, none⟩ (.slice Fa4 na4 da4))) := Lib.hid (((((((Only.refl _ _).setCell (by simp) _).setCell (by simp) _).setCell (by simp) _).setCell (by simp) _).setCell (by simp) _).setCell (by simp) _)
    go_wp2
    exact bodyPost_ret (v := .tuple #[.agg (l11C (s.resize z).c (s.resize z).p (.slice Fa1 na1 da1) (.slice Fa2 na2 da2) (.slice Fa3 na3 da3) (.slice Fa4 na4 da4)), o7]) (by simp [results, Try.results11, go_sem, y0, y1, y2, y3, y4, y5]) rfl ⟨_, _, _, _, _, rfl, HB7.out.fin HO.out, HB7.out.st11 HO.out HV.out, HB7.out.kv HO.out HVO.out⟩
end
section
variable {w : World} {u1 u2 u3 u4 : Value} {s : L11}
end
def Af11 (w4 : World) (T : TypeId) (s : L11) (out : List Nat) (v o : Value) (wx : World) : Prop := ∃ (P : Nat) (F1 : Option Addr) (n1 d1 : Nat) (F2 : Option Addr) (n2 d2 : Nat) (F3 : Option Addr) (n3 d3 : Nat) (F4 : Option Addr) (n4 d4 : Nat), v = .pointer (some ⟨P, 0, none⟩) ∧ Below w4.heap.size w4 wx ∧ w4.heap.size ≤ P ∧ wx.heap[P]? = some (.cells (l11C s.c s.p (.slice F1 n1 d1) (.slice F2 n2 d2) (.slice F3 n3 d3) (.slice F4 n4 d4)) T (0, 0)) ∧ St11 wx s (.slice F1 n1 d1) (.slice F2 n2 d2) (.slice F3 n3 d3) (.slice F4 n4 d4) ∧ KV wx o out
section
variable {w4 w5 : World} {T : TypeId} {s : L11} {out : List Nat} {o : Value} {F1 : Option Addr} {n1 d1 : Nat} {F2 : Option Addr} {n2 d2 : Nat} {F3 : Option Addr} {n3 d3 : Nat} {F4 : Option Addr} {n4 d4 : Nat}
theorem af11_b (hb : Below w4.heap.size w4 w5) (hs : St11 w5 s (.slice F1 n1 d1) (.slice F2 n2 d2) (.slice F3 n3 d3) (.slice F4 n4 d4)) (ho : KV w5 o out) : Af11 w4 T s out (.pointer (some ⟨w5.heap.size, 0, none⟩)) o (w5.alloc (.cells (l11C s.c s.p (.slice F1 n1 d1) (.slice F2 n2 d2) (.slice F3 n3 d3) (.slice F4 n4 d4)) T)) :=
  ⟨_, _, _, _, _, _, _, _, _, _, _, _, _, rfl, hb.alloc hb.size _, hb.size, heap_alloc_new w5 _, hs.below (low_one w5 _), ho.below (low_one w5 _)⟩
theorem af11_a {O : Obj} {zs : Array Value} (hT : T ≠ 31) (hz : NoU zs) (hzn : ∃ x0 x1 x2 x3 x4 x5, zs = #[x0, x1, x2, x3, x4, x5]) (hb : Below (w4.alloc O).heap.size (w4.alloc O) w5) (hP : w5.heap[w4.heap.size]? = some (.cells zs T (0, 0))) (hs : St11 w5 s (.slice F1 n1 d1) (.slice F2 n2 d2) (.slice F3 n3 d3) (.slice F4 n4 d4)) (ho : KV w5 o out) : Af11 w4 T s out (.pointer (some ⟨w4.heap.size, 0, none⟩)) o ((((((w5.setCell ⟨w4.heap.size, 0, none⟩ (.int .i64 ((s).c : Nat))).setCell ⟨w4.heap.size, 1, none⟩ (.int .i64 ((s).p : Nat))).setCell ⟨w4.heap.size, 2, none⟩ (.slice F1 n1 d1)).setCell ⟨w4.heap.size, 3, none⟩ (.slice F2 n2 d2)).setCell ⟨w4.heap.size, 4, none⟩ (.slice F3 n3 d3)).setCell ⟨w4.heap.size, 5, none⟩ (.slice F4 n4 d4)) := by
  obtain ⟨x0, x1, x2, x3, x4, x5, rfl⟩ := hzn
  obtain ⟨h1, h2⟩ := c6_set hP (.int .i64 ((s).c : Nat)) (.int .i64 ((s).p : Nat)) (.slice F1 n1 d1) (.slice F2 n2 d2) (.slice F3 n3 d3) (.slice F4 n4 d4)
  have hl : Below w4.heap.size w4 w5 := (low_one w4 O).trans (hb.mono (by simp))
  have hbx : ∀ g ∈ [w4.heap.size], Bx w5 g := fun g hg => by
    simp only [List.mem_singleton] at hg
    subst hg
    exact ⟨_, _, hP, hz, hT⟩
  exact ⟨_, _, _, _, _, _, _, _, _, _, _, _, _, rfl, hl.trans (h2.below (by simp) hl.size), Nat.le_refl _, h1, ⟨hs.g1.only h2 hbx, hs.g2.only h2 hbx, hs.g3.only h2 hbx, hs.g4.only h2 hbx⟩, ho.only h2 hbx⟩
end
def L11.runS (s : L11) (l : List Act8) : L11 := l.foldl L11.act s
theorem L11.runS_next (s : L11) {l : List Act8} {i : Nat} (hi : i < l.length) : s.runS (l.take (i + 1)) = (s.runS (l.take i)).act l[i] := by
  unfold L11.runS
  rw [List.take_succ_eq_append_getElem hi, List.foldl_append]
  rfl
theorem L11.Ok.runS {s : L11} (h : s.Ok) : ∀ (l : List Act8), (∀ x ∈ l, x.Ok) → (s.runS l).Ok
  | [], _ => h
  | x :: l, hx => L11.Ok.runS (h.act (hx x (by simp))) l (fun y hy => hx y (by simp [hy]))
section
variable {w : World} {v : Value} {l : List Act8}
end
end Go.Proofs.Ytgkblelgcikafaa
