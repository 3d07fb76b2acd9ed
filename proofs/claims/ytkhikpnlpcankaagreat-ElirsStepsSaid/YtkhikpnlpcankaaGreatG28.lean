/- Words and walks: LiD LiW LiU. -/
import Derived.Test.YtkhikpnlpcankaaGreatG1
import Derived.Test.YtkhikpnlpcankaaGreatG21
import Derived.Test.YtkhikpnlpcankaaGreatG27
import Derived.Deep.RegionHeld3
import Derived.Deep.RegionWith
import Derived.Deep.DeepCutAuto
namespace Go.Proofs.YtkhikpnlpcankaaGreat
open Go Go.RowKit Go.Deep
section
variable {w : World} {u1 u2 : Value} {s : L12}
abbrev Ld12 (w' : World) (b a : Nat) (c : Nat) (F1 : Option Addr) (n1 d1 : Nat) (F2 : Option Addr) (n2 d2 : Nat) (x : Act8) : Prop := w'.cell? ⟨b, 0, none⟩ = some (.int .i64 (c : Nat)) ∧ w'.cell? ⟨b, 1, none⟩ = some (.slice F1 n1 d1) ∧ w'.cell? ⟨b, 2, none⟩ = some (.slice F2 n2 d2) ∧ w'.cell? ⟨a, 0, none⟩ = some (.int .u8 (x.kind : Nat)) ∧ w'.cell? ⟨a, 1, none⟩ = some (.int .u64 (x.key : Nat)) ∧ w'.cell? ⟨a, 2, none⟩ = some (.int .u16 (x.n : Nat))
theorem ld12 {T : TypeId} {zs : Array Value} {w w1 : World} {b r a : Nat} {c : Nat} {F1 : Option Addr} {n1 d1 : Nat} {F2 : Option Addr} {n2 d2 : Nat} {x : Act8} (h : Bo w w1 T b r (l12C c (.slice F1 n1 d1) (.slice F2 n2 d2)) zs) (ha : w1.heap[a]? = some (.cells (act8C x) 35 (0, 0))) : Ld12 w1 b a c F1 n1 d1 F2 n2 d2 x := by
  obtain ⟨⟨x0, x1, x2⟩, xf0, xf1, xf2⟩ := c3_at h.box
  obtain ⟨⟨a0, a1, a2⟩, _⟩ := c3_at ha
  exact ⟨x0, x1, x2, a0, a1, a2⟩
set_option maxHeartbeats 8000000 in
set_option maxRecDepth 4000 in
theorem r12do_walk (h : St12 w s u1 u2) (ok : s.Ok) (x : Act8) (wf : x.Ok) : Calls Tryz.prog 10 #[.agg (l12C s.c u1 u2), .agg (act8C x)] w (P12o w (s.act x) (s.actOut x)) := by
  obtain ⟨F1, n1, d1, rfl⟩ := h.form1
  obtain ⟨F2, n2, d2, rfl⟩ := h.form2
  obtain ⟨h0, ha⟩ := Bo.start3 w T12 35 (l12C s.c (.slice F1 n1 d1) (.slice F2 n2 d2)) (act8C x) z12 rfl rfl (by decide)
  have HB := Lib.hid h0
  have HA := Lib.hid ha
  have hc := L12.act_cases s x
  obtain ⟨q, hq⟩ : ∃ q, kindA x (decide (x.key ∈ s.keys)) = q := ⟨_, rfl⟩
  have KY : Hid (∀ W, Below w.heap.size w W → Calls Tryz.prog 14 #[.agg (l12C s.c (.slice F1 n1 d1) (.slice F2 n2 d2))] W (RetK W s.keys)) := Lib.hid (fun W hb => r12keys_walk (h.below hb) ok)
  have KH : Hid (∀ W v, KV W v s.keys → Calls Tryz.prog 17 #[v, .int .u64 (x.key : Nat)] W fun e w' => e = .returned (.bool (decide (x.key ∈ s.keys))) ∧ W = w') := Lib.hid (fun W v hk => rhas_walk hk ok.keysLen x.key)
  have KK : Hid (∀ W, Calls Tryz.prog 21 #[.agg (act8C x), .bool (decide (x.key ∈ s.keys))] W fun e w' => e = .returned (.int .i64 (q : Nat)) ∧ Below W.heap.size W w') := Lib.hid (fun W => by rw [← hq]; exact rkind_walk x wf _)
  have KS : Hid (∀ W, Calls Tryz.prog 27 #[.agg (act8C x)] W fun e w' => e = .returned (.int .i64 (sizeA x : Nat)) ∧ Below W.heap.size W w') := Lib.hid (fun W => rsize_walk x wf)
  have KT : Hid (∀ W, Below w.heap.size w W → Calls Tryz.prog 37 #[.agg (l12C s.c (.slice F1 n1 d1) (.slice F2 n2 d2)), .int .u64 (x.key : Nat)] W (P12 W (s.touch x.key))) := Lib.hid (fun W hb => r12touch_walk (h.below hb) ok x.key)
  have KA : Hid (∀ W, Below w.heap.size w W → Calls Tryz.prog 38 #[.agg (l12C s.c (.slice F1 n1 d1) (.slice F2 n2 d2)), .int .u64 (x.key : Nat)] W (P12o W (s.adm x.key) (s.admitOut x.key))) := Lib.hid (fun W hb => r12admit_walk (h.below hb) ok x.key wf.key)
  have KD : Hid (∀ W, Below w.heap.size w W → Calls Tryz.prog 39 #[.agg (l12C s.c (.slice F1 n1 d1) (.slice F2 n2 d2)), .int .u64 (x.key : Nat)] W (P12 W (s.drop x.key))) := Lib.hid (fun W hb => r12drop_walk (h.below hb) ok x.key)
  have hz := sizeA_is x
  have KR : Hid (∀ W, Below w.heap.size w W → Calls Tryz.prog 40 #[.agg (l12C s.c (.slice F1 n1 d1) (.slice F2 n2 d2)), .int .i64 (sizeA x : Nat)] W (P12o W (s.resize (sizeA x : Nat)) (s.resizeOut (sizeA x : Nat)))) := Lib.hid (fun W hb => r12resize_walk (h.below hb) ok _ (by omega) (by omega))
  rw [hq] at hc
  generalize decide (x.key ∈ s.keys) = bb at KH KK hq
  generalize sizeA x = z at KS KR hz hc
  clear hq h0 ha h ok wf hz
  obtain ⟨x0, x1, x2, a0, a1, a2⟩ := ld12 HB.out HA.out
  generalize hW0 : (((w.alloc (.cells (l12C s.c (.slice F1 n1 d1) (.slice F2 n2 d2)) T12)).alloc (.cells (act8C x) 35)).alloc (.cells z12 T12)) = W0 at HB HA x0 x1 x2 a0 a1 a2
  have HW0 := Lib.hid hW0
  clear hW0
  have hne0 : w.heap.size + 1 + 1 ≠ w.heap.size := by omega
  have hne1 : w.heap.size ≠ w.heap.size + 1 + 1 := by omega
  rcases hc with ⟨rfl, e1, e2⟩ | ⟨rfl, e1, e2⟩ | ⟨rfl, e1, e2⟩ | ⟨rfl, e1, e2⟩
  · rw [e1, e2]
    clear e1 e2
    go_enter Tryz.func10, Tryz.ntmps10
    go_wp2_with fail
    rw [HW0.out]
    clear HW0
    go_region_held3 (fun w' => w'.cell? ⟨w.heap.size, 0, none⟩ = some (.int .i64 ((s).c : Nat)) ∧ w'.cell? ⟨w.heap.size, 1, none⟩ = some (.slice F1 n1 d1) ∧ w'.cell? ⟨w.heap.size, 2, none⟩ = some (.slice F2 n2 d2) ∧ w'.cell? ⟨w.heap.size + 1, 0, none⟩ = some (.int .u8 (x.kind : Nat)) ∧ w'.cell? ⟨w.heap.size + 1, 1, none⟩ = some (.int .u64 (x.key : Nat)) ∧ w'.cell? ⟨w.heap.size + 1, 2, none⟩ = some (.int .u16 (x.n : Nat))) (first | with_reducible exact kk5 | with_reducible exact kk4 | go_keep)
      (first
        | (go_at_call 14; refine (KY.out _ (below_drewn HB.out.low _)).mono ?_; rintro e w4 ⟨v4, rfl, hb4, hk4⟩; have hB4 := HB.out.step ((below_drewn (Below.refl _ _) _).trans hb4); have hA4 := (hb4.block (w.heap.size + 1) (head_row HA.out).lt).trans HA.out; have kk4 := ld12 hB4 hA4)
        | (go_at_call 17; refine (KH.out _ _ hk4).mono ?_; rintro e w5 ⟨rfl, rfl⟩)
        | (go_at_call 21; refine (KK.out _).mono ?_; rintro e w6 ⟨rfl, hb6⟩; have hB6 := hB4.step hb6; have hA6 := (hb6.block (w.heap.size + 1) (head_row hA4).lt).trans hA4; have kk5 := ld12 hB6 hA6))
    have HB6 := Lib.hid hB6
    have HA6 := Lib.hid hA6
    obtain ⟨x0, x1, x2, a0, a1, a2⟩ := kk5
    clear hB6 hA6 hb6 hB4 hA4 hb4 hk4 kk4 KY KH KK HB HA
    go_wp2_with fail
    refine (KT.out w6 HB6.out.low).mono ?_
    rintro e w7 ⟨q1, q2, he, hb7, hk7⟩
    obtain ⟨Fa1, na1, da1, rfl⟩ := hk7.form1
    obtain ⟨Fa2, na2, da2, rfl⟩ := hk7.form2
    have HB7 := Lib.hid (HB6.out.step hb7)
    have HV := Lib.hid hk7
    subst he
    obtain ⟨⟨y0, y1, y2⟩, yf0, yf1, yf2⟩ := c3_at HB7.out.res
    have hrr := (head_row HB7.out.res).lt
    clear hb7 hk7 HB6 HA6 KT KA KD KR KS
    go_wp2
    have HO : Hid (Only [w.heap.size, w.heap.size + 1 + 1] w7 (((w7.setCell ⟨w.heap.size + 1 + 1, 0, none⟩ (.int .i64 ((s.touch x.key).c : Nat))).setCell ⟨w.heap.size + 1 + 1, 1, none⟩ (.slice Fa1 na1 da1)).setCell ⟨w.heap.size + 1 + 1, 2, none⟩ (.slice Fa2 na2 da2))) := Lib.hid ((((Only.refl _ _).setCell (by simp) _).setCell (by simp) _).setCell (by simp) _)
    exact bodyPost_ret (v := .tuple #[.agg (l12C (s.touch x.key).c (.slice Fa1 na1 da1) (.slice Fa2 na2 da2)), .slice none 0 0]) (by simp [results, Tryz.results10, go_sem, y0, y1, y2]) rfl ⟨_, _, _, rfl, HB7.out.fin HO.out, HB7.out.st12 HO.out HV.out, KV.nil _⟩
  · rw [e1, e2]
    clear e1 e2
    go_enter Tryz.func10, Tryz.ntmps10
    go_wp2_with fail
    rw [HW0.out]
    clear HW0
    go_region_held3 (fun w' => w'.cell? ⟨w.heap.size, 0, none⟩ = some (.int .i64 ((s).c : Nat)) ∧ w'.cell? ⟨w.heap.size, 1, none⟩ = some (.slice F1 n1 d1) ∧ w'.cell? ⟨w.heap.size, 2, none⟩ = some (.slice F2 n2 d2) ∧ w'.cell? ⟨w.heap.size + 1, 0, none⟩ = some (.int .u8 (x.kind : Nat)) ∧ w'.cell? ⟨w.heap.size + 1, 1, none⟩ = some (.int .u64 (x.key : Nat)) ∧ w'.cell? ⟨w.heap.size + 1, 2, none⟩ = some (.int .u16 (x.n : Nat))) (first | with_reducible exact kk5 | with_reducible exact kk4 | go_keep)
      (first
        | (go_at_call 14; refine (KY.out _ (below_drewn HB.out.low _)).mono ?_; rintro e w4 ⟨v4, rfl, hb4, hk4⟩; have hB4 := HB.out.step ((below_drewn (Below.refl _ _) _).trans hb4); have hA4 := (hb4.block (w.heap.size + 1) (head_row HA.out).lt).trans HA.out; have kk4 := ld12 hB4 hA4)
        | (go_at_call 17; refine (KH.out _ _ hk4).mono ?_; rintro e w5 ⟨rfl, rfl⟩)
        | (go_at_call 21; refine (KK.out _).mono ?_; rintro e w6 ⟨rfl, hb6⟩; have hB6 := hB4.step hb6; have hA6 := (hb6.block (w.heap.size + 1) (head_row hA4).lt).trans hA4; have kk5 := ld12 hB6 hA6))
    have HB6 := Lib.hid hB6
    have HA6 := Lib.hid hA6
    obtain ⟨x0, x1, x2, a0, a1, a2⟩ := kk5
    clear hB6 hA6 hb6 hB4 hA4 hb4 hk4 kk4 KY KH KK HB HA
    go_wp2_with fail
    refine (KA.out w6 HB6.out.low).mono ?_
    rintro e w7 ⟨q1, q2, o7, he, hb7, hk7, ho7⟩
    obtain ⟨Fa1, na1, da1, rfl⟩ := hk7.form1
    obtain ⟨Fa2, na2, da2, rfl⟩ := hk7.form2
    have HB7 := Lib.hid (HB6.out.step hb7)
    have HV := Lib.hid hk7
    have HVO := Lib.hid ho7
    subst he
    obtain ⟨⟨y0, y1, y2⟩, yf0, yf1, yf2⟩ := c3_at HB7.out.res
    have hrr := (head_row HB7.out.res).lt
    clear hb7 hk7 ho7 HB6 HA6 KT KA KD KR KS
    go_wp2
    have HO : Hid (Only [w.heap.size, w.heap.size + 1 + 1] w7 (((w7.setCell ⟨w.heap.size + 1 + 1, 0, none⟩ (.int .i64 ((s.adm x.key).c : Nat))).setCell ⟨w.heap.size + 1 + 1, 1, none⟩ (.slice Fa1 na1 da1)).setCell ⟨w.heap.size + 1 + 1, 2, none⟩ (.slice Fa2 na2 da2))) := Lib.hid ((((Only.refl _ _).setCell (by simp) _).setCell (by simp) _).setCell (by simp) _)
    exact bodyPost_ret (v := .tuple #[.agg (l12C (s.adm x.key).c (.slice Fa1 na1 da1) (.slice Fa2 na2 da2)), o7]) (by simp [results, Tryz.results10, go_sem, y0, y1, y2]) rfl ⟨_, _, _, rfl, HB7.out.fin HO.out, HB7.out.st12 HO.out HV.out, HB7.out.kv HO.out HVO.out⟩
  · rw [e1, e2]
    clear e1 e2
    go_enter Tryz.func10, Tryz.ntmps10
    go_wp2_with fail
    rw [HW0.out]
    clear HW0
    go_region_held3 (fun w' => w'.cell? ⟨w.heap.size, 0, none⟩ = some (.int .i64 ((s).c : Nat)) ∧ w'.cell? ⟨w.heap.size, 1, none⟩ = some (.slice F1 n1 d1) ∧ w'.cell? ⟨w.heap.size, 2, none⟩ = some (.slice F2 n2 d2) ∧ w'.cell? ⟨w.heap.size + 1, 0, none⟩ = some (.int .u8 (x.kind : Nat)) ∧ w'.cell? ⟨w.heap.size + 1, 1, none⟩ = some (.int .u64 (x.key : Nat)) ∧ w'.cell? ⟨w.heap.size + 1, 2, none⟩ = some (.int .u16 (x.n : Nat))) (first | with_reducible exact kk5 | with_reducible exact kk4 | go_keep)
      (first
        | (go_at_call 14; refine (KY.out _ (below_drewn HB.out.low _)).mono ?_; rintro e w4 ⟨v4, rfl, hb4, hk4⟩; have hB4 := HB.out.step ((below_drewn (Below.refl _ _) _).trans hb4); have hA4 := (hb4.block (w.heap.size + 1) (head_row HA.out).lt).trans HA.out; have kk4 := ld12 hB4 hA4)
        | (go_at_call 17; refine (KH.out _ _ hk4).mono ?_; rintro e w5 ⟨rfl, rfl⟩)
        | (go_at_call 21; refine (KK.out _).mono ?_; rintro e w6 ⟨rfl, hb6⟩; have hB6 := hB4.step hb6; have hA6 := (hb6.block (w.heap.size + 1) (head_row hA4).lt).trans hA4; have kk5 := ld12 hB6 hA6))
    have HB6 := Lib.hid hB6
    have HA6 := Lib.hid hA6
    obtain ⟨x0, x1, x2, a0, a1, a2⟩ := kk5
    clear hB6 hA6 hb6 hB4 hA4 hb4 hk4 kk4 KY KH KK HB HA
    go_wp2_with fail
    refine (KD.out w6 HB6.out.low).mono ?_
    rintro e w7 ⟨q1, q2, he, hb7, hk7⟩
    obtain ⟨Fa1, na1, da1, rfl⟩ := hk7.form1
    obtain ⟨Fa2, na2, da2, rfl⟩ := hk7.form2
    have HB7 := Lib.hid (HB6.out.step hb7)
    have HV := Lib.hid hk7
    subst he
    obtain ⟨⟨y0, y1, y2⟩, yf0, yf1, yf2⟩ := c3_at HB7.out.res
    have hrr := (head_row HB7.out.res).lt
    clear hb7 hk7 HB6 HA6 KT KA KD KR KS
    go_wp2
    have HO : Hid (Only [w.heap.size, w.heap.size + 1 + 1] w7 (((w7.setCell ⟨w.heap.size + 1 + 1, 0, none⟩ (.int .i64 ((s.drop x.key).c : Nat))).setCell ⟨w.heap.size + 1 + 1, 1, none⟩ (.slice Fa1 na1 da1)).setCell ⟨w.heap.size + 1 + 1, 2, none⟩ (.slice Fa2 na2 da2))) := Lib.hid ((((Only.refl _ _).setCell (by simp) _).setCell (by simp) _).setCell (by simp) _)
    exact bodyPost_ret (v := .tuple #[.agg (l12C (s.drop x.key).c (.slice Fa1 na1 da1) (.slice Fa2 na2 da2)), .slice none 0 0]) (by simp [results, Tryz.results10, go_sem, y0, y1, y2]) rfl ⟨_, _, _, rfl, HB7.out.fin HO.out, HB7.out.st12 HO.out HV.out, KV.nil _⟩
  · rw [e1, e2]
    clear e1 e2
    go_enter Tryz.func10, Tryz.ntmps10
    go_wp2_with fail
    rw [HW0.out]
    clear HW0
    go_region_held3 (fun w' => w'.cell? ⟨w.heap.size, 0, none⟩ = some (.int .i64 ((s).c : Nat)) ∧ w'.cell? ⟨w.heap.size, 1, none⟩ = some (.slice F1 n1 d1) ∧ w'.cell? ⟨w.heap.size, 2, none⟩ = some (.slice F2 n2 d2) ∧ w'.cell? ⟨w.heap.size + 1, 0, none⟩ = some (.int .u8 (x.kind : Nat)) ∧ w'.cell? ⟨w.heap.size + 1, 1, none⟩ = some (.int .u64 (x.key : Nat)) ∧ w'.cell? ⟨w.heap.size + 1, 2, none⟩ = some (.int .u16 (x.n : Nat))) (first | with_reducible exact kk5 | with_reducible exact kk4 | go_keep)
      (first
        | (go_at_call 14; refine (KY.out _ (below_drewn HB.out.low _)).mono ?_; rintro e w4 ⟨v4, rfl, hb4, hk4⟩; have hB4 := HB.out.step ((below_drewn (Below.refl _ _) _).trans hb4); have hA4 := (hb4.block (w.heap.size + 1) (head_row HA.out).lt).trans HA.out; have kk4 := ld12 hB4 hA4)
        | (go_at_call 17; refine (KH.out _ _ hk4).mono ?_; rintro e w5 ⟨rfl, rfl⟩)
        | (go_at_call 21; refine (KK.out _).mono ?_; rintro e w6 ⟨rfl, hb6⟩; have hB6 := hB4.step hb6; have hA6 := (hb6.block (w.heap.size + 1) (head_row hA4).lt).trans hA4; have kk5 := ld12 hB6 hA6))
    have HB6 := Lib.hid hB6
    have HA6 := Lib.hid hA6
    obtain ⟨x0, x1, x2, a0, a1, a2⟩ := kk5
    clear hB6 hA6 hb6 hB4 hA4 hb4 hk4 kk4 KY KH KK HB HA
    go_wp2_with fail
    clear KT KA KD
    go_region_held3 (fun w' => w'.cell? ⟨w.heap.size, 0, none⟩ = some (.int .i64 ((s).c : Nat)) ∧ w'.cell? ⟨w.heap.size, 1, none⟩ = some (.slice F1 n1 d1) ∧ w'.cell? ⟨w.heap.size, 2, none⟩ = some (.slice F2 n2 d2) ∧ w'.cell? ⟨w.heap.size + 1, 0, none⟩ = some (.int .u8 (x.kind : Nat)) ∧ w'.cell? ⟨w.heap.size + 1, 1, none⟩ = some (.int .u64 (x.key : Nat)) ∧ w'.cell? ⟨w.heap.size + 1, 2, none⟩ = some (.int .u16 (x.n : Nat))) (first | with_reducible exact kk7 | with_reducible exact kk8 | go_keep)
      (first
        | (go_at_call 27; refine (KS.out _).mono ?_; rintro e w6b ⟨rfl, hb6⟩; have hB6 := HB6.out.step ((below_drewn (Below.refl _ _) _).trans hb6); have hA6 := (hb6.block (w.heap.size + 1) (head_row HA6.out).lt).trans HA6.out; have kk7 := ld12 hB6 hA6)
        | (go_at_call 40; refine (KR.out _ hB6.low).mono ?_; rintro e w7 ⟨q1, q2, o7, he, hb7, hk7, ho7⟩; obtain ⟨Fa1, na1, da1, rfl⟩ := hk7.form1; obtain ⟨Fa2, na2, da2, rfl⟩ := hk7.form2; have hB7 := hB6.step hb7; subst he; have hA7 := (hb7.block (w.heap.size + 1) (head_row hA6).lt).trans hA6; have kk8 := ld12 hB7 hA7; obtain ⟨⟨y0, y1, y2⟩, yf0, yf1, yf2⟩ := c3_at hB7.res; have hrr := (head_row hB7.res).lt))
    have HB7 := Lib.hid hB7
    have HV := Lib.hid hk7
    have HVO := Lib.hid ho7
    have HO : Hid (Only [w.heap.size, w.heap.size + 1 + 1] w7 (((w7.setCell ⟨w.heap.size + 1 + 1, 0, none⟩ (.int .i64 ((s.resize z).c : Nat))).setCell ⟨w.heap.size + 1 + 1, 1, none⟩ (.slice Fa1 na1 da1)).setCell ⟨w.heap.size + 1 + 1, 2, none⟩ (.slice Fa2 na2 da2))) := Lib.hid ((((Only.refl _ _).setCell (by simp) _).setCell (by simp) _).setCell (by simp) _)
    go_wp2
    exact bodyPost_ret (v := .tuple #[.agg (l12C (s.resize z).c (.slice Fa1 na1 da1) (.slice Fa2 na2 da2)), o7]) (by simp [results, Tryz.results10, go_sem, y0, y1, y2]) rfl ⟨_, _, _, rfl, HB7.out.fin HO.out, HB7.out.st12 HO.out HV.out, HB7.out.kv HO.out HVO.out⟩
end
section
variable {w : World} {u1 u2 : Value} {s : L12}
end
def Af12 (w4 : World) (T : TypeId) (s : L12) (out : List Nat) (v o : Value) (wx : World) : Prop := ∃ (P : Nat) (F1 : Option Addr) (n1 d1 : Nat) (F2 : Option Addr) (n2 d2 : Nat), v = .pointer (some ⟨P, 0, none⟩) ∧ Below w4.heap.size w4 wx ∧ w4.heap.size ≤ P ∧ wx.heap[P]? = some (.cells (l12C s.c (.slice F1 n1 d1) (.slice F2 n2 d2)) T (0, 0)) ∧ St12 wx s (.slice F1 n1 d1) (.slice F2 n2 d2) ∧ KV wx o out
section
variable {w4 w5 : World} {T : TypeId} {s : L12} {out : List Nat} {o : Value} {F1 : Option Addr} {n1 d1 : Nat} {F2 : Option Addr} {n2 d2 : Nat}
theorem af12_b (hb : Below w4.heap.size w4 w5) (hs : St12 w5 s (.slice F1 n1 d1) (.slice F2 n2 d2)) (ho : KV w5 o out) : Af12 w4 T s out (.pointer (some ⟨w5.heap.size, 0, none⟩)) o (w5.alloc (.cells (l12C s.c (.slice F1 n1 d1) (.slice F2 n2 d2)) T)) :=
  ⟨_, _, _, _, _, _, _, rfl, hb.alloc hb.size _, hb.size, heap_alloc_new w5 _, hs.below (low_one w5 _), ho.below (low_one w5 _)⟩
theorem af12_a {O : Obj} {zs : Array Value} (hT : T ≠ 32) (hz : NoU zs) (hzn : ∃ x0 x1 x2, zs = #[x0, x1, x2]) (hb : Below (w4.alloc O).heap.size (w4.alloc O) w5) (hP : w5.heap[w4.heap.size]? = some (.cells zs T (0, 0))) (hs : St12 w5 s (.slice F1 n1 d1) (.slice F2 n2 d2)) (ho : KV w5 o out) : Af12 w4 T s out (.pointer (some ⟨w4.heap.size, 0, none⟩)) o (((w5.setCell ⟨w4.heap.size, 0, none⟩ (.int .i64 ((s).c : Nat))).setCell ⟨w4.heap.size, 1, none⟩ (.slice F1 n1 d1)).setCell ⟨w4.heap.size, 2, none⟩ (.slice F2 n2 d2)) := by
  obtain ⟨x0, x1, x2, rfl⟩ := hzn
  obtain ⟨h1, h2⟩ := c3_set hP (.int .i64 ((s).c : Nat)) (.slice F1 n1 d1) (.slice F2 n2 d2)
  have hl : Below w4.heap.size w4 w5 := (low_one w4 O).trans (hb.mono (by simp))
  have hbx : ∀ g ∈ [w4.heap.size], Bx w5 g := fun g hg => by
    simp only [List.mem_singleton] at hg
    subst hg
    exact ⟨_, _, hP, hz, hT⟩
  exact ⟨_, _, _, _, _, _, _, rfl, hl.trans (h2.below (by simp) hl.size), Nat.le_refl _, h1, ⟨hs.g1.only h2 hbx, hs.g2.only h2 hbx⟩, ho.only h2 hbx⟩
end
def L12.runS (s : L12) (l : List Act8) : L12 := l.foldl L12.act s
theorem L12.runS_next (s : L12) {l : List Act8} {i : Nat} (hi : i < l.length) : s.runS (l.take (i + 1)) = (s.runS (l.take i)).act l[i] := by
  unfold L12.runS
  rw [List.take_succ_eq_append_getElem hi, List.foldl_append]
  rfl
theorem L12.Ok.runS {s : L12} (h : s.Ok) : ∀ (l : List Act8), (∀ x ∈ l, x.Ok) → (s.runS l).Ok
  | [], _ => h
  | x :: l, hx => L12.Ok.runS (h.act (hx x (by simp))) l (fun y hy => hx y (by simp [hy]))
section
variable {w : World} {v : Value} {l : List Act8}
end
end Go.Proofs.YtkhikpnlpcankaaGreat
