/- Least recently used, the document's own: Do. -/
import Derived.Test.YtiokejhplbadeaaLrA
import Derived.Deep.RegionHeld3
import Derived.Deep.RegionWith
namespace Go.Proofs.Ytiokejhplbadeaa
open Go Go.RowKit Go.Deep

section
variable {w : World} {u1 : Value} {s : L8}
/- What the loads of Do find: the state's box, and the act's. -/
abbrev Ld8 (w' : World) (b a : Nat) (c : Nat) (F1 : Option Addr) (n1 d1 : Nat) (x : Act8) : Prop := w'.cell? ⟨b, 0, none⟩ = some (.int .i64 (c : Nat)) ∧ w'.cell? ⟨b, 1, none⟩ = some (.slice F1 n1 d1) ∧ w'.cell? ⟨a, 0, none⟩ = some (.int .u8 (x.kind : Nat)) ∧ w'.cell? ⟨a, 1, none⟩ = some (.int .u64 (x.key : Nat)) ∧ w'.cell? ⟨a, 2, none⟩ = some (.int .u16 (x.n : Nat))
theorem ld8 {T : TypeId} {zs : Array Value} {w w1 : World} {b r a : Nat} {c : Nat} {F1 : Option Addr} {n1 d1 : Nat} {x : Act8} (h : Bo w w1 T b r (l8C c (.slice F1 n1 d1)) zs) (ha : w1.heap[a]? = some (.cells (act8C x) 35 (0, 0))) : Ld8 w1 b a c F1 n1 d1 x := by
  obtain ⟨⟨x0, x1⟩, xf0, xf1⟩ := c2_at h.box
  obtain ⟨⟨a0, a1, a2⟩, _⟩ := c3_at ha
  exact ⟨x0, x1, a0, a1, a2⟩
set_option maxHeartbeats 8000000 in
set_option maxRecDepth 4000 in
theorem r8do_walk (h : St8 w s u1) (ok : s.Ok) (x : Act8) (wf : x.Ok) : Calls Try.prog 17 #[.agg (l8C s.c u1), .agg (act8C x)] w (P8o w (s.act x) (s.actOut x)) := by
  obtain ⟨F1, n1, d1, rfl⟩ := h.form1
  obtain ⟨h0, ha⟩ := Bo.start3 w T8 35 (l8C s.c (.slice F1 n1 d1)) (act8C x) z8 rfl rfl (by decide)
  have HB := Lib.hid h0
  have HA := Lib.hid ha
  have hc := L8.act_cases s x
  obtain ⟨q, hq⟩ : ∃ q, kindA x (decide (x.key ∈ s.keys)) = q := ⟨_, rfl⟩
  have KH : Hid (∀ W, Below w.heap.size w W → Calls Try.prog 24 #[.slice F1 n1 d1, .int .u64 (x.key : Nat)] W fun e w' => e = .returned (.bool (decide (x.key ∈ s.keys))) ∧ W = w') := Lib.hid (fun W hb => rhas_walk (h.g1.below hb) ok.keysLen x.key)
  have KK : Hid (∀ W, Calls Try.prog 27 #[.agg (act8C x), .bool (decide (x.key ∈ s.keys))] W fun e w' => e = .returned (.int .i64 (q : Nat)) ∧ Below W.heap.size W w') := Lib.hid (fun W => by rw [← hq]; exact rkind_walk x wf _)
  have KS : Hid (∀ W, Calls Try.prog 28 #[.agg (act8C x)] W fun e w' => e = .returned (.int .i64 (sizeA x : Nat)) ∧ Below W.heap.size W w') := Lib.hid (fun W => rsize_walk x wf)
  have KT : Hid (∀ W, Below w.heap.size w W → Calls Try.prog 51 #[.agg (l8C s.c (.slice F1 n1 d1)), .int .u64 (x.key : Nat)] W (P8 W (s.touch x.key))) := Lib.hid (fun W hb => r8touch_walk (h.below hb) ok x.key)
  have KA : Hid (∀ W, Below w.heap.size w W → Calls Try.prog 52 #[.agg (l8C s.c (.slice F1 n1 d1)), .int .u64 (x.key : Nat)] W (P8o W (s.adm x.key) (s.admitOut x.key))) := Lib.hid (fun W hb => r8admit_walk (h.below hb) ok x.key wf.key)
  have KD : Hid (∀ W, Below w.heap.size w W → Calls Try.prog 53 #[.agg (l8C s.c (.slice F1 n1 d1)), .int .u64 (x.key : Nat)] W (P8 W (s.drop x.key))) := Lib.hid (fun W hb => r8drop_walk (h.below hb) ok x.key)
  have hz := sizeA_is x
  have KR : Hid (∀ W, Below w.heap.size w W → Calls Try.prog 54 #[.agg (l8C s.c (.slice F1 n1 d1)), .int .i64 (sizeA x : Nat)] W (P8o W (s.resize (sizeA x : Nat)) (s.resizeOut (sizeA x : Nat)))) := Lib.hid (fun W hb => r8resize_walk (h.below hb) ok _ (by omega) (by omega))
  rw [hq] at hc
  generalize decide (x.key ∈ s.keys) = bb at KH KK hq
  generalize sizeA x = z at KS KR hz hc
  clear hq h0 ha h ok wf hz
  obtain ⟨x0, x1, a0, a1, a2⟩ := ld8 HB.out HA.out
  generalize hW0 : (((w.alloc (.cells (l8C s.c (.slice F1 n1 d1)) T8)).alloc (.cells (act8C x) 35)).alloc (.cells z8 T8)) = W0 at HB HA x0 x1 a0 a1 a2
  have HW0 := Lib.hid hW0
  clear hW0
  have hne0 : w.heap.size + 1 + 1 ≠ w.heap.size := by omega
  have hne1 : w.heap.size ≠ w.heap.size + 1 + 1 := by omega
  rcases hc with ⟨rfl, e1, e2⟩ | ⟨rfl, e1, e2⟩ | ⟨rfl, e1, e2⟩ | ⟨rfl, e1, e2⟩
  · rw [e1, e2]
    clear e1 e2
    go_enter Try.func17, Try.ntmps17
    go_wp2_with fail
    rw [HW0.out]
    clear HW0
    go_region_held3 (fun w' => w'.cell? ⟨w.heap.size, 0, none⟩ = some (.int .i64 ((s).c : Nat)) ∧ w'.cell? ⟨w.heap.size, 1, none⟩ = some (.slice F1 n1 d1) ∧ w'.cell? ⟨w.heap.size + 1, 0, none⟩ = some (.int .u8 (x.kind : Nat)) ∧ w'.cell? ⟨w.heap.size + 1, 1, none⟩ = some (.int .u64 (x.key : Nat)) ∧ w'.cell? ⟨w.heap.size + 1, 2, none⟩ = some (.int .u16 (x.n : Nat))) (first | with_reducible exact kk5 | go_keep)
      (first
        | (go_at_call 24; refine (KH.out _ (below_drewn HB.out.low _)).mono ?_; rintro e w5 ⟨rfl, rfl⟩)
        | (go_at_call 27; refine (KK.out _).mono ?_; rintro e w6 ⟨rfl, hb6⟩; have hB6 := HB.out.step ((below_drewn (Below.refl _ _) _).trans hb6); have hA6 := (hb6.block (w.heap.size + 1) (head_row HA.out).lt).trans HA.out; have kk5 := ld8 hB6 hA6))
    have HB6 := Lib.hid hB6
    have HA6 := Lib.hid hA6
    obtain ⟨x0, x1, a0, a1, a2⟩ := kk5
    clear hB6 hA6 hb6 KH KK HB HA
    go_wp2_with fail
    refine (KT.out w6 HB6.out.low).mono ?_
    rintro e w7 ⟨q1, he, hb7, hk7⟩
    obtain ⟨Fa1, na1, da1, rfl⟩ := hk7.form1
    have HB7 := Lib.hid (HB6.out.step hb7)
    have HV := Lib.hid hk7
    subst he
    obtain ⟨⟨y0, y1⟩, yf0, yf1⟩ := c2_at HB7.out.res
    have hrr := (head_row HB7.out.res).lt
    clear hb7 hk7 HB6 HA6 KT KA KD KR KS
    go_wp2
    have HO : Hid (Only [w.heap.size, w.heap.size + 1 + 1] w7 ((w7.setCell ⟨w.heap.size + 1 + 1, 0, none⟩ (.int .i64 ((s.touch x.key).c : Nat))).setCell ⟨w.heap.size + 1 + 1, 1, none⟩ (.slice Fa1 na1 da1))) := Lib.hid (((Only.refl _ _).setCell (by simp) _).setCell (by simp) _)
    exact bodyPost_ret (v := .tuple #[.agg (l8C (s.touch x.key).c (.slice Fa1 na1 da1)), .slice none 0 0]) (by simp [results, Try.results17, go_sem, y0, y1]) rfl ⟨_, _, rfl, HB7.out.fin HO.out, HB7.out.st8 HO.out HV.out, KV.nil _⟩
  · rw [e1, e2]
    clear e1 e2
    go_enter Try.func17, Try.ntmps17
    go_wp2_with fail
    rw [HW0.out]
    clear HW0
    go_region_held3 (fun w' => w'.cell? ⟨w.heap.size, 0, none⟩ = some (.int .i64 ((s).c : Nat)) ∧ w'.cell? ⟨w.heap.size, 1, none⟩ = some (.slice F1 n1 d1) ∧ w'.cell? ⟨w.heap.size + 1, 0, none⟩ = some (.int .u8 (x.kind : Nat)) ∧ w'.cell? ⟨w.heap.size + 1, 1, none⟩ = some (.int .u64 (x.key : Nat)) ∧ w'.cell? ⟨w.heap.size + 1, 2, none⟩ = some (.int .u16 (x.n : Nat))) (first | with_reducible exact kk5 | go_keep)
      (first
        | (go_at_call 24; refine (KH.out _ (below_drewn HB.out.low _)).mono ?_; rintro e w5 ⟨rfl, rfl⟩)
        | (go_at_call 27; refine (KK.out _).mono ?_; rintro e w6 ⟨rfl, hb6⟩; have hB6 := HB.out.step ((below_drewn (Below.refl _ _) _).trans hb6); have hA6 := (hb6.block (w.heap.size + 1) (head_row HA.out).lt).trans HA.out; have kk5 := ld8 hB6 hA6))
    have HB6 := Lib.hid hB6
    have HA6 := Lib.hid hA6
    obtain ⟨x0, x1, a0, a1, a2⟩ := kk5
    clear hB6 hA6 hb6 KH KK HB HA
    go_wp2_with fail
    refine (KA.out w6 HB6.out.low).mono ?_
    rintro e w7 ⟨q1, o7, he, hb7, hk7, ho7⟩
    obtain ⟨Fa1, na1, da1, rfl⟩ := hk7.form1
    have HB7 := Lib.hid (HB6.out.step hb7)
    have HV := Lib.hid hk7
    have HVO := Lib.hid ho7
    subst he
    obtain ⟨⟨y0, y1⟩, yf0, yf1⟩ := c2_at HB7.out.res
    have hrr := (head_row HB7.out.res).lt
    clear hb7 hk7 ho7 HB6 HA6 KT KA KD KR KS
    go_wp2
    have HO : Hid (Only [w.heap.size, w.heap.size + 1 + 1] w7 ((w7.setCell ⟨w.heap.size + 1 + 1, 0, none⟩ (.int .i64 ((s.adm x.key).c : Nat))).setCell ⟨w.heap.size + 1 + 1, 1, none⟩ (.slice Fa1 na1 da1))) := Lib.hid (((Only.refl _ _).setCell (by simp) _).setCell (by simp) _)
    exact bodyPost_ret (v := .tuple #[.agg (l8C (s.adm x.key).c (.slice Fa1 na1 da1)), o7]) (by simp [results, Try.results17, go_sem, y0, y1]) rfl ⟨_, _, rfl, HB7.out.fin HO.out, HB7.out.st8 HO.out HV.out, HB7.out.kv HO.out HVO.out⟩
  · rw [e1, e2]
    clear e1 e2
    go_enter Try.func17, Try.ntmps17
    go_wp2_with fail
    rw [HW0.out]
    clear HW0
    go_region_held3 (fun w' => w'.cell? ⟨w.heap.size, 0, none⟩ = some (.int .i64 ((s).c : Nat)) ∧ w'.cell? ⟨w.heap.size, 1, none⟩ = some (.slice F1 n1 d1) ∧ w'.cell? ⟨w.heap.size + 1, 0, none⟩ = some (.int .u8 (x.kind : Nat)) ∧ w'.cell? ⟨w.heap.size + 1, 1, none⟩ = some (.int .u64 (x.key : Nat)) ∧ w'.cell? ⟨w.heap.size + 1, 2, none⟩ = some (.int .u16 (x.n : Nat))) (first | with_reducible exact kk5 | go_keep)
      (first
        | (go_at_call 24; refine (KH.out _ (below_drewn HB.out.low _)).mono ?_; rintro e w5 ⟨rfl, rfl⟩)
        | (go_at_call 27; refine (KK.out _).mono ?_; rintro e w6 ⟨rfl, hb6⟩; have hB6 := HB.out.step ((below_drewn (Below.refl _ _) _).trans hb6); have hA6 := (hb6.block (w.heap.size + 1) (head_row HA.out).lt).trans HA.out; have kk5 := ld8 hB6 hA6))
    have HB6 := Lib.hid hB6
    have HA6 := Lib.hid hA6
    obtain ⟨x0, x1, a0, a1, a2⟩ := kk5
    clear hB6 hA6 hb6 KH KK HB HA
    go_wp2_with fail
    refine (KD.out w6 HB6.out.low).mono ?_
    rintro e w7 ⟨q1, he, hb7, hk7⟩
    obtain ⟨Fa1, na1, da1, rfl⟩ := hk7.form1
    have HB7 := Lib.hid (HB6.out.step hb7)
    have HV := Lib.hid hk7
    subst he
    obtain ⟨⟨y0, y1⟩, yf0, yf1⟩ := c2_at HB7.out.res
    have hrr := (head_row HB7.out.res).lt
    clear hb7 hk7 HB6 HA6 KT KA KD KR KS
    go_wp2
    have HO : Hid (Only [w.heap.size, w.heap.size + 1 + 1] w7 ((w7.setCell ⟨w.heap.size + 1 + 1, 0, none⟩ (.int .i64 ((s.drop x.key).c : Nat))).setCell ⟨w.heap.size + 1 + 1, 1, none⟩ (.slice Fa1 na1 da1))) := Lib.hid (((Only.refl _ _).setCell (by simp) _).setCell (by simp) _)
    exact bodyPost_ret (v := .tuple #[.agg (l8C (s.drop x.key).c (.slice Fa1 na1 da1)), .slice none 0 0]) (by simp [results, Try.results17, go_sem, y0, y1]) rfl ⟨_, _, rfl, HB7.out.fin HO.out, HB7.out.st8 HO.out HV.out, KV.nil _⟩
  · rw [e1, e2]
    clear e1 e2
    go_enter Try.func17, Try.ntmps17
    go_wp2_with fail
    rw [HW0.out]
    clear HW0
    go_region_held3 (fun w' => w'.cell? ⟨w.heap.size, 0, none⟩ = some (.int .i64 ((s).c : Nat)) ∧ w'.cell? ⟨w.heap.size, 1, none⟩ = some (.slice F1 n1 d1) ∧ w'.cell? ⟨w.heap.size + 1, 0, none⟩ = some (.int .u8 (x.kind : Nat)) ∧ w'.cell? ⟨w.heap.size + 1, 1, none⟩ = some (.int .u64 (x.key : Nat)) ∧ w'.cell? ⟨w.heap.size + 1, 2, none⟩ = some (.int .u16 (x.n : Nat))) (first | with_reducible exact kk5 | go_keep)
      (first
        | (go_at_call 24; refine (KH.out _ (below_drewn HB.out.low _)).mono ?_; rintro e w5 ⟨rfl, rfl⟩)
        | (go_at_call 27; refine (KK.out _).mono ?_; rintro e w6 ⟨rfl, hb6⟩; have hB6 := HB.out.step ((below_drewn (Below.refl _ _) _).trans hb6); have hA6 := (hb6.block (w.heap.size + 1) (head_row HA.out).lt).trans HA.out; have kk5 := ld8 hB6 hA6))
    have HB6 := Lib.hid hB6
    have HA6 := Lib.hid hA6
    obtain ⟨x0, x1, a0, a1, a2⟩ := kk5
    clear hB6 hA6 hb6 KH KK HB HA
    go_wp2_with fail
    clear KT KA KD
    go_region_held3 (fun w' => w'.cell? ⟨w.heap.size, 0, none⟩ = some (.int .i64 ((s).c : Nat)) ∧ w'.cell? ⟨w.heap.size, 1, none⟩ = some (.slice F1 n1 d1) ∧ w'.cell? ⟨w.heap.size + 1, 0, none⟩ = some (.int .u8 (x.kind : Nat)) ∧ w'.cell? ⟨w.heap.size + 1, 1, none⟩ = some (.int .u64 (x.key : Nat)) ∧ w'.cell? ⟨w.heap.size + 1, 2, none⟩ = some (.int .u16 (x.n : Nat))) (first | with_reducible exact kk7 | with_reducible exact kk8 | go_keep)
      (first
        | (go_at_call 28; refine (KS.out _).mono ?_; rintro e w6b ⟨rfl, hb6⟩; have hB6 := HB6.out.step ((below_drewn (Below.refl _ _) _).trans hb6); have hA6 := (hb6.block (w.heap.size + 1) (head_row HA6.out).lt).trans HA6.out; have kk7 := ld8 hB6 hA6)
        | (go_at_call 54; refine (KR.out _ hB6.low).mono ?_; rintro e w7 ⟨q1, o7, he, hb7, hk7, ho7⟩; obtain ⟨Fa1, na1, da1, rfl⟩ := hk7.form1; have hB7 := hB6.step hb7; subst he; have hA7 := (hb7.block (w.heap.size + 1) (head_row hA6).lt).trans hA6; have kk8 := ld8 hB7 hA7; obtain ⟨⟨y0, y1⟩, yf0, yf1⟩ := c2_at hB7.res; have hrr := (head_row hB7.res).lt))
    have HB7 := Lib.hid hB7
    have HV := Lib.hid hk7
    have HVO := Lib.hid ho7
    have HO : Hid (Only [w.heap.size, w.heap.size + 1 + 1] w7 ((w7.setCell ⟨w.heap.size + 1 + 1, 0, none⟩ (.int .i64 ((s.resize z).c : Nat))).setCell ⟨w.heap.size + 1 + 1, 1, none⟩ (.slice Fa1 na1 da1))) := Lib.hid (((Only.refl _ _).setCell (by simp) _).setCell (by simp) _)
    go_wp2
    exact bodyPost_ret (v := .tuple #[.agg (l8C (s.resize z).c (.slice Fa1 na1 da1)), o7]) (by simp [results, Try.results17, go_sem, y0, y1]) rfl ⟨_, _, rfl, HB7.out.fin HO.out, HB7.out.st8 HO.out HV.out, HB7.out.kv HO.out HVO.out⟩
end
end Go.Proofs.Ytiokejhplbadeaa
