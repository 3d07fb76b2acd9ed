/- Inter-reference recency: the laws' do. -/
import Derived.Test.YtjfhapobbglbpaaLiD
import Derived.Test.YtjfhapobbglbpaaLiO
namespace Go.Proofs.Ytjfhapobbglbpaa
open Go Go.RowKit Go.Deep

section
variable {w : World} {u1 u2 : Value} {s : L12}
set_option maxHeartbeats 8000000 in
set_option maxRecDepth 4000 in
theorem do12_walk (PO : Pol12Ok) (h : St12 w s u1 u2) (ok : s.Ok) (x : Act8) (wf : x.Ok) : Calls Try.prog 12 #[.agg (l12C s.c u1 u2), .agg (act8C x)] w (P12o w (s.act x) (s.actOut x)) := by
  obtain ⟨F1, n1, d1, rfl⟩ := h.form1
  obtain ⟨F2, n2, d2, rfl⟩ := h.form2
  obtain ⟨h0, ha⟩ := Bo.start3 w PT12 38 (l12C s.c (.slice F1 n1 d1) (.slice F2 n2 d2)) (act8C x) z12 rfl rfl (by decide)
  have HB := Lib.hid h0
  have HA := Lib.hid ha
  have hc := L12.act_cases s x
  obtain ⟨q, hq⟩ : ∃ q, kindA x (decide (x.key ∈ s.keys)) = q := ⟨_, rfl⟩
  have KH : Hid (∀ W, Below w.heap.size w W → Calls Try.prog 19 #[.agg (l12C s.c (.slice F1 n1 d1) (.slice F2 n2 d2)), .int .u64 (x.key : Nat)] W (RetB W (decide (x.key ∈ s.keys)))) := Lib.hid (fun W hb => PO.has (h.below hb) ok x.key wf.key)
  have KK : Hid (∀ W, Calls Try.prog 23 #[.agg (act8C x), .bool (decide (x.key ∈ s.keys))] W fun e w' => e = .returned (.int .i64 (q : Nat)) ∧ Below W.heap.size W w') := Lib.hid (fun W => by rw [← hq]; exact rkind_walk x wf _)
  have KS : Hid (∀ W, Calls Try.prog 24 #[.agg (act8C x)] W fun e w' => e = .returned (.int .i64 (sizeA x : Nat)) ∧ Below W.heap.size W w') := Lib.hid (fun W => rsize_walk x wf)
  have KT : Hid (∀ W, Below w.heap.size w W → Calls Try.prog 27 #[.agg (l12C s.c (.slice F1 n1 d1) (.slice F2 n2 d2)), .int .u64 (x.key : Nat)] W (P12 W (s.touch x.key))) := Lib.hid (fun W hb => PO.touch (h.below hb) ok x.key wf.key)
  have KA : Hid (∀ W, Below w.heap.size w W → Calls Try.prog 28 #[.agg (l12C s.c (.slice F1 n1 d1) (.slice F2 n2 d2)), .int .u64 (x.key : Nat)] W (P12o W (s.adm x.key) (s.admitOut x.key))) := Lib.hid (fun W hb => PO.adm (h.below hb) ok x.key wf.key)
  have KD : Hid (∀ W, Below w.heap.size w W → Calls Try.prog 29 #[.agg (l12C s.c (.slice F1 n1 d1) (.slice F2 n2 d2)), .int .u64 (x.key : Nat)] W (P12 W (s.drop x.key))) := Lib.hid (fun W hb => PO.drop (h.below hb) ok x.key wf.key)
  have hz := sizeA_is x
  have KR : Hid (∀ W, Below w.heap.size w W → Calls Try.prog 32 #[.agg (l12C s.c (.slice F1 n1 d1) (.slice F2 n2 d2)), .int .i64 (sizeA x : Nat)] W (P12o W (s.resize (sizeA x : Nat)) (s.resizeOut (sizeA x : Nat)))) := Lib.hid (fun W hb => PO.resize (h.below hb) ok _ (by omega) (by omega))
  rw [hq] at hc
  generalize decide (x.key ∈ s.keys) = bb at KH KK hq
  generalize sizeA x = z at KS KR hz hc
  clear hq h0 ha h ok wf hz
  obtain ⟨x0, x1, x2, a0, a1, a2⟩ := ld12 HB.out HA.out
  generalize hW0 : (((w.alloc (.cells (l12C s.c (.slice F1 n1 d1) (.slice F2 n2 d2)) PT12)).alloc (.cells (act8C x) 38)).alloc (.cells z12 PT12)) = W0 at HB HA x0 x1 x2 a0 a1 a2
  have HW0 := Lib.hid hW0
  clear hW0
  have hne0 : w.heap.size + 1 + 1 ≠ w.heap.size := by omega
  have hne1 : w.heap.size ≠ w.heap.size + 1 + 1 := by omega
  rcases hc with ⟨rfl, e1, e2⟩ | ⟨rfl, e1, e2⟩ | ⟨rfl, e1, e2⟩ | ⟨rfl, e1, e2⟩
  · rw [e1, e2]
    clear e1 e2
    go_enter Try.func12, Try.ntmps12
    go_wp2_with fail
    rw [HW0.out]
    clear HW0
    refine (KH.out W0 HB.out.low).mono ?_
    rintro e w5 ⟨rfl, hb5⟩
    have HB5 := Lib.hid (HB.out.step hb5)
    have HA5 := Lib.hid ((hb5.block (w.heap.size + 1) (head_row HA.out).lt).trans HA.out)
    clear x0 x1 x2 a0 a1 a2 hb5
    obtain ⟨x0, x1, x2, a0, a1, a2⟩ := ld12 HB5.out HA5.out
    go_wp2_with fail
    refine (KK.out w5).mono ?_
    rintro e w6 ⟨rfl, hb6⟩
    have hB6 := HB5.out.step hb6
    have hA6 := (hb6.block (w.heap.size + 1) (head_row HA5.out).lt).trans HA5.out
    have kk5 := ld12 hB6 hA6
    clear HB5 HA5 x0 x1 x2 a0 a1 a2
    have HB6 := Lib.hid hB6
    have HA6 := Lib.hid hA6
    obtain ⟨x0, x1, x2, a0, a1, a2⟩ := kk5
    clear hB6 hA6 hb6 KH KK HB HA
    go_wp2_with fail
    refine (KT.out w6 HB6.out.low).mono ?_
    rintro e w7 ⟨q1, q2, he, hb7, hk7⟩
    obtain ⟨Fa1, na1, da1, rfl⟩ := hk7.form1
    obtain ⟨Fa2, na2, da2, rfl⟩ := hk7.form2
    have HB7 := Lib.hid (HB6.out.step hb7)
    have HV := Lib.hid hk7
    subst he
    obtain ⟨⟨y0, y1, y2⟩, yf0, yf1, yf2⟩ := c3_at HB7.out.res
    have hrr := (head_row HB7.out.res).lt
    clear hb7 hk7 HB6 HA6 KT KA KD KR KS
    go_wp2
    have HO : Hid (Only [w.heap.size, w.heap.size + 1 + 1] w7 (((w7.setCell ⟨w.heap.size + 1 + 1, 0, none⟩ (.int .i64 ((s.touch x.key).c : Nat))).setCell ⟨w.heap.size + 1 + 1, 1, none⟩ (.slice Fa1 na1 da1)).setCell ⟨w.heap.size + 1 + 1, 2, none⟩ (.slice Fa2 na2 da2))) := Lib.hid ((((Only.refl _ _).setCell (by simp) _).setCell (by simp) _).setCell (by simp) _)
    exact bodyPost_ret (v := .tuple #[.agg (l12C (s.touch x.key).c (.slice Fa1 na1 da1) (.slice Fa2 na2 da2)), .slice none 0 0]) (by simp [results, Try.results12, go_sem, y0, y1, y2]) rfl ⟨_, _, _, rfl, HB7.out.fin HO.out, HB7.out.st12 HO.out HV.out, KV.nil _⟩
  · rw [e1, e2]
    clear e1 e2
    go_enter Try.func12, Try.ntmps12
    go_wp2_with fail
    rw [HW0.out]
    clear HW0
    refine (KH.out W0 HB.out.low).mono ?_
    rintro e w5 ⟨rfl, hb5⟩
    have HB5 := Lib.hid (HB.out.step hb5)
    have HA5 := Lib.hid ((hb5.block (w.heap.size + 1) (head_row HA.out).lt).trans HA.out)
    clear x0 x1 x2 a0 a1 a2 hb5
    obtain ⟨x0, x1, x2, a0, a1, a2⟩ := ld12 HB5.out HA5.out
    go_wp2_with fail
    refine (KK.out w5).mono ?_
    rintro e w6 ⟨rfl, hb6⟩
    have hB6 := HB5.out.step hb6
    have hA6 := (hb6.block (w.heap.size + 1) (head_row HA5.out).lt).trans HA5.out
    have kk5 := ld12 hB6 hA6
    clear HB5 HA5 x0 x1 x2 a0 a1 a2
    have HB6 := Lib.hid hB6
    have HA6 := Lib.hid hA6
    obtain ⟨x0, x1, x2, a0, a1, a2⟩ := kk5
    clear hB6 hA6 hb6 KH KK HB HA
    go_wp2_with fail
    refine (KA.out w6 HB6.out.low).mono ?_
    rintro e w7 ⟨q1, q2, o7, he, hb7, hk7, ho7⟩
    obtain ⟨Fa1, na1, da1, rfl⟩ := hk7.form1
    obtain ⟨Fa2, na2, da2, rfl⟩ := hk7.form2
    have HB7 := Lib.hid (HB6.out.step hb7)
    have HV := Lib.hid hk7
    have HVO := Lib.hid ho7
    subst he
    obtain ⟨⟨y0, y1, y2⟩, yf0, yf1, yf2⟩ := c3_at HB7.out.res
    have hrr := (head_row HB7.out.res).lt
    clear hb7 hk7 ho7 HB6 HA6 KT KA KD KR KS
    go_wp2
    have HO : Hid (Only [w.heap.size, w.heap.size + 1 + 1] w7 (((w7.setCell ⟨w.heap.size + 1 + 1, 0, none⟩ (.int .i64 ((s.adm x.key).c : Nat))).setCell ⟨w.heap.size + 1 + 1, 1, none⟩ (.slice Fa1 na1 da1)).setCell ⟨w.heap.size + 1 + 1, 2, none⟩ (.slice Fa2 na2 da2))) := Lib.hid ((((Only.refl _ _).setCell (by simp) _).setCell (by simp) _).setCell (by simp) _)
    exact bodyPost_ret (v := .tuple #[.agg (l12C (s.adm x.key).c (.slice Fa1 na1 da1) (.slice Fa2 na2 da2)), o7]) (by simp [results, Try.results12, go_sem, y0, y1, y2]) rfl ⟨_, _, _, rfl, HB7.out.fin HO.out, HB7.out.st12 HO.out HV.out, HB7.out.kv HO.out HVO.out⟩
  · rw [e1, e2]
    clear e1 e2
    go_enter Try.func12, Try.ntmps12
    go_wp2_with fail
    rw [HW0.out]
    clear HW0
    refine (KH.out W0 HB.out.low).mono ?_
    rintro e w5 ⟨rfl, hb5⟩
    have HB5 := Lib.hid (HB.out.step hb5)
    have HA5 := Lib.hid ((hb5.block (w.heap.size + 1) (head_row HA.out).lt).trans HA.out)
    clear x0 x1 x2 a0 a1 a2 hb5
    obtain ⟨x0, x1, x2, a0, a1, a2⟩ := ld12 HB5.out HA5.out
    go_wp2_with fail
    refine (KK.out w5).mono ?_
    rintro e w6 ⟨rfl, hb6⟩
    have hB6 := HB5.out.step hb6
    have hA6 := (hb6.block (w.heap.size + 1) (head_row HA5.out).lt).trans HA5.out
    have kk5 := ld12 hB6 hA6
    clear HB5 HA5 x0 x1 x2 a0 a1 a2
    have HB6 := Lib.hid hB6
    have HA6 := Lib.hid hA6
    obtain ⟨x0, x1, x2, a0, a1, a2⟩ := kk5
    clear hB6 hA6 hb6 KH KK HB HA
    go_wp2_with fail
    refine (KD.out w6 HB6.out.low).mono ?_
    rintro e w7 ⟨q1, q2, he, hb7, hk7⟩
    obtain ⟨Fa1, na1, da1, rfl⟩ := hk7.form1
    obtain ⟨Fa2, na2, da2, rfl⟩ := hk7.form2
    have HB7 := Lib.hid (HB6.out.step hb7)
    have HV := Lib.hid hk7
    subst he
    obtain ⟨⟨y0, y1, y2⟩, yf0, yf1, yf2⟩ := c3_at HB7.out.res
    have hrr := (head_row HB7.out.res).lt
    clear hb7 hk7 HB6 HA6 KT KA KD KR KS
    go_wp2
    have HO : Hid (Only [w.heap.size, w.heap.size + 1 + 1] w7 (((w7.setCell ⟨w.heap.size + 1 + 1, 0, none⟩ (.int .i64 ((s.drop x.key).c : Nat))).setCell ⟨w.heap.size + 1 + 1, 1, none⟩ (.slice Fa1 na1 da1)).setCell ⟨w.heap.size + 1 + 1, 2, none⟩ (.slice Fa2 na2 da2))) := Lib.hid ((((Only.refl _ _).setCell (by simp) _).setCell (by simp) _).setCell (by simp) _)
    exact bodyPost_ret (v := .tuple #[.agg (l12C (s.drop x.key).c (.slice Fa1 na1 da1) (.slice Fa2 na2 da2)), .slice none 0 0]) (by simp [results, Try.results12, go_sem, y0, y1, y2]) rfl ⟨_, _, _, rfl, HB7.out.fin HO.out, HB7.out.st12 HO.out HV.out, KV.nil _⟩
  · rw [e1, e2]
    clear e1 e2
    go_enter Try.func12, Try.ntmps12
    go_wp2_with fail
    rw [HW0.out]
    clear HW0
    refine (KH.out W0 HB.out.low).mono ?_
    rintro e w5 ⟨rfl, hb5⟩
    have HB5 := Lib.hid (HB.out.step hb5)
    have HA5 := Lib.hid ((hb5.block (w.heap.size + 1) (head_row HA.out).lt).trans HA.out)
    clear x0 x1 x2 a0 a1 a2 hb5
    obtain ⟨x0, x1, x2, a0, a1, a2⟩ := ld12 HB5.out HA5.out
    go_wp2_with fail
    refine (KK.out w5).mono ?_
    rintro e w6 ⟨rfl, hb6⟩
    have hB6 := HB5.out.step hb6
    have hA6 := (hb6.block (w.heap.size + 1) (head_row HA5.out).lt).trans HA5.out
    have kk5 := ld12 hB6 hA6
    clear HB5 HA5 x0 x1 x2 a0 a1 a2
    have HB6 := Lib.hid hB6
    have HA6 := Lib.hid hA6
    obtain ⟨x0, x1, x2, a0, a1, a2⟩ := kk5
    clear hB6 hA6 hb6 KH KK HB HA
    go_wp2_with fail
    clear KT KA KD
    go_region_held3 (fun w' => w'.cell? ⟨w.heap.size, 0, none⟩ = some (.int .i64 ((s).c : Nat)) ∧ w'.cell? ⟨w.heap.size, 1, none⟩ = some (.slice F1 n1 d1) ∧ w'.cell? ⟨w.heap.size, 2, none⟩ = some (.slice F2 n2 d2) ∧ w'.cell? ⟨w.heap.size + 1, 0, none⟩ = some (.int .u8 (x.kind : Nat)) ∧ w'.cell? ⟨w.heap.size + 1, 1, none⟩ = some (.int .u64 (x.key : Nat)) ∧ w'.cell? ⟨w.heap.size + 1, 2, none⟩ = some (.int .u16 (x.n : Nat))) (first | with_reducible exact kk7 | with_reducible exact kk8 | go_keep)
      (first
        | (go_at_call 24; refine (KS.out _).mono ?_; rintro e w6b ⟨rfl, hb6⟩; have hB6 := HB6.out.step ((below_drewn (Below.refl _ _) _).trans hb6); have hA6 := (hb6.block (w.heap.size + 1) (head_row HA6.out).lt).trans HA6.out; have kk7 := ld12 hB6 hA6)
        | (go_at_call 32; refine (KR.out _ hB6.low).mono ?_; rintro e w7 ⟨q1, q2, o7, he, hb7, hk7, ho7⟩; obtain ⟨Fa1, na1, da1, rfl⟩ := hk7.form1; obtain ⟨Fa2, na2, da2, rfl⟩ := hk7.form2; have hB7 := hB6.step hb7; subst he; have hA7 := (hb7.block (w.heap.size + 1) (head_row hA6).lt).trans hA6; have kk8 := ld12 hB7 hA7; obtain ⟨⟨y0, y1, y2⟩, yf0, yf1, yf2⟩ := c3_at hB7.res; have hrr := (head_row hB7.res).lt))
    have HB7 := Lib.hid hB7
    have HV := Lib.hid hk7
    have HVO := Lib.hid ho7
    have HO : Hid (Only [w.heap.size, w.heap.size + 1 + 1] w7 (((w7.setCell ⟨w.heap.size + 1 + 1, 0, none⟩ (.int .i64 ((s.resize z).c : Nat))).setCell ⟨w.heap.size + 1 + 1, 1, none⟩ (.slice Fa1 na1 da1)).setCell ⟨w.heap.size + 1 + 1, 2, none⟩ (.slice Fa2 na2 da2))) := Lib.hid ((((Only.refl _ _).setCell (by simp) _).setCell (by simp) _).setCell (by simp) _)
    go_wp2
    exact bodyPost_ret (v := .tuple #[.agg (l12C (s.resize z).c (.slice Fa1 na1 da1) (.slice Fa2 na2 da2)), o7]) (by simp [results, Try.results12, go_sem, y0, y1, y2]) rfl ⟨_, _, _, rfl, HB7.out.fin HO.out, HB7.out.st12 HO.out HV.out, HB7.out.kv HO.out HVO.out⟩
end
end Go.Proofs.Ytjfhapobbglbpaa
