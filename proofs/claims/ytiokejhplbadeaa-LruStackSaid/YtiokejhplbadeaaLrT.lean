/- Least recently used: Stack, walked. -/
import Derived.Test.YtiokejhplbadeaaLrF
namespace Go.Proofs.Ytiokejhplbadeaa
open Go Go.RowKit Go.Deep

section
variable {w : World} {v : Value} {l : List Act8}
set_option maxHeartbeats 8000000 in
set_option maxRecDepth 4000 in
theorem stack8_short (PO : Pol8Ok) (AW : ∀ w, Calls Try.prog 13 #[] w (RetB w true)) (p q : Nat) (hp : p < 256) (hq : q < 256) (ha : AV w v l) (hl : l.length ≤ 60) :
    Calls Try.prog 6 #[.agg #[.int .u8 (p : Nat), .int .u8 (q : Nat)], v] w (RetB w true) := by
  have HAW := Lib.hid AW
  have HCL : Hid (∀ W, AV W v l → Calls Try.prog 30 #[v] W fun e w' => ∃ u, e = .returned u ∧ Below W.heap.size W w' ∧ AV w' u (l.map calmA)) := Lib.hid (fun W h => rcalm_walk h hl)
  have HRUN : Hid (∀ (c : Nat) W u, c < 256 → AV W u (l.map calmA) → Calls Try.prog 20 #[.int .u8 (c : Nat), u] W (P8 W ((L8.new (1 + c % 12 : Nat)).runS (l.map calmA)))) := Lib.hid (fun c W u hc h => run8_walk PO c hc h (by simpa using hl))
  have hlk : ∀ x ∈ l, x.Ok := fun x hx => by
    obtain ⟨A, c', _, h1⟩ := ha.mem
    obtain ⟨j, hj, rfl⟩ := List.getElem_of_mem hx
    exact (h1 j hj).1
  have HOKC : Hid (∀ c : Nat, ((L8.new (1 + c % 12 : Nat)).runS (l.map calmA)).Ok) := Lib.hid (fun c => (L8.ok_new _).runS _ (fun x hx => by
    obtain ⟨y, hy, rfl⟩ := List.mem_map.1 hx
    exact calm_ok (hlk y hy)))
  obtain ⟨a, ea⟩ : ∃ a : Nat, min (p % 12) (q % 12) = a := ⟨_, rfl⟩
  obtain ⟨b, eb⟩ : ∃ b : Nat, max (p % 12) (q % 12) = b := ⟨_, rfl⟩
  have ha12 : a < 12 := by omega
  have hb12 : b < 12 := by omega
  have ham : a % 12 = a := by omega
  have hbm : b % 12 = b := by omega
  have hc1 := capI_nat (1 + a) (by omega) (by omega)
  have hc2 := capI_nat (1 + b) (by omega) (by omega)
  have HST := L8.stack l (L8.ok_new (1 + a : Nat)) (L8.ok_new (1 + b : Nat)) (by show capI _ ≤ capI _; rw [hc1, hc2]; omega) (by simp [L8.new]) hlk
  have hcc : (L8.new (1 + a : Nat)).c = 1 + a := hc1
  rw [hcc] at HST
  have R1 := HRUN.out a
  have R2 := HRUN.out b
  have O1 := HOKC.out a
  have O2 := HOKC.out b
  rw [ham] at R1 O1
  rw [hbm] at R2 O2
  obtain ⟨σ, hσ⟩ : ∃ σ, (L8.new (1 + a : Nat)).runS (l.map calmA) = σ := ⟨_, rfl⟩
  obtain ⟨τ, hτ⟩ : ∃ τ, (L8.new (1 + b : Nat)).runS (l.map calmA) = τ := ⟨_, rfl⟩
  rw [hσ] at R1 O1 HST
  rw [hτ] at R2 O2 HST
  have HR1 := Lib.hid (fun W u => R1 W u (by omega))
  have HR2 := Lib.hid (fun W u => R2 W u (by omega))
  have HO1 := Lib.hid O1
  have HO2 := Lib.hid O2
  have HLN := Lib.hid (And.intro HST.1 (And.intro O1.len_l O2.len_l))
  have HAV := Lib.hid ha
  obtain ⟨A, cap, rfl, _⟩ := ha.mem
  obtain ⟨na, hna⟩ : ∃ na, l.length = na := ⟨_, rfl⟩
  rw [hna] at hl HAV HCL ⊢
  have p0 : (0 : Int) ≤ (p : Int) := by omega
  have q0 : (0 : Int) ≤ (q : Int) := by omega
  have p2 : (p : Int) ≤ 255 := by omega
  have q2 : (q : Int) ≤ 255 := by omega
  have hlI : ¬ (60 : Int) < (na : Int) := by omega
  clear ha AW HRUN hlk HOKC hσ hτ HST R1 R2 O1 O2 hna hc1 hc2 hcc
  rcases Nat.lt_trichotomy (p % 12) (q % 12) with hpq | hpq | hpq
  · have hpa : (p : Int) % 12 = (a : Int) := by omega
    have hqb : (q : Int) % 12 = (b : Int) := by omega
    have hab : (a : Int) < (b : Int) := by omega
    clear hpq ea eb ham hbm
    go_enter Try.func6, Try.ntmps6
    go_wp2_with fail
    refine (HAW.out _).mono ?_
    rintro e w1 ⟨rfl, hb1⟩
    have HL1 := Lib.hid ((low_one w (.cells #[.int .u8 (p : Nat), .int .u8 (q : Nat)] 54)).trans (hb1.mono (by simp)))
    have HA1 := Lib.hid ((hb1.block w.heap.size (by simp)).trans (heap_alloc_new w (.cells #[.int .u8 (p : Nat), .int .u8 (q : Nat)] 54)))
    have HV1 := Lib.hid (HAV.out.below HL1.out)
    clear hb1 HAW HAV
    go_wp2_with fail
    refine (HCL.out w1 HV1.out).mono ?_
    rintro e w2 ⟨u, rfl, hb2, hv2⟩
    have HL2 := Lib.hid (HL1.out.trans (hb2.mono HL1.out.size))
    have HA2 := Lib.hid ((hb2.block w.heap.size (head_row HA1.out).lt).trans HA1.out)
    have HV2 := Lib.hid hv2
    clear hb2 hv2 HCL HL1 HA1 HV1
    generalize w.heap.size = b2 at HA2 ⊢
    obtain ⟨⟨x0, x1⟩, _⟩ := c2_at HA2.out
    go_wp2_with fail
    refine (HR1.out w2 u HV2.out).mono ?_
    rintro e w3 ⟨u3, rfl, hb3, hk3⟩
    obtain ⟨F3, n3, d3, rfl⟩ := hk3.form1
    have HL3 := Lib.hid (HL2.out.trans (hb3.mono HL2.out.size))
    have HA3 := Lib.hid ((hb3.block b2 (head_row HA2.out).lt).trans HA2.out)
    have HV3 := Lib.hid (HV2.out.below hb3)
    have HS3 := Lib.hid hk3
    clear hb3 hk3 HL2 HA2 HV2 x0 x1
    go_wp2_with fail
    refine (PO.keys HS3.out HO1.out).mono ?_
    rintro e w4 ⟨v4, rfl, hb4, hk4⟩
    have HL4 := Lib.hid (HL3.out.trans (hb4.mono HL3.out.size))
    have HA4 := Lib.hid ((hb4.block b2 (head_row HA3.out).lt).trans HA3.out)
    have HV4 := Lib.hid (HV3.out.below hb4)
    have H4 := Lib.hid (Ks.start hk4)
    clear hb4 hk4 HL3 HA3 HV3 HS3
    obtain ⟨⟨x0, x1⟩, _⟩ := c2_at HA4.out
    go_wp2_with fail
    refine (HR2.out w4 u HV4.out).mono ?_
    rintro e w5 ⟨u5, rfl, hb5, hk5⟩
    obtain ⟨F5, n5, d5, rfl⟩ := hk5.form1
    have HL5 := Lib.hid (HL4.out.trans (hb5.mono HL4.out.size))
    have HA5 := Lib.hid ((hb5.block b2 (head_row HA4.out).lt).trans HA4.out)
    have H5 := Lib.hid (H4.out.step hb5)
    have HS5 := Lib.hid hk5
    clear hb5 hk5 HL4 HA4 HV4 H4 x0 x1
    go_wp2_with fail
    refine (PO.keys HS5.out HO2.out).mono ?_
    rintro e w6 ⟨v6, rfl, hb6, hk6⟩
    have HL6 := Lib.hid (HL5.out.trans (hb6.mono HL5.out.size))
    have HA6 := Lib.hid ((hb6.block b2 (head_row HA5.out).lt).trans HA5.out)
    have H6 := Lib.hid (H5.out.add hb6 hk6)
    clear hb6 hk6 HL5 HA5 H5 HS5
    obtain ⟨⟨x0, x1⟩, _⟩ := c2_at HA6.out
    obtain ⟨Fa, ca, e4, _⟩ := (H6.out.kv (v := v4) (ks := σ.keys) (by simp)).mem
    obtain ⟨Fb, cb, e6, hcb, _⟩ := (H6.out.kv (v := v6) (ks := τ.keys) (by simp)).mem
    obtain ⟨m1, hm1⟩ : ∃ m, σ.keys.length = m := ⟨_, rfl⟩
    obtain ⟨m2, hm2⟩ : ∃ m, τ.keys.length = m := ⟨_, rfl⟩
    have HK1 := Lib.hid (H6.out.kv (v := v4) (ks := σ.keys) (by simp))
    have hkt := (H6.out.kv (v := v6) (ks := τ.keys) (by simp)).take m1 (by rw [← hm1]; unfold L8.keys; rw [HLN.out.1, List.length_take]; omega)
    have hle : m1 ≤ m2 ∧ (m1 = 1 + a ∨ m1 = m2) := by
      rw [← hm1, ← hm2]
      unfold L8.keys
      rw [HLN.out.1, List.length_take]
      omega
    have hb8 : m2 ≤ 100000000 := by rw [← hm2]; exact HLN.out.2.2
    have hcb1 : m1 ≤ cb := Nat.le_trans hle.1 (by rw [← hm2]; exact hcb)
    have hcbI : (m1 : Int) ≤ (cb : Int) := by omega
    clear hcb
    rw [hm1] at e4
    rw [hm2] at e6
    subst e4 e6
    have HK2 : Hid (KV w6 (.slice Fb m1 cb) σ.keys) := Lib.hid (by
      obtain ⟨F', c', e, h⟩ := hkt
      injection e with e1 _ e3
      subst e1 e3
      have e7 : τ.keys.take m1 = σ.keys := by
        have h1 := HLN.out.1
        have h2 : σ.l.length = m1 := hm1
        unfold L8.keys
        rw [h1]
        rw [h1, List.length_take] at h2
        rw [← h2, List.take_eq_take_iff]
        omega
      rw [e7] at h
      exact h)
    have h12 : (m1 : Int) ≤ (m2 : Int) := by omega
    have h12' : ¬ (m2 : Int) < (m1 : Int) := by omega
    have HLEN := Lib.hid hle.2
    have HL1' := Lib.hid HLN.out.2.1
    clear hkt hm1 hm2 hle H6
    go_wp2_with fail
    refine (same_walk HK1.out HK2.out HL1'.out).mono ?_
    rintro e w7 ⟨rfl, hb7⟩
    rw [decide_eq_true rfl]
    have HL7 := Lib.hid (HL6.out.trans (hb7.mono HL6.out.size))
    have HA7 := Lib.hid ((hb7.block b2 (head_row HA6.out).lt).trans HA6.out)
    clear hb7 HL6 HA6 HK1 HK2 x0 x1
    obtain ⟨⟨x0, x1⟩, _⟩ := c2_at HA7.out
    by_cases hm : m1 = 1 + a
    · have hmI : ((m1 : Int) == 1 + (a : Int)) = true := by rw [beq_iff_eq]; omega
      go_wp2
      all_goals go_ret
      all_goals exact ⟨rfl, HL7.out⟩
    · obtain rfl : m1 = m2 := HLEN.out.resolve_left hm
      have hmI : ((m1 : Int) == 1 + (a : Int)) = false := by rw [beq_eq_false_iff_ne]; omega
      clear hm
      go_wp2
      all_goals go_ret
      all_goals exact ⟨rfl, HL7.out⟩
  · obtain rfl : a = b := by omega
    have hpa : (p : Int) % 12 = (a : Int) := by omega
    have hqb : (q : Int) % 12 = (a : Int) := by omega
    clear hpq ea eb ham hbm
    go_enter Try.func6, Try.ntmps6
    go_wp2_with fail
    refine (HAW.out _).mono ?_
    rintro e w1 ⟨rfl, hb1⟩
    have HL1 := Lib.hid ((low_one w (.cells #[.int .u8 (p : Nat), .int .u8 (q : Nat)] 54)).trans (hb1.mono (by simp)))
    have HA1 := Lib.hid ((hb1.block w.heap.size (by simp)).trans (heap_alloc_new w (.cells #[.int .u8 (p : Nat), .int .u8 (q : Nat)] 54)))
    have HV1 := Lib.hid (HAV.out.below HL1.out)
    clear hb1 HAW HAV
    go_wp2_with fail
    refine (HCL.out w1 HV1.out).mono ?_
    rintro e w2 ⟨u, rfl, hb2, hv2⟩
    have HL2 := Lib.hid (HL1.out.trans (hb2.mono HL1.out.size))
    have HA2 := Lib.hid ((hb2.block w.heap.size (head_row HA1.out).lt).trans HA1.out)
    have HV2 := Lib.hid hv2
    clear hb2 hv2 HCL HL1 HA1 HV1
    generalize w.heap.size = b2 at HA2 ⊢
    obtain ⟨⟨x0, x1⟩, _⟩ := c2_at HA2.out
    go_wp2_with fail
    refine (HR1.out w2 u HV2.out).mono ?_
    rintro e w3 ⟨u3, rfl, hb3, hk3⟩
    obtain ⟨F3, n3, d3, rfl⟩ := hk3.form1
    have HL3 := Lib.hid (HL2.out.trans (hb3.mono HL2.out.size))
    have HA3 := Lib.hid ((hb3.block b2 (head_row HA2.out).lt).trans HA2.out)
    have HV3 := Lib.hid (HV2.out.below hb3)
    have HS3 := Lib.hid hk3
    clear hb3 hk3 HL2 HA2 HV2 x0 x1
    go_wp2_with fail
    refine (PO.keys HS3.out HO1.out).mono ?_
    rintro e w4 ⟨v4, rfl, hb4, hk4⟩
    have HL4 := Lib.hid (HL3.out.trans (hb4.mono HL3.out.size))
    have HA4 := Lib.hid ((hb4.block b2 (head_row HA3.out).lt).trans HA3.out)
    have HV4 := Lib.hid (HV3.out.below hb4)
    have H4 := Lib.hid (Ks.start hk4)
    clear hb4 hk4 HL3 HA3 HV3 HS3
    obtain ⟨⟨x0, x1⟩, _⟩ := c2_at HA4.out
    go_wp2_with fail
    refine (HR2.out w4 u HV4.out).mono ?_
    rintro e w5 ⟨u5, rfl, hb5, hk5⟩
    obtain ⟨F5, n5, d5, rfl⟩ := hk5.form1
    have HL5 := Lib.hid (HL4.out.trans (hb5.mono HL4.out.size))
    have HA5 := Lib.hid ((hb5.block b2 (head_row HA4.out).lt).trans HA4.out)
    have H5 := Lib.hid (H4.out.step hb5)
    have HS5 := Lib.hid hk5
    clear hb5 hk5 HL4 HA4 HV4 H4 x0 x1
    go_wp2_with fail
    refine (PO.keys HS5.out HO2.out).mono ?_
    rintro e w6 ⟨v6, rfl, hb6, hk6⟩
    have HL6 := Lib.hid (HL5.out.trans (hb6.mono HL5.out.size))
    have HA6 := Lib.hid ((hb6.block b2 (head_row HA5.out).lt).trans HA5.out)
    have H6 := Lib.hid (H5.out.add hb6 hk6)
    clear hb6 hk6 HL5 HA5 H5 HS5
    obtain ⟨⟨x0, x1⟩, _⟩ := c2_at HA6.out
    obtain ⟨Fa, ca, e4, _⟩ := (H6.out.kv (v := v4) (ks := σ.keys) (by simp)).mem
    obtain ⟨Fb, cb, e6, hcb, _⟩ := (H6.out.kv (v := v6) (ks := τ.keys) (by simp)).mem
    obtain ⟨m1, hm1⟩ : ∃ m, σ.keys.length = m := ⟨_, rfl⟩
    obtain ⟨m2, hm2⟩ : ∃ m, τ.keys.length = m := ⟨_, rfl⟩
    have HK1 := Lib.hid (H6.out.kv (v := v4) (ks := σ.keys) (by simp))
    have hkt := (H6.out.kv (v := v6) (ks := τ.keys) (by simp)).take m1 (by rw [← hm1]; unfold L8.keys; rw [HLN.out.1, List.length_take]; omega)
    have hle : m1 ≤ m2 ∧ (m1 = 1 + a ∨ m1 = m2) := by
      rw [← hm1, ← hm2]
      unfold L8.keys
      rw [HLN.out.1, List.length_take]
      omega
    have hb8 : m2 ≤ 100000000 := by rw [← hm2]; exact HLN.out.2.2
    have hcb1 : m1 ≤ cb := Nat.le_trans hle.1 (by rw [← hm2]; exact hcb)
    have hcbI : (m1 : Int) ≤ (cb : Int) := by omega
    clear hcb
    rw [hm1] at e4
    rw [hm2] at e6
    subst e4 e6
    have HK2 : Hid (KV w6 (.slice Fb m1 cb) σ.keys) := Lib.hid (by
      obtain ⟨F', c', e, h⟩ := hkt
      injection e with e1 _ e3
      subst e1 e3
      have e7 : τ.keys.take m1 = σ.keys := by
        have h1 := HLN.out.1
        have h2 : σ.l.length = m1 := hm1
        unfold L8.keys
        rw [h1]
        rw [h1, List.length_take] at h2
        rw [← h2, List.take_eq_take_iff]
        omega
      rw [e7] at h
      exact h)
    have h12 : (m1 : Int) ≤ (m2 : Int) := by omega
    have h12' : ¬ (m2 : Int) < (m1 : Int) := by omega
    have HLEN := Lib.hid hle.2
    have HL1' := Lib.hid HLN.out.2.1
    clear hkt hm1 hm2 hle H6
    go_wp2_with fail
    refine (same_walk HK1.out HK2.out HL1'.out).mono ?_
    rintro e w7 ⟨rfl, hb7⟩
    rw [decide_eq_true rfl]
    have HL7 := Lib.hid (HL6.out.trans (hb7.mono HL6.out.size))
    have HA7 := Lib.hid ((hb7.block b2 (head_row HA6.out).lt).trans HA6.out)
    clear hb7 HL6 HA6 HK1 HK2 x0 x1
    obtain ⟨⟨x0, x1⟩, _⟩ := c2_at HA7.out
    by_cases hm : m1 = 1 + a
    · have hmI : ((m1 : Int) == 1 + (a : Int)) = true := by rw [beq_iff_eq]; omega
      go_wp2
      all_goals go_ret
      all_goals exact ⟨rfl, HL7.out⟩
    · obtain rfl : m1 = m2 := HLEN.out.resolve_left hm
      have hmI : ((m1 : Int) == 1 + (a : Int)) = false := by rw [beq_eq_false_iff_ne]; omega
      clear hm
      go_wp2
      all_goals go_ret
      all_goals exact ⟨rfl, HL7.out⟩
  · have hpa : (p : Int) % 12 = (b : Int) := by omega
    have hqb : (q : Int) % 12 = (a : Int) := by omega
    have hab : (a : Int) < (b : Int) := by omega
    clear hpq ea eb ham hbm
    go_enter Try.func6, Try.ntmps6
    go_wp2_with fail
    refine (HAW.out _).mono ?_
    rintro e w1 ⟨rfl, hb1⟩
    have HL1 := Lib.hid ((low_one w (.cells #[.int .u8 (p : Nat), .int .u8 (q : Nat)] 54)).trans (hb1.mono (by simp)))
    have HA1 := Lib.hid ((hb1.block w.heap.size (by simp)).trans (heap_alloc_new w (.cells #[.int .u8 (p : Nat), .int .u8 (q : Nat)] 54)))
    have HV1 := Lib.hid (HAV.out.below HL1.out)
    clear hb1 HAW HAV
    go_wp2_with fail
    refine (HCL.out w1 HV1.out).mono ?_
    rintro e w2 ⟨u, rfl, hb2, hv2⟩
    have HL2 := Lib.hid (HL1.out.trans (hb2.mono HL1.out.size))
    have HA2 := Lib.hid ((hb2.block w.heap.size (head_row HA1.out).lt).trans HA1.out)
    have HV2 := Lib.hid hv2
    clear hb2 hv2 HCL HL1 HA1 HV1
    generalize w.heap.size = b2 at HA2 ⊢
    obtain ⟨⟨x0, x1⟩, _⟩ := c2_at HA2.out
    go_wp2_with fail
    refine (HR1.out w2 u HV2.out).mono ?_
    rintro e w3 ⟨u3, rfl, hb3, hk3⟩
    obtain ⟨F3, n3, d3, rfl⟩ := hk3.form1
    have HL3 := Lib.hid (HL2.out.trans (hb3.mono HL2.out.size))
    have HA3 := Lib.hid ((hb3.block b2 (head_row HA2.out).lt).trans HA2.out)
    have HV3 := Lib.hid (HV2.out.below hb3)
    have HS3 := Lib.hid hk3
    clear hb3 hk3 HL2 HA2 HV2 x0 x1
    go_wp2_with fail
    refine (PO.keys HS3.out HO1.out).mono ?_
    rintro e w4 ⟨v4, rfl, hb4, hk4⟩
    have HL4 := Lib.hid (HL3.out.trans (hb4.mono HL3.out.size))
    have HA4 := Lib.hid ((hb4.block b2 (head_row HA3.out).lt).trans HA3.out)
    have HV4 := Lib.hid (HV3.out.below hb4)
    have H4 := Lib.hid (Ks.start hk4)
    clear hb4 hk4 HL3 HA3 HV3 HS3
    obtain ⟨⟨x0, x1⟩, _⟩ := c2_at HA4.out
    go_wp2_with fail
    refine (HR2.out w4 u HV4.out).mono ?_
    rintro e w5 ⟨u5, rfl, hb5, hk5⟩
    obtain ⟨F5, n5, d5, rfl⟩ := hk5.form1
    have HL5 := Lib.hid (HL4.out.trans (hb5.mono HL4.out.size))
    have HA5 := Lib.hid ((hb5.block b2 (head_row HA4.out).lt).trans HA4.out)
    have H5 := Lib.hid (H4.out.step hb5)
    have HS5 := Lib.hid hk5
    clear hb5 hk5 HL4 HA4 HV4 H4 x0 x1
    go_wp2_with fail
    refine (PO.keys HS5.out HO2.out).mono ?_
    rintro e w6 ⟨v6, rfl, hb6, hk6⟩
    have HL6 := Lib.hid (HL5.out.trans (hb6.mono HL5.out.size))
    have HA6 := Lib.hid ((hb6.block b2 (head_row HA5.out).lt).trans HA5.out)
    have H6 := Lib.hid (H5.out.add hb6 hk6)
    clear hb6 hk6 HL5 HA5 H5 HS5
    obtain ⟨⟨x0, x1⟩, _⟩ := c2_at HA6.out
    obtain ⟨Fa, ca, e4, _⟩ := (H6.out.kv (v := v4) (ks := σ.keys) (by simp)).mem
    obtain ⟨Fb, cb, e6, hcb, _⟩ := (H6.out.kv (v := v6) (ks := τ.keys) (by simp)).mem
    obtain ⟨m1, hm1⟩ : ∃ m, σ.keys.length = m := ⟨_, rfl⟩
    obtain ⟨m2, hm2⟩ : ∃ m, τ.keys.length = m := ⟨_, rfl⟩
    have HK1 := Lib.hid (H6.out.kv (v := v4) (ks := σ.keys) (by simp))
    have hkt := (H6.out.kv (v := v6) (ks := τ.keys) (by simp)).take m1 (by rw [← hm1]; unfold L8.keys; rw [HLN.out.1, List.length_take]; omega)
    have hle : m1 ≤ m2 ∧ (m1 = 1 + a ∨ m1 = m2) := by
      rw [← hm1, ← hm2]
      unfold L8.keys
      rw [HLN.out.1, List.length_take]
      omega
    have hb8 : m2 ≤ 100000000 := by rw [← hm2]; exact HLN.out.2.2
    have hcb1 : m1 ≤ cb := Nat.le_trans hle.1 (by rw [← hm2]; exact hcb)
    have hcbI : (m1 : Int) ≤ (cb : Int) := by omega
    clear hcb
    rw [hm1] at e4
    rw [hm2] at e6
    subst e4 e6
    have HK2 : Hid (KV w6 (.slice Fb m1 cb) σ.keys) := Lib.hid (by
      obtain ⟨F', c', e, h⟩ := hkt
      injection e with e1 _ e3
      subst e1 e3
      have e7 : τ.keys.take m1 = σ.keys := by
        have h1 := HLN.out.1
        have h2 : σ.l.length = m1 := hm1
        unfold L8.keys
        rw [h1]
        rw [h1, List.length_take] at h2
        rw [← h2, List.take_eq_take_iff]
        omega
      rw [e7] at h
      exact h)
    have h12 : (m1 : Int) ≤ (m2 : Int) := by omega
    have h12' : ¬ (m2 : Int) < (m1 : Int) := by omega
    have HLEN := Lib.hid hle.2
    have HL1' := Lib.hid HLN.out.2.1
    clear hkt hm1 hm2 hle H6
    go_wp2_with fail
    refine (same_walk HK1.out HK2.out HL1'.out).mono ?_
    rintro e w7 ⟨rfl, hb7⟩
    rw [decide_eq_true rfl]
    have HL7 := Lib.hid (HL6.out.trans (hb7.mono HL6.out.size))
    have HA7 := Lib.hid ((hb7.block b2 (head_row HA6.out).lt).trans HA6.out)
    clear hb7 HL6 HA6 HK1 HK2 x0 x1
    obtain ⟨⟨x0, x1⟩, _⟩ := c2_at HA7.out
    by_cases hm : m1 = 1 + a
    · have hmI : ((m1 : Int) == 1 + (a : Int)) = true := by rw [beq_iff_eq]; omega
      go_wp2
      all_goals go_ret
      all_goals exact ⟨rfl, HL7.out⟩
    · obtain rfl : m1 = m2 := HLEN.out.resolve_left hm
      have hmI : ((m1 : Int) == 1 + (a : Int)) = false := by rw [beq_eq_false_iff_ne]; omega
      clear hm
      go_wp2
      all_goals go_ret
      all_goals exact ⟨rfl, HL7.out⟩
set_option maxRecDepth 4000 in
theorem stack8_walk (PO : Pol8Ok) (AW : ∀ w, Calls Try.prog 13 #[] w (RetB w true)) (p q : Nat) (hp : p < 256) (hq : q < 256) (ha : AV w v l) :
    Calls Try.prog 6 #[.agg #[.int .u8 (p : Nat), .int .u8 (q : Nat)], v] w (RetB w true) := by
  by_cases hl : l.length ≤ 60
  · exact stack8_short PO AW p q hp hq ha hl
  · obtain ⟨A, cap, rfl, _⟩ := ha.mem
    have HAW := Lib.hid AW
    obtain ⟨na, hna⟩ : ∃ na, l.length = na := ⟨_, rfl⟩
    rw [hna] at hl ⊢
    have hlI : (60 : Int) < (na : Int) := by omega
    clear ha hna AW
    go_enter Try.func6, Try.ntmps6
    go_wp2_with fail
    refine (HAW.out _).mono ?_
    rintro e w1 ⟨rfl, hb1⟩
    have HL1 := Lib.hid ((low_one w (.cells #[.int .u8 (p : Nat), .int .u8 (q : Nat)] 54)).trans (hb1.mono (by simp)))
    clear hb1
    go_wp2
    go_ret
    exact ⟨rfl, HL1.out⟩
end
end Go.Proofs.Ytiokejhplbadeaa
