/- Two queues: Again, walked. -/
import Derived.Test.YtiokejhplbadeaaTqAgL
namespace Go.Proofs.Ytiokejhplbadeaa
open Go Go.RowKit Go.Deep
section
variable {w : World} {v : Value} {l : List Act8}
set_option linter.unusedSimpArgs false in
set_option maxHeartbeats 2000000 in
set_option maxRecDepth 4000 in
theorem again9_main (PO : Pol9Ok) (AW : ∀ w, Calls Try.prog 33 #[] w (RetB w true)) (c : Nat) (hc : c < 256) (ha : AV w v l) (hl : l.length ≤ 60) (k : Nat) (hk : k < 18446744073709551616) (hin : k ∈ ((L9.new (1 + c % 12 : Nat)).runS l).keys) (hm : k ∈ ((L9.new (1 + c % 12 : Nat)).runS l).main) : Calls Try.prog 12 #[.int .u8 (c : Nat), v, .int .u64 (k : Nat)] w (RetB w true) := by
  have HAW := Lib.hid (AW w)
  have HRUN : Hid (∀ W, AV W v l → Calls Try.prog 39 #[.int .u8 (c : Nat), v] W (P9 W ((L9.new (1 + c % 12 : Nat)).runS l))) := Lib.hid (fun W h => run9_walk PO c hc h hl)
  have HOKN := Lib.hid (run9_ok ha c)
  have HAV := Lib.hid ha
  obtain ⟨A, cap, rfl, _⟩ := ha.mem
  obtain ⟨na, hna⟩ : ∃ na, l.length = na := ⟨_, rfl⟩
  rw [hna] at hl HAV HRUN ⊢
  obtain ⟨σ, hσN⟩ : ∃ σN, (L9.new (1 + c % 12 : Nat)).runS l = σN := ⟨_, rfl⟩
  rw [hσN] at HRUN HOKN hin hm
  have HKS : Hid (∀ W u1 u2 u3, St9 W σ u1 u2 u3 → Calls Try.prog 41 #[.agg (l9C σ.c u1 u2 u3)] W (RetK W σ.keys)) := Lib.hid (fun W _ _ _ h => PO.keys h HOKN.out)
  have HAD : Hid (∀ W u1 u2 u3, St9 W σ u1 u2 u3 → Calls Try.prog 45 #[.agg (l9C σ.c u1 u2 u3), .int .u64 (k : Nat)] W (P9o W (σ.adm k) (σ.admitOut k))) := Lib.hid (fun W _ _ _ h => PO.adm h HOKN.out k hk)
  have HTO : Hid (∀ W u1 u2 u3, St9 W σ u1 u2 u3 → Calls Try.prog 46 #[.agg (l9C σ.c u1 u2 u3), .int .u64 (k : Nat)] W (P9 W (σ.touch k))) := Lib.hid (fun W _ _ _ h => PO.touch h HOKN.out k hk)
  have HHA : Hid (∀ W u1 u2 u3, St9 W σ u1 u2 u3 → Calls Try.prog 42 #[.agg (l9C σ.c u1 u2 u3), .int .u64 (k : Nat)] W (RetB W (decide (k ∈ σ.keys)))) := Lib.hid (fun W _ _ _ h => PO.has h HOKN.out k hk)
  have hl1 := HOKN.out.len_inn
  have hl2 := HOKN.out.len_out
  have hl3 := HOKN.out.len_main
  have HLK := Lib.hid HOKN.out.keysLen
  have HHK := Lib.hid hk
  obtain ⟨bo, hbo⟩ : ∃ b, decide (k ∈ σ.out) = b := ⟨_, rfl⟩
  have HBO := Lib.hid hbo
  have HCA : Hid ((σ.adm k).c = σ.c) := Lib.hid (L9.admit_c _ _)
  have HCT : Hid ((σ.touch k).c = σ.c) := Lib.hid (L9.touch_c _ _)
  obtain ⟨cc, hcc⟩ : ∃ cc, σ.c = cc := ⟨_, rfl⟩
  have HCC := Lib.hid hcc
  rw [hcc] at HKS HAD HTO HHA HCA HCT
  clear ha hna AW hσN hc hk hbo hcc
  have hlI : ¬ (60 : Int) < (na : Int) := by omega
  go_enter Try.func12, Try.ntmps12
  go_wp2_with fail
  refine (HAW.out).mono ?_
  rintro e w1 ⟨rfl, hb1⟩
  have HL1 := Lib.hid hb1
  have HAV1 := Lib.hid (HAV.out.below hb1)
  clear hb1 HAW HAV
  go_wp2_with fail
  refine (HRUN.out w1 HAV1.out).mono ?_
  rintro e w2 ⟨q1, q2, q3, he, hb2, hk2⟩
  obtain ⟨Fs1, ns1, ds1, rfl⟩ := hk2.form1
  obtain ⟨Fs2, ns2, ds2, rfl⟩ := hk2.form2
  obtain ⟨Fs3, ns3, ds3, rfl⟩ := hk2.form3
  rw [HCC.out] at he
  subst he
  have hbs := Bs9.new (T := PT9) (by decide) (HL1.out.trans (hb2.mono HL1.out.size)) hk2
  rw [HCC.out] at hbs
  have HS2 := Lib.hid hbs
  clear hb2 hk2 hbs HRUN HL1 HAV1
  have KO1 := Lib.hid (rhas_walk HS2.out.st.g2 hl2 k)
  rw [HBO.out] at KO1
  have KA1 := Lib.hid (HAD.out _ _ _ _ HS2.out.st)
  go_wp2_with fail
  refine KO1.out.mono ?_
  rintro e w2b ⟨rfl, rfl⟩
  clear KO1
  go_wp2_with fail
  refine KA1.out.mono ?_
  rintro e w3 ⟨q1, q2, q3, o3, he, hb3, hk3, _⟩
  obtain ⟨Ft1, nt1, dt1, rfl⟩ := hk3.form1
  obtain ⟨Ft2, nt2, dt2, rfl⟩ := hk3.form2
  obtain ⟨Ft3, nt3, dt3, rfl⟩ := hk3.form3
  rw [HCA.out] at he
  subst he
  have hs3 := HS2.out.step hb3
  have hbt := Bs9.new (T := PT9) (by decide) hs3.low hk3
  rw [HCA.out] at hbt
  have HT3 := Lib.hid hbt
  have HS3 := Lib.hid (hs3.step (low_one w3 (.cells (l9C cc (.slice Ft1 nt1 dt1) (.slice Ft2 nt2 dt2) (.slice Ft3 nt3 dt3)) PT9)))
  have hne1 : w2.heap.size < w3.heap.size := (head_row hs3.box).lt
  have KT1 := Lib.hid (HTO.out _ _ _ _ HS3.out.st)
  have hsb := HS3.out.box
  rw [HCC.out] at hsb
  obtain ⟨⟨x0, x1, x2, x3⟩, _⟩ := c4_at hsb
  clear hb3 hk3 hbt hs3 hsb KA1 HAD HS2
  go_wp2_with fail
  refine KT1.out.mono ?_
  rintro e w4 ⟨q1, q2, q3, he, hb4, hk4⟩
  obtain ⟨Fu1, nu1, du1, rfl⟩ := hk4.form1
  obtain ⟨Fu2, nu2, du2, rfl⟩ := hk4.form2
  obtain ⟨Fu3, nu3, du3, rfl⟩ := hk4.form3
  rw [HCT.out] at he
  subst he
  have hs4 := HS3.out.step hb4
  have ht4 := HT3.out.step hb4
  have hbu := Bs9.new (T := PT9) (by decide) hs4.low hk4
  rw [HCT.out] at hbu
  have HU5 := Lib.hid hbu
  have HS5 := Lib.hid (hs4.step (low_one w4 (.cells (l9C cc (.slice Fu1 nu1 du1) (.slice Fu2 nu2 du2) (.slice Fu3 nu3 du3)) PT9)))
  have HT5 := Lib.hid (ht4.step (low_one w4 (.cells (l9C cc (.slice Fu1 nu1 du1) (.slice Fu2 nu2 du2) (.slice Fu3 nu3 du3)) PT9)))
  have hne2 : w3.heap.size < w4.heap.size := (head_row ht4.box).lt
  have KH1 := Lib.hid (HHA.out _ _ _ _ HS5.out.st)
  have hsb := HS5.out.box
  rw [HCC.out] at hsb
  clear x0 x1 x2 x3
  obtain ⟨⟨x0, x1, x2, x3⟩, _⟩ := c4_at hsb
  clear hb4 hk4 hbu hs4 ht4 hsb KT1 HTO HS3 HT3
  go_wp2_with fail
  refine KH1.out.mono ?_
  rintro e w5 ⟨rfl, hb5⟩
  have HS6 := Lib.hid (HS5.out.step hb5)
  have HT6 := Lib.hid (HT5.out.step hb5)
  have HU6 := Lib.hid (HU5.out.step hb5)
  clear hb5 KH1 HHA HS5 HT5 HU5 x0 x1 x2 x3
  generalize w2.heap.size = bs at *
  generalize w3.heap.size = bt at *
  generalize w4.heap.size = bu at *
  have hsb := HS6.out.box
  have htb := HT6.out.box
  have hub := HU6.out.box
  rw [HCC.out] at hsb
  rw [HCA.out] at htb
  rw [HCT.out] at hub
  obtain ⟨⟨x0, x1, x2, x3⟩, _⟩ := c4_at hsb
  obtain ⟨⟨y0, y1, y2, y3⟩, _⟩ := c4_at htb
  obtain ⟨⟨z0, z1, z2, z3⟩, _⟩ := c4_at hub
  clear hsb htb hub
  rw [decide_eq_true hin]
  have HIN := Lib.hid hin
  clear hin
  have KM := Lib.hid (rhas_walk HS6.out.st.g3 hl3 k)
  have HTS : Hid (∀ W, Below w5.heap.size w5 W → St9 W σ (.slice Ft1 nt1 dt1) (.slice Ft2 nt2 dt2) (.slice Ft3 nt3 dt3)) := Lib.hid (fun W hb => by have h := (HT6.out.step hb).st; rw [L9.admit_in HIN.out] at h; exact h)
  have HSS : Hid (∀ W, Below w5.heap.size w5 W → St9 W σ (.slice Fs1 ns1 ds1) (.slice Fs2 ns2 ds2) (.slice Fs3 ns3 ds3)) := Lib.hid (fun W hb => (HS6.out.step hb).st)
  rw [decide_eq_true hm] at KM
  have HUS : Hid (∀ W, Below w5.heap.size w5 W → St9 W ⟨σ.c, σ.inn, σ.out, k :: wo k σ.main⟩ (.slice Fu1 nu1 du1) (.slice Fu2 nu2 du2) (.slice Fu3 nu3 du3)) := Lib.hid (fun W hb => by have h := (HU6.out.step hb).st; rw [L9.touch_main hm] at h; exact h)
  clear hm
  have HUI : Hid (∀ W, Below w5.heap.size w5 W → KV W (.slice Fu1 nu1 du1) σ.inn) := Lib.hid (fun W hb => (HUS.out W hb).g1)
  obtain ⟨Fx, cx, ex, _, _, hx⟩ := (HUS.out w5 (Below.refl _ _)).g3.mem
  obtain ⟨ad, rfl, hadb, q0⟩ := hx 0 (by simp)
  injection ex with ex1 ex2 ex3
  have q1 : w5.cell? ad = some (.int .u64 (k : Nat)) := by simpa [Addr.add] using q0
  obtain ⟨nn, hnn⟩ : ∃ nn, (wo k σ.main).length = nn := ⟨_, rfl⟩
  have hnnI : (nn : Int) ≤ 100000000 := by have := wo_len k σ.main; omega
  have hn0 : (0 : Int) < (nn : Int) + 1 := by omega
  have hn1 : (0 : Nat) < nn + 1 := by omega
  rw [List.length_cons, hnn] at ex2
  subst ex1 ex2 ex3
  have HCL : Hid (∀ W : World, Below w5.heap.size w5 W → W.cell? ⟨bs, 0, none⟩ = some (.int .i64 (cc : Nat)) ∧ W.cell? ⟨bs, 1, none⟩ = some (.slice Fs1 ns1 ds1) ∧ W.cell? ⟨bs, 2, none⟩ = some (.slice Fs2 ns2 ds2) ∧ W.cell? ⟨bs, 3, none⟩ = some (.slice Fs3 ns3 ds3) ∧ W.cell? ⟨bt, 0, none⟩ = some (.int .i64 (cc : Nat)) ∧ W.cell? ⟨bt, 1, none⟩ = some (.slice Ft1 nt1 dt1) ∧ W.cell? ⟨bt, 2, none⟩ = some (.slice Ft2 nt2 dt2) ∧ W.cell? ⟨bt, 3, none⟩ = some (.slice Ft3 nt3 dt3) ∧ W.cell? ⟨bu, 1, none⟩ = some (.slice Fu1 nu1 du1) ∧ W.cell? ⟨bu, 3, none⟩ = some (.slice (some ad) (nn + 1) du3) ∧ W.cell? ad = some (.int .u64 (k : Nat))) := Lib.hid (fun W hb => by
    have hsb := (HS6.out.step hb).box
    have htb := (HT6.out.step hb).box
    have hub := (HU6.out.step hb).box
    rw [HCC.out] at hsb
    rw [HCA.out] at htb
    rw [HCT.out] at hub
    obtain ⟨⟨x0, x1, x2, x3⟩, _⟩ := c4_at hsb
    obtain ⟨⟨y0, y1, y2, y3⟩, _⟩ := c4_at htb
    obtain ⟨⟨z0, z1, z2, z3⟩, _⟩ := c4_at hub
    exact ⟨x0, x1, x2, x3, y0, y1, y2, y3, z1, z3, (hb.cell (p := ad) hadb).trans q1⟩)
  clear hx q0 hnn
  go_wp2_with fail
  refine KM.out.mono ?_
  rintro e w5b ⟨rfl, rfl⟩
  clear KM
  go_upto_region 10 with fail
  as_aux_lemma =>
    refine wp_region_held_drew (S := fun w' => w'.cell? ⟨bs, 0, none⟩ = some (.int .i64 (cc : Nat)) ∧ w'.cell? ⟨bs, 1, none⟩ = some (.slice Fs1 ns1 ds1) ∧ w'.cell? ⟨bs, 2, none⟩ = some (.slice Fs2 ns2 ds2) ∧ w'.cell? ⟨bs, 3, none⟩ = some (.slice Fs3 ns3 ds3) ∧ w'.cell? ⟨bt, 0, none⟩ = some (.int .i64 (cc : Nat)) ∧ w'.cell? ⟨bt, 1, none⟩ = some (.slice Ft1 nt1 dt1) ∧ w'.cell? ⟨bt, 2, none⟩ = some (.slice Ft2 nt2 dt2) ∧ w'.cell? ⟨bt, 3, none⟩ = some (.slice Ft3 nt3 dt3) ∧ w'.cell? ⟨bu, 1, none⟩ = some (.slice Fu1 nu1 du1) ∧ w'.cell? ⟨bu, 3, none⟩ = some (.slice (some ad) (nn + 1) du3) ∧ w'.cell? ad = some (.int .u64 (k : Nat))) (by kernel_rfl) (HCL.out _ (below_drewn (Below.refl _ _) 1)) (fun hHeld => ?_)
    refine wpAnyH_take (i := 0) (v := ?va0) rfl (by as_aux_lemma => kernel_rfl) (by as_aux_lemma => kernel_rfl) (by as_aux_lemma => kernel_rfl) (fun _ _ _ h => h) (Or.inl ⟨by rfl, ?ha0⟩) hHeld ?ra0
    case ha0 =>
      intro w hSw
      try dsimp only at hSw
      go_simp
      try with_reducible rfl
    try simp only [Act.put, Array.reduceGetElem, List.setIfInBounds_toArray, List.set_cons_zero, List.set_cons_succ]
    as_aux_lemma =>
    refine wpAnyH_take (i := 1) (v := ?va1) rfl (by as_aux_lemma => kernel_rfl) (by as_aux_lemma => kernel_rfl) (by as_aux_lemma => kernel_rfl) (fun _ _ _ h => h) (Or.inl ⟨by rfl, ?ha1⟩) hHeld ?ra1
    case ha1 =>
      intro w hSw
      try dsimp only at hSw
      go_simp
      try with_reducible rfl
    try simp only [Act.put, Array.reduceGetElem, List.setIfInBounds_toArray, List.set_cons_zero, List.set_cons_succ]
    as_aux_lemma =>
    refine wpAnyH_take (i := 2) (v := ?va2) rfl (by as_aux_lemma => kernel_rfl) (by as_aux_lemma => kernel_rfl) (by as_aux_lemma => kernel_rfl) (fun _ _ _ h => h) (Or.inl ⟨by rfl, ?ha2⟩) hHeld ?ra2
    case ha2 =>
      intro w hSw
      try dsimp only at hSw
      go_simp
      try with_reducible rfl
    try simp only [Act.put, Array.reduceGetElem, List.setIfInBounds_toArray, List.set_cons_zero, List.set_cons_succ]
    as_aux_lemma =>
    refine wpAnyH_take (i := 3) (v := ?va3) rfl (by as_aux_lemma => kernel_rfl) (by as_aux_lemma => kernel_rfl) (by as_aux_lemma => kernel_rfl) (fun _ _ _ h => h) (Or.inl ⟨by rfl, ?ha3⟩) hHeld ?ra3
    case ha3 =>
      intro w hSw
      try dsimp only at hSw
      go_simp
      try with_reducible rfl
    try simp only [Act.put, Array.reduceGetElem, List.setIfInBounds_toArray, List.set_cons_zero, List.set_cons_succ]
    as_aux_lemma =>
    refine wpAnyH_take (i := 4) (v := ?va4) rfl (by as_aux_lemma => kernel_rfl) (by as_aux_lemma => kernel_rfl) (by as_aux_lemma => kernel_rfl) (fun _ _ _ h => h) (Or.inl ⟨by rfl, ?ha4⟩) hHeld ?ra4
    case ha4 =>
      intro w hSw
      try dsimp only at hSw
      go_simp
      try with_reducible rfl
    try simp only [Act.put, Array.reduceGetElem, List.setIfInBounds_toArray, List.set_cons_zero, List.set_cons_succ]
    as_aux_lemma =>
    refine wpAnyH_take (i := 5) (v := ?va5) rfl (by as_aux_lemma => kernel_rfl) (by as_aux_lemma => kernel_rfl) (by as_aux_lemma => kernel_rfl) (fun _ _ _ h => h) (Or.inl ⟨by rfl, ?ha5⟩) hHeld ?ra5
    case ha5 =>
      intro w hSw
      try dsimp only at hSw
      go_simp
      try with_reducible rfl
    try simp only [Act.put, Array.reduceGetElem, List.setIfInBounds_toArray, List.set_cons_zero, List.set_cons_succ]
    as_aux_lemma =>
    refine wpAnyH_take (i := 6) (v := ?va6) rfl (by as_aux_lemma => kernel_rfl) (by as_aux_lemma => kernel_rfl) (by as_aux_lemma => kernel_rfl) (fun _ _ _ h => h) (Or.inl ⟨by rfl, ?ha6⟩) hHeld ?ra6
    case ha6 =>
      intro w hSw
      try dsimp only at hSw
      go_simp
      try with_reducible rfl
    try simp only [Act.put, Array.reduceGetElem, List.setIfInBounds_toArray, List.set_cons_zero, List.set_cons_succ]
    as_aux_lemma =>
    refine wpAnyH_take (i := 7) (v := ?va7) rfl (by as_aux_lemma => kernel_rfl) (by as_aux_lemma => kernel_rfl) (by as_aux_lemma => kernel_rfl) (fun _ _ _ h => h) (Or.inl ⟨by rfl, ?ha7⟩) hHeld ?ra7
    case ha7 =>
      intro w hSw
      try dsimp only at hSw
      go_simp
      try with_reducible rfl
    try simp only [Act.put, Array.reduceGetElem, List.setIfInBounds_toArray, List.set_cons_zero, List.set_cons_succ]
    as_aux_lemma =>
    refine wpAnyH_take (i := 8) (v := ?va8) rfl (by as_aux_lemma => kernel_rfl) (by as_aux_lemma => kernel_rfl) (by as_aux_lemma => kernel_rfl) (fun _ _ _ h => h) (Or.inl ⟨by rfl, ?ha8⟩) hHeld ?ra8
    case ha8 =>
      intro w hSw
      try dsimp only at hSw
      go_simp
      try with_reducible rfl
    try simp only [Act.put, Array.reduceGetElem, List.setIfInBounds_toArray, List.set_cons_zero, List.set_cons_succ]
    as_aux_lemma =>
    refine wpAnyH_take (i := 9) (v := ?va9) rfl (by as_aux_lemma => kernel_rfl) (by as_aux_lemma => kernel_rfl) (by as_aux_lemma => kernel_rfl) (fun _ _ _ h => h) (Or.inl ⟨by rfl, ?ha9⟩) hHeld ?ra9
    case ha9 =>
      intro w hSw
      try dsimp only at hSw
      go_simp
      try with_reducible rfl
    try simp only [Act.put, Array.reduceGetElem, List.setIfInBounds_toArray, List.set_cons_zero, List.set_cons_succ]
    as_aux_lemma =>
    refine wpAnyH_take (i := 10) (v := ?va10) rfl (by as_aux_lemma => kernel_rfl) (by as_aux_lemma => kernel_rfl) (by as_aux_lemma => kernel_rfl) (fun _ _ _ h => h) (Or.inl ⟨by rfl, ?ha10⟩) hHeld ?ra10
    case ha10 =>
      intro w hSw
      try dsimp only at hSw
      go_simp
      try with_reducible rfl
    try simp only [Act.put, Array.reduceGetElem, List.setIfInBounds_toArray, List.set_cons_zero, List.set_cons_succ]
    as_aux_lemma =>
    refine wpAnyH_take (i := 11) (v := ?va11) rfl (by as_aux_lemma => kernel_rfl) (by as_aux_lemma => kernel_rfl) (by as_aux_lemma => kernel_rfl) (fun _ _ _ h => h) (Or.inl ⟨by rfl, ?ha11⟩) hHeld ?ra11
    case ha11 =>
      intro w hSw
      try dsimp only at hSw
      go_simp
      try with_reducible rfl
    try simp only [Act.put, Array.reduceGetElem, List.setIfInBounds_toArray, List.set_cons_zero, List.set_cons_succ]
    as_aux_lemma =>
    refine wpAnyH_take (i := 12) (v := ?va12) rfl (by as_aux_lemma => kernel_rfl) (by as_aux_lemma => kernel_rfl) (by as_aux_lemma => kernel_rfl) (fun _ _ _ h => h) (Or.inl ⟨by rfl, ?ha12⟩) hHeld ?ra12
    case ha12 =>
      intro w hSw
      try dsimp only at hSw
      go_simp
      try with_reducible rfl
    try simp only [Act.put, Array.reduceGetElem, List.setIfInBounds_toArray, List.set_cons_zero, List.set_cons_succ]
    as_aux_lemma =>
    refine wpAnyH_take (i := 13) (v := ?va13) rfl (by as_aux_lemma => kernel_rfl) (by as_aux_lemma => kernel_rfl) (by as_aux_lemma => kernel_rfl) (fun _ _ _ h => h) (Or.inl ⟨by rfl, ?ha13⟩) hHeld ?ra13
    case ha13 =>
      intro w hSw
      try dsimp only at hSw
      go_simp
      try with_reducible rfl
    try simp only [Act.put, Array.reduceGetElem, List.setIfInBounds_toArray, List.set_cons_zero, List.set_cons_succ]
    as_aux_lemma =>
    refine wpAnyH_take (i := 14) (v := ?va14) rfl (by as_aux_lemma => kernel_rfl) (by as_aux_lemma => kernel_rfl) (by as_aux_lemma => kernel_rfl) (fun _ _ _ h => h) (Or.inl ⟨by rfl, ?ha14⟩) hHeld ?ra14
    case ha14 =>
      intro w hSw
      try dsimp only at hSw
      go_simp
      try with_reducible rfl
    try simp only [Act.put, Array.reduceGetElem, List.setIfInBounds_toArray, List.set_cons_zero, List.set_cons_succ]
    as_aux_lemma =>
    refine wpAnyH_take (i := 15) (v := ?va15) rfl (by as_aux_lemma => kernel_rfl) (by as_aux_lemma => kernel_rfl) (by as_aux_lemma => kernel_rfl) (fun _ _ _ h => h) (Or.inl ⟨by rfl, ?ha15⟩) hHeld ?ra15
    case ha15 =>
      intro w hSw
      try dsimp only at hSw
      go_simp
      try with_reducible rfl
    try simp only [Act.put, Array.reduceGetElem, List.setIfInBounds_toArray, List.set_cons_zero, List.set_cons_succ]
    as_aux_lemma =>
    refine wpAnyH_take (i := 16) (v := ?va16) rfl (by as_aux_lemma => kernel_rfl) (by as_aux_lemma => kernel_rfl) (by as_aux_lemma => kernel_rfl) (fun _ _ _ h => h) (Or.inl ⟨by rfl, ?ha16⟩) hHeld ?ra16
    case ha16 =>
      intro w hSw
      try dsimp only at hSw
      go_simp
      try with_reducible rfl
    try simp only [Act.put, Array.reduceGetElem, List.setIfInBounds_toArray, List.set_cons_zero, List.set_cons_succ]
    as_aux_lemma =>
    refine wpAnyH_take (i := 17) (v := ?va17) rfl (by as_aux_lemma => kernel_rfl) (by as_aux_lemma => kernel_rfl) (by as_aux_lemma => kernel_rfl) (fun _ _ _ h => h) (Or.inl ⟨by rfl, ?ha17⟩) hHeld ?ra17
    case ha17 =>
      intro w hSw
      try dsimp only at hSw
      go_simp
      try with_reducible rfl
    try simp only [Act.put, Array.reduceGetElem, List.setIfInBounds_toArray, List.set_cons_zero, List.set_cons_succ]
    as_aux_lemma =>
    refine wpAnyH_take (i := 18) (v := undef) rfl (by as_aux_lemma => kernel_rfl) (by as_aux_lemma => kernel_rfl) (by as_aux_lemma => kernel_rfl) (fun _ _ _ h => h) (Or.inr ⟨by rfl, rfl⟩) hHeld ?_
    try simp only [Act.put, Array.reduceGetElem, List.setIfInBounds_toArray, List.set_cons_zero, List.set_cons_succ]
    as_aux_lemma =>
    refine wpAnyH_take (i := 19) (v := undef) rfl (by as_aux_lemma => kernel_rfl) (by as_aux_lemma => kernel_rfl) (by as_aux_lemma => kernel_rfl) (fun _ _ _ h => h) (Or.inr ⟨by rfl, rfl⟩) hHeld ?_
    try simp only [Act.put, Array.reduceGetElem, List.setIfInBounds_toArray, List.set_cons_zero, List.set_cons_succ]
    as_aux_lemma =>
    refine wpAnyH_take (i := 20) (v := undef) rfl (by as_aux_lemma => kernel_rfl) (by as_aux_lemma => kernel_rfl) (by as_aux_lemma => kernel_rfl) (fun _ _ _ h => h) (Or.inr ⟨by rfl, rfl⟩) hHeld ?_
    try simp only [Act.put, Array.reduceGetElem, List.setIfInBounds_toArray, List.set_cons_zero, List.set_cons_succ]
    as_aux_lemma =>
    refine wpAnyH_take (i := 21) (v := undef) rfl (by as_aux_lemma => kernel_rfl) (by as_aux_lemma => kernel_rfl) (by as_aux_lemma => kernel_rfl) (fun _ _ _ h => h) (Or.inr ⟨by rfl, rfl⟩) hHeld ?_
    try simp only [Act.put, Array.reduceGetElem, List.setIfInBounds_toArray, List.set_cons_zero, List.set_cons_succ]
    as_aux_lemma =>
    refine wpAnyH_take (i := 22) (v := undef) rfl (by as_aux_lemma => kernel_rfl) (by as_aux_lemma => kernel_rfl) (by as_aux_lemma => kernel_rfl) (fun _ _ _ h => h) (Or.inr ⟨by rfl, rfl⟩) hHeld ?_
    try simp only [Act.put, Array.reduceGetElem, List.setIfInBounds_toArray, List.set_cons_zero, List.set_cons_succ]
    as_aux_lemma =>
    refine wpAnyH_take (i := 23) (v := undef) rfl (by as_aux_lemma => kernel_rfl) (by as_aux_lemma => kernel_rfl) (by as_aux_lemma => kernel_rfl) (fun _ _ _ h => h) (Or.inr ⟨by rfl, rfl⟩) hHeld ?_
    try simp only [Act.put, Array.reduceGetElem, List.setIfInBounds_toArray, List.set_cons_zero, List.set_cons_succ]
    as_aux_lemma =>
    refine wpAnyH_take (i := 24) (v := undef) rfl (by as_aux_lemma => kernel_rfl) (by as_aux_lemma => kernel_rfl) (by as_aux_lemma => kernel_rfl) (fun _ _ _ h => h) (Or.inr ⟨by rfl, rfl⟩) hHeld ?_
    try simp only [Act.put, Array.reduceGetElem, List.setIfInBounds_toArray, List.set_cons_zero, List.set_cons_succ]
    as_aux_lemma =>
    refine wpAnyH_ready (rs := [25]) (by as_aux_lemma => kernel_rfl) (by simp) ?_
    refine AllReadyH.cons rfl (fun K hK => ?_) AllReadyH.nil
    go_simp
    refine hK.out _ _ ?_ (fun hHeld => ?_)
    · exact hHeld
    clear hK K
    try simp only [Act.put, Array.reduceGetElem, List.setIfInBounds_toArray, List.set_cons_zero, List.set_cons_succ]
    as_aux_lemma =>
    refine wpAnyH_take (i := 26) (v := undef) rfl (by as_aux_lemma => kernel_rfl) (by as_aux_lemma => kernel_rfl) (by as_aux_lemma => kernel_rfl) (fun _ _ _ h => h) (Or.inr ⟨by rfl, rfl⟩) hHeld ?_
    try simp only [Act.put, Array.reduceGetElem, List.setIfInBounds_toArray, List.set_cons_zero, List.set_cons_succ]
    as_aux_lemma =>
    refine wpAnyH_take (i := 27) (v := ?va27) rfl (by as_aux_lemma => kernel_rfl) (by as_aux_lemma => kernel_rfl) (by as_aux_lemma => kernel_rfl) (fun _ _ _ h => h) (Or.inl ⟨by rfl, ?ha27⟩) hHeld ?ra27
    case ha27 =>
      intro w hSw
      try dsimp only at hSw
      go_simp
      try with_reducible rfl
    try simp only [Act.put, Array.reduceGetElem, List.setIfInBounds_toArray, List.set_cons_zero, List.set_cons_succ]
    as_aux_lemma =>
    refine wpAnyH_take (i := 28) (v := ?va28) rfl (by as_aux_lemma => kernel_rfl) (by as_aux_lemma => kernel_rfl) (by as_aux_lemma => kernel_rfl) (fun _ _ _ h => h) (Or.inl ⟨by rfl, ?ha28⟩) hHeld ?ra28
    case ha28 =>
      intro w hSw
      try dsimp only at hSw
      go_simp
      try with_reducible rfl
    try simp only [Act.put, Array.reduceGetElem, List.setIfInBounds_toArray, List.set_cons_zero, List.set_cons_succ]
    as_aux_lemma =>
    refine wpAnyH_take (i := 29) (v := ?va29) rfl (by as_aux_lemma => kernel_rfl) (by as_aux_lemma => kernel_rfl) (by as_aux_lemma => kernel_rfl) (fun _ _ _ h => h) (Or.inl ⟨by rfl, ?ha29⟩) hHeld ?ra29
    case ha29 =>
      intro w hSw
      try dsimp only at hSw
      go_simp
      try with_reducible rfl
    try simp only [Act.put, Array.reduceGetElem, List.setIfInBounds_toArray, List.set_cons_zero, List.set_cons_succ]
    as_aux_lemma =>
    refine wpAnyH_take (i := 30) (v := ?va30) rfl (by as_aux_lemma => kernel_rfl) (by as_aux_lemma => kernel_rfl) (by as_aux_lemma => kernel_rfl) (fun _ _ _ h => h) (Or.inl ⟨by rfl, ?ha30⟩) hHeld ?ra30
    case ha30 =>
      intro w hSw
      try dsimp only at hSw
      go_simp
      try with_reducible rfl
    try simp only [Act.put, Array.reduceGetElem, List.setIfInBounds_toArray, List.set_cons_zero, List.set_cons_succ]
    as_aux_lemma =>
    refine wpAnyH_take (i := 31) (v := ?va31) rfl (by as_aux_lemma => kernel_rfl) (by as_aux_lemma => kernel_rfl) (by as_aux_lemma => kernel_rfl) (fun _ _ _ h => h) (Or.inl ⟨by rfl, ?ha31⟩) hHeld ?ra31
    case ha31 =>
      intro w hSw
      try dsimp only at hSw
      go_simp
      try with_reducible rfl
    try simp only [Act.put, Array.reduceGetElem, List.setIfInBounds_toArray, List.set_cons_zero, List.set_cons_succ]
    as_aux_lemma =>
    refine wpAnyH_take (i := 32) (v := ?va32) rfl (by as_aux_lemma => kernel_rfl) (by as_aux_lemma => kernel_rfl) (by as_aux_lemma => kernel_rfl) (fun _ _ _ h => h) (Or.inl ⟨by rfl, ?ha32⟩) hHeld ?ra32
    case ha32 =>
      intro w hSw
      try dsimp only at hSw
      go_simp
      try with_reducible rfl
    try simp only [Act.put, Array.reduceGetElem, List.setIfInBounds_toArray, List.set_cons_zero, List.set_cons_succ]
    as_aux_lemma =>
    refine wpAnyH_take (i := 33) (v := ?va33) rfl (by as_aux_lemma => kernel_rfl) (by as_aux_lemma => kernel_rfl) (by as_aux_lemma => kernel_rfl) (fun _ _ _ h => h) (Or.inl ⟨by rfl, ?ha33⟩) hHeld ?ra33
    case ha33 =>
      intro w hSw
      try dsimp only at hSw
      go_simp
      try with_reducible rfl
    try simp only [Act.put, Array.reduceGetElem, List.setIfInBounds_toArray, List.set_cons_zero, List.set_cons_succ]
    as_aux_lemma =>
    refine wpAnyH_ready (rs := [34]) (by as_aux_lemma => kernel_rfl) (by simp) ?_
    refine AllReadyH.cons rfl (fun K hK => ?_) AllReadyH.nil
    try refine ite_of (by as_aux_lemma => kernel_rfl) ?_
    go_wp2_with (go_at_call 19; refine (same_walk (ks := σ.inn) (js := σ.inn) (HUI.out _ (below_drewn (Below.refl _ _) _)) (HSS.out _ (below_drewn (Below.refl _ _) _)).g1 hl1).mono ?_; rintro e wa ⟨rfl, hba⟩; rw [decide_eq_true rfl]; have hBa := (below_drewn (Below.refl w5.heap.size w5) _).trans (hba.mono (by simp)); have kka := HCL.out wa hBa)
    refine hK.out _ _ ?_ (fun hHeld => ?_)
    · exact kka
    clear hK K
    try simp only [Act.put, Array.reduceGetElem, List.setIfInBounds_toArray, List.set_cons_zero, List.set_cons_succ]
    as_aux_lemma =>
    refine wpAnyH_take (i := 35) (v := ?va35) rfl (by as_aux_lemma => kernel_rfl) (by as_aux_lemma => kernel_rfl) (by as_aux_lemma => kernel_rfl) (fun _ _ _ h => h) (Or.inl ⟨by rfl, ?ha35⟩) hHeld ?ra35
    case ha35 =>
      intro w hSw
      try dsimp only at hSw
      go_simp
      try with_reducible rfl
    try simp only [Act.put, Array.reduceGetElem, List.setIfInBounds_toArray, List.set_cons_zero, List.set_cons_succ]
    as_aux_lemma =>
    refine wpAnyH_take (i := 36) (v := ?va36) rfl (by as_aux_lemma => kernel_rfl) (by as_aux_lemma => kernel_rfl) (by as_aux_lemma => kernel_rfl) (fun _ _ _ h => h) (Or.inl ⟨by rfl, ?ha36⟩) hHeld ?ra36
    case ha36 =>
      intro w hSw
      try dsimp only at hSw
      go_simp
      try with_reducible rfl
    try simp only [Act.put, Array.reduceGetElem, List.setIfInBounds_toArray, List.set_cons_zero, List.set_cons_succ]
    as_aux_lemma =>
    refine wpAnyH_take (i := 37) (v := ?va37) rfl (by as_aux_lemma => kernel_rfl) (by as_aux_lemma => kernel_rfl) (by as_aux_lemma => kernel_rfl) (fun _ _ _ h => h) (Or.inl ⟨by rfl, ?ha37⟩) hHeld ?ra37
    case ha37 =>
      intro w hSw
      try dsimp only at hSw
      go_simp
      try with_reducible rfl
    try simp only [Act.put, Array.reduceGetElem, List.setIfInBounds_toArray, List.set_cons_zero, List.set_cons_succ]
    as_aux_lemma =>
    refine wpAnyH_take (i := 39) (v := ?va39) rfl (by as_aux_lemma => kernel_rfl) (by as_aux_lemma => kernel_rfl) (by as_aux_lemma => kernel_rfl) (fun _ _ _ h => h) (Or.inl ⟨by rfl, ?ha39⟩) hHeld ?ra39
    case ha39 =>
      intro w hSw
      try dsimp only at hSw
      go_simp
      try with_reducible rfl
    try simp only [Act.put, Array.reduceGetElem, List.setIfInBounds_toArray, List.set_cons_zero, List.set_cons_succ]
    as_aux_lemma =>
    refine wpAnyH_ready (rs := [38]) (by as_aux_lemma => kernel_rfl) (by simp) ?_
    refine AllReadyH.cons rfl (fun K hK => ?_) AllReadyH.nil
    try refine ite_of (by as_aux_lemma => kernel_rfl) ?_
    go_wp2_with (go_at_call 41; refine (HKS.out wa _ _ _ (HTS.out wa hBa)).mono ?_; rintro e wb ⟨vb, rfl, hbb, hkb⟩; have hBb := hBa.trans (hbb.mono hBa.size); have kkb := HCL.out wb hBb)
    refine hK.out _ _ ?_ (fun hHeld => ?_)
    · exact kkb
    clear hK K
    try simp only [Act.put, Array.reduceGetElem, List.setIfInBounds_toArray, List.set_cons_zero, List.set_cons_succ]
    as_aux_lemma =>
    refine wpAnyH_ready (rs := [40]) (by as_aux_lemma => kernel_rfl) (by simp) ?_
    refine AllReadyH.cons rfl (fun K hK => ?_) AllReadyH.nil
    try refine ite_of (by as_aux_lemma => kernel_rfl) ?_
    go_wp2_with (go_at_call 41; refine (HKS.out wb _ _ _ (HSS.out wb hBb)).mono ?_; rintro e wc ⟨vc, rfl, hbc, hkc⟩; have hBc := hBb.trans (hbc.mono hBb.size); have kkc := HCL.out wc hBc; have hkb2 := hkb.below hbc)
    refine hK.out _ _ ?_ (fun hHeld => ?_)
    · exact kkc
    clear hK K
    try simp only [Act.put, Array.reduceGetElem, List.setIfInBounds_toArray, List.set_cons_zero, List.set_cons_succ]
    as_aux_lemma =>
    refine wpAnyH_ready (rs := [41]) (by as_aux_lemma => kernel_rfl) (by simp) ?_
    refine AllReadyH.cons rfl (fun K hK => ?_) AllReadyH.nil
    try refine ite_of (by as_aux_lemma => kernel_rfl) ?_
    go_wp2_with (go_at_call 19; refine (same_walk (ks := σ.keys) (js := σ.keys) hkb2 hkc HLK.out).mono ?_; rintro e wd ⟨rfl, hbd⟩; rw [decide_eq_true rfl]; have hBd := hBc.trans (hbd.mono hBc.size); have kkd := HCL.out wd hBd)
    refine hK.out _ _ ?_ (fun hHeld => ?_)
    · exact kkd
    clear hK K
    try simp only [Act.put, Array.reduceGetElem, List.setIfInBounds_toArray, List.set_cons_zero, List.set_cons_succ]
    as_aux_lemma =>
    refine wpAnyH_take (i := 42) (v := ?va42) rfl (by as_aux_lemma => kernel_rfl) (by as_aux_lemma => kernel_rfl) (by as_aux_lemma => kernel_rfl) (fun _ _ _ h => h) (Or.inl ⟨by rfl, ?ha42⟩) hHeld ?ra42
    case ha42 =>
      intro w hSw
      try dsimp only at hSw
      go_simp
      try with_reducible rfl
    try simp only [Act.put, Array.reduceGetElem, List.setIfInBounds_toArray, List.set_cons_zero, List.set_cons_succ]
    as_aux_lemma =>
    refine wpAnyH_take (i := 43) (v := ?va43) rfl (by as_aux_lemma => kernel_rfl) (by as_aux_lemma => kernel_rfl) (by as_aux_lemma => kernel_rfl) (fun _ _ _ h => h) (Or.inl ⟨by rfl, ?ha43⟩) hHeld ?ra43
    case ha43 =>
      intro w hSw
      try dsimp only at hSw
      go_simp
      try with_reducible rfl
    try simp only [Act.put, Array.reduceGetElem, List.setIfInBounds_toArray, List.set_cons_zero, List.set_cons_succ]
    as_aux_lemma =>
    refine wpAnyH_done (by as_aux_lemma => kernel_rfl) ?_ _
    all_goals
      have HL := Lib.hid (HS6.out.low.trans (hBd.mono HS6.out.low.size))
      go_wp2
      go_ret
      exact ⟨rfl, HL.out⟩
end
end Go.Proofs.Ytiokejhplbadeaa
