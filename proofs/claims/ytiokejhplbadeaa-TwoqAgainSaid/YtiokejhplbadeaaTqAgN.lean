/- Two queues: Again, walked. -/
import Derived.Test.YtiokejhplbadeaaTqAgL
namespace Go.Proofs.Ytiokejhplbadeaa
open Go Go.RowKit Go.Deep
section
variable {w : World} {v : Value} {l : List Act8}
set_option linter.unusedSimpArgs false in
set_option maxHeartbeats 2000000 in
set_option maxRecDepth 4000 in
theorem again9_inn (PO : Pol9Ok) (AW : ∀ w, Calls Try.prog 33 #[] w (RetB w true)) (c : Nat) (hc : c < 256) (ha : AV w v l) (hl : l.length ≤ 60) (k : Nat) (hk : k < 18446744073709551616) (hin : k ∈ ((L9.new (1 + c % 12 : Nat)).runS l).keys) (hm : k ∉ ((L9.new (1 + c % 12 : Nat)).runS l).main) : Calls Try.prog 12 #[.int .u8 (c : Nat), v, .int .u64 (k : Nat)] w (RetB w true) := by
  have HAW := Lib.hid (AW w)
  have HRUN : Hid (∀ W, AV W v l → Calls Try.prog 39 #[.int .u8 (c : Nat), v] W (P9 W ((L9.new (1 + c % 12 : Nat)).runS l))) := Lib.hid (fun W h => run9_walk PO c hc h hl)
  have HOKN := Lib.hid (run9_ok ha c)
  have HAV := Lib.hid ha
  obtain ⟨A, cap, rfl, _⟩ := ha.mem
  obtain ⟨na, hna⟩ : ∃ na, l.length = na := ⟨_, rfl⟩
  rw [hna] at hl HAV HRUN ⊢
  obtain ⟨σ, hσN⟩ : ∃ σN, (L9.new (1 + c % 12 : Nat)).runS l = σN := ⟨_, rfl⟩
  rw [hσN] at HRUN HOKN hin hm
  have HKS : Hid (∀ W u1 u2 u3, St9 W σ u1 u2 u3 → Calls Try.prog 41 #[.agg (l9C σ.c u1 u2 u3)] W (RetK W σ.keys)) := Lib.hid (fun W _ _ _ h => PO.keys h HOKN.out)
  have HAD : Hid (∀ W u1 u2 u3, St9 W σ u1 u2 u3 → Calls Try.prog 45 #[.agg (l9C σ.c u1 u2 u3), .int .u64 (k : Nat)] W (P9o W (σ.adm k) (σ.admitOut k))) := Lib.hid (fun W _ _ _ h => PO.adm h HOKN.out k hk)
  have HTO : Hid (∀ W u1 u2 u3, St9 W σ u1 u2 u3 → Calls Try.prog 46 #[.agg (l9C σ.c u1 u2 u3), .int .u64 (k : Nat)] W (P9 W (σ.touch k))) := Lib.hid (fun W _ _ _ h => PO.touch h HOKN.out k hk)
  have HHA : Hid (∀ W u1 u2 u3, St9 W σ u1 u2 u3 → Calls Try.prog 42 #[.agg (l9C σ.c u1 u2 u3), .int .u64 (k : Nat)] W (RetB W (decide (k ∈ σ.keys)))) := Lib.hid (fun W _ _ _ h => PO.has h HOKN.out k hk)
  have hl1 := HOKN.out.len_inn
  have hl2 := HOKN.out.len_out
  have hl3 := HOKN.out.len_main
  have HLK := Lib.hid HOKN.out.keysLen
  have HHK := Lib.hid hk
  obtain ⟨bo, hbo⟩ : ∃ b, decide (k ∈ σ.out) = b := ⟨_, rfl⟩
  have HBO := Lib.hid hbo
  have HCA : Hid ((σ.adm k).c = σ.c) := Lib.hid (L9.admit_c _ _)
  have HCT : Hid ((σ.touch k).c = σ.c) := Lib.hid (L9.touch_c _ _)
  obtain ⟨cc, hcc⟩ : ∃ cc, σ.c = cc := ⟨_, rfl⟩
  have HCC := Lib.hid hcc
  rw [hcc] at HKS HAD HTO HHA HCA HCT
  clear ha hna AW hσN hc hk hbo hcc
  have hlI : ¬ (60 : Int) < (na : Int) := by omega
  go_enter Try.func12, Try.ntmps12
  go_wp2_with fail
  refine (HAW.out).mono ?_
  rintro e w1 ⟨rfl, hb1⟩
  have HL1 := Lib.hid hb1
  have HAV1 := Lib.hid (HAV.out.below hb1)
  clear hb1 HAW HAV
  go_wp2_with fail
  refine (HRUN.out w1 HAV1.out).mono ?_
  rintro e w2 ⟨q1, q2, q3, he, hb2, hk2⟩
  obtain ⟨Fs1, ns1, ds1, rfl⟩ := hk2.form1
  obtain ⟨Fs2, ns2, ds2, rfl⟩ := hk2.form2
  obtain ⟨Fs3, ns3, ds3, rfl⟩ := hk2.form3
  rw [HCC.out] at he
  subst he
  have hbs := Bs9.new (T := PT9) (by decide) (HL1.out.trans (hb2.mono HL1.out.size)) hk2
  rw [HCC.out] at hbs
  have HS2 := Lib.hid hbs
  clear hb2 hk2 hbs HRUN HL1 HAV1
  have KO1 := Lib.hid (rhas_walk HS2.out.st.g2 hl2 k)
  rw [HBO.out] at KO1
  have KA1 := Lib.hid (HAD.out _ _ _ _ HS2.out.st)
  go_wp2_with fail
  refine KO1.out.mono ?_
  rintro e w2b ⟨rfl, rfl⟩
  clear KO1
  go_wp2_with fail
  refine KA1.out.mono ?_
  rintro e w3 ⟨q1, q2, q3, o3, he, hb3, hk3, _⟩
  obtain ⟨Ft1, nt1, dt1, rfl⟩ := hk3.form1
  obtain ⟨Ft2, nt2, dt2, rfl⟩ := hk3.form2
  obtain ⟨Ft3, nt3, dt3, rfl⟩ := hk3.form3
  rw [HCA.out] at he
  subst he
  have hs3 := HS2.out.step hb3
  have hbt := Bs9.new (T := PT9) (by decide) hs3.low hk3
  rw [HCA.out] at hbt
  have HT3 := Lib.hid hbt
  have HS3 := Lib.hid (hs3.step (low_one w3 (.cells (l9C cc (.slice Ft1 nt1 dt1) (.slice Ft2 nt2 dt2) (.slice Ft3 nt3 dt3)) PT9)))
  have hne1 : w2.heap.size < w3.heap.size := (head_row hs3.box).lt
  have KT1 := Lib.hid (HTO.out _ _ _ _ HS3.out.st)
  have hsb := HS3.out.box
  rw [HCC.out] at hsb
  obtain ⟨⟨x0, x1, x2, x3⟩, _⟩ := c4_at hsb
  clear hb3 hk3 hbt hs3 hsb KA1 HAD HS2
  go_wp2_with fail
  refine KT1.out.mono ?_
  rintro e w4 ⟨q1, q2, q3, he, hb4, hk4⟩
  obtain ⟨Fu1, nu1, du1, rfl⟩ := hk4.form1
  obtain ⟨Fu2, nu2, du2, rfl⟩ := hk4.form2
  obtain ⟨Fu3, nu3, du3, rfl⟩ := hk4.form3
  rw [HCT.out] at he
  subst he
  have hs4 := HS3.out.step hb4
  have ht4 := HT3.out.step hb4
  have hbu := Bs9.new (T := PT9) (by decide) hs4.low hk4
  rw [HCT.out] at hbu
  have HU5 := Lib.hid hbu
  have HS5 := Lib.hid (hs4.step (low_one w4 (.cells (l9C cc (.slice Fu1 nu1 du1) (.slice Fu2 nu2 du2) (.slice Fu3 nu3 du3)) PT9)))
  have HT5 := Lib.hid (ht4.step (low_one w4 (.cells (l9C cc (.slice Fu1 nu1 du1) (.slice Fu2 nu2 du2) (.slice Fu3 nu3 du3)) PT9)))
  have hne2 : w3.heap.size < w4.heap.size := (head_row ht4.box).lt
  have KH1 := Lib.hid (HHA.out _ _ _ _ HS5.out.st)
  have hsb := HS5.out.box
  rw [HCC.out] at hsb
  clear x0 x1 x2 x3
  obtain ⟨⟨x0, x1, x2, x3⟩, _⟩ := c4_at hsb
  clear hb4 hk4 hbu hs4 ht4 hsb KT1 HTO HS3 HT3
  go_wp2_with fail
  refine KH1.out.mono ?_
  rintro e w5 ⟨rfl, hb5⟩
  have HS6 := Lib.hid (HS5.out.step hb5)
  have HT6 := Lib.hid (HT5.out.step hb5)
  have HU6 := Lib.hid (HU5.out.step hb5)
  clear hb5 KH1 HHA HS5 HT5 HU5 x0 x1 x2 x3
  generalize w2.heap.size = bs at *
  generalize w3.heap.size = bt at *
  generalize w4.heap.size = bu at *
  have hsb := HS6.out.box
  have htb := HT6.out.box
  have hub := HU6.out.box
  rw [HCC.out] at hsb
  rw [HCA.out] at htb
  rw [HCT.out] at hub
  obtain ⟨⟨x0, x1, x2, x3⟩, _⟩ := c4_at hsb
  obtain ⟨⟨y0, y1, y2, y3⟩, _⟩ := c4_at htb
  obtain ⟨⟨z0, z1, z2, z3⟩, _⟩ := c4_at hub
  clear hsb htb hub
  rw [decide_eq_true hin]
  have HIN := Lib.hid hin
  clear hin
  have KM := Lib.hid (rhas_walk HS6.out.st.g3 hl3 k)
  have HTS : Hid (∀ W, Below w5.heap.size w5 W → St9 W σ (.slice Ft1 nt1 dt1) (.slice Ft2 nt2 dt2) (.slice Ft3 nt3 dt3)) := Lib.hid (fun W hb => by have h := (HT6.out.step hb).st; rw [L9.admit_in HIN.out] at h; exact h)
  have HSS : Hid (∀ W, Below w5.heap.size w5 W → St9 W σ (.slice Fs1 ns1 ds1) (.slice Fs2 ns2 ds2) (.slice Fs3 ns3 ds3)) := Lib.hid (fun W hb => (HS6.out.step hb).st)
  rw [decide_eq_false hm] at KM
  have HUS : Hid (∀ W, Below w5.heap.size w5 W → St9 W σ (.slice Fu1 nu1 du1) (.slice Fu2 nu2 du2) (.slice Fu3 nu3 du3)) := Lib.hid (fun W hb => by have h := (HU6.out.step hb).st; rw [L9.touch_else hm] at h; exact h)
  clear hm
  have HUI : Hid (∀ W, Below w5.heap.size w5 W → KV W (.slice Fu1 nu1 du1) σ.inn) := Lib.hid (fun W hb => (HUS.out W hb).g1)
  have HUM : Hid (∀ W, Below w5.heap.size w5 W → KV W (.slice Fu3 nu3 du3) σ.main) := Lib.hid (fun W hb => (HUS.out W hb).g3)
  have HCL : Hid (∀ W : World, Below w5.heap.size w5 W → W.cell? ⟨bs, 0, none⟩ = some (.int .i64 (cc : Nat)) ∧ W.cell? ⟨bs, 1, none⟩ = some (.slice Fs1 ns1 ds1) ∧ W.cell? ⟨bs, 2, none⟩ = some (.slice Fs2 ns2 ds2) ∧ W.cell? ⟨bs, 3, none⟩ = some (.slice Fs3 ns3 ds3) ∧ W.cell? ⟨bt, 0, none⟩ = some (.int .i64 (cc : Nat)) ∧ W.cell? ⟨bt, 1, none⟩ = some (.slice Ft1 nt1 dt1) ∧ W.cell? ⟨bt, 2, none⟩ = some (.slice Ft2 nt2 dt2) ∧ W.cell? ⟨bt, 3, none⟩ = some (.slice Ft3 nt3 dt3) ∧ W.cell? ⟨bu, 1, none⟩ = some (.slice Fu1 nu1 du1) ∧ W.cell? ⟨bu, 3, none⟩ = some (.slice Fu3 nu3 du3)) := Lib.hid (fun W hb => by
    have hsb := (HS6.out.step hb).box
    have htb := (HT6.out.step hb).box
    have hub := (HU6.out.step hb).box
    rw [HCC.out] at hsb
    rw [HCA.out] at htb
    rw [HCT.out] at hub
    obtain ⟨⟨x0, x1, x2, x3⟩, _⟩ := c4_at hsb
    obtain ⟨⟨y0, y1, y2, y3⟩, _⟩ := c4_at htb
    obtain ⟨⟨z0, z1, z2, z3⟩, _⟩ := c4_at hub
    exact ⟨x0, x1, x2, x3, y0, y1, y2, y3, z1, z3⟩)
  go_wp2_with fail
  refine KM.out.mono ?_
  rintro e w5b ⟨rfl, rfl⟩
  clear KM
  go_upto_region 10 with fail
  as_aux_lemma =>
    refine wp_region_held_drew (S := fun w' => w'.cell? ⟨bs, 0, none⟩ = some (.int .i64 (cc : Nat)) ∧ w'.cell? ⟨bs, 1, none⟩ = some (.slice Fs1 ns1 ds1) ∧ w'.cell? ⟨bs, 2, none⟩ = some (.slice Fs2 ns2 ds2) ∧ w'.cell? ⟨bs, 3, none⟩ = some (.slice Fs3 ns3 ds3) ∧ w'.cell? ⟨bt, 0, none⟩ = some (.int .i64 (cc : Nat)) ∧ w'.cell? ⟨bt, 1, none⟩ = some (.slice Ft1 nt1 dt1) ∧ w'.cell? ⟨bt, 2, none⟩ = some (.slice Ft2 nt2 dt2) ∧ w'.cell? ⟨bt, 3, none⟩ = some (.slice Ft3 nt3 dt3) ∧ w'.cell? ⟨bu, 1, none⟩ = some (.slice Fu1 nu1 du1) ∧ w'.cell? ⟨bu, 3, none⟩ = some (.slice Fu3 nu3 du3)) (by kernel_rfl) (HCL.out _ (below_drewn (Below.refl _ _) 1)) (fun hHeld => ?_)
    refine wpAnyH_take (i := 0) (v := ?vb0) rfl (by as_aux_lemma => kernel_rfl) (by as_aux_lemma => kernel_rfl) (by as_aux_lemma => kernel_rfl) (fun _ _ _ h => h) (Or.inl ⟨by rfl, ?hb0⟩) hHeld ?rb0
    case hb0 =>
      intro w hSw
      try dsimp only at hSw
      go_simp
      try with_reducible rfl
    try simp only [Act.put, Array.reduceGetElem, List.setIfInBounds_toArray, List.set_cons_zero, List.set_cons_succ]
    as_aux_lemma =>
    refine wpAnyH_take (i := 1) (v := ?vb1) rfl (by as_aux_lemma => kernel_rfl) (by as_aux_lemma => kernel_rfl) (by as_aux_lemma => kernel_rfl) (fun _ _ _ h => h) (Or.inl ⟨by rfl, ?hb1⟩) hHeld ?rb1
    case hb1 =>
      intro w hSw
      try dsimp only at hSw
      go_simp
      try with_reducible rfl
    try simp only [Act.put, Array.reduceGetElem, List.setIfInBounds_toArray, List.set_cons_zero, List.set_cons_succ]
    as_aux_lemma =>
    refine wpAnyH_take (i := 2) (v := ?vb2) rfl (by as_aux_lemma => kernel_rfl) (by as_aux_lemma => kernel_rfl) (by as_aux_lemma => kernel_rfl) (fun _ _ _ h => h) (Or.inl ⟨by rfl, ?hb2⟩) hHeld ?rb2
    case hb2 =>
      intro w hSw
      try dsimp only at hSw
      go_simp
      try with_reducible rfl
    try simp only [Act.put, Array.reduceGetElem, List.setIfInBounds_toArray, List.set_cons_zero, List.set_cons_succ]
    as_aux_lemma =>
    refine wpAnyH_take (i := 3) (v := ?vb3) rfl (by as_aux_lemma => kernel_rfl) (by as_aux_lemma => kernel_rfl) (by as_aux_lemma => kernel_rfl) (fun _ _ _ h => h) (Or.inl ⟨by rfl, ?hb3⟩) hHeld ?rb3
    case hb3 =>
      intro w hSw
      try dsimp only at hSw
      go_simp
      try with_reducible rfl
    try simp only [Act.put, Array.reduceGetElem, List.setIfInBounds_toArray, List.set_cons_zero, List.set_cons_succ]
    as_aux_lemma =>
    refine wpAnyH_take (i := 4) (v := undef) rfl (by as_aux_lemma => kernel_rfl) (by as_aux_lemma => kernel_rfl) (by as_aux_lemma => kernel_rfl) (fun _ _ _ h => h) (Or.inr ⟨by rfl, rfl⟩) hHeld ?_
    try simp only [Act.put, Array.reduceGetElem, List.setIfInBounds_toArray, List.set_cons_zero, List.set_cons_succ]
    as_aux_lemma =>
    refine wpAnyH_take (i := 5) (v := undef) rfl (by as_aux_lemma => kernel_rfl) (by as_aux_lemma => kernel_rfl) (by as_aux_lemma => kernel_rfl) (fun _ _ _ h => h) (Or.inr ⟨by rfl, rfl⟩) hHeld ?_
    try simp only [Act.put, Array.reduceGetElem, List.setIfInBounds_toArray, List.set_cons_zero, List.set_cons_succ]
    as_aux_lemma =>
    refine wpAnyH_ready (rs := [6]) (by as_aux_lemma => kernel_rfl) (by simp) ?_
    refine AllReadyH.cons rfl (fun K hK => ?_) AllReadyH.nil
    go_simp
    refine hK.out _ _ ?_ (fun hHeld => ?_)
    · exact hHeld
    clear hK K
    try simp only [Act.put, Array.reduceGetElem, List.setIfInBounds_toArray, List.set_cons_zero, List.set_cons_succ]
    as_aux_lemma =>
    refine wpAnyH_take (i := 7) (v := undef) rfl (by as_aux_lemma => kernel_rfl) (by as_aux_lemma => kernel_rfl) (by as_aux_lemma => kernel_rfl) (fun _ _ _ h => h) (Or.inr ⟨by rfl, rfl⟩) hHeld ?_
    try simp only [Act.put, Array.reduceGetElem, List.setIfInBounds_toArray, List.set_cons_zero, List.set_cons_succ]
    as_aux_lemma =>
    refine wpAnyH_take (i := 8) (v := ?vb8) rfl (by as_aux_lemma => kernel_rfl) (by as_aux_lemma => kernel_rfl) (by as_aux_lemma => kernel_rfl) (fun _ _ _ h => h) (Or.inl ⟨by rfl, ?hb8⟩) hHeld ?rb8
    case hb8 =>
      intro w hSw
      try dsimp only at hSw
      go_simp
      try with_reducible rfl
    try simp only [Act.put, Array.reduceGetElem, List.setIfInBounds_toArray, List.set_cons_zero, List.set_cons_succ]
    as_aux_lemma =>
    refine wpAnyH_take (i := 9) (v := ?vb9) rfl (by as_aux_lemma => kernel_rfl) (by as_aux_lemma => kernel_rfl) (by as_aux_lemma => kernel_rfl) (fun _ _ _ h => h) (Or.inl ⟨by rfl, ?hb9⟩) hHeld ?rb9
    case hb9 =>
      intro w hSw
      try dsimp only at hSw
      go_simp
      try with_reducible rfl
    try simp only [Act.put, Array.reduceGetElem, List.setIfInBounds_toArray, List.set_cons_zero, List.set_cons_succ]
    as_aux_lemma =>
    refine wpAnyH_take (i := 10) (v := undef) rfl (by as_aux_lemma => kernel_rfl) (by as_aux_lemma => kernel_rfl) (by as_aux_lemma => kernel_rfl) (fun _ _ _ h => h) (Or.inr ⟨by rfl, rfl⟩) hHeld ?_
    try simp only [Act.put, Array.reduceGetElem, List.setIfInBounds_toArray, List.set_cons_zero, List.set_cons_succ]
    as_aux_lemma =>
    refine wpAnyH_take (i := 11) (v := undef) rfl (by as_aux_lemma => kernel_rfl) (by as_aux_lemma => kernel_rfl) (by as_aux_lemma => kernel_rfl) (fun _ _ _ h => h) (Or.inr ⟨by rfl, rfl⟩) hHeld ?_
    try simp only [Act.put, Array.reduceGetElem, List.setIfInBounds_toArray, List.set_cons_zero, List.set_cons_succ]
    as_aux_lemma =>
    refine wpAnyH_take (i := 12) (v := undef) rfl (by as_aux_lemma => kernel_rfl) (by as_aux_lemma => kernel_rfl) (by as_aux_lemma => kernel_rfl) (fun _ _ _ h => h) (Or.inr ⟨by rfl, rfl⟩) hHeld ?_
    try simp only [Act.put, Array.reduceGetElem, List.setIfInBounds_toArray, List.set_cons_zero, List.set_cons_succ]
    as_aux_lemma =>
    refine wpAnyH_take (i := 13) (v := undef) rfl (by as_aux_lemma => kernel_rfl) (by as_aux_lemma => kernel_rfl) (by as_aux_lemma => kernel_rfl) (fun _ _ _ h => h) (Or.inr ⟨by rfl, rfl⟩) hHeld ?_
    try simp only [Act.put, Array.reduceGetElem, List.setIfInBounds_toArray, List.set_cons_zero, List.set_cons_succ]
    as_aux_lemma =>
    refine wpAnyH_take (i := 14) (v := undef) rfl (by as_aux_lemma => kernel_rfl) (by as_aux_lemma => kernel_rfl) (by as_aux_lemma => kernel_rfl) (fun _ _ _ h => h) (Or.inr ⟨by rfl, rfl⟩) hHeld ?_
    try simp only [Act.put, Array.reduceGetElem, List.setIfInBounds_toArray, List.set_cons_zero, List.set_cons_succ]
    as_aux_lemma =>
    refine wpAnyH_take (i := 15) (v := undef) rfl (by as_aux_lemma => kernel_rfl) (by as_aux_lemma => kernel_rfl) (by as_aux_lemma => kernel_rfl) (fun _ _ _ h => h) (Or.inr ⟨by rfl, rfl⟩) hHeld ?_
    try simp only [Act.put, Array.reduceGetElem, List.setIfInBounds_toArray, List.set_cons_zero, List.set_cons_succ]
    as_aux_lemma =>
    refine wpAnyH_take (i := 16) (v := ?vb16) rfl (by as_aux_lemma => kernel_rfl) (by as_aux_lemma => kernel_rfl) (by as_aux_lemma => kernel_rfl) (fun _ _ _ h => h) (Or.inl ⟨by rfl, ?hb16⟩) hHeld ?rb16
    case hb16 =>
      intro w hSw
      try dsimp only at hSw
      go_simp
      try with_reducible rfl
    try simp only [Act.put, Array.reduceGetElem, List.setIfInBounds_toArray, List.set_cons_zero, List.set_cons_succ]
    as_aux_lemma =>
    refine wpAnyH_take (i := 17) (v := ?vb17) rfl (by as_aux_lemma => kernel_rfl) (by as_aux_lemma => kernel_rfl) (by as_aux_lemma => kernel_rfl) (fun _ _ _ h => h) (Or.inl ⟨by rfl, ?hb17⟩) hHeld ?rb17
    case hb17 =>
      intro w hSw
      try dsimp only at hSw
      go_simp
      try with_reducible rfl
    try simp only [Act.put, Array.reduceGetElem, List.setIfInBounds_toArray, List.set_cons_zero, List.set_cons_succ]
    as_aux_lemma =>
    refine wpAnyH_take (i := 18) (v := ?vb18) rfl (by as_aux_lemma => kernel_rfl) (by as_aux_lemma => kernel_rfl) (by as_aux_lemma => kernel_rfl) (fun _ _ _ h => h) (Or.inl ⟨by rfl, ?hb18⟩) hHeld ?rb18
    case hb18 =>
      intro w hSw
      try dsimp only at hSw
      go_simp
      try with_reducible rfl
    try simp only [Act.put, Array.reduceGetElem, List.setIfInBounds_toArray, List.set_cons_zero, List.set_cons_succ]
    as_aux_lemma =>
    refine wpAnyH_take (i := 19) (v := ?vb19) rfl (by as_aux_lemma => kernel_rfl) (by as_aux_lemma => kernel_rfl) (by as_aux_lemma => kernel_rfl) (fun _ _ _ h => h) (Or.inl ⟨by rfl, ?hb19⟩) hHeld ?rb19
    case hb19 =>
      intro w hSw
      try dsimp only at hSw
      go_simp
      try with_reducible rfl
    try simp only [Act.put, Array.reduceGetElem, List.setIfInBounds_toArray, List.set_cons_zero, List.set_cons_succ]
    as_aux_lemma =>
    refine wpAnyH_take (i := 20) (v := ?vb20) rfl (by as_aux_lemma => kernel_rfl) (by as_aux_lemma => kernel_rfl) (by as_aux_lemma => kernel_rfl) (fun _ _ _ h => h) (Or.inl ⟨by rfl, ?hb20⟩) hHeld ?rb20
    case hb20 =>
      intro w hSw
      try dsimp only at hSw
      go_simp
      try with_reducible rfl
    try simp only [Act.put, Array.reduceGetElem, List.setIfInBounds_toArray, List.set_cons_zero, List.set_cons_succ]
    as_aux_lemma =>
    refine wpAnyH_take (i := 21) (v := ?vb21) rfl (by as_aux_lemma => kernel_rfl) (by as_aux_lemma => kernel_rfl) (by as_aux_lemma => kernel_rfl) (fun _ _ _ h => h) (Or.inl ⟨by rfl, ?hb21⟩) hHeld ?rb21
    case hb21 =>
      intro w hSw
      try dsimp only at hSw
      go_simp
      try with_reducible rfl
    try simp only [Act.put, Array.reduceGetElem, List.setIfInBounds_toArray, List.set_cons_zero, List.set_cons_succ]
    as_aux_lemma =>
    refine wpAnyH_take (i := 22) (v := ?vb22) rfl (by as_aux_lemma => kernel_rfl) (by as_aux_lemma => kernel_rfl) (by as_aux_lemma => kernel_rfl) (fun _ _ _ h => h) (Or.inl ⟨by rfl, ?hb22⟩) hHeld ?rb22
    case hb22 =>
      intro w hSw
      try dsimp only at hSw
      go_simp
      try with_reducible rfl
    try simp only [Act.put, Array.reduceGetElem, List.setIfInBounds_toArray, List.set_cons_zero, List.set_cons_succ]
    as_aux_lemma =>
    refine wpAnyH_take (i := 23) (v := ?vb23) rfl (by as_aux_lemma => kernel_rfl) (by as_aux_lemma => kernel_rfl) (by as_aux_lemma => kernel_rfl) (fun _ _ _ h => h) (Or.inl ⟨by rfl, ?hb23⟩) hHeld ?rb23
    case hb23 =>
      intro w hSw
      try dsimp only at hSw
      go_simp
      try with_reducible rfl
    try simp only [Act.put, Array.reduceGetElem, List.setIfInBounds_toArray, List.set_cons_zero, List.set_cons_succ]
    as_aux_lemma =>
    refine wpAnyH_take (i := 24) (v := ?vb24) rfl (by as_aux_lemma => kernel_rfl) (by as_aux_lemma => kernel_rfl) (by as_aux_lemma => kernel_rfl) (fun _ _ _ h => h) (Or.inl ⟨by rfl, ?hb24⟩) hHeld ?rb24
    case hb24 =>
      intro w hSw
      try dsimp only at hSw
      go_simp
      try with_reducible rfl
    try simp only [Act.put, Array.reduceGetElem, List.setIfInBounds_toArray, List.set_cons_zero, List.set_cons_succ]
    as_aux_lemma =>
    refine wpAnyH_ready (rs := [25]) (by as_aux_lemma => kernel_rfl) (by simp) ?_
    refine AllReadyH.cons rfl (fun K hK => ?_) AllReadyH.nil
    try refine ite_of (by as_aux_lemma => kernel_rfl) ?_
    go_wp2_with (go_at_call 19; refine (same_walk (ks := σ.main) (js := σ.main) (HUM.out _ (below_drewn (Below.refl _ _) _)) (HSS.out _ (below_drewn (Below.refl _ _) _)).g3 hl3).mono ?_; rintro e wz ⟨rfl, hbz⟩; rw [decide_eq_true rfl]; have hBz := (below_drewn (Below.refl w5.heap.size w5) _).trans (hbz.mono (by simp)); have kkz := HCL.out wz hBz)
    refine hK.out _ _ ?_ (fun hHeld => ?_)
    · exact kkz
    clear hK K
    try simp only [Act.put, Array.reduceGetElem, List.setIfInBounds_toArray, List.set_cons_zero, List.set_cons_succ]
    as_aux_lemma =>
    refine wpAnyH_take (i := 26) (v := ?vb26) rfl (by as_aux_lemma => kernel_rfl) (by as_aux_lemma => kernel_rfl) (by as_aux_lemma => kernel_rfl) (fun _ _ _ h => h) (Or.inl ⟨by rfl, ?hb26⟩) hHeld ?rb26
    case hb26 =>
      intro w hSw
      try dsimp only at hSw
      go_simp
      try with_reducible rfl
    try simp only [Act.put, Array.reduceGetElem, List.setIfInBounds_toArray, List.set_cons_zero, List.set_cons_succ]
    as_aux_lemma =>
    refine wpAnyH_take (i := 27) (v := ?vb27) rfl (by as_aux_lemma => kernel_rfl) (by as_aux_lemma => kernel_rfl) (by as_aux_lemma => kernel_rfl) (fun _ _ _ h => h) (Or.inl ⟨by rfl, ?hb27⟩) hHeld ?rb27
    case hb27 =>
      intro w hSw
      try dsimp only at hSw
      go_simp
      try with_reducible rfl
    try simp only [Act.put, Array.reduceGetElem, List.setIfInBounds_toArray, List.set_cons_zero, List.set_cons_succ]
    as_aux_lemma =>
    refine wpAnyH_take (i := 28) (v := ?vb28) rfl (by as_aux_lemma => kernel_rfl) (by as_aux_lemma => kernel_rfl) (by as_aux_lemma => kernel_rfl) (fun _ _ _ h => h) (Or.inl ⟨by rfl, ?hb28⟩) hHeld ?rb28
    case hb28 =>
      intro w hSw
      try dsimp only at hSw
      go_simp
      try with_reducible rfl
    try simp only [Act.put, Array.reduceGetElem, List.setIfInBounds_toArray, List.set_cons_zero, List.set_cons_succ]
    as_aux_lemma =>
    refine wpAnyH_take (i := 29) (v := ?vb29) rfl (by as_aux_lemma => kernel_rfl) (by as_aux_lemma => kernel_rfl) (by as_aux_lemma => kernel_rfl) (fun _ _ _ h => h) (Or.inl ⟨by rfl, ?hb29⟩) hHeld ?rb29
    case hb29 =>
      intro w hSw
      try dsimp only at hSw
      go_simp
      try with_reducible rfl
    try simp only [Act.put, Array.reduceGetElem, List.setIfInBounds_toArray, List.set_cons_zero, List.set_cons_succ]
    as_aux_lemma =>
    refine wpAnyH_take (i := 30) (v := ?vb30) rfl (by as_aux_lemma => kernel_rfl) (by as_aux_lemma => kernel_rfl) (by as_aux_lemma => kernel_rfl) (fun _ _ _ h => h) (Or.inl ⟨by rfl, ?hb30⟩) hHeld ?rb30
    case hb30 =>
      intro w hSw
      try dsimp only at hSw
      go_simp
      try with_reducible rfl
    try simp only [Act.put, Array.reduceGetElem, List.setIfInBounds_toArray, List.set_cons_zero, List.set_cons_succ]
    as_aux_lemma =>
    refine wpAnyH_take (i := 31) (v := ?vb31) rfl (by as_aux_lemma => kernel_rfl) (by as_aux_lemma => kernel_rfl) (by as_aux_lemma => kernel_rfl) (fun _ _ _ h => h) (Or.inl ⟨by rfl, ?hb31⟩) hHeld ?rb31
    case hb31 =>
      intro w hSw
      try dsimp only at hSw
      go_simp
      try with_reducible rfl
    try simp only [Act.put, Array.reduceGetElem, List.setIfInBounds_toArray, List.set_cons_zero, List.set_cons_succ]
    as_aux_lemma =>
    refine wpAnyH_take (i := 32) (v := ?vb32) rfl (by as_aux_lemma => kernel_rfl) (by as_aux_lemma => kernel_rfl) (by as_aux_lemma => kernel_rfl) (fun _ _ _ h => h) (Or.inl ⟨by rfl, ?hb32⟩) hHeld ?rb32
    case hb32 =>
      intro w hSw
      try dsimp only at hSw
      go_simp
      try with_reducible rfl
    try simp only [Act.put, Array.reduceGetElem, List.setIfInBounds_toArray, List.set_cons_zero, List.set_cons_succ]
    as_aux_lemma =>
    refine wpAnyH_take (i := 33) (v := ?vb33) rfl (by as_aux_lemma => kernel_rfl) (by as_aux_lemma => kernel_rfl) (by as_aux_lemma => kernel_rfl) (fun _ _ _ h => h) (Or.inl ⟨by rfl, ?hb33⟩) hHeld ?rb33
    case hb33 =>
      intro w hSw
      try dsimp only at hSw
      go_simp
      try with_reducible rfl
    try simp only [Act.put, Array.reduceGetElem, List.setIfInBounds_toArray, List.set_cons_zero, List.set_cons_succ]
    as_aux_lemma =>
    refine wpAnyH_ready (rs := [34]) (by as_aux_lemma => kernel_rfl) (by simp) ?_
    refine AllReadyH.cons rfl (fun K hK => ?_) AllReadyH.nil
    try refine ite_of (by as_aux_lemma => kernel_rfl) ?_
    go_wp2_with (go_at_call 19; refine (same_walk (ks := σ.inn) (js := σ.inn) (HUI.out _ hBz) (HSS.out _ hBz).g1 hl1).mono ?_; rintro e wa ⟨rfl, hba⟩; rw [decide_eq_true rfl]; have hBa := hBz.trans (hba.mono hBz.size); have kka := HCL.out wa hBa)
    refine hK.out _ _ ?_ (fun hHeld => ?_)
    · exact kka
    clear hK K
    try simp only [Act.put, Array.reduceGetElem, List.setIfInBounds_toArray, List.set_cons_zero, List.set_cons_succ]
    as_aux_lemma =>
    refine wpAnyH_take (i := 35) (v := ?vb35) rfl (by as_aux_lemma => kernel_rfl) (by as_aux_lemma => kernel_rfl) (by as_aux_lemma => kernel_rfl) (fun _ _ _ h => h) (Or.inl ⟨by rfl, ?hb35⟩) hHeld ?rb35
    case hb35 =>
      intro w hSw
      try dsimp only at hSw
      go_simp
      try with_reducible rfl
    try simp only [Act.put, Array.reduceGetElem, List.setIfInBounds_toArray, List.set_cons_zero, List.set_cons_succ]
    as_aux_lemma =>
    refine wpAnyH_take (i := 36) (v := ?vb36) rfl (by as_aux_lemma => kernel_rfl) (by as_aux_lemma => kernel_rfl) (by as_aux_lemma => kernel_rfl) (fun _ _ _ h => h) (Or.inl ⟨by rfl, ?hb36⟩) hHeld ?rb36
    case hb36 =>
      intro w hSw
      try dsimp only at hSw
      go_simp
      try with_reducible rfl
    try simp only [Act.put, Array.reduceGetElem, List.setIfInBounds_toArray, List.set_cons_zero, List.set_cons_succ]
    as_aux_lemma =>
    refine wpAnyH_take (i := 37) (v := ?vb37) rfl (by as_aux_lemma => kernel_rfl) (by as_aux_lemma => kernel_rfl) (by as_aux_lemma => kernel_rfl) (fun _ _ _ h => h) (Or.inl ⟨by rfl, ?hb37⟩) hHeld ?rb37
    case hb37 =>
      intro w hSw
      try dsimp only at hSw
      go_simp
      try with_reducible rfl
    try simp only [Act.put, Array.reduceGetElem, List.setIfInBounds_toArray, List.set_cons_zero, List.set_cons_succ]
    as_aux_lemma =>
    refine wpAnyH_take (i := 39) (v := ?vb39) rfl (by as_aux_lemma => kernel_rfl) (by as_aux_lemma => kernel_rfl) (by as_aux_lemma => kernel_rfl) (fun _ _ _ h => h) (Or.inl ⟨by rfl, ?hb39⟩) hHeld ?rb39
    case hb39 =>
      intro w hSw
      try dsimp only at hSw
      go_simp
      try with_reducible rfl
    try simp only [Act.put, Array.reduceGetElem, List.setIfInBounds_toArray, List.set_cons_zero, List.set_cons_succ]
    as_aux_lemma =>
    refine wpAnyH_ready (rs := [38]) (by as_aux_lemma => kernel_rfl) (by simp) ?_
    refine AllReadyH.cons rfl (fun K hK => ?_) AllReadyH.nil
    try refine ite_of (by as_aux_lemma => kernel_rfl) ?_
    go_wp2_with (go_at_call 41; refine (HKS.out wa _ _ _ (HTS.out wa hBa)).mono ?_; rintro e wb ⟨vb, rfl, hbb, hkb⟩; have hBb := hBa.trans (hbb.mono hBa.size); have kkb := HCL.out wb hBb)
    refine hK.out _ _ ?_ (fun hHeld => ?_)
    · exact kkb
    clear hK K
    try simp only [Act.put, Array.reduceGetElem, List.setIfInBounds_toArray, List.set_cons_zero, List.set_cons_succ]
    as_aux_lemma =>
    refine wpAnyH_ready (rs := [40]) (by as_aux_lemma => kernel_rfl) (by simp) ?_
    refine AllReadyH.cons rfl (fun K hK => ?_) AllReadyH.nil
    try refine ite_of (by as_aux_lemma => kernel_rfl) ?_
    go_wp2_with (go_at_call 41; refine (HKS.out wb _ _ _ (HSS.out wb hBb)).mono ?_; rintro e wc ⟨vc, rfl, hbc, hkc⟩; have hBc := hBb.trans (hbc.mono hBb.size); have kkc := HCL.out wc hBc; have hkb2 := hkb.below hbc)
    refine hK.out _ _ ?_ (fun hHeld => ?_)
    · exact kkc
    clear hK K
    try simp only [Act.put, Array.reduceGetElem, List.setIfInBounds_toArray, List.set_cons_zero, List.set_cons_succ]
    as_aux_lemma =>
    refine wpAnyH_ready (rs := [41]) (by as_aux_lemma => kernel_rfl) (by simp) ?_
    refine AllReadyH.cons rfl (fun K hK => ?_) AllReadyH.nil
    try refine ite_of (by as_aux_lemma => kernel_rfl) ?_
    go_wp2_with (go_at_call 19; refine (same_walk (ks := σ.keys) (js := σ.keys) hkb2 hkc HLK.out).mono ?_; rintro e wd ⟨rfl, hbd⟩; rw [decide_eq_true rfl]; have hBd := hBc.trans (hbd.mono hBc.size); have kkd := HCL.out wd hBd)
    refine hK.out _ _ ?_ (fun hHeld => ?_)
    · exact kkd
    clear hK K
    try simp only [Act.put, Array.reduceGetElem, List.setIfInBounds_toArray, List.set_cons_zero, List.set_cons_succ]
    as_aux_lemma =>
    refine wpAnyH_take (i := 42) (v := ?vb42) rfl (by as_aux_lemma => kernel_rfl) (by as_aux_lemma => kernel_rfl) (by as_aux_lemma => kernel_rfl) (fun _ _ _ h => h) (Or.inl ⟨by rfl, ?hb42⟩) hHeld ?rb42
    case hb42 =>
      intro w hSw
      try dsimp only at hSw
      go_simp
      try with_reducible rfl
    try simp only [Act.put, Array.reduceGetElem, List.setIfInBounds_toArray, List.set_cons_zero, List.set_cons_succ]
    as_aux_lemma =>
    refine wpAnyH_take (i := 43) (v := ?vb43) rfl (by as_aux_lemma => kernel_rfl) (by as_aux_lemma => kernel_rfl) (by as_aux_lemma => kernel_rfl) (fun _ _ _ h => h) (Or.inl ⟨by rfl, ?hb43⟩) hHeld ?rb43
    case hb43 =>
      intro w hSw
      try dsimp only at hSw
      go_simp
      try with_reducible rfl
    try simp only [Act.put, Array.reduceGetElem, List.setIfInBounds_toArray, List.set_cons_zero, List.set_cons_succ]
    as_aux_lemma =>
    refine wpAnyH_done (by as_aux_lemma => kernel_rfl) ?_ _
    all_goals
      have HL := Lib.hid (HS6.out.low.trans (hBd.mono HS6.out.low.size))
      go_wp2
      go_ret
      exact ⟨rfl, HL.out⟩
end
end Go.Proofs.Ytiokejhplbadeaa
