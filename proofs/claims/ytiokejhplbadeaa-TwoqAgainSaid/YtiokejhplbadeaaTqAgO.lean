/- Two queues: Again, walked. -/
import Derived.Test.YtiokejhplbadeaaTqAgL
namespace Go.Proofs.Ytiokejhplbadeaa
open Go Go.RowKit Go.Deep
section
variable {w : World} {v : Value} {l : List Act8}
set_option linter.unusedSimpArgs false in
set_option maxHeartbeats 2000000 in
set_option maxRecDepth 4000 in
theorem again9_new (PO : Pol9Ok) (AW : ∀ w, Calls Try.prog 33 #[] w (RetB w true)) (c : Nat) (hc : c < 256) (ha : AV w v l) (hl : l.length ≤ 60) (k : Nat) (hk : k < 18446744073709551616) (hin : k ∉ ((L9.new (1 + c % 12 : Nat)).runS l).keys) (hno : k ∉ ((L9.new (1 + c % 12 : Nat)).runS l).out) : Calls Try.prog 12 #[.int .u8 (c : Nat), v, .int .u64 (k : Nat)] w (RetB w true) := by
  have HAW := Lib.hid (AW w)
  have HRUN : Hid (∀ W, AV W v l → Calls Try.prog 39 #[.int .u8 (c : Nat), v] W (P9 W ((L9.new (1 + c % 12 : Nat)).runS l))) := Lib.hid (fun W h => run9_walk PO c hc h hl)
  have HOKN := Lib.hid (run9_ok ha c)
  have HAV := Lib.hid ha
  obtain ⟨A, cap, rfl, _⟩ := ha.mem
  obtain ⟨na, hna⟩ : ∃ na, l.length = na := ⟨_, rfl⟩
  rw [hna] at hl HAV HRUN ⊢
  obtain ⟨σ, hσN⟩ : ∃ σN, (L9.new (1 + c % 12 : Nat)).runS l = σN := ⟨_, rfl⟩
  rw [hσN] at HRUN HOKN hin hno
  have HKS : Hid (∀ W u1 u2 u3, St9 W σ u1 u2 u3 → Calls Try.prog 41 #[.agg (l9C σ.c u1 u2 u3)] W (RetK W σ.keys)) := Lib.hid (fun W _ _ _ h => PO.keys h HOKN.out)
  have HAD : Hid (∀ W u1 u2 u3, St9 W σ u1 u2 u3 → Calls Try.prog 45 #[.agg (l9C σ.c u1 u2 u3), .int .u64 (k : Nat)] W (P9o W (σ.adm k) (σ.admitOut k))) := Lib.hid (fun W _ _ _ h => PO.adm h HOKN.out k hk)
  have HTO : Hid (∀ W u1 u2 u3, St9 W σ u1 u2 u3 → Calls Try.prog 46 #[.agg (l9C σ.c u1 u2 u3), .int .u64 (k : Nat)] W (P9 W (σ.touch k))) := Lib.hid (fun W _ _ _ h => PO.touch h HOKN.out k hk)
  have HHA : Hid (∀ W u1 u2 u3, St9 W σ u1 u2 u3 → Calls Try.prog 42 #[.agg (l9C σ.c u1 u2 u3), .int .u64 (k : Nat)] W (RetB W (decide (k ∈ σ.keys)))) := Lib.hid (fun W _ _ _ h => PO.has h HOKN.out k hk)
  have hl1 := HOKN.out.len_inn
  have hl2 := HOKN.out.len_out
  have hl3 := HOKN.out.len_main
  have HLK := Lib.hid HOKN.out.keysLen
  have HHK := Lib.hid hk
  obtain ⟨bo, hbo⟩ : ∃ b, decide (k ∈ σ.out) = b := ⟨_, rfl⟩
  obtain rfl : bo = false := by rw [← hbo]; exact decide_eq_false hno
  clear hno
  have HBO := Lib.hid hbo
  have HCA : Hid ((σ.adm k).c = σ.c) := Lib.hid (L9.admit_c _ _)
  have HCT : Hid ((σ.touch k).c = σ.c) := Lib.hid (L9.touch_c _ _)
  obtain ⟨cc, hcc⟩ : ∃ cc, σ.c = cc := ⟨_, rfl⟩
  have HCC := Lib.hid hcc
  rw [hcc] at HKS HAD HTO HHA HCA HCT
  clear ha hna AW hσN hc hk hbo hcc
  have hlI : ¬ (60 : Int) < (na : Int) := by omega
  go_enter Try.func12, Try.ntmps12
  go_wp2_with fail
  refine (HAW.out).mono ?_
  rintro e w1 ⟨rfl, hb1⟩
  have HL1 := Lib.hid hb1
  have HAV1 := Lib.hid (HAV.out.below hb1)
  clear hb1 HAW HAV
  go_wp2_with fail
  refine (HRUN.out w1 HAV1.out).mono ?_
  rintro e w2 ⟨q1, q2, q3, he, hb2, hk2⟩
  obtain ⟨Fs1, ns1, ds1, rfl⟩ := hk2.form1
  obtain ⟨Fs2, ns2, ds2, rfl⟩ := hk2.form2
  obtain ⟨Fs3, ns3, ds3, rfl⟩ := hk2.form3
  rw [HCC.out] at he
  subst he
  have hbs := Bs9.new (T := PT9) (by decide) (HL1.out.trans (hb2.mono HL1.out.size)) hk2
  rw [HCC.out] at hbs
  have HS2 := Lib.hid hbs
  clear hb2 hk2 hbs HRUN HL1 HAV1
  have KO1 := Lib.hid (rhas_walk HS2.out.st.g2 hl2 k)
  rw [HBO.out] at KO1
  have KA1 := Lib.hid (HAD.out _ _ _ _ HS2.out.st)
  go_wp2_with fail
  refine KO1.out.mono ?_
  rintro e w2b ⟨rfl, rfl⟩
  clear KO1
  go_wp2_with fail
  refine KA1.out.mono ?_
  rintro e w3 ⟨q1, q2, q3, o3, he, hb3, hk3, _⟩
  obtain ⟨Ft1, nt1, dt1, rfl⟩ := hk3.form1
  obtain ⟨Ft2, nt2, dt2, rfl⟩ := hk3.form2
  obtain ⟨Ft3, nt3, dt3, rfl⟩ := hk3.form3
  rw [HCA.out] at he
  subst he
  have hs3 := HS2.out.step hb3
  have hbt := Bs9.new (T := PT9) (by decide) hs3.low hk3
  rw [HCA.out] at hbt
  have HT3 := Lib.hid hbt
  have HS3 := Lib.hid (hs3.step (low_one w3 (.cells (l9C cc (.slice Ft1 nt1 dt1) (.slice Ft2 nt2 dt2) (.slice Ft3 nt3 dt3)) PT9)))
  have hne1 : w2.heap.size < w3.heap.size := (head_row hs3.box).lt
  have KT1 := Lib.hid (HTO.out _ _ _ _ HS3.out.st)
  have hsb := HS3.out.box
  rw [HCC.out] at hsb
  obtain ⟨⟨x0, x1, x2, x3⟩, _⟩ := c4_at hsb
  clear hb3 hk3 hbt hs3 hsb KA1 HAD HS2
  go_wp2_with fail
  refine KT1.out.mono ?_
  rintro e w4 ⟨q1, q2, q3, he, hb4, hk4⟩
  obtain ⟨Fu1, nu1, du1, rfl⟩ := hk4.form1
  obtain ⟨Fu2, nu2, du2, rfl⟩ := hk4.form2
  obtain ⟨Fu3, nu3, du3, rfl⟩ := hk4.form3
  rw [HCT.out] at he
  subst he
  have hs4 := HS3.out.step hb4
  have ht4 := HT3.out.step hb4
  have hbu := Bs9.new (T := PT9) (by decide) hs4.low hk4
  rw [HCT.out] at hbu
  have HU5 := Lib.hid hbu
  have HS5 := Lib.hid (hs4.step (low_one w4 (.cells (l9C cc (.slice Fu1 nu1 du1) (.slice Fu2 nu2 du2) (.slice Fu3 nu3 du3)) PT9)))
  have HT5 := Lib.hid (ht4.step (low_one w4 (.cells (l9C cc (.slice Fu1 nu1 du1) (.slice Fu2 nu2 du2) (.slice Fu3 nu3 du3)) PT9)))
  have hne2 : w3.heap.size < w4.heap.size := (head_row ht4.box).lt
  have KH1 := Lib.hid (HHA.out _ _ _ _ HS5.out.st)
  have hsb := HS5.out.box
  rw [HCC.out] at hsb
  clear x0 x1 x2 x3
  obtain ⟨⟨x0, x1, x2, x3⟩, _⟩ := c4_at hsb
  clear hb4 hk4 hbu hs4 ht4 hsb KT1 HTO HS3 HT3
  go_wp2_with fail
  refine KH1.out.mono ?_
  rintro e w5 ⟨rfl, hb5⟩
  have HS6 := Lib.hid (HS5.out.step hb5)
  have HT6 := Lib.hid (HT5.out.step hb5)
  have HU6 := Lib.hid (HU5.out.step hb5)
  clear hb5 KH1 HHA HS5 HT5 HU5 x0 x1 x2 x3
  generalize w2.heap.size = bs at *
  generalize w3.heap.size = bt at *
  generalize w4.heap.size = bu at *
  have hsb := HS6.out.box
  have htb := HT6.out.box
  have hub := HU6.out.box
  rw [HCC.out] at hsb
  rw [HCA.out] at htb
  rw [HCT.out] at hub
  obtain ⟨⟨x0, x1, x2, x3⟩, _⟩ := c4_at hsb
  obtain ⟨⟨y0, y1, y2, y3⟩, _⟩ := c4_at htb
  obtain ⟨⟨z0, z1, z2, z3⟩, _⟩ := c4_at hub
  clear hsb htb hub
  rw [decide_eq_false hin]
  have hno : k ∉ σ.out := of_decide_eq_false HBO.out
  obtain ⟨ti, tO, tm, ea, hnm, hlm⟩ := L9.admit_new HOKN.out HHK.out hin hno
  have hts := HT6.out.st
  rw [ea] at hts
  have hus := HU6.out.st
  rw [L9.touch_else (L9.not_main hin)] at hus
  have KM := Lib.hid (rhas_walk hts.g3 hlm k)
  rw [decide_eq_false hnm] at KM
  have hti : KV w5 (.slice Ft1 nt1 dt1) (k :: ti) := hts.g1
  have ks := same_walk (ks := σ.main) (js := σ.main) hus.g3 HS6.out.st.g3 hl3
  rw [decide_eq_true rfl] at ks
  have KS := Lib.hid ks
  have HLO := Lib.hid HS6.out.low
  clear hin hno ea hnm hlm hts hus HBO HCA HCT HCC HOKN HS6 HT6 HU6 ks
  obtain ⟨Fx, cx, ex, _, _, hx⟩ := hti.mem
  obtain ⟨ad, rfl, hadb, q0⟩ := hx 0 (by simp)
  injection ex with ex1 ex2 ex3
  have q1 : w5.cell? ad = some (.int .u64 (k : Nat)) := by simpa [Addr.add] using q0
  obtain ⟨nn, hnn⟩ : ∃ nn, ti.length = nn := ⟨_, rfl⟩
  rw [List.length_cons, hnn] at ex2
  subst ex1 ex2 ex3
  clear hx q0 hnn hadb
  clear hti
  go_wp2_with fail
  refine KM.out.mono ?_
  rintro e w5b ⟨rfl, rfl⟩
  clear KM
  go_wp2_with fail
  refine KS.out.mono ?_
  rintro e w6 ⟨rfl, hb6⟩
  have HL := Lib.hid (HLO.out.trans (hb6.mono HLO.out.size))
  clear hb6 KS
  go_wp2
  go_ret
  exact ⟨rfl, HL.out⟩
set_option linter.unusedSimpArgs false in
set_option maxHeartbeats 2000000 in
set_option maxRecDepth 4000 in
theorem again9_again (PO : Pol9Ok) (AW : ∀ w, Calls Try.prog 33 #[] w (RetB w true)) (c : Nat) (hc : c < 256) (ha : AV w v l) (hl : l.length ≤ 60) (k : Nat) (hk : k < 18446744073709551616) (hin : k ∉ ((L9.new (1 + c % 12 : Nat)).runS l).keys) (hno : k ∈ ((L9.new (1 + c % 12 : Nat)).runS l).out) : Calls Try.prog 12 #[.int .u8 (c : Nat), v, .int .u64 (k : Nat)] w (RetB w true) := by
  have HAW := Lib.hid (AW w)
  have HRUN : Hid (∀ W, AV W v l → Calls Try.prog 39 #[.int .u8 (c : Nat), v] W (P9 W ((L9.new (1 + c % 12 : Nat)).runS l))) := Lib.hid (fun W h => run9_walk PO c hc h hl)
  have HOKN := Lib.hid (run9_ok ha c)
  have HAV := Lib.hid ha
  obtain ⟨A, cap, rfl, _⟩ := ha.mem
  obtain ⟨na, hna⟩ : ∃ na, l.length = na := ⟨_, rfl⟩
  rw [hna] at hl HAV HRUN ⊢
  obtain ⟨σ, hσN⟩ : ∃ σN, (L9.new (1 + c % 12 : Nat)).runS l = σN := ⟨_, rfl⟩
  rw [hσN] at HRUN HOKN hin hno
  have HKS : Hid (∀ W u1 u2 u3, St9 W σ u1 u2 u3 → Calls Try.prog 41 #[.agg (l9C σ.c u1 u2 u3)] W (RetK W σ.keys)) := Lib.hid (fun W _ _ _ h => PO.keys h HOKN.out)
  have HAD : Hid (∀ W u1 u2 u3, St9 W σ u1 u2 u3 → Calls Try.prog 45 #[.agg (l9C σ.c u1 u2 u3), .int .u64 (k : Nat)] W (P9o W (σ.adm k) (σ.admitOut k))) := Lib.hid (fun W _ _ _ h => PO.adm h HOKN.out k hk)
  have HTO : Hid (∀ W u1 u2 u3, St9 W σ u1 u2 u3 → Calls Try.prog 46 #[.agg (l9C σ.c u1 u2 u3), .int .u64 (k : Nat)] W (P9 W (σ.touch k))) := Lib.hid (fun W _ _ _ h => PO.touch h HOKN.out k hk)
  have HHA : Hid (∀ W u1 u2 u3, St9 W σ u1 u2 u3 → Calls Try.prog 42 #[.agg (l9C σ.c u1 u2 u3), .int .u64 (k : Nat)] W (RetB W (decide (k ∈ σ.keys)))) := Lib.hid (fun W _ _ _ h => PO.has h HOKN.out k hk)
  have hl1 := HOKN.out.len_inn
  have hl2 := HOKN.out.len_out
  have hl3 := HOKN.out.len_main
  have HLK := Lib.hid HOKN.out.keysLen
  have HHK := Lib.hid hk
  obtain ⟨bo, hbo⟩ : ∃ b, decide (k ∈ σ.out) = b := ⟨_, rfl⟩
  obtain rfl : bo = true := by rw [← hbo]; exact decide_eq_true hno
  clear hno
  have HBO := Lib.hid hbo
  have HCA : Hid ((σ.adm k).c = σ.c) := Lib.hid (L9.admit_c _ _)
  have HCT : Hid ((σ.touch k).c = σ.c) := Lib.hid (L9.touch_c _ _)
  obtain ⟨cc, hcc⟩ : ∃ cc, σ.c = cc := ⟨_, rfl⟩
  have HCC := Lib.hid hcc
  rw [hcc] at HKS HAD HTO HHA HCA HCT
  clear ha hna AW hσN hc hk hbo hcc
  have hlI : ¬ (60 : Int) < (na : Int) := by omega
  go_enter Try.func12, Try.ntmps12
  go_wp2_with fail
  refine (HAW.out).mono ?_
  rintro e w1 ⟨rfl, hb1⟩
  have HL1 := Lib.hid hb1
  have HAV1 := Lib.hid (HAV.out.below hb1)
  clear hb1 HAW HAV
  go_wp2_with fail
  refine (HRUN.out w1 HAV1.out).mono ?_
  rintro e w2 ⟨q1, q2, q3, he, hb2, hk2⟩
  obtain ⟨Fs1, ns1, ds1, rfl⟩ := hk2.form1
  obtain ⟨Fs2, ns2, ds2, rfl⟩ := hk2.form2
  obtain ⟨Fs3, ns3, ds3, rfl⟩ := hk2.form3
  rw [HCC.out] at he
  subst he
  have hbs := Bs9.new (T := PT9) (by decide) (HL1.out.trans (hb2.mono HL1.out.size)) hk2
  rw [HCC.out] at hbs
  have HS2 := Lib.hid hbs
  clear hb2 hk2 hbs HRUN HL1 HAV1
  have KO1 := Lib.hid (rhas_walk HS2.out.st.g2 hl2 k)
  rw [HBO.out] at KO1
  have KA1 := Lib.hid (HAD.out _ _ _ _ HS2.out.st)
  go_wp2_with fail
  refine KO1.out.mono ?_
  rintro e w2b ⟨rfl, rfl⟩
  clear KO1
  go_wp2_with fail
  refine KA1.out.mono ?_
  rintro e w3 ⟨q1, q2, q3, o3, he, hb3, hk3, _⟩
  obtain ⟨Ft1, nt1, dt1, rfl⟩ := hk3.form1
  obtain ⟨Ft2, nt2, dt2, rfl⟩ := hk3.form2
  obtain ⟨Ft3, nt3, dt3, rfl⟩ := hk3.form3
  rw [HCA.out] at he
  subst he
  have hs3 := HS2.out.step hb3
  have hbt := Bs9.new (T := PT9) (by decide) hs3.low hk3
  rw [HCA.out] at hbt
  have HT3 := Lib.hid hbt
  have HS3 := Lib.hid (hs3.step (low_one w3 (.cells (l9C cc (.slice Ft1 nt1 dt1) (.slice Ft2 nt2 dt2) (.slice Ft3 nt3 dt3)) PT9)))
  have hne1 : w2.heap.size < w3.heap.size := (head_row hs3.box).lt
  have KT1 := Lib.hid (HTO.out _ _ _ _ HS3.out.st)
  have hsb := HS3.out.box
  rw [HCC.out] at hsb
  obtain ⟨⟨x0, x1, x2, x3⟩, _⟩ := c4_at hsb
  clear hb3 hk3 hbt hs3 hsb KA1 HAD HS2
  go_wp2_with fail
  refine KT1.out.mono ?_
  rintro e w4 ⟨q1, q2, q3, he, hb4, hk4⟩
  obtain ⟨Fu1, nu1, du1, rfl⟩ := hk4.form1
  obtain ⟨Fu2, nu2, du2, rfl⟩ := hk4.form2
  obtain ⟨Fu3, nu3, du3, rfl⟩ := hk4.form3
  rw [HCT.out] at he
  subst he
  have hs4 := HS3.out.step hb4
  have ht4 := HT3.out.step hb4
  have hbu := Bs9.new (T := PT9) (by decide) hs4.low hk4
  rw [HCT.out] at hbu
  have HU5 := Lib.hid hbu
  have HS5 := Lib.hid (hs4.step (low_one w4 (.cells (l9C cc (.slice Fu1 nu1 du1) (.slice Fu2 nu2 du2) (.slice Fu3 nu3 du3)) PT9)))
  have HT5 := Lib.hid (ht4.step (low_one w4 (.cells (l9C cc (.slice Fu1 nu1 du1) (.slice Fu2 nu2 du2) (.slice Fu3 nu3 du3)) PT9)))
  have hne2 : w3.heap.size < w4.heap.size := (head_row ht4.box).lt
  have KH1 := Lib.hid (HHA.out _ _ _ _ HS5.out.st)
  have hsb := HS5.out.box
  rw [HCC.out] at hsb
  clear x0 x1 x2 x3
  obtain ⟨⟨x0, x1, x2, x3⟩, _⟩ := c4_at hsb
  clear hb4 hk4 hbu hs4 ht4 hsb KT1 HTO HS3 HT3
  go_wp2_with fail
  refine KH1.out.mono ?_
  rintro e w5 ⟨rfl, hb5⟩
  have HS6 := Lib.hid (HS5.out.step hb5)
  have HT6 := Lib.hid (HT5.out.step hb5)
  have HU6 := Lib.hid (HU5.out.step hb5)
  clear hb5 KH1 HHA HS5 HT5 HU5 x0 x1 x2 x3
  generalize w2.heap.size = bs at *
  generalize w3.heap.size = bt at *
  generalize w4.heap.size = bu at *
  have hsb := HS6.out.box
  have htb := HT6.out.box
  have hub := HU6.out.box
  rw [HCC.out] at hsb
  rw [HCA.out] at htb
  rw [HCT.out] at hub
  obtain ⟨⟨x0, x1, x2, x3⟩, _⟩ := c4_at hsb
  obtain ⟨⟨y0, y1, y2, y3⟩, _⟩ := c4_at htb
  obtain ⟨⟨z0, z1, z2, z3⟩, _⟩ := c4_at hub
  clear hsb htb hub
  rw [decide_eq_false hin]
  have hno : k ∈ σ.out := of_decide_eq_true HBO.out
  obtain ⟨ti, tO, tm, ea, hnO, hni, hli, hlO⟩ := L9.admit_again HOKN.out hin hno
  have hts := HT6.out.st
  rw [ea] at hts
  have KM := Lib.hid (rhas_walk hts.g2 hlO k)
  rw [decide_eq_false hnO] at KM
  have KI := Lib.hid (rhas_walk hts.g1 hli k)
  rw [decide_eq_false hni] at KI
  have hti : KV w5 (.slice Ft3 nt3 dt3) (k :: tm) := hts.g3
  have HLO := Lib.hid HS6.out.low
  clear hin hno ea hnO hni hlO hli hts HBO HCA HCT HCC HOKN HS6 HT6 HU6
  obtain ⟨Fx, cx, ex, _, _, hx⟩ := hti.mem
  obtain ⟨ad, rfl, hadb, q0⟩ := hx 0 (by simp)
  injection ex with ex1 ex2 ex3
  have q1 : w5.cell? ad = some (.int .u64 (k : Nat)) := by simpa [Addr.add] using q0
  obtain ⟨nn, hnn⟩ : ∃ nn, tm.length = nn := ⟨_, rfl⟩
  rw [List.length_cons, hnn] at ex2
  subst ex1 ex2 ex3
  clear hx q0 hnn hadb
  clear hti
  go_wp2_with fail
  refine KM.out.mono ?_
  rintro e w5b ⟨rfl, rfl⟩
  clear KM
  go_wp2_with fail
  refine KI.out.mono ?_
  rintro e w5b ⟨rfl, rfl⟩
  clear KI
  go_wp2
  go_ret
  exact ⟨rfl, HLO.out⟩
end
end Go.Proofs.Ytiokejhplbadeaa
