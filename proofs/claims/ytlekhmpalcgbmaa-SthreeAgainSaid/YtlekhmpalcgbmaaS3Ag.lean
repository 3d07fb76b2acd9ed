/- Three simple queues: Again, walked. -/
import Derived.Test.YtlekhmpalcgbmaaS3Bd
namespace Go.Proofs.Ytlekhmpalcgbmaa
open Go Go.RowKit Go.Deep

namespace L10
variable {s : L10} {k : Nat}
theorem admit_in (h : k ∈ s.keys) : s.adm k = s := by unfold adm; rw [if_pos h]
theorem touch_c (s : L10) (k : Nat) : (s.touch k).c = s.c := rfl
theorem admit_c (ok : s.Ok) (k : Nat) : (s.adm k).c = s.c := by
  unfold adm
  split
  · rfl
  · rw [come_c]; exact shr_c (ok.fine.forget k) _
/- What is admitted, of a key that is remembered, and of one that isn't. -/
theorem admit_again (ok : s.Ok) (h : k ∉ s.keys) (ho : k ∈ s.ghost) : ∃ ti tm tg, s.adm k = ⟨s.c, ti, ⟨k, 0⟩ :: tm, tg⟩ ∧ k ∉ tg ∧ tg.length ≤ 100000000 := by
  have hok := ok.adm k (ok.fine.key k (by simp [ho]))
  have e : s.adm k = ⟨s.c, ((s.forget k).shr (s.c - 1)).small, ⟨k, 0⟩ :: ((s.forget k).shr (s.c - 1)).main, ((s.forget k).shr (s.c - 1)).ghost⟩ := by
    have hc := shr_c (ok.fine.forget k) (s.c - 1)
    unfold adm
    rw [if_neg h, decide_eq_true ho]
    unfold come
    rw [if_pos rfl, hc]
    rfl
  have h1 := hok.len_ghost
  have h2 := hok.fine.nd
  rw [e] at h1 h2
  refine ⟨_, _, _, e, fun hm => ?_, h1⟩
  have h3 := (List.nodup_append.1 h2).2.2 k (by simp [keys, keysI]) k hm
  exact h3 rfl
theorem admit_new (ok : s.Ok) (h : k ∉ s.keys) (ho : k ∉ s.ghost) : ∃ ti tm tg, s.adm k = ⟨s.c, ⟨k, 0⟩ :: ti, tm, tg⟩ := by
  refine ⟨((s.forget k).shr (s.c - 1)).small, ((s.forget k).shr (s.c - 1)).main, ((s.forget k).shr (s.c - 1)).ghost, ?_⟩
  have hc := shr_c (ok.fine.forget k) (s.c - 1)
  unfold adm
  rw [if_neg h, decide_eq_false ho]
  unfold come
  rw [if_neg (by decide), hc]
  rfl
end L10
section
variable {w : World} {v : Value} {l : List Act8}
set_option maxHeartbeats 4000000 in
set_option maxRecDepth 4000 in
theorem again10_short (PO : Pol10Ok) (AW : ∀ w, Calls Try.prog 8 #[] w (RetB w true)) (c : Nat) (hc : c < 256) (ha : AV w v l) (hl : l.length ≤ 60) (k : Nat) (hk : k < 18446744073709551616) : Calls Try.prog 7 #[.int .u8 (c : Nat), v, .int .u64 (k : Nat)] w (RetB w true) := by
  have HAW := Lib.hid (AW w)
  have HRUN : Hid (∀ W, AV W v l → Calls Try.prog 15 #[.int .u8 (c : Nat), v] W (P10 W ((L10.new (1 + c % 12 : Nat)).runS l))) := Lib.hid (fun W h => run10_walk PO c hc h hl)
  have HOKN := Lib.hid (run10_ok ha c)
  have HAV := Lib.hid ha
  obtain ⟨A, cap, rfl, _⟩ := ha.mem
  obtain ⟨na, hna⟩ : ∃ na, l.length = na := ⟨_, rfl⟩
  rw [hna] at hl HAV HRUN ⊢
  obtain ⟨σ, hσN⟩ : ∃ σN, (L10.new (1 + c % 12 : Nat)).runS l = σN := ⟨_, rfl⟩
  rw [hσN] at HRUN HOKN
  have HKS : Hid (∀ W u1 u2 u3, St10 W σ u1 u2 u3 → Calls Try.prog 17 #[.agg (l10C σ.c u1 u2 u3)] W (RetK W σ.keys)) := Lib.hid (fun W _ _ _ h => PO.keys h HOKN.out)
  have HKU : Hid (∀ W u1 u2 u3, St10 W (σ.touch k) u1 u2 u3 → Calls Try.prog 17 #[.agg (l10C σ.c u1 u2 u3)] W (RetK W σ.keys)) := Lib.hid (fun W _ _ _ h => by
    have h2 := PO.keys h (HOKN.out.touch k)
    rw [L10.touch_keys] at h2
    exact h2)
  have HAD : Hid (∀ W u1 u2 u3, St10 W σ u1 u2 u3 → Calls Try.prog 26 #[.agg (l10C σ.c u1 u2 u3), .int .u64 (k : Nat)] W (P10o W (σ.adm k) (σ.admitOut k))) := Lib.hid (fun W _ _ _ h => PO.adm h HOKN.out k hk)
  have HTO : Hid (∀ W u1 u2 u3, St10 W σ u1 u2 u3 → Calls Try.prog 27 #[.agg (l10C σ.c u1 u2 u3), .int .u64 (k : Nat)] W (P10 W (σ.touch k))) := Lib.hid (fun W _ _ _ h => PO.touch h HOKN.out k hk)
  have HHA : Hid (∀ W u1 u2 u3, St10 W σ u1 u2 u3 → Calls Try.prog 18 #[.agg (l10C σ.c u1 u2 u3), .int .u64 (k : Nat)] W (RetB W (decide (k ∈ σ.keys)))) := Lib.hid (fun W _ _ _ h => PO.has h HOKN.out k hk)
  have hgl := HOKN.out.len_ghost
  have HLK := Lib.hid HOKN.out.keysLen
  have HCA : Hid ((σ.adm k).c = σ.c) := Lib.hid (L10.admit_c HOKN.out _)
  obtain ⟨bo, hbo⟩ : ∃ b, decide (k ∈ σ.ghost) = b := ⟨_, rfl⟩
  have HBO := Lib.hid hbo
  obtain ⟨bh, hbh⟩ : ∃ b, decide (k ∈ σ.keys) = b := ⟨_, rfl⟩
  have HBH := Lib.hid hbh
  rw [hbh] at HHA
  obtain ⟨cc, hcc⟩ : ∃ cc, σ.c = cc := ⟨_, rfl⟩
  have HCC := Lib.hid hcc
  rw [hcc] at HKS HKU HAD HTO HHA HCA
  clear ha hna AW hσN hc hk hbo hbh hcc
  have hlI : ¬ (60 : Int) < (na : Int) := by omega
  go_enter Try.func7, Try.ntmps7
  go_wp2_with fail
  refine (HAW.out).mono ?_
  rintro e w1 ⟨rfl, hb1⟩
  have HL1 := Lib.hid hb1
  have HAV1 := Lib.hid (HAV.out.below hb1)
  clear hb1 HAW HAV
  go_wp2_with fail
  refine (HRUN.out w1 HAV1.out).mono ?_
  rintro e w2 ⟨q1, q2, q3, he, hb2, hk2⟩
  obtain ⟨Fs1, ns1, ds1, rfl⟩ := hk2.form1
  obtain ⟨Fs2, ns2, ds2, rfl⟩ := hk2.form2
  obtain ⟨Fs3, ns3, ds3, rfl⟩ := hk2.form3
  rw [HCC.out] at he
  subst he
  have hbs := Bs10.new (T := PT10) (by decide) (HL1.out.trans (hb2.mono HL1.out.size)) hk2
  rw [HCC.out] at hbs
  have HS2 := Lib.hid hbs
  clear hb2 hk2 hbs HRUN HL1 HAV1
  have KO1 := Lib.hid (rhas_walk HS2.out.st.g3 hgl k)
  rw [HBO.out] at KO1
  have KA1 := Lib.hid (HAD.out _ _ _ _ HS2.out.st)
  go_wp2_with fail
  refine KO1.out.mono ?_
  rintro e w2b ⟨rfl, rfl⟩
  clear KO1
  go_wp2_with fail
  refine KA1.out.mono ?_
  rintro e w3 ⟨q1, q2, q3, o3, he, hb3, hk3, _⟩
  obtain ⟨Ft1, nt1, dt1, rfl⟩ := hk3.form1
  obtain ⟨Ft2, nt2, dt2, rfl⟩ := hk3.form2
  obtain ⟨Ft3, nt3, dt3, rfl⟩ := hk3.form3
  rw [HCA.out] at he
  subst he
  have hs3 := HS2.out.step hb3
  have hbt := Bs10.new (T := PT10) (by decide) hs3.low hk3
  rw [HCA.out] at hbt
  have HT3 := Lib.hid hbt
  have HS3 := Lib.hid (hs3.step (low_one w3 (.cells (l10C cc (.slice Ft1 nt1 dt1) (.slice Ft2 nt2 dt2) (.slice Ft3 nt3 dt3)) PT10)))
  have hne1 : w2.heap.size < w3.heap.size := (head_row hs3.box).lt
  have KT1 := Lib.hid (HTO.out _ _ _ _ HS3.out.st)
  obtain ⟨⟨x0, x1, x2, x3⟩, xf0, xf1, xf2, xf3⟩ := c4_at HS3.out.box
  rw [HCC.out] at x0
  clear hb3 hk3 hs3 hbt KA1 HS2 HAD
  go_wp2_with fail
  refine KT1.out.mono ?_
  rintro e w4 ⟨q1, q2, q3, he, hb4, hk4⟩
  obtain ⟨Fu1, nu1, du1, rfl⟩ := hk4.form1
  obtain ⟨Fu2, nu2, du2, rfl⟩ := hk4.form2
  obtain ⟨Fu3, nu3, du3, rfl⟩ := hk4.form3
  have he' : e = .returned (.agg (l10C cc (.slice Fu1 nu1 du1) (.slice Fu2 nu2 du2) (.slice Fu3 nu3 du3))) := by rw [← HCC.out]; exact he
  subst he'
  have ht4 := HT3.out.step hb4
  have hbu := Bs10.new (T := PT10) (by decide) ht4.low hk4
  rw [show (σ.touch k).c = cc from HCC.out] at hbu
  have HU4 := Lib.hid hbu
  have HT4 := Lib.hid (ht4.step (low_one w4 (.cells (l10C cc (.slice Fu1 nu1 du1) (.slice Fu2 nu2 du2) (.slice Fu3 nu3 du3)) PT10)))
  have HS4 := Lib.hid ((HS3.out.step hb4).step (low_one w4 (.cells (l10C cc (.slice Fu1 nu1 du1) (.slice Fu2 nu2 du2) (.slice Fu3 nu3 du3)) PT10)))
  clear he hb4 hk4 ht4 hbu KT1 HT3 HS3 HTO x0 x1 x2 x3 xf0 xf1 xf2 xf3 hne1
  go_upto_region 8 with fail
  generalize w4.alloc (.cells (l10C cc (.slice Fu1 nu1 du1) (.slice Fu2 nu2 du2) (.slice Fu3 nu3 du3)) PT10) = w5 at HU4 HT4 HS4 ⊢
  generalize w4.heap.size = bu at HU4 HT4 HS4 ⊢
  generalize w3.heap.size = bt at HU4 HT4 HS4 ⊢
  generalize w2.heap.size = bs at HU4 HT4 HS4 ⊢
  have HLD : Hid (∀ w' : World, Below w5.heap.size w5 w' → w'.cell? ⟨bu, 0, none⟩ = some (.int .i64 (cc : Nat)) ∧ w'.cell? ⟨bu, 1, none⟩ = some (.slice Fu1 nu1 du1) ∧ w'.cell? ⟨bu, 2, none⟩ = some (.slice Fu2 nu2 du2) ∧ w'.cell? ⟨bu, 3, none⟩ = some (.slice Fu3 nu3 du3) ∧ w'.cell? ⟨bs, 0, none⟩ = some (.int .i64 (cc : Nat)) ∧ w'.cell? ⟨bs, 1, none⟩ = some (.slice Fs1 ns1 ds1) ∧ w'.cell? ⟨bs, 2, none⟩ = some (.slice Fs2 ns2 ds2) ∧ w'.cell? ⟨bs, 3, none⟩ = some (.slice Fs3 ns3 ds3)) := Lib.hid (fun w' hb => by
    obtain ⟨⟨x0, x1, x2, x3⟩, _⟩ := c4_at (HU4.out.step hb).box
    obtain ⟨⟨z0, z1, z2, z3⟩, _⟩ := c4_at (HS4.out.step hb).box
    rw [HCC.out] at z0
    rw [show (σ.touch k).c = cc from HCC.out] at x0
    exact ⟨x0, x1, x2, x3, z0, z1, z2, z3⟩)
  obtain ⟨x0, x1, x2, x3, z0, z1, z2, z3⟩ := HLD.out w5 (Below.refl _ _)
  go_region_held3 (fun w' => w'.cell? ⟨bu, 0, none⟩ = some (.int .i64 (cc : Nat)) ∧ w'.cell? ⟨bu, 1, none⟩ = some (.slice Fu1 nu1 du1) ∧ w'.cell? ⟨bu, 2, none⟩ = some (.slice Fu2 nu2 du2) ∧ w'.cell? ⟨bu, 3, none⟩ = some (.slice Fu3 nu3 du3) ∧ w'.cell? ⟨bs, 0, none⟩ = some (.int .i64 (cc : Nat)) ∧ w'.cell? ⟨bs, 1, none⟩ = some (.slice Fs1 ns1 ds1) ∧ w'.cell? ⟨bs, 2, none⟩ = some (.slice Fs2 ns2 ds2) ∧ w'.cell? ⟨bs, 3, none⟩ = some (.slice Fs3 ns3 ds3))
    (first | with_reducible exact kkd | with_reducible exact kkc | with_reducible exact kkb | with_reducible exact kka | go_keep)
    (first
      | (go_at_call 14; refine (same_walk (ks := σ.ghost) (js := σ.ghost) (HU4.out.step hBc).st.g3 (HS4.out.step hBc).st.g3 hgl).mono ?_; rintro e wd ⟨rfl, hbd⟩; rw [decide_eq_true rfl]; have hBd := hBc.trans (hbd.mono hBc.size); have kkd := HLD.out wd hBd)
      | (go_at_call 14; refine (same_walk (ks := σ.keys) (js := σ.keys) (hka.below hbb) hkb HLK.out).mono ?_; rintro e wc ⟨rfl, hbc⟩; rw [decide_eq_true rfl]; have hBc := hBb.trans (hbc.mono hBb.size); have kkc := HLD.out wc hBc)
      | (go_at_call 17; refine (HKS.out wa _ _ _ (HS4.out.step hBa).st).mono ?_; rintro e wb ⟨vb, rfl, hbb, hkb⟩; have hBb := hBa.trans (hbb.mono hBa.size); have kkb := HLD.out wb hBb)
      | (go_at_call 17; refine (HKU.out _ _ _ _ (HU4.out.step (below_drewn (Below.refl _ _) _)).st).mono ?_; rintro e wa ⟨va, rfl, hba, hka⟩; have hBa := (below_drewn (Below.refl w5.heap.size w5) _).trans hba; have kka := HLD.out wa hBa))
  have HS5 := Lib.hid (HS4.out.step hBd)
  have HT5 := Lib.hid (HT4.out.step hBd)
  clear hba hka hbb hkb hbc hbd hBa hBb hBc hBd kka kkb kkc kkd x0 x1 x2 x3 z0 z1 z2 z3 HLD HKU HU4 HT4 HS4
  obtain ⟨⟨z0, z1, z2, z3⟩, _⟩ := c4_at HS5.out.box
  rw [HCC.out] at z0
  have KH := Lib.hid (HHA.out _ _ _ _ HS5.out.st)
  go_wp2_with fail
  refine KH.out.mono ?_
  rintro e w6 ⟨rfl, hb6⟩
  have HS6 := Lib.hid (HS5.out.step hb6)
  have HT6 := Lib.hid (HT5.out.step hb6)
  clear hb6 KH HHA HS5 HT5 z0 z1 z2 z3
  cases bh
  · have hin : k ∉ σ.keys := of_decide_eq_false HBH.out
    cases bo
    · have hgo : k ∉ σ.ghost := of_decide_eq_false HBO.out
      obtain ⟨ti, tm, tg, ea⟩ := L10.admit_new HOKN.out hin hgo
      rw [ea] at HT6
      obtain ⟨Fz, cz, ez, hcz, _, h3⟩ := HT6.out.st.g1.mem
      injection ez with ez1 ez2 ez3
      subst ez1 ez3
      obtain ⟨g, off, hF, hg, q0, q1⟩ := h3 0 (by simp)
      subst hF
      obtain rfl : nt1 = ti.length + 1 := by rw [ez2]; rfl
      dsimp only [List.getElem_cons_zero] at q0 q1
      rw [Nat.zero_mul, Nat.add_zero] at q0 q1
      obtain ⟨n, hn⟩ : ∃ n, ti.length = n := ⟨_, rfl⟩
      rw [hn] at *
      obtain ⟨⟨z0, z1, z2, z3⟩, _⟩ := c4_at HT6.out.box
      have HLO := Lib.hid HT6.out.low
      have hnI : (0 : Int) < (n : Int) + 1 := by omega
      clear h3 ez2 hcz ea hn hin hgo HS6 HT6 HOKN HKS HLK HCA hgl
      go_wp2
      go_ret
      exact ⟨rfl, HLO.out⟩
    · have hgo : k ∈ σ.ghost := of_decide_eq_true HBO.out
      obtain ⟨ti, tm, tg, ea, hnot, hgl2⟩ := L10.admit_again HOKN.out hin hgo
      rw [ea] at HT6
      obtain ⟨Fz, cz, ez, hcz, _, h3⟩ := HT6.out.st.g2.mem
      injection ez with ez1 ez2 ez3
      subst ez1 ez3
      obtain ⟨g, off, hF, hg, q0, q1⟩ := h3 0 (by simp)
      subst hF
      obtain rfl : nt2 = tm.length + 1 := by rw [ez2]; rfl
      dsimp only [List.getElem_cons_zero] at q0 q1
      rw [Nat.zero_mul, Nat.add_zero] at q0 q1
      obtain ⟨n, hn⟩ : ∃ n, tm.length = n := ⟨_, rfl⟩
      rw [hn] at *
      obtain ⟨⟨z0, z1, z2, z3⟩, _⟩ := c4_at HT6.out.box
      have HLO := Lib.hid HT6.out.low
      have hnI : (0 : Int) < (n : Int) + 1 := by omega
      have KG := Lib.hid (rhas_walk HT6.out.st.g3 hgl2 k)
      rw [decide_eq_false hnot] at KG
      clear h3 ez2 hcz ea hn hin hgo hnot HS6 HT6 HOKN HKS HLK HCA hgl hgl2
      go_wp2_with fail
      refine KG.out.mono ?_
      rintro e w7 ⟨rfl, rfl⟩
      clear KG
      go_wp2
      go_ret
      exact ⟨rfl, HLO.out⟩
  · have hin : k ∈ σ.keys := of_decide_eq_true HBH.out
    rw [L10.admit_in hin] at HT6
    have HLD : Hid (∀ w' : World, Below w6.heap.size w6 w' → w'.cell? ⟨bt, 0, none⟩ = some (.int .i64 (cc : Nat)) ∧ w'.cell? ⟨bt, 1, none⟩ = some (.slice Ft1 nt1 dt1) ∧ w'.cell? ⟨bt, 2, none⟩ = some (.slice Ft2 nt2 dt2) ∧ w'.cell? ⟨bt, 3, none⟩ = some (.slice Ft3 nt3 dt3) ∧ w'.cell? ⟨bs, 0, none⟩ = some (.int .i64 (cc : Nat)) ∧ w'.cell? ⟨bs, 1, none⟩ = some (.slice Fs1 ns1 ds1) ∧ w'.cell? ⟨bs, 2, none⟩ = some (.slice Fs2 ns2 ds2) ∧ w'.cell? ⟨bs, 3, none⟩ = some (.slice Fs3 ns3 ds3)) := Lib.hid (fun w' hb => by
      obtain ⟨⟨x0, x1, x2, x3⟩, _⟩ := c4_at (HT6.out.step hb).box
      obtain ⟨⟨z0, z1, z2, z3⟩, _⟩ := c4_at (HS6.out.step hb).box
      rw [HCC.out] at z0 x0
      exact ⟨x0, x1, x2, x3, z0, z1, z2, z3⟩)
    obtain ⟨x0, x1, x2, x3, z0, z1, z2, z3⟩ := HLD.out w6 (Below.refl _ _)
    clear hin HOKN HCA hgl
    go_upto_region 10 with fail
    go_region_held3 (fun w' => w'.cell? ⟨bt, 0, none⟩ = some (.int .i64 (cc : Nat)) ∧ w'.cell? ⟨bt, 1, none⟩ = some (.slice Ft1 nt1 dt1) ∧ w'.cell? ⟨bt, 2, none⟩ = some (.slice Ft2 nt2 dt2) ∧ w'.cell? ⟨bt, 3, none⟩ = some (.slice Ft3 nt3 dt3) ∧ w'.cell? ⟨bs, 0, none⟩ = some (.int .i64 (cc : Nat)) ∧ w'.cell? ⟨bs, 1, none⟩ = some (.slice Fs1 ns1 ds1) ∧ w'.cell? ⟨bs, 2, none⟩ = some (.slice Fs2 ns2 ds2) ∧ w'.cell? ⟨bs, 3, none⟩ = some (.slice Fs3 ns3 ds3))
      (first | with_reducible exact kkc | with_reducible exact kkb | with_reducible exact kka | go_keep)
      (first
        | (go_at_call 14; refine (same_walk (ks := σ.keys) (js := σ.keys) (hka.below hbb) hkb HLK.out).mono ?_; rintro e wc ⟨rfl, hbc⟩; rw [decide_eq_true rfl]; have hBc := hBb.trans (hbc.mono hBb.size); have kkc := HLD.out wc hBc)
        | (go_at_call 17; refine (HKS.out wa _ _ _ (HS6.out.step hBa).st).mono ?_; rintro e wb ⟨vb, rfl, hbb, hkb⟩; have hBb := hBa.trans (hbb.mono hBa.size); have kkb := HLD.out wb hBb)
        | (go_at_call 17; refine (HKS.out _ _ _ _ (HT6.out.step (below_drewn (Below.refl _ _) _)).st).mono ?_; rintro e wa ⟨va, rfl, hba, hka⟩; have hBa := (below_drewn (Below.refl w6.heap.size w6) _).trans hba; have kka := HLD.out wa hBa))
    have HL := Lib.hid (HT6.out.low.trans (hBc.mono HT6.out.low.size))
    go_wp2
    go_ret
    exact ⟨rfl, HL.out⟩
theorem again10_walk (PO : Pol10Ok) (AW : ∀ w, Calls Try.prog 8 #[] w (RetB w true)) (c : Nat) (hc : c < 256) (ha : AV w v l) (k : Nat) (hk : k < 18446744073709551616) : Calls Try.prog 7 #[.int .u8 (c : Nat), v, .int .u64 (k : Nat)] w (RetB w true) := by
  by_cases hl : l.length ≤ 60
  · exact again10_short PO AW c hc ha hl k hk
  · have HAW := Lib.hid (fun W => AW W)
    obtain ⟨A, cap, rfl, _⟩ := ha.mem
    obtain ⟨na, hna⟩ : ∃ na, l.length = na := ⟨_, rfl⟩
    rw [hna] at hl ⊢
    have hlI : (60 : Int) < (na : Int) := by omega
    clear ha hna AW
    go_enter Try.func7, Try.ntmps7
    go_wp2_with fail
    refine (HAW.out _).mono ?_
    rintro e w1 ⟨rfl, hb1⟩
    have HB := Lib.hid hb1
    clear hb1
    go_wp2
    go_ret
    exact ⟨rfl, HB.out⟩
end
end Go.Proofs.Ytlekhmpalcgbmaa
