/- Words and walks: LiA. -/
import Derived.Test.YtkhikpnlpcankaaGreatG23
import Derived.Deep.RegionHeld3
import Derived.Deep.RegionWith
import Derived.Deep.DeepCutAuto
namespace Go.Proofs.YtkhikpnlpcankaaGreat
open Go Go.RowKit Go.Deep
set_option maxRecDepth 8000
section
variable {w : World} {u1 u2 : Value} {s : L12}
theorem place_quiet {v : Value} {xs : List It} (h : IV w v xs) (hl : xs.length ≤ 100000000) (k : Nat) (p : Int) (hp : ∀ W e w', PlcP W xs k e w' → W = w' ∧ e = .returned (.int .i64 p)) (m : Nat) : Calls Tryz.prog 73 #[v, .int .u64 (k : Nat)] (w.drewN m) fun e w'' => e = .returned (.int .i64 p) ∧ ∃ m', w'' = w.drewN m' :=
  (r12place_walk (h.drewn m) hl k).mono (fun _ _ h => ⟨(hp _ _ _ h).2, m, (hp _ _ _ h).1.symm⟩)
structure Tau (s τ : L12) : Prop where
  fine : τ.Fine
  len : τ.s.length ≤ 9000000
  c : τ.c = s.c
set_option maxHeartbeats 4000000 in
set_option maxRecDepth 8000 in
theorem r12admit_walk (hs : St12 w s u1 u2) (ok : s.Ok) (k : Nat) (hk : k < 18446744073709551616) : Calls Tryz.prog 38 #[.agg (l12C s.c u1 u2), .int .u64 (k : Nat)] w (P12o w (s.adm k) (s.admitOut k)) := by
  obtain ⟨F1, n1, d1, rfl⟩ := hs.form1
  obtain ⟨F2, n2, d2, rfl⟩ := hs.form2
  have HX0 := Lib.hid (Bx12.start w T12 (by decide) hs)
  have KY := Lib.hid (r12keys_walk HX0.out.st ok)
  have HLK := Lib.hid ok.keysLen
  have HPC := Lib.hid (And.intro ok.pos ok.cap)
  have hcp := ok.pos
  have hcq := ok.cap
  generalize hW0 : World.alloc _ (.cells z12 T12) = W0 at HX0 KY
  have HW0 := Lib.hid hW0
  clear hW0
  obtain ⟨⟨x0, x1, x2⟩, xf0, xf1, xf2⟩ := c3_at HX0.out.bo.box
  have hbb := (head_row HX0.out.bo.box).lt
  by_cases hin : k ∈ s.keys
  · unfold L12.adm L12.admitOut
    rw [if_pos hin, if_pos hin]
    clear hs ok
    go_enter Tryz.func38, Tryz.ntmps38
    go_wp2_with fail
    rw [HW0.out]
    clear HW0
    go_wp2_with fail
    refine KY.out.mono ?_
    rintro e w1 ⟨v1, rfl, hb1, hk1⟩
    have KH := Lib.hid (rhas_walk hk1 HLK.out k)
    rw [decide_eq_true hin] at KH
    have HX1 := Lib.hid (HX0.out.step hb1)
    clear hb1 hk1 hin KY HX0 x0 x1 x2 xf0 xf1 xf2 hbb
    go_wp2_with fail
    refine KH.out.mono ?_
    rintro e w2 ⟨rfl, rfl⟩
    clear KH
    obtain ⟨⟨x0, x1, x2⟩, xf0, xf1, xf2⟩ := c3_at HX1.out.bo.box
    obtain ⟨⟨y0, y1, y2⟩, yf0, yf1, yf2⟩ := c3_at HX1.out.bo.res
    have hbb := (head_row HX1.out.bo.box).lt
    have hrr := (head_row HX1.out.bo.res).lt
    go_wp2
    exact bodyPost_ret (v := .tuple #[.agg (l12C s.c (.slice F1 n1 d1) (.slice F2 n2 d2)), .slice none 0 0]) (by simp [results, Tryz.results38, go_sem, y0, y1, y2]) rfl (HX1.out.doneo (KV.nil _))
  · unfold L12.adm L12.admitOut
    rw [if_neg hin, if_neg hin]
    obtain ⟨c', hc'⟩ : ∃ c', s.c - 1 = c' := ⟨_, rfl⟩
    have hcI : (s.c : Int) - 1 = (c' : Int) := by omega
    rw [hc']
    have hr := roomH_lt ok.pos
    have h0 := ok.hot
    obtain ⟨g1, g2, g3, g4, g5, g6, g7, g8, g9⟩ := ok.fine.shrink (n := c') (by omega)
    have hsq : k ∉ (s.shrink c').q := fun h => hin (L12.keys_in.2 (by have := L12.q_in.1 (g9 k h); omega))
    have hbd : nk 0 (s.shrink c').s + nk 2 (s.shrink c').s + (s.shrink c').q.length ≤ 5000000 := by
      have h1 := ok.bd
      have h2 : s.many c' ≤ nk 2 s.s + s.q.length := Nat.sub_le _ _
      omega
    have KSH : Hid (∀ W v1 v2, St12 W s v1 v2 → Calls Tryz.prog 79 #[.agg (l12C s.c v1 v2), .int .i64 (c' : Nat)] W (P12o W (s.shrink c') (s.shrinkOut c'))) := Lib.hid (fun W v1 v2 h => r12shrink_walk h ok.fine (by have := ok.bd; omega) c' (by omega) (by omega))
    obtain ⟨σ, hσ⟩ : ∃ σ, s.shrink c' = σ := ⟨_, rfl⟩
    obtain ⟨out, hout⟩ : ∃ out, s.shrinkOut c' = out := ⟨_, rfl⟩
    rw [hσ] at g1 g4 hsq hbd KSH ⊢
    rw [hout] at KSH ⊢
    have HG1 := Lib.hid g1
    have HG4 := Lib.hid g4
    have HSQ := Lib.hid hsq
    have HBD := Lib.hid hbd
    have HSL : Hid (σ.s.length ≤ 5000000) := Lib.hid (by have := g1.slen; omega)
    have HT2 : Hid ((σ.stack k 2).Fine) := Lib.hid (g1.came2 hsq hk)
    have HC2 : Hid (nk 0 (σ.stack k 2).s + nk 2 (σ.stack k 2).s + (σ.stack k 2).q.length ≤ 9000000) := Lib.hid (by
      have e2 := L12.nk_stack k 2 2 σ.s
      have e0 := L12.nk_stack k 2 0 σ.s
      show nk 0 (⟨k, 2⟩ :: wi k σ.s) + nk 2 (⟨k, 2⟩ :: wi k σ.s) + σ.q.length ≤ _
      split at e2 <;> split at e0 <;> omega)
    have HA2 : Hid (Tau s (σ.stack k 2).cool) := Lib.hid ⟨HT2.out.cool.1, (HT2.out.cool_len HC2.out).1, (L12.cool_c _).trans g4⟩
    have HA1 : Hid (Tau s ((σ.stack k 1).last k)) := Lib.hid ⟨g1.came1 hk, by
      have h1 := wi_len (k := k) (s := σ.s)
      have h2 := HSL.out
      show (wi k σ.s).length + 1 ≤ _
      omega, g4⟩
    have HKS : Hid (∀ (W : World) (v1 v2 : Value) (f : Nat), St12 W σ v1 v2 → Calls Tryz.prog 75 #[.agg (l12C s.c v1 v2), .int .u64 (k : Nat), .int .i64 (f : Nat)] W (P12 W (σ.stack k f))) := Lib.hid (fun W v1 v2 f h => by
      have h1 := r12stack_walk h g1.tot_le (by have := HSL.out; omega) k f
      rw [g4] at h1
      exact h1)
    have KRM := Lib.hid (fun (W : World) (m : Nat) => room_quiet (w := W) s.c ok.cap ok.pos m)
    have hrc : roomH s.c ≤ s.c := by omega
    obtain ⟨rm, hrm⟩ : ∃ r, roomH s.c = r := ⟨_, rfl⟩
    have HRM := Lib.hid hrm
    rw [hrm] at KRM hrc
    have hrmI : (rm : Int) ≤ 1048576 := by omega
    have hpv := plc_val σ.s k
    clear hs ok g1 g2 g3 g4 g5 g6 g7 g8 g9 hsq hbd hr h0 hc' hσ hout hrm hrc
    go_enter Tryz.func38, Tryz.ntmps38
    go_wp2_with fail
    rw [HW0.out]
    clear HW0
    go_wp2_with fail
    refine KY.out.mono ?_
    rintro e w1 ⟨v1, rfl, hb1, hk1⟩
    have KH := Lib.hid (rhas_walk hk1 HLK.out k)
    rw [decide_eq_false hin] at KH
    have HX1 := Lib.hid (HX0.out.step hb1)
    clear hb1 hk1 hin KY HX0 x0 x1 x2 xf0 xf1 xf2 hbb
    go_wp2_with fail
    refine KH.out.mono ?_
    rintro e w2 ⟨rfl, rfl⟩
    clear KH
    obtain ⟨⟨x0, x1, x2⟩, xf0, xf1, xf2⟩ := c3_at HX1.out.bo.box
    have hbb := (head_row HX1.out.bo.box).lt
    go_wp2_with fail
    refine (KSH.out _ _ _ HX1.out.st).mono ?_
    rintro e w3 ⟨v1, v2, ov, he, hbz, hsz, hoz⟩
    obtain ⟨Fa3, na3, da3, rfl⟩ := hsz.form1
    obtain ⟨Fb3, nb3, db3, rfl⟩ := hsz.form2
    have he' : e = .returned (.tuple #[.agg (l12C s.c (.slice Fa3 na3 da3) (.slice Fb3 nb3 db3)), ov]) := by
      rw [he]
      exact congrArg (fun x => Ending.returned (.tuple #[.agg (l12C x _ _), _])) HG4.out
    subst he'
    have HB3 := Lib.hid (HX1.out.bo.step hbz)
    have HXp : Hid (Bx12 w (w3.alloc (.cells (l12C s.c (.slice Fa3 na3 da3) (.slice Fb3 nb3 db3)) T12)) T12 w3.heap.size (w.heap.size + 1) σ (.slice Fa3 na3 da3) (.slice Fb3 nb3 db3)) := Lib.hid ⟨by rw [HG4.out]; exact HB3.out.alloc (l12C s.c (.slice Fa3 na3 da3) (.slice Fb3 nb3 db3)) rfl, hsz.below (low_one _ _)⟩
    have HOV := Lib.hid (hoz.below (low_one w3 (.cells (l12C s.c (.slice Fa3 na3 da3) (.slice Fb3 nb3 db3)) T12)))
    clear he hbz hsz hoz KSH x0 x1 x2 xf0 xf1 xf2 hbb HX1 HB3
    go_upto_region 4 with fail
    generalize w3.alloc (.cells (l12C s.c (.slice Fa3 na3 da3) (.slice Fb3 nb3 db3)) T12) = wx at *
    generalize w3.heap.size = P at *
    obtain ⟨⟨x0, x1, x2⟩, xf0, xf1, xf2⟩ := c3_at HXp.out.bo.box
    try dsimp only at x0 x1 x2
    rw [HG4.out] at x0
    have hbb := (head_row HXp.out.bo.box).lt
    have KMN : Hid (∀ m : Nat, Calls Tryz.prog 48 #[.slice Fa3 na3 da3, .int .i64 2] (wx.drewN m) fun e w'' => e = .returned (.int .i64 (nk 2 σ.s : Nat)) ∧ ∃ m', w'' = wx.drewN m') := Lib.hid (fun m : Nat => many_quiet (w := wx) HXp.out.st.g1 (by have := HSL.out; omega) 2 m)
    have KPQ := Lib.hid (fun p hp (m : Nat) => place_quiet HXp.out.st.g1 (by have := HSL.out; omega) k p hp m)
    have HSTP : Hid (∀ m, Bx12 w (wx.drewN m) T12 P (w.heap.size + 1) σ (.slice Fa3 na3 da3) (.slice Fb3 nb3 db3) ∧ KV (wx.drewN m) ov out) := Lib.hid (fun m => ⟨HXp.out.step (below_drewn (Below.refl _ _) m), HOV.out.drewn m⟩)
    have hcm : σ.came k = if nk 2 σ.s < roomH σ.c ∨ 0 < tot k σ.s then (σ.stack k 2).cool else (σ.stack k 1).last k := rfl
    rw [HG4.out, HRM.out] at hcm
    have hn2 : nk 2 σ.s ≤ σ.s.length := List.countP_le_length
    obtain ⟨n, hn⟩ : ∃ n, nk 2 σ.s = n := ⟨_, rfl⟩
    rw [hn] at KMN hcm hn2
    have hnI : (n : Int) ≤ 5000000 := by have := HSL.out; omega
    clear hn hn2 HXp HOV
    by_cases hA : n < rm
    · rw [if_pos (.inl hA)] at hcm
      have HCM := Lib.hid hcm
      have hAI : (n : Int) < (rm : Int) := by omega
      clear hcm hA hpv KPQ
      go_wp2_with fail
      go_quiet (first | (go_at_call 48; with_reducible exact KMN.out _) | (go_at_call 80; with_reducible exact KRM.out _ _))
      obtain ⟨hxq, hoq⟩ := HSTP.out nq
      generalize wx.drewN nq = wq at hxq hoq ⊢
      have HXq := Lib.hid hxq
      have HOq := Lib.hid hoq
      clear x0 x1 x2 xf0 xf1 xf2 hbb HSTP KMN KRM hxq hoq
      obtain ⟨⟨x0, x1, x2⟩, xf0, xf1, xf2⟩ := c3_at HXq.out.bo.box
      try dsimp only at x0 x1 x2
      rw [HG4.out] at x0
      have hbb := (head_row HXq.out.bo.box).lt
      go_wp2_with fail
      refine (HKS.out _ _ _ 2 HXq.out.st).mono ?_
      rintro e w4 ⟨v1, v2, he, hbz, hsz⟩
      obtain ⟨Fa4, na4, da4, rfl⟩ := hsz.form1
      obtain ⟨Fb4, nb4, db4, rfl⟩ := hsz.form2
      have he' : e = .returned (.agg (l12C s.c (.slice Fa4 na4 da4) (.slice Fb4 nb4 db4))) := by
        rw [he]
        exact congrArg (fun x => Ending.returned (.agg (l12C x _ _))) (show (σ.stack k 2).c = s.c from HG4.out)
      subst he'
      have HB4 := Lib.hid ((HXq.out.bo).step hbz)
      have HS4 : Hid (St12 w4 (σ.stack k 2) (.slice Fa4 na4 da4) (.slice Fb4 nb4 db4)) := Lib.hid hsz
      have HO4 := Lib.hid (HOq.out.below hbz)
      clear he hbz hsz
      have KC := Lib.hid (r12cool_walk HS4.out HT2.out (by rw [show (σ.stack k 2).c = s.c from HG4.out]; exact HPC.out.1) (by rw [show (σ.stack k 2).c = s.c from HG4.out]; exact HPC.out.2) HC2.out)
      rw [show (σ.stack k 2).c = s.c from HG4.out] at KC
      go_wp2_with fail
      refine KC.out.mono ?_
      rintro e w5 ⟨v1, v2, he, hbz, hsz⟩
      obtain ⟨Fa5, na5, da5, rfl⟩ := hsz.form1
      obtain ⟨Fb5, nb5, db5, rfl⟩ := hsz.form2
      have he' : e = .returned (.agg (l12C s.c (.slice Fa5 na5 da5) (.slice Fb5 nb5 db5))) := by
        rw [he]
        exact congrArg (fun x => Ending.returned (.agg (l12C x _ _))) (show ((σ.stack k 2).cool).c = s.c from (L12.cool_c _).trans HG4.out)
      subst he'
      have HB5 := Lib.hid ((HB4.out).step hbz)
      have HS5 : Hid (St12 w5 ((σ.stack k 2).cool) (.slice Fa5 na5 da5) (.slice Fb5 nb5 db5)) := Lib.hid hsz
      have HO5 := Lib.hid (HO4.out.below hbz)
      clear he hbz hsz
      have HTA := HA2
      clear HA1 HA2 KC HKS HB4 HS4 HO4 HXq HOq x0 x1 x2 xf0 xf1 xf2 hbb HT2 HC2
      generalize hτ : (σ.stack k 2).cool = τ at *
      clear hτ
      have HCT := HTA.out.c
      obtain ⟨⟨x0, x1, x2⟩, xf0, xf1, xf2⟩ := c3_at HB5.out.box
      have hbb := (head_row HB5.out.box).lt
      have hxt := HB5.out.put12 HS5.out HCT
      have hot := HB5.out.kv ((((Only.refl _ _).setCell (by simp) (.int .i64 (s.c : Nat))).setCell (by simp) (.slice Fa5 na5 da5)).setCell (by simp) (.slice Fb5 nb5 db5)) HO5.out (w2 := ((w5.setCell ⟨P, 0, none⟩ (.int .i64 (s.c : Nat))).setCell ⟨P, 1, none⟩ (.slice Fa5 na5 da5)).setCell ⟨P, 2, none⟩ (.slice Fb5 nb5 db5))
      generalize hWt : ((w5.setCell ⟨P, 0, none⟩ (.int .i64 (s.c : Nat))).setCell ⟨P, 1, none⟩ (.slice Fa5 na5 da5)).setCell ⟨P, 2, none⟩ (.slice Fb5 nb5 db5) = wt at hxt hot
      have HWt := Lib.hid hWt
      have HXt := Lib.hid hxt
      have HOt := Lib.hid hot
      have KR := Lib.hid (r12prune_walk hxt.st (by have := HTA.out.len; omega))
      rw [HCT] at KR
      clear hWt hxt hot HB5 HS5 HO5
      go_upto_region 7 with fail
      rw [HWt.out]
      clear HWt x0 x1 x2 xf0 xf1 xf2 hbb
      obtain ⟨⟨x0, x1, x2⟩, xf0, xf1, xf2⟩ := c3_at HXt.out.bo.box
      try dsimp only at x0 x1 x2
      rw [HCT] at x0
      have hbb := (head_row HXt.out.bo.box).lt
      go_wp2_with fail
      refine KR.out.mono ?_
      rintro e w6 ⟨v1, v2, he, hbz, hsz⟩
      obtain ⟨Fa6, na6, da6, rfl⟩ := hsz.form1
      obtain ⟨Fb6, nb6, db6, rfl⟩ := hsz.form2
      have he' : e = .returned (.agg (l12C s.c (.slice Fa6 na6 da6) (.slice Fb6 nb6 db6))) := by
        rw [he]
        exact congrArg (fun x => Ending.returned (.agg (l12C x _ _))) (show (τ.prune).c = s.c from HCT)
      subst he'
      have HB6 := Lib.hid ((HXt.out.bo).step hbz)
      have HS6 : Hid (St12 w6 (τ.prune) (.slice Fa6 na6 da6) (.slice Fb6 nb6 db6)) := Lib.hid hsz
      have HO6 := Lib.hid (HOt.out.below hbz)
      clear he hbz hsz
      have KF := Lib.hid (r12forget_walk HS6.out HTA.out.fine.prune (by show τ.c ≤ _; rw [HCT]; exact HPC.out.2) (by have h1 := pr_len τ.s; have h2 := HTA.out.len; show (pr τ.s).length ≤ _; omega))
      rw [show τ.prune.c = s.c from HCT] at KF
      clear KR HXt HOt x0 x1 x2 xf0 xf1 xf2 hbb
      go_wp2_with fail
      refine KF.out.mono ?_
      rintro e w7 ⟨v1, v2, he, hbz, hsz⟩
      obtain ⟨Fa7, na7, da7, rfl⟩ := hsz.form1
      obtain ⟨Fb7, nb7, db7, rfl⟩ := hsz.form2
      have he' : e = .returned (.agg (l12C s.c (.slice Fa7 na7 da7) (.slice Fb7 nb7 db7))) := by
        rw [he]
        exact congrArg (fun x => Ending.returned (.agg (l12C x _ _))) (show (τ.prune.forget).c = s.c from (L12.forget_c _).trans HCT)
      subst he'
      have HB7 := Lib.hid ((HB6.out).step hbz)
      have HS7 : Hid (St12 w7 (τ.prune.forget) (.slice Fa7 na7 da7) (.slice Fb7 nb7 db7)) := Lib.hid hsz
      have HO7 := Lib.hid (HO6.out.below hbz)
      clear he hbz hsz
      clear KF HB6 HS6 HO6
      obtain ⟨⟨y0, y1, y2⟩, yf0, yf1, yf2⟩ := c3_at HB7.out.res
      have hrr := (head_row HB7.out.res).lt
      go_wp2
      exact bodyPost_ret (v := .tuple #[.agg (l12C s.c (.slice Fa7 na7 da7) (.slice Fb7 nb7 db7)), ov]) (by simp [results, Tryz.results38, go_sem, y0, y1, y2]) rfl (by rw [HCM.out]; exact HB7.out.tell12o HS7.out ((L12.forget_c _).trans HCT) HO7.out)
    · have hAI : ¬ (n : Int) < (rm : Int) := by omega
      have hAd : decide (n < rm) = false := decide_eq_false hA
      have hAd2 : decide ((n : Int) < (rm : Int)) = false := decide_eq_false hAI
      rcases hpv with ⟨hno, hval⟩ | ⟨i, hi, hik, hval⟩
      · rw [if_neg (by have := mt tot_in.2 hno; omega)] at hcm
        have HCM := Lib.hid hcm
        have KPL := Lib.hid (KPQ.out (-1) hval)
        clear hcm hno hval KPQ hA
        go_wp2_with fail
        go_quiet (first | (go_at_call 48; with_reducible exact KMN.out _) | (go_at_call 80; with_reducible exact KRM.out _ _) | (go_at_call 73; with_reducible exact KPL.out _))
        obtain ⟨hxq, hoq⟩ := HSTP.out nq
        generalize wx.drewN nq = wq at hxq hoq ⊢
        have HXq := Lib.hid hxq
        have HOq := Lib.hid hoq
        clear x0 x1 x2 xf0 xf1 xf2 hbb HSTP KMN KRM hxq hoq
        obtain ⟨⟨x0, x1, x2⟩, xf0, xf1, xf2⟩ := c3_at HXq.out.bo.box
        try dsimp only at x0 x1 x2
        rw [HG4.out] at x0
        have hbb := (head_row HXq.out.bo.box).lt
        go_wp2_with fail
        refine (HKS.out _ _ _ 1 HXq.out.st).mono ?_
        rintro e w4 ⟨v1, v2, he, hbz, hsz⟩
        obtain ⟨Fa4, na4, da4, rfl⟩ := hsz.form1
        obtain ⟨Fb4, nb4, db4, rfl⟩ := hsz.form2
        have he' : e = .returned (.agg (l12C s.c (.slice Fa4 na4 da4) (.slice Fb4 nb4 db4))) := by
          rw [he]
          exact congrArg (fun x => Ending.returned (.agg (l12C x _ _))) (show (σ.stack k 1).c = s.c from HG4.out)
        subst he'
        have HB4 := Lib.hid ((HXq.out.bo).step hbz)
        have HS4 : Hid (St12 w4 (σ.stack k 1) (.slice Fa4 na4 da4) (.slice Fb4 nb4 db4)) := Lib.hid hsz
        have HO4 := Lib.hid (HOq.out.below hbz)
        clear he hbz hsz
        have KC := Lib.hid (r12last_walk HS4.out (by show σ.q.length ≤ _; have := HBD.out; omega) k)
        rw [show (σ.stack k 1).c = s.c from HG4.out] at KC
        go_wp2_with fail
        refine KC.out.mono ?_
        rintro e w5 ⟨v1, v2, he, hbz, hsz⟩
        obtain ⟨Fa5, na5, da5, rfl⟩ := hsz.form1
        obtain ⟨Fb5, nb5, db5, rfl⟩ := hsz.form2
        have he' : e = .returned (.agg (l12C s.c (.slice Fa5 na5 da5) (.slice Fb5 nb5 db5))) := by
          rw [he]
          exact congrArg (fun x => Ending.returned (.agg (l12C x _ _))) (show ((σ.stack k 1).last k).c = s.c from HG4.out)
        subst he'
        have HB5 := Lib.hid ((HB4.out).step hbz)
        have HS5 : Hid (St12 w5 ((σ.stack k 1).last k) (.slice Fa5 na5 da5) (.slice Fb5 nb5 db5)) := Lib.hid hsz
        have HO5 := Lib.hid (HO4.out.below hbz)
        clear he hbz hsz
        have HTA := HA1
        clear HA1 HA2 KC HKS HB4 HS4 HO4 HXq HOq x0 x1 x2 xf0 xf1 xf2 hbb HT2 HC2
        generalize hτ : (σ.stack k 1).last k = τ at *
        clear hτ
        have HCT := HTA.out.c
        obtain ⟨⟨x0, x1, x2⟩, xf0, xf1, xf2⟩ := c3_at HB5.out.box
        have hbb := (head_row HB5.out.box).lt
        have hxt := HB5.out.put12 HS5.out HCT
        have hot := HB5.out.kv ((((Only.refl _ _).setCell (by simp) (.int .i64 (s.c : Nat))).setCell (by simp) (.slice Fa5 na5 da5)).setCell (by simp) (.slice Fb5 nb5 db5)) HO5.out (w2 := ((w5.setCell ⟨P, 0, none⟩ (.int .i64 (s.c : Nat))).setCell ⟨P, 1, none⟩ (.slice Fa5 na5 da5)).setCell ⟨P, 2, none⟩ (.slice Fb5 nb5 db5))
        generalize hWt : ((w5.setCell ⟨P, 0, none⟩ (.int .i64 (s.c : Nat))).setCell ⟨P, 1, none⟩ (.slice Fa5 na5 da5)).setCell ⟨P, 2, none⟩ (.slice Fb5 nb5 db5) = wt at hxt hot
        have HWt := Lib.hid hWt
        have HXt := Lib.hid hxt
        have HOt := Lib.hid hot
        have KR := Lib.hid (r12prune_walk hxt.st (by have := HTA.out.len; omega))
        rw [HCT] at KR
        clear hWt hxt hot HB5 HS5 HO5
        go_upto_region 7 with fail
        rw [HWt.out]
        clear HWt x0 x1 x2 xf0 xf1 xf2 hbb
        obtain ⟨⟨x0, x1, x2⟩, xf0, xf1, xf2⟩ := c3_at HXt.out.bo.box
        try dsimp only at x0 x1 x2
        rw [HCT] at x0
        have hbb := (head_row HXt.out.bo.box).lt
        go_wp2_with fail
        refine KR.out.mono ?_
        rintro e w6 ⟨v1, v2, he, hbz, hsz⟩
        obtain ⟨Fa6, na6, da6, rfl⟩ := hsz.form1
        obtain ⟨Fb6, nb6, db6, rfl⟩ := hsz.form2
        have he' : e = .returned (.agg (l12C s.c (.slice Fa6 na6 da6) (.slice Fb6 nb6 db6))) := by
          rw [he]
          exact congrArg (fun x => Ending.returned (.agg (l12C x _ _))) (show (τ.prune).c = s.c from HCT)
        subst he'
        have HB6 := Lib.hid ((HXt.out.bo).step hbz)
        have HS6 : Hid (St12 w6 (τ.prune) (.slice Fa6 na6 da6) (.slice Fb6 nb6 db6)) := Lib.hid hsz
        have HO6 := Lib.hid (HOt.out.below hbz)
        clear he hbz hsz
        have KF := Lib.hid (r12forget_walk HS6.out HTA.out.fine.prune (by show τ.c ≤ _; rw [HCT]; exact HPC.out.2) (by have h1 := pr_len τ.s; have h2 := HTA.out.len; show (pr τ.s).length ≤ _; omega))
        rw [show τ.prune.c = s.c from HCT] at KF
        clear KR HXt HOt x0 x1 x2 xf0 xf1 xf2 hbb
        go_wp2_with fail
        refine KF.out.mono ?_
        rintro e w7 ⟨v1, v2, he, hbz, hsz⟩
        obtain ⟨Fa7, na7, da7, rfl⟩ := hsz.form1
        obtain ⟨Fb7, nb7, db7, rfl⟩ := hsz.form2
        have he' : e = .returned (.agg (l12C s.c (.slice Fa7 na7 da7) (.slice Fb7 nb7 db7))) := by
          rw [he]
          exact congrArg (fun x => Ending.returned (.agg (l12C x _ _))) (show (τ.prune.forget).c = s.c from (L12.forget_c _).trans HCT)
        subst he'
        have HB7 := Lib.hid ((HB6.out).step hbz)
        have HS7 : Hid (St12 w7 (τ.prune.forget) (.slice Fa7 na7 da7) (.slice Fb7 nb7 db7)) := Lib.hid hsz
        have HO7 := Lib.hid (HO6.out.below hbz)
        clear he hbz hsz
        clear KF HB6 HS6 HO6
        obtain ⟨⟨y0, y1, y2⟩, yf0, yf1, yf2⟩ := c3_at HB7.out.res
        have hrr := (head_row HB7.out.res).lt
        go_wp2
        exact bodyPost_ret (v := .tuple #[.agg (l12C s.c (.slice Fa7 na7 da7) (.slice Fb7 nb7 db7)), ov]) (by simp [results, Tryz.results38, go_sem, y0, y1, y2]) rfl (by rw [HCM.out]; exact HB7.out.tell12o HS7.out ((L12.forget_c _).trans HCT) HO7.out)
      · rw [if_pos (.inr (tot_in.1 (hik ▸ List.mem_map_of_mem (List.getElem_mem hi))))] at hcm
        have HCM := Lib.hid hcm
        have KPL := Lib.hid (KPQ.out (i : Nat) hval)
        have hiI : (0 : Int) ≤ (i : Int) := by omega
        clear hcm hik hval KPQ hA
        go_wp2_with fail
        go_quiet (first | (go_at_call 48; with_reducible exact KMN.out _) | (go_at_call 80; with_reducible exact KRM.out _ _) | (go_at_call 73; with_reducible exact KPL.out _))
        obtain ⟨hxq, hoq⟩ := HSTP.out nq
        generalize wx.drewN nq = wq at hxq hoq ⊢
        have HXq := Lib.hid hxq
        have HOq := Lib.hid hoq
        clear x0 x1 x2 xf0 xf1 xf2 hbb HSTP KMN KRM hxq hoq
        obtain ⟨⟨x0, x1, x2⟩, xf0, xf1, xf2⟩ := c3_at HXq.out.bo.box
        try dsimp only at x0 x1 x2
        rw [HG4.out] at x0
        have hbb := (head_row HXq.out.bo.box).lt
        go_wp2_with fail
        refine (HKS.out _ _ _ 2 HXq.out.st).mono ?_
        rintro e w4 ⟨v1, v2, he, hbz, hsz⟩
        obtain ⟨Fa4, na4, da4, rfl⟩ := hsz.form1
        obtain ⟨Fb4, nb4, db4, rfl⟩ := hsz.form2
        have he' : e = .returned (.agg (l12C s.c (.slice Fa4 na4 da4) (.slice Fb4 nb4 db4))) := by
          rw [he]
          exact congrArg (fun x => Ending.returned (.agg (l12C x _ _))) (show (σ.stack k 2).c = s.c from HG4.out)
        subst he'
        have HB4 := Lib.hid ((HXq.out.bo).step hbz)
        have HS4 : Hid (St12 w4 (σ.stack k 2) (.slice Fa4 na4 da4) (.slice Fb4 nb4 db4)) := Lib.hid hsz
        have HO4 := Lib.hid (HOq.out.below hbz)
        clear he hbz hsz
        have KC := Lib.hid (r12cool_walk HS4.out HT2.out (by rw [show (σ.stack k 2).c = s.c from HG4.out]; exact HPC.out.1) (by rw [show (σ.stack k 2).c = s.c from HG4.out]; exact HPC.out.2) HC2.out)
        rw [show (σ.stack k 2).c = s.c from HG4.out] at KC
        go_wp2_with fail
        refine KC.out.mono ?_
        rintro e w5 ⟨v1, v2, he, hbz, hsz⟩
        obtain ⟨Fa5, na5, da5, rfl⟩ := hsz.form1
        obtain ⟨Fb5, nb5, db5, rfl⟩ := hsz.form2
        have he' : e = .returned (.agg (l12C s.c (.slice Fa5 na5 da5) (.slice Fb5 nb5 db5))) := by
          rw [he]
          exact congrArg (fun x => Ending.returned (.agg (l12C x _ _))) (show ((σ.stack k 2).cool).c = s.c from (L12.cool_c _).trans HG4.out)
        subst he'
        have HB5 := Lib.hid ((HB4.out).step hbz)
        have HS5 : Hid (St12 w5 ((σ.stack k 2).cool) (.slice Fa5 na5 da5) (.slice Fb5 nb5 db5)) := Lib.hid hsz
        have HO5 := Lib.hid (HO4.out.below hbz)
        clear he hbz hsz
        have HTA := HA2
        clear HA1 HA2 KC HKS HB4 HS4 HO4 HXq HOq x0 x1 x2 xf0 xf1 xf2 hbb HT2 HC2
        generalize hτ : (σ.stack k 2).cool = τ at *
        clear hτ
        have HCT := HTA.out.c
        obtain ⟨⟨x0, x1, x2⟩, xf0, xf1, xf2⟩ := c3_at HB5.out.box
        have hbb := (head_row HB5.out.box).lt
        have hxt := HB5.out.put12 HS5.out HCT
        have hot := HB5.out.kv ((((Only.refl _ _).setCell (by simp) (.int .i64 (s.c : Nat))).setCell (by simp) (.slice Fa5 na5 da5)).setCell (by simp) (.slice Fb5 nb5 db5)) HO5.out (w2 := ((w5.setCell ⟨P, 0, none⟩ (.int .i64 (s.c : Nat))).setCell ⟨P, 1, none⟩ (.slice Fa5 na5 da5)).setCell ⟨P, 2, none⟩ (.slice Fb5 nb5 db5))
        generalize hWt : ((w5.setCell ⟨P, 0, none⟩ (.int .i64 (s.c : Nat))).setCell ⟨P, 1, none⟩ (.slice Fa5 na5 da5)).setCell ⟨P, 2, none⟩ (.slice Fb5 nb5 db5) = wt at hxt hot
        have HWt := Lib.hid hWt
        have HXt := Lib.hid hxt
        have HOt := Lib.hid hot
        have KR := Lib.hid (r12prune_walk hxt.st (by have := HTA.out.len; omega))
        rw [HCT] at KR
        clear hWt hxt hot HB5 HS5 HO5
        go_upto_region 7 with fail
        rw [HWt.out]
        clear HWt x0 x1 x2 xf0 xf1 xf2 hbb
        obtain ⟨⟨x0, x1, x2⟩, xf0, xf1, xf2⟩ := c3_at HXt.out.bo.box
        try dsimp only at x0 x1 x2
        rw [HCT] at x0
        have hbb := (head_row HXt.out.bo.box).lt
        go_wp2_with fail
        refine KR.out.mono ?_
        rintro e w6 ⟨v1, v2, he, hbz, hsz⟩
        obtain ⟨Fa6, na6, da6, rfl⟩ := hsz.form1
        obtain ⟨Fb6, nb6, db6, rfl⟩ := hsz.form2
        have he' : e = .returned (.agg (l12C s.c (.slice Fa6 na6 da6) (.slice Fb6 nb6 db6))) := by
          rw [he]
          exact congrArg (fun x => Ending.returned (.agg (l12C x _ _))) (show (τ.prune).c = s.c from HCT)
        subst he'
        have HB6 := Lib.hid ((HXt.out.bo).step hbz)
        have HS6 : Hid (St12 w6 (τ.prune) (.slice Fa6 na6 da6) (.slice Fb6 nb6 db6)) := Lib.hid hsz
        have HO6 := Lib.hid (HOt.out.below hbz)
        clear he hbz hsz
        have KF := Lib.hid (r12forget_walk HS6.out HTA.out.fine.prune (by show τ.c ≤ _; rw [HCT]; exact HPC.out.2) (by have h1 := pr_len τ.s; have h2 := HTA.out.len; show (pr τ.s).length ≤ _; omega))
        rw [show τ.prune.c = s.c from HCT] at KF
        clear KR HXt HOt x0 x1 x2 xf0 xf1 xf2 hbb
        go_wp2_with fail
        refine KF.out.mono ?_
        rintro e w7 ⟨v1, v2, he, hbz, hsz⟩
        obtain ⟨Fa7, na7, da7, rfl⟩ := hsz.form1
        obtain ⟨Fb7, nb7, db7, rfl⟩ := hsz.form2
        have he' : e = .returned (.agg (l12C s.c (.slice Fa7 na7 da7) (.slice Fb7 nb7 db7))) := by
          rw [he]
          exact congrArg (fun x => Ending.returned (.agg (l12C x _ _))) (show (τ.prune.forget).c = s.c from (L12.forget_c _).trans HCT)
        subst he'
        have HB7 := Lib.hid ((HB6.out).step hbz)
        have HS7 : Hid (St12 w7 (τ.prune.forget) (.slice Fa7 na7 da7) (.slice Fb7 nb7 db7)) := Lib.hid hsz
        have HO7 := Lib.hid (HO6.out.below hbz)
        clear he hbz hsz
        clear KF HB6 HS6 HO6
        obtain ⟨⟨y0, y1, y2⟩, yf0, yf1, yf2⟩ := c3_at HB7.out.res
        have hrr := (head_row HB7.out.res).lt
        go_wp2
        exact bodyPost_ret (v := .tuple #[.agg (l12C s.c (.slice Fa7 na7 da7) (.slice Fb7 nb7 db7)), ov]) (by simp [results, Tryz.results38, go_sem, y0, y1, y2]) rfl (by rw [HCM.out]; exact HB7.out.tell12o HS7.out ((L12.forget_c _).trans HCT) HO7.out)
def Ad12 (w4 : World) (c : Nat) (s : L12) (out : List Nat) (v o : Value) (wx : World) : Prop := ∃ (P : Nat) (F1 : Option Addr) (n1 d1 : Nat) (F2 : Option Addr) (n2 d2 : Nat), v = .pointer (some ⟨P, 0, none⟩) ∧ Below w4.heap.size w4 wx ∧ w4.heap.size ≤ P ∧ wx.heap[P]? = some (.cells (l12C c (.slice F1 n1 d1) (.slice F2 n2 d2)) T12 (0, 0)) ∧ St12 wx s (.slice F1 n1 d1) (.slice F2 n2 d2) ∧ KV wx o out
theorem Ad12.mono {w4 w5 wx : World} {c : Nat} {s : L12} {out : List Nat} {v o : Value} (h : Ad12 w5 c s out v o wx) (hb : Below w4.heap.size w4 w5) : Ad12 w4 c s out v o wx := by
  obtain ⟨P, F1, n1, d1, F2, n2, d2, h1, h2, h3, h4⟩ := h
  exact ⟨P, F1, n1, d1, F2, n2, d2, h1, hb.trans (h2.mono hb.size), Nat.le_trans hb.size h3, h4⟩
section
variable {w4 w5 : World} {c : Nat} {s : L12} {out : List Nat} {o : Value} {F1 : Option Addr} {n1 d1 : Nat} {F2 : Option Addr} {n2 d2 : Nat}
theorem ad12_b (hb : Below w4.heap.size w4 w5) (hs : St12 w5 s (.slice F1 n1 d1) (.slice F2 n2 d2)) (ho : KV w5 o out) : Ad12 w4 c s out (.pointer (some ⟨w5.heap.size, 0, none⟩)) o (w5.alloc (.cells (l12C c (.slice F1 n1 d1) (.slice F2 n2 d2)) T12)) :=
  ⟨_, _, _, _, _, _, _, rfl, hb.alloc hb.size _, hb.size, heap_alloc_new w5 _, hs.below (low_one w5 _), ho.below (low_one w5 _)⟩
theorem ad12_a {O : Obj} (hb : Below (w4.alloc O).heap.size (w4.alloc O) w5) (hP : w5.heap[w4.heap.size]? = some (.cells z12 T12 (0, 0))) (hs : St12 w5 s (.slice F1 n1 d1) (.slice F2 n2 d2)) (ho : KV w5 o out) : Ad12 w4 c s out (.pointer (some ⟨w4.heap.size, 0, none⟩)) o (((w5.setCell ⟨w4.heap.size, 0, none⟩ (.int .i64 (c : Nat))).setCell ⟨w4.heap.size, 1, none⟩ (.slice F1 n1 d1)).setCell ⟨w4.heap.size, 2, none⟩ (.slice F2 n2 d2)) := by
  obtain ⟨h1, h2⟩ := c3_set hP (.int .i64 (c : Nat)) (.slice F1 n1 d1) (.slice F2 n2 d2)
  have hl : Below w4.heap.size w4 w5 := (low_one w4 O).trans (hb.mono (by simp))
  have hbx : ∀ g ∈ [w4.heap.size], Bx w5 g := fun g hg => by
    simp only [List.mem_singleton] at hg
    subst hg
    exact ⟨_, _, hP, rfl, by decide⟩
  exact ⟨_, _, _, _, _, _, _, rfl, hl.trans (h2.below (by simp) hl.size), Nat.le_refl _, h1, ⟨hs.g1.only h2 hbx, hs.g2.only h2 hbx⟩, ho.only h2 hbx⟩
end
set_option maxHeartbeats 4000000 in
set_option maxRecDepth 8000 in
theorem r12resize_walk (hs : St12 w s u1 u2) (ok : s.Ok) (n : Int) (hn1 : -9223372036854775808 ≤ n) (hn2 : n ≤ 9223372036854775807) : Calls Tryz.prog 40 #[.agg (l12C s.c u1 u2), .int .i64 n] w (P12o w (s.resize n) (s.resizeOut n)) := by
  obtain ⟨F1, n1, d1, rfl⟩ := hs.form1
  obtain ⟨F2, n2, d2, rfl⟩ := hs.form2
  have HX0 := Lib.hid (Bx12.start w T12 (by decide) hs)
  have KK := Lib.hid (rcap_walk (w := (w.alloc (.cells (l12C s.c (.slice F1 n1 d1) (.slice F2 n2 d2)) T12)).alloc (.cells z12 T12)) n hn1 hn2)
  have hcp := capI_pos n
  unfold L12.resize L12.resizeOut
  obtain ⟨c', hc'⟩ : ∃ c', capI n = c' := ⟨_, rfl⟩
  rw [hc'] at KK hcp ⊢
  obtain ⟨hcp, hcq⟩ := hcp
  have hfn : (s.sized c').Fine := ⟨ok.fine.kinds, ok.fine.at_⟩
  have hbd : nk 0 (s.sized c').s + nk 2 (s.sized c').s + (s.sized c').q.length ≤ 9000000 := by have := ok.bd; show nk 0 s.s + nk 2 s.s + s.q.length ≤ _; omega
  have hr := roomH_lt hcp
  obtain ⟨c1, c3, c4, c5, c6, c7⟩ := hfn.cool
  have c8 := (hfn.cool_len hbd).2
  rw [show (s.sized c').c = c' from rfl] at c3 c5
  obtain ⟨g1, g2, g3, g4, g5, g6, g7, g8, g9⟩ := c1.shrink (n := c') (by omega)
  have KC : Hid (∀ W v1 v2, St12 W (s.sized c') v1 v2 → Calls Tryz.prog 78 #[.agg (l12C c' v1 v2)] W (P12 W (s.sized c').cool)) := Lib.hid (fun W v1 v2 h => r12cool_walk (s := s.sized c') h hfn hcp hcq hbd)
  have KS : Hid (∀ W v1 v2, St12 W (s.sized c').cool v1 v2 → Calls Tryz.prog 79 #[.agg (l12C c' v1 v2), .int .i64 (c' : Nat)] W (P12o W ((s.sized c').cool.shrink c') ((s.sized c').cool.shrinkOut c'))) := Lib.hid (fun W v1 v2 h => by
    have h1 := r12shrink_walk h c1 c8 c' hcq (by omega)
    rw [c5] at h1
    exact h1)
  have hsl : ((s.sized c').cool.shrink c').s.length ≤ 9000000 := by
    have h1 := g1.slen
    have h2 : (s.sized c').cool.many c' ≤ nk 2 (s.sized c').cool.s + (s.sized c').cool.q.length := Nat.sub_le _ _
    have h3 := ok.bd
    have h4 : nk 2 (s.sized c').s = nk 2 s.s := rfl
    have h5 : (s.sized c').q = s.q := rfl
    have h6 : nk 0 (s.sized c').s = nk 0 s.s := rfl
    rw [h4, h5] at c4
    rw [h6] at c6
    omega
  have g4' := g4.trans c5
  have HCC := Lib.hid c5
  generalize (s.sized c').cool.shrink c' = σ at *
  generalize (s.sized c').cool.shrinkOut c' = out at *
  have HTA : Hid (Tau ⟨c', [], []⟩ σ) := Lib.hid ⟨g1, hsl, g4'⟩
  clear ok hs c1 c3 c4 c5 c6 c7 c8 g1 g2 g3 g4 g5 g6 g7 g8 g9 g4' hsl hfn hbd hr hc'
  generalize hW0 : World.alloc _ (.cells z12 T12) = W0 at HX0 KK
  have HW0 := Lib.hid hW0
  clear hW0
  obtain ⟨⟨x0, x1, x2⟩, xf0, xf1, xf2⟩ := c3_at HX0.out.bo.box
  have hbb := (head_row HX0.out.bo.box).lt
  go_enter Tryz.func40, Tryz.ntmps40
  go_wp2_with fail
  rw [HW0.out]
  clear HW0
  go_wp2_with fail
  refine KK.out.mono ?_
  rintro e w1 ⟨rfl, rfl⟩
  have hy := HX0.out.set0 c'
  generalize hWa : W0.setCell ⟨w.heap.size, 0, none⟩ (.int .i64 (c' : Nat)) = wa at hy
  have HWa := Lib.hid hWa
  have HXa : Hid (Bx12 w wa T12 w.heap.size (w.heap.size + 1) (s.sized c') (.slice F1 n1 d1) (.slice F2 n2 d2)) := Lib.hid hy
  clear hWa hy KK HX0
  go_upto_region 2 with fail
  rw [HWa.out]
  clear HWa x0 x1 x2 xf0 xf1 xf2 hbb
  have hbw := (head_row HXa.out.bo.box).lt
  have HSS : Hid (∀ w' : World, (∀ k, k < wa.heap.size → w'.heap[k]? = wa.heap[k]?) → w'.cell? ⟨w.heap.size, 0, none⟩ = some (.int .i64 (c' : Nat)) ∧ w'.cell? ⟨w.heap.size, 1, none⟩ = some (.slice F1 n1 d1) ∧ w'.cell? ⟨w.heap.size, 2, none⟩ = some (.slice F2 n2 d2)) := Lib.hid (fun w' hh => by
    obtain ⟨⟨x0, x1, x2⟩, _⟩ := c3_at ((hh w.heap.size hbw).trans HXa.out.bo.box)
    exact ⟨x0, x1, x2⟩)
  obtain ⟨x0, x1, x2⟩ := HSS.out wa (fun _ _ => rfl)
  go_cut [6, 7] (fun s6 s7 wx => Ad12 wa c' σ out s6 s7 wx)
  case first =>
    go_region_held3 (fun w' => w'.cell? ⟨w.heap.size, 0, none⟩ = some (.int .i64 (c' : Nat)) ∧ w'.cell? ⟨w.heap.size, 1, none⟩ = some (.slice F1 n1 d1) ∧ w'.cell? ⟨w.heap.size, 2, none⟩ = some (.slice F2 n2 d2))
      (first | with_reducible exact kk1 | with_reducible exact kk0 | with_reducible exact KK1 _ (c3_set hP6 _ _ _).2 | go_keep)
      (first
      | (go_at_call 78; refine (KC.out _ _ _ (HXa.out.st.below (below_drewn (low_one wa (.cells z12 T12)) _))).mono ?_; rintro e w5 ⟨q1, q2, he, hb5, hk5⟩; obtain ⟨Fa1, na1, da1, rfl⟩ := hk5.form1; obtain ⟨Fa2, na2, da2, rfl⟩ := hk5.form2; rw [HCC.out] at he; subst he; have hbA := (below_drewn (Below.refl (wa.alloc (.cells z12 T12)).heap.size (wa.alloc (.cells z12 T12))) _).trans hb5; have kk0 := HSS.out w5 (fun k hk => (hbA.block k (by simp; omega)).trans (Below.heap_alloc wa _ k hk)); have hP5 := (hbA.block wa.heap.size (by simp)).trans (heap_alloc_new wa _))
      | (go_at_call 78; refine (KC.out _ _ _ (HXa.out.st.below (below_drewn (Below.refl _ _) _))).mono ?_; rintro e w5 ⟨q1, q2, he, hb5, hk5⟩; obtain ⟨Fa1, na1, da1, rfl⟩ := hk5.form1; obtain ⟨Fa2, na2, da2, rfl⟩ := hk5.form2; rw [HCC.out] at he; subst he; have hbC := (below_drewn (Below.refl wa.heap.size wa) _).trans hb5; have kk0 := HSS.out w5 (fun k hk => hbC.block k hk))
      | (go_at_call 79; refine (KS.out _ _ _ (hk5.below (by first | exact Below.refl _ _ | exact below_drewn (Below.refl _ _) _))).mono ?_; rintro e w6 ⟨q1, q2, o6, he, hb6, hk6, ho6⟩; obtain ⟨Fb1, nb1, db1, rfl⟩ := hk6.form1; obtain ⟨Fb2, nb2, db2, rfl⟩ := hk6.form2; rw [HTA.out.c] at he; subst he; have hbz : Below w5.heap.size w5 w6 := (by first | exact hb6 | exact (below_drewn (Below.refl w5.heap.size w5) _).trans hb6); have hbE := hbA.trans (hbz.mono hbA.size); have kk1 := HSS.out w6 (fun k hk => (hbE.block k (by simp; omega)).trans (Below.heap_alloc wa _ k hk)); have hP6 := (hbE.block wa.heap.size (by simp)).trans (heap_alloc_new wa (.cells z12 T12)); have KK1 := fun (W : World) (ho : Only [wa.heap.size] w6 W) => HSS.out W (fun k hk => (ho.block k (by have := hbE.size; simp at this; omega) (by simp; omega)).trans ((hbE.block k (by simp; omega)).trans (Below.heap_alloc wa _ k hk))); obtain ⟨⟨z0, z1, z2⟩, zf0, zf1, zf2⟩ := c3_at hP6)
      | (go_at_call 79; refine (KS.out _ _ _ (hk5.below (by first | exact low_one w5 (.cells z12 T12) | exact below_drewn (low_one w5 (.cells z12 T12)) _))).mono ?_; rintro e w6 ⟨q1, q2, o6, he, hb6, hk6, ho6⟩; obtain ⟨Fb1, nb1, db1, rfl⟩ := hk6.form1; obtain ⟨Fb2, nb2, db2, rfl⟩ := hk6.form2; rw [HTA.out.c] at he; subst he; have hbF : Below (w5.alloc (.cells z12 T12)).heap.size (w5.alloc (.cells z12 T12)) w6 := (by first | exact hb6 | exact (below_drewn (Below.refl (w5.alloc (.cells z12 T12)).heap.size (w5.alloc (.cells z12 T12))) _).trans hb6); have kk1 := HSS.out w6 (fun k hk => (hbF.block k (by have := hbC.size; simp; omega)).trans ((Below.heap_alloc w5 _ k (Nat.lt_of_lt_of_le hk hbC.size)).trans (hbC.block k hk))); have hP6 := (hbF.block w5.heap.size (by simp)).trans (heap_alloc_new w5 (.cells z12 T12)); have KK1 := fun (W : World) (ho : Only [w5.heap.size] w6 W) => HSS.out W (fun k hk => (ho.block k (by have := hbF.size; have := hbC.size; simp at *; omega) (by have := hbC.size; simp; omega)).trans ((hbF.block k (by have := hbC.size; simp; omega)).trans ((Below.heap_alloc w5 _ k (Nat.lt_of_lt_of_le hk hbC.size)).trans (hbC.block k hk)))); obtain ⟨⟨z0, z1, z2⟩, zf0, zf1, zf2⟩ := c3_at hP6)
      | (go_at_call 79; refine (KS.out _ _ _ (hk5.below (by first | exact Below.refl _ _ | exact below_drewn (Below.refl _ _) _))).mono ?_; rintro e w6 ⟨q1, q2, o6, he, hb6, hk6, ho6⟩; obtain ⟨Fb1, nb1, db1, rfl⟩ := hk6.form1; obtain ⟨Fb2, nb2, db2, rfl⟩ := hk6.form2; rw [HTA.out.c] at he; subst he; have hbz : Below w5.heap.size w5 w6 := (by first | exact hb6 | exact (below_drewn (Below.refl w5.heap.size w5) _).trans hb6); have hbG := hbC.trans (hbz.mono hbC.size); have kk1 := HSS.out w6 (fun k hk => hbG.block k hk)))
    all_goals
      go_wp2_with fail
      go_meet
      first
        | exact ad12_b hbG hk6 ho6
        | exact ad12_a hbE hP6 hk6 ho6
        | exact (ad12_a hbF hP6 hk6 ho6).mono hbC
  case rest =>
    obtain ⟨P, Fa3, na3, da3, Fb3, nb3, db3, rfl, hbc, hP, hcell, hst, hov⟩ := hcut
    have HB3 := Lib.hid (HXa.out.bo.step hbc)
    have HS3 := Lib.hid hst
    have HO3 := Lib.hid hov
    obtain ⟨⟨x0, x1, x2⟩, _⟩ := c3_at hcell
    have hbb := (head_row hcell).lt
    have HCT := HTA.out.c
    dsimp only at HCT
    have KR := Lib.hid (r12prune_walk hst (by have := HTA.out.len; omega))
    rw [HCT] at KR
    clear hbc hst hov hcell KC KS HSS
    go_wp2_with fail
    refine KR.out.mono ?_
    rintro e w6 ⟨v1, v2, he, hbz, hsz⟩
    obtain ⟨Fa6, na6, da6, rfl⟩ := hsz.form1
    obtain ⟨Fb6, nb6, db6, rfl⟩ := hsz.form2
    have he' : e = .returned (.agg (l12C c' (.slice Fa6 na6 da6) (.slice Fb6 nb6 db6))) := by
      rw [he]
      exact congrArg (fun x => Ending.returned (.agg (l12C x _ _))) (show (σ.prune).c = c' from (HCT))
    subst he'
    have HB6 := Lib.hid ((HB3.out).step hbz)
    have HS6 : Hid (St12 w6 (σ.prune) (.slice Fa6 na6 da6) (.slice Fb6 nb6 db6)) := Lib.hid hsz
    have HO6 := Lib.hid (HO3.out.below hbz)
    clear he hbz hsz
    have KF := Lib.hid (r12forget_walk HS6.out HTA.out.fine.prune (by show σ.c ≤ _; rw [HCT]; exact hcq) (by have h1 := pr_len σ.s; have h2 := HTA.out.len; show (pr σ.s).length ≤ _; omega))
    rw [show σ.prune.c = c' from HCT] at KF
    clear KR x0 x1 x2 hbb
    go_wp2_with fail
    refine KF.out.mono ?_
    rintro e w7 ⟨v1, v2, he, hbz, hsz⟩
    obtain ⟨Fa7, na7, da7, rfl⟩ := hsz.form1
    obtain ⟨Fb7, nb7, db7, rfl⟩ := hsz.form2
    have he' : e = .returned (.agg (l12C c' (.slice Fa7 na7 da7) (.slice Fb7 nb7 db7))) := by
      rw [he]
      exact congrArg (fun x => Ending.returned (.agg (l12C x _ _))) (show (σ.prune.forget).c = c' from ((L12.forget_c _).trans HCT))
    subst he'
    have HB7 := Lib.hid ((HB6.out).step hbz)
    have HS7 : Hid (St12 w7 (σ.prune.forget) (.slice Fa7 na7 da7) (.slice Fb7 nb7 db7)) := Lib.hid hsz
    have HO7 := Lib.hid (HO6.out.below hbz)
    clear he hbz hsz
    clear KF HB6 HS6 HO6
    obtain ⟨⟨y0, y1, y2⟩, yf0, yf1, yf2⟩ := c3_at HB7.out.res
    have hrr := (head_row HB7.out.res).lt
    go_wp2
    exact bodyPost_ret (v := .tuple #[.agg (l12C c' (.slice Fa7 na7 da7) (.slice Fb7 nb7 db7)), u7]) (by simp [results, Tryz.results40, go_sem, y0, y1, y2]) rfl (HB7.out.tell12o HS7.out ((L12.forget_c _).trans HCT) HO7.out)
end
end Go.Proofs.YtkhikpnlpcankaaGreat
