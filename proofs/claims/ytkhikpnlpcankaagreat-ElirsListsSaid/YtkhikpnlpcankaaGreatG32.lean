/- Words and walks: LiXC. -/
import Derived.Test.YtkhikpnlpcankaaGreatG31
namespace Go.Proofs.YtkhikpnlpcankaaGreat
open Go Go.RowKit Go.Deep
set_option maxRecDepth 8000
section
variable {w : World} {s : L12} {u1 u2 : Value}
set_option maxHeartbeats 2000000 in
theorem p12resize_walk (hs : St12 w s u1 u2) (ok : s.Ok) (n : Int) (hn1 : -9223372036854775808 ≤ n) (hn2 : n ≤ 9223372036854775807) : Calls Tryz.prog 26 #[.agg (l12C s.c u1 u2), .int .i64 n] w (P12o w (s.resize n) (s.resizeOut n)) := by
  obtain ⟨hp1, hp2, hp3⟩ := L12.resize_plain ok n
  have hcp := (capI_pos n).1
  have hcq := (capI_pos n).2
  have KBN := Lib.hid (fun W : World => bounded12_walk (w := W) n hn1 hn2)
  obtain ⟨c', hc'⟩ : ∃ c', capI n = c' := ⟨_, rfl⟩
  rw [hc'] at hp1 hp2 hp3 hcp hcq KBN
  obtain ⟨π, hπ⟩ : ∃ π, (s.sized c').coolP = π := ⟨_, rfl⟩
  have HPI := Lib.hid hπ
  rw [hπ] at hp1 hp2 hp3
  have hπs : π.s.length ≤ 2097152 := by
    rw [← hπ]
    show (coolK _ s.s).length ≤ _
    rw [coolK_len]
    exact ok.sl
  have hπq : π.q.length ≤ 5000000 := by
    rw [← hπ]
    show (s.q ++ (coolO _ s.s).reverse).length ≤ _
    have h1 := ok.sl
    have h2 := ok.ql
    have h3 := coolO_len s.s (roomH c')
    rw [List.length_append, List.length_reverse]
    show _ + (coolO (roomH c') s.s).length ≤ _
    omega
  have hks : ∀ x ∈ π.s, x.key < 18446744073709551616 := fun x hx => by
    rw [← hπ] at hx
    obtain ⟨y, hy, e⟩ := coolK_mem hx
    rw [← e]
    exact ok.fine.sb y hy
  have hkq : ∀ k ∈ π.q, k < 18446744073709551616 := fun k hk => by
    rw [← hπ] at hk
    rcases List.mem_append.1 hk with hk | hk
    · exact ok.fine.qb k hk
    · obtain ⟨y, hy, e⟩ := coolO_mem (List.mem_reverse.1 hk)
      rw [← e]
      exact ok.fine.sb y hy
  have HKS := Lib.hid hks
  have HKQ := Lib.hid hkq
  have hπc : π.c = c' := by rw [← hπ]; rfl
  have HPC := Lib.hid hπc
  have HPL := Lib.hid (And.intro hπs (And.intro hπq hp3))
  have HP := Lib.hid (And.intro hp1 hp2)
  clear hp1 hp2 hp3 hπ hπs hπq hks hkq hπc hc' hn1 hn2
  generalize s.resize n = τ at *
  generalize s.resizeOut n = out at *
  obtain ⟨F1, n1, d1, rfl⟩ := hs.form1
  obtain ⟨F2, n2, d2, rfl⟩ := hs.form2
  have HX0 := Lib.hid (Bx12.start w PT12 (by decide) hs)
  have HOK := Lib.hid ok
  have KO1 := Lib.hid (owned_walk HX0.out.st (by have := ok.sl; omega) (by have := ok.ql; omega))
  generalize hW0 : World.alloc _ (.cells z12 PT12) = W0 at HX0 KO1
  have HW0 := Lib.hid hW0
  obtain ⟨⟨x0, x1, x2⟩, xf0, xf1, xf2⟩ := c3_at HX0.out.bo.box
  have hbb := (head_row HX0.out.bo.box).lt
  clear hW0 hs ok
  go_enter Tryz.func26, Tryz.ntmps26
  go_wp2_with fail
  rw [HW0.out]
  clear HW0
  go_wp2_with fail
  refine KO1.out.mono ?_
  rintro e wa ⟨va1, va2, rfl, ho1, ho2⟩
  obtain ⟨Fa1, na1, da1, rfl⟩ := ho1.iv.form
  obtain ⟨Fa2, na2, da2, rfl⟩ := ho2.kv.form
  have hba := HX0.out.bo.step ho2.low
  clear x0 x1 x2 xf0 xf1 xf2 hbb
  obtain ⟨⟨x0, x1, x2⟩, xf0, xf1, xf2⟩ := c3_at hba.box
  have hbb := (head_row hba.box).lt
  have hya := hba.put12 (t := s) ⟨ho1.iv, ho2.kv⟩ rfl
  have hka := hba.ko ((((Only.refl _ _).setCell (by simp) (.int .i64 (s.c : Nat))).setCell (by simp) (.slice Fa1 na1 da1)).setCell (by simp) (.slice Fa2 na2 da2)) ⟨hba.low, own_low ho2.own HX0.out.bo.low.size⟩ (w2 := (((wa.setCell ⟨w.heap.size, 0, none⟩ (.int .i64 (s.c : Nat))).setCell ⟨w.heap.size, 1, none⟩ (.slice Fa1 na1 da1)).setCell ⟨w.heap.size, 2, none⟩ (.slice Fa2 na2 da2)))
  generalize hWa : ((wa.setCell ⟨w.heap.size, 0, none⟩ (.int .i64 (s.c : Nat))).setCell ⟨w.heap.size, 1, none⟩ (.slice Fa1 na1 da1)).setCell ⟨w.heap.size, 2, none⟩ (.slice Fa2 na2 da2) = wb at hya hka
  have HWa := Lib.hid hWa
  have HXa := Lib.hid hya
  have HKa := Lib.hid hka
  clear hba hya hka hWa ho1 ho2 KO1 HX0
  go_upto_region 2 with fail
  rw [HWa.out]
  clear HWa x0 x1 x2 xf0 xf1 xf2 hbb
  obtain ⟨⟨x0, x1, x2⟩, xf0, xf1, xf2⟩ := c3_at HXa.out.bo.box
  have hbb := (head_row HXa.out.bo.box).lt
  go_wp2_with fail
  refine (KBN.out _).mono ?_
  rintro e w1 ⟨rfl, rfl⟩
  have hy := HXa.out.set0 c'
  have hk := HXa.out.bo.ko ((Only.refl _ _).setCell (by simp) (.int .i64 (c' : Nat))) HKa.out (w2 := wb.setCell ⟨w.heap.size, 0, none⟩ (.int .i64 (c' : Nat)))
  generalize hWc : wb.setCell ⟨w.heap.size, 0, none⟩ (.int .i64 (c' : Nat)) = wc at hy hk
  have HWc := Lib.hid hWc
  have KC := Lib.hid (pcool_walk (s := s.sized c') hy hk (by have := HOK.out.sl; show s.s.length ≤ _; omega) (by have := HOK.out.ql; show s.q.length ≤ _; omega) hcp hcq)
  rw [HPI.out] at KC
  clear hy hk hWc KBN HXa HKa
  go_upto_region 3 with fail
  rw [HWc.out]
  clear HWc x0 x1 x2 xf0 xf1 xf2 hbb
  go_wp2_with fail
  refine KC.out.mono ?_
  rintro e w4 ⟨rfl, -, v4, v4', hx4⟩
  have KE := Lib.hid (pevict_walk hx4 (by have := HPL.out.1; omega) (by have := HPL.out.2.1; omega) HKS.out HKQ.out c' hcq HPL.out.2.2)
  obtain ⟨⟨x0, x1, x2⟩, xf0, xf1, xf2⟩ := c3_at hx4.bo.box
  rw [HPC.out] at x0
  have hbb := (head_row hx4.bo.box).lt
  clear hx4 KC
  go_wp2_with fail
  refine KE.out.mono ?_
  rintro e w5 ⟨v5, v5', o5, rfl, hx5, ho5⟩
  have KPR := Lib.hid (pprune_walk hx5 (by have := HPL.out.1; show (goneK _ π.s).length ≤ _; rw [goneK_len]; omega))
  have HX5 := Lib.hid hx5
  have HO5 := Lib.hid ho5
  clear hx5 ho5 KE x0 x1 x2 xf0 xf1 xf2 hbb
  go_wp2_with fail
  refine KPR.out.mono ?_
  rintro e w6 ⟨rfl, hon6, v6, hx6⟩
  have HO6 := Lib.hid (HX5.out.bo.kv (hon6.mono (by simp)) HO5.out)
  have KF := Lib.hid (pforget_walk hx6 (by
    have h1 := HPL.out.1
    have h2 := pr_len (π.evP (π.many c')).s
    have h3 : (π.evP (π.many c')).s.length = π.s.length := goneK_len _ _
    show (pr (π.evP (π.many c')).s).length ≤ _
    omega) (by show π.c ≤ _; rw [HPC.out]; exact hcq))
  have HX6 := Lib.hid hx6
  clear hx6 hon6 KPR HX5 HO5
  go_wp2_with fail
  refine KF.out.mono ?_
  rintro e w7 ⟨rfl, hon7, v7, hx7⟩
  obtain ⟨F7, n7, d7, rfl⟩ := hx7.st.form1
  obtain ⟨F8, n8, d8, rfl⟩ := hx7.st.form2
  have HO7 := Lib.hid (HX6.out.bo.kv (hon7.mono (by simp)) HO6.out)
  have HX7 := Lib.hid hx7
  obtain ⟨⟨x0, x1, x2⟩, xf0, xf1, xf2⟩ := c3_at hx7.bo.box
  have x0' : w7.cell? ⟨w.heap.size, 0, none⟩ = some (.int .i64 (c' : Nat)) := by rw [← HPC.out]; exact x0
  have hbb := (head_row hx7.bo.box).lt
  obtain ⟨⟨y0, y1, y2⟩, yf0, yf1, yf2⟩ := c3_at hx7.bo.res
  have hrr := (head_row hx7.bo.res).lt
  clear hx7 hon7 KF HX6 HO6 x0
  go_wp2
  exact bodyPost_ret (v := .tuple #[.agg (l12C c' (.slice F7 n7 d7) (.slice F8 n8 d8)), o5]) (by simp [results, Tryz.results26, go_sem, y0, y1, y2]) rfl (by rw [HP.out.1, HP.out.2]; exact HX7.out.bo.tell12o HX7.out.st HPC.out HO7.out)
end
end Go.Proofs.YtkhikpnlpcankaaGreat
namespace Go.Proofs.YtkhikpnlpcankaaGreat
open Go Go.RowKit Go.Deep
theorem L12.useP_len (s : L12) (k : Nat) (hot : Bool) : (s.useP k hot).s.length ≤ s.s.length + 1 := by
  have h1 := wi_len (k := k) (s := s.s)
  cases hot
  · refine Nat.le_trans (pr_len (⟨k, 1⟩ :: wi k s.s)) ?_
    simpa using h1
  · refine Nat.le_trans (pr_len (coolK (roomH s.c) (⟨k, 2⟩ :: wi k s.s))) ?_
    rw [coolK_len]
    simpa using h1
theorem L12.useP_c (s : L12) (k : Nat) (hot : Bool) : (s.useP k hot).c = s.c := by cases hot <;> rfl
section
variable {w : World} {s : L12} {u1 u2 : Value}
set_option maxHeartbeats 2000000 in
theorem p12admit_walk (hs : St12 w s u1 u2) (ok : s.Ok) (k : Nat) (hk : k < 18446744073709551616) : Calls Tryz.prog 24 #[.agg (l12C s.c u1 u2), .int .u64 (k : Nat)] w (P12o w (s.adm k) (s.admitOut k)) := by
  have HAP := Lib.hid (fun hn => L12.adm_plain ok hk (k := k) hn)
  have HAS : Hid (k ∈ s.keys → s.adm k = s ∧ s.admitOut k = []) := Lib.hid (fun h => by
    unfold L12.adm L12.admitOut
    rw [if_pos h, if_pos h]
    exact ⟨rfl, rfl⟩)
  generalize s.adm k = τ at *
  generalize s.admitOut k = out at *
  obtain ⟨F1, n1, d1, rfl⟩ := hs.form1
  obtain ⟨F2, n2, d2, rfl⟩ := hs.form2
  have HX0 := Lib.hid (Bx12.start w PT12 (by decide) hs)
  have HOK := Lib.hid ok
  have KO1 := Lib.hid (owned_walk HX0.out.st (by have := ok.sl; omega) (by have := ok.ql; omega))
  generalize hW0 : World.alloc _ (.cells z12 PT12) = W0 at HX0 KO1
  have HW0 := Lib.hid hW0
  obtain ⟨⟨x0, x1, x2⟩, xf0, xf1, xf2⟩ := c3_at HX0.out.bo.box
  have hbb := (head_row HX0.out.bo.box).lt
  clear hW0 hs ok
  go_enter Tryz.func24, Tryz.ntmps24
  go_wp2_with fail
  rw [HW0.out]
  clear HW0
  go_wp2_with fail
  refine KO1.out.mono ?_
  rintro e wa ⟨va1, va2, rfl, ho1, ho2⟩
  obtain ⟨Fa1, na1, da1, rfl⟩ := ho1.iv.form
  obtain ⟨Fa2, na2, da2, rfl⟩ := ho2.kv.form
  have hba := HX0.out.bo.step ho2.low
  clear x0 x1 x2 xf0 xf1 xf2 hbb
  obtain ⟨⟨x0, x1, x2⟩, xf0, xf1, xf2⟩ := c3_at hba.box
  have hbb := (head_row hba.box).lt
  have hya := hba.put12 (t := s) ⟨ho1.iv, ho2.kv⟩ rfl
  have hka := hba.ko ((((Only.refl _ _).setCell (by simp) (.int .i64 (s.c : Nat))).setCell (by simp) (.slice Fa1 na1 da1)).setCell (by simp) (.slice Fa2 na2 da2)) ⟨hba.low, own_low ho2.own HX0.out.bo.low.size⟩ (w2 := (((wa.setCell ⟨w.heap.size, 0, none⟩ (.int .i64 (s.c : Nat))).setCell ⟨w.heap.size, 1, none⟩ (.slice Fa1 na1 da1)).setCell ⟨w.heap.size, 2, none⟩ (.slice Fa2 na2 da2)))
  generalize hWa : ((wa.setCell ⟨w.heap.size, 0, none⟩ (.int .i64 (s.c : Nat))).setCell ⟨w.heap.size, 1, none⟩ (.slice Fa1 na1 da1)).setCell ⟨w.heap.size, 2, none⟩ (.slice Fa2 na2 da2) = wb at hya hka
  have HWa := Lib.hid hWa
  have HXa := Lib.hid hya
  have HKa := Lib.hid hka
  clear hba hya hka hWa ho1 ho2 KO1 HX0
  go_upto_region 2 with fail
  rw [HWa.out]
  clear HWa x0 x1 x2 xf0 xf1 xf2 hbb
  obtain ⟨⟨x0, x1, x2⟩, xf0, xf1, xf2⟩ := c3_at HXa.out.bo.box
  have hbb := (head_row HXa.out.bo.box).lt
  have KH := Lib.hid (p12has_walk HXa.out.st HOK.out k)
  go_wp2_with fail
  refine KH.out.mono ?_
  rintro e wh ⟨rfl, hbh⟩
  have HXh := Lib.hid (HXa.out.step hbh)
  clear hbh KH HXa HKa x0 x1 x2 xf0 xf1 xf2 hbb
  obtain ⟨⟨x0, x1, x2⟩, xf0, xf1, xf2⟩ := c3_at HXh.out.bo.box
  have hbb := (head_row HXh.out.bo.box).lt
  by_cases hin : k ∈ s.keys
  · rw [decide_eq_true hin]
    have HT := Lib.hid (HAS.out hin)
    obtain ⟨⟨y0, y1, y2⟩, yf0, yf1, yf2⟩ := c3_at HXh.out.bo.res
    have hrr := (head_row HXh.out.bo.res).lt
    clear hin HAS HAP
    go_wp2
    exact bodyPost_ret (v := .tuple #[.agg (l12C s.c (.slice Fa1 na1 da1) (.slice Fa2 na2 da2)), .slice none 0 0]) (by simp [results, Tryz.results24, go_sem, y0, y1, y2]) rfl (by rw [HT.out.1, HT.out.2]; exact HXh.out.doneo (KV.nil _))
  · rw [decide_eq_false hin]
    obtain ⟨ha1, ha2, ha3, ha4⟩ := HAP.out hin
    have hcp := HOK.out.pos
    have hcq := HOK.out.cap
    obtain ⟨c', hc'⟩ : ∃ c', s.c - 1 = c' := ⟨_, rfl⟩
    have hcI : (s.c : Int) - 1 = (c' : Int) := by omega
    rw [hc'] at ha1 ha2 ha3 ha4
    have KE := Lib.hid (pevict_walk HXh.out (by have := HOK.out.sl; omega) (by have := HOK.out.ql; omega) HOK.out.fine.sb HOK.out.fine.qb c' (by omega) ha4)
    obtain ⟨σ, hσ⟩ : ∃ σ, s.evP (s.many c') = σ := ⟨_, rfl⟩
    have hσs : σ.s.length ≤ 2097152 := by
      rw [← hσ]
      show (goneK _ s.s).length ≤ _
      rw [goneK_len]
      exact HOK.out.sl
    have hσq : σ.q.length ≤ 2097152 := by
      rw [← hσ]
      show (s.q.drop _).length ≤ _
      have := HOK.out.ql
      rw [List.length_drop]
      omega
    have hσc : σ.c = s.c := by rw [← hσ]; rfl
    rw [hσ] at ha1 ha3 KE
    have HA1 := Lib.hid ha1
    have HA2 := Lib.hid ha2
    have HSL := Lib.hid (And.intro hσs hσq)
    have HSC := Lib.hid hσc
    have HNE : Hid (nk 2 σ.s ≤ σ.s.length) := Lib.hid List.countP_le_length
    have hrm := roomH_lt hcp
    clear hin ha1 ha2 ha3 ha4 HAS HAP hc' hσ hσs hσq HXh
    go_wp2_with fail
    refine KE.out.mono ?_
    rintro e w5 ⟨v5, v5', o5, rfl, hx5, ho5⟩
    obtain ⟨F5, n5, d5, rfl⟩ := hx5.st.form1
    obtain ⟨F6, n6, d6, rfl⟩ := hx5.st.form2
    have HX5 := Lib.hid hx5
    have HO5 := Lib.hid ho5
    have HLD : Hid (∀ W, Below w5.heap.size w5 W → Bx12 w W PT12 w.heap.size (w.heap.size + 1) σ (.slice F5 n5 d5) (.slice F6 n6 d6) ∧ (W.cell? ⟨w.heap.size, 0, none⟩ = some (.int .i64 (s.c : Nat)) ∧ W.cell? ⟨w.heap.size, 1, none⟩ = some (.slice F5 n5 d5) ∧ W.cell? ⟨w.heap.size, 2, none⟩ = some (.slice F6 n6 d6))) := Lib.hid (fun W hb => by
      have h1 := (c3_at (HX5.out.step hb).bo.box).1
      rw [HSC.out] at h1
      exact ⟨HX5.out.step hb, h1⟩)
    have KS : Hid (∀ W, Below w5.heap.size w5 W → Calls Tryz.prog 54 #[.agg (l12C s.c (.slice F5 n5 d5) (.slice F6 n6 d6)), .int .u64 (k : Nat)] W (RetB W (decide (0 < tot k σ.s)))) := Lib.hid (fun W hb => by
      have h := stacked_walk (HLD.out W hb).1.st (by have := HSL.out.1; omega) k
      rw [HSC.out] at h
      exact h)
    have KN : Hid (∀ W, Below w5.heap.size w5 W → Calls Tryz.prog 56 #[.agg (l12C s.c (.slice F5 n5 d5) (.slice F6 n6 d6)), .int .i64 2] W fun e w' => e = .returned (.int .i64 (nk 2 σ.s : Nat)) ∧ Below W.heap.size W w') := Lib.hid (fun W hb => by
      have h := licount_walk (HLD.out W hb).1.st (by have := HSL.out.1; omega) 2
      rw [HSC.out] at h
      exact h)
    have KR := Lib.hid (fun W : World => hotroom_walk (w := W) s.c hcp hcq)
    have KU : Hid (∀ W hot, Below w5.heap.size w5 W → Calls Tryz.prog 53 #[.pointer (some ⟨w.heap.size, 0, none⟩), .int .u64 (k : Nat), .bool hot] W fun e w2 => e = .returned (.tuple #[]) ∧ Only [w.heap.size] W w2 ∧ ∃ v1 v2, Bx12 w w2 PT12 w.heap.size (w.heap.size + 1) (σ.useP k hot) v1 v2) := Lib.hid (fun W hot hb => puse_walk (HLD.out W hb).1 (by have := HSL.out.1; omega) (by have := HSL.out.2; omega) (by rw [HSC.out]; exact hcp) (by rw [HSC.out]; exact hcq) k hot)
    obtain ⟨st, hst⟩ : ∃ st, decide (0 < tot k σ.s) = st := ⟨_, rfl⟩
    obtain ⟨n2, hn2⟩ : ∃ n, nk 2 σ.s = n := ⟨_, rfl⟩
    obtain ⟨rm, hrr⟩ : ∃ r, roomH s.c = r := ⟨_, rfl⟩
    rw [hst, hn2, hrr] at HA1
    rw [hst] at KS
    rw [hn2] at KN HNE
    rw [hrr] at KR hrm
    have hn2I : (n2 : Int) ≤ 2097152 := by have := HNE.out; have := HSL.out.1; omega
    have hrmI : (rm : Int) ≤ 1048576 := by omega
    clear hx5 ho5 KE x0 x1 x2 xf0 xf1 xf2 hbb hst hn2 hrr hrm
    obtain ⟨-, x0, x1, x2⟩ := HLD.out _ (Below.refl _ _)
    have hbb := (head_row HX5.out.bo.box).lt
    obtain ⟨hot, hho⟩ : ∃ hot, (st || decide (n2 < rm)) = hot := ⟨_, rfl⟩
    rw [hho] at HA1
    go_upto_region 5 with fail
    go_cut [] (fun wx => ∃ wy, Below w5.heap.size w5 wy ∧ Only [w.heap.size] wy wx ∧ ∃ v1 v2, Bx12 w wx PT12 w.heap.size (w.heap.size + 1) (σ.useP k hot) v1 v2)
    case first =>
      cases st
      · have HHO := hho
        clear hho
        have hhn := HHO
        rw [Bool.false_or] at hhn
        clear HHO
        have HHO := hhn
        clear hhn
        go_region_law
          (first
            | (go_simp; go_at_call 54; refine (KS.out _ (below_drewn (Below.refl _ _) 1)).mono ?_; rintro e wa ⟨rfl, hba⟩; have hb1 := (below_drewn (Below.refl w5.heap.size w5) 1).trans hba; obtain ⟨hxa, xa0, xa1, xa2⟩ := HLD.out wa hb1)
            | (go_simp; go_at_call 56; refine (KN.out _ hb1).mono ?_; rintro e wb ⟨rfl, hbb2⟩; have hb2 := hb1.trans (hbb2.mono hb1.size); obtain ⟨hxb, xb0, xb1, xb2⟩ := HLD.out wb hb2)
            | (go_simp; go_at_call 57; refine (KR.out _).mono ?_; rintro e wk ⟨rfl, rfl⟩)
            | (go_simp; go_at_call 53; refine (KU.out _ _ hb2).mono ?_; rintro e wz ⟨rfl, hon, v1, v2, hxz⟩))
        all_goals
          subst HHO
          go_wp2_with fail
          go_meet
          exact ⟨wb, hb2, hon, v1, v2, hxz⟩
      · have HHO := hho
        rw [Bool.true_or] at HHO
        clear hho
        subst HHO
        refine wp_region_any (by kernel_rfl) ?_
        try (change wpAny _ _ _ _ _ _ _ (World.drew _))
        refine wpAny_take (i := 0) (v := ?va0) rfl (by as_aux_lemma => kernel_rfl) (by as_aux_lemma => kernel_rfl) (by as_aux_lemma => kernel_rfl) (fun _ _ _ h => h) (Or.inl ⟨by rfl, ?ha0⟩) ?ra0
        case ha0 =>
          intro w
          go_simp
          try with_reducible rfl
        try simp only [Act.put, Array.reduceGetElem, List.setIfInBounds_toArray, List.set_cons_zero, List.set_cons_succ]
        refine wpAny_take (i := 2) (v := ?va2) rfl (by as_aux_lemma => kernel_rfl) (by as_aux_lemma => kernel_rfl) (by as_aux_lemma => kernel_rfl) (fun _ _ _ h => h) (Or.inl ⟨by rfl, ?ha2⟩) ?ra2
        case ha2 =>
          intro w
          go_simp
          try with_reducible rfl
        try simp only [Act.put, Array.reduceGetElem, List.setIfInBounds_toArray, List.set_cons_zero, List.set_cons_succ]
        refine wpAny_ready (rs := [1]) (by as_aux_lemma => kernel_rfl) (by simp) ?_
        refine AllReady.cons rfl (fun K hK => ?_) AllReady.nil
        go_simp
        refine hK _ _ ?_
        clear hK K
        try simp only [Act.put, Array.reduceGetElem, List.setIfInBounds_toArray, List.set_cons_zero, List.set_cons_succ]
        refine wpAny_ready (rs := [3]) (by as_aux_lemma => kernel_rfl) (by simp) ?_
        refine AllReady.cons rfl (fun K hK => ?_) AllReady.nil
        go_simp
        go_at_call 54
        refine (KS.out _ (below_drewn (Below.refl _ _) 1)).mono ?_
        rintro e wa ⟨rfl, hba⟩
        have hb1 := (below_drewn (Below.refl w5.heap.size w5) 1).trans hba
        obtain ⟨hxa, xa0, xa1, xa2⟩ := HLD.out wa hb1
        refine hK _ _ ?_
        clear hK K
        try simp only [Act.put, Array.reduceGetElem, List.setIfInBounds_toArray, List.set_cons_zero, List.set_cons_succ]
        refine wpAny_take (i := 4) (v := ?va4) rfl (by as_aux_lemma => kernel_rfl) (by as_aux_lemma => kernel_rfl) (by as_aux_lemma => kernel_rfl) (fun _ _ _ h => h) (Or.inl ⟨by rfl, ?ha4⟩) ?ra4
        case ha4 =>
          intro w
          go_simp
          try with_reducible rfl
        try simp only [Act.put, Array.reduceGetElem, List.setIfInBounds_toArray, List.set_cons_zero, List.set_cons_succ]
        refine wpAny_take (i := 5) (v := undef) rfl (by as_aux_lemma => kernel_rfl) (by as_aux_lemma => kernel_rfl) (by as_aux_lemma => kernel_rfl) (fun _ _ _ h => h) (Or.inr ⟨by rfl, rfl⟩) ?_
        try simp only [Act.put, Array.reduceGetElem, List.setIfInBounds_toArray, List.set_cons_zero, List.set_cons_succ]
        refine wpAny_take (i := 7) (v := undef) rfl (by as_aux_lemma => kernel_rfl) (by as_aux_lemma => kernel_rfl) (by as_aux_lemma => kernel_rfl) (fun _ _ _ h => h) (Or.inr ⟨by rfl, rfl⟩) ?_
        try simp only [Act.put, Array.reduceGetElem, List.setIfInBounds_toArray, List.set_cons_zero, List.set_cons_succ]
        refine wpAny_take (i := 8) (v := undef) rfl (by as_aux_lemma => kernel_rfl) (by as_aux_lemma => kernel_rfl) (by as_aux_lemma => kernel_rfl) (fun _ _ _ h => h) (Or.inr ⟨by rfl, rfl⟩) ?_
        try simp only [Act.put, Array.reduceGetElem, List.setIfInBounds_toArray, List.set_cons_zero, List.set_cons_succ]
        refine wpAny_ready (rs := [6]) (by as_aux_lemma => kernel_rfl) (by simp) ?_
        refine AllReady.cons rfl (fun K hK => ?_) AllReady.nil
        go_simp
        refine hK _ _ ?_
        clear hK K
        try simp only [Act.put, Array.reduceGetElem, List.setIfInBounds_toArray, List.set_cons_zero, List.set_cons_succ]
        refine wpAny_ready (rs := [9]) (by as_aux_lemma => kernel_rfl) (by simp) ?_
        refine AllReady.cons rfl (fun K hK => ?_) AllReady.nil
        go_simp
        refine hK _ _ ?_
        clear hK K
        try simp only [Act.put, Array.reduceGetElem, List.setIfInBounds_toArray, List.set_cons_zero, List.set_cons_succ]
        refine wpAny_take (i := 10) (v := undef) rfl (by as_aux_lemma => kernel_rfl) (by as_aux_lemma => kernel_rfl) (by as_aux_lemma => kernel_rfl) (fun _ _ _ h => h) (Or.inr ⟨by rfl, rfl⟩) ?_
        try simp only [Act.put, Array.reduceGetElem, List.setIfInBounds_toArray, List.set_cons_zero, List.set_cons_succ]
        refine wpAny_take (i := 11) (v := ?va11) rfl (by as_aux_lemma => kernel_rfl) (by as_aux_lemma => kernel_rfl) (by as_aux_lemma => kernel_rfl) (fun _ _ _ h => h) (Or.inl ⟨by rfl, ?ha11⟩) ?ra11
        case ha11 =>
          intro w
          go_simp
          try with_reducible rfl
        try simp only [Act.put, Array.reduceGetElem, List.setIfInBounds_toArray, List.set_cons_zero, List.set_cons_succ]
        refine wpAny_ready (rs := [12]) (by as_aux_lemma => kernel_rfl) (by simp) ?_
        refine AllReady.cons rfl (fun K hK => ?_) AllReady.nil
        go_simp
        go_at_call 53
        refine (KU.out _ _ hb1).mono ?_
        rintro e wz ⟨rfl, hon, v1, v2, hxz⟩
        refine hK _ _ ?_
        clear hK K
        try simp only [Act.put, Array.reduceGetElem, List.setIfInBounds_toArray, List.set_cons_zero, List.set_cons_succ]
        refine wpAny_done (by as_aux_lemma => kernel_rfl) ?_ _
        go_wp2_with fail
        go_meet
        exact ⟨wa, hb1, hon, v1, v2, hxz⟩
    case rest =>
      obtain ⟨wy, hby, hon, v1, v2, hx6⟩ := hcut
      obtain ⟨w6, hw6⟩ : ∃ W, W = wc := ⟨_, rfl⟩
      subst hw6
      have HO6 := Lib.hid ((HX5.out.step hby).bo.kv (hon.mono (by simp)) (HO5.out.below hby))
      have hc6 : (σ.useP k hot).c = s.c := (L12.useP_c _ _ _).trans HSC.out
      have hl6 : (σ.useP k hot).s.length ≤ 2097153 := by have := L12.useP_len σ k hot; have := HSL.out.1; omega
      generalize σ.useP k hot = π at hx6 hc6 hl6 HA1
      have HPC := Lib.hid hc6
      have KF := Lib.hid (pforget_walk hx6 (by omega) (by rw [hc6]; exact hcq))
      have HX6 := Lib.hid hx6
      clear hx6 hon hby hc6 hl6 HX5 HO5 HLD KS KN KR KU x0 x1 x2 hbb
      go_wp2_with fail
      refine KF.out.mono ?_
      rintro e w7 ⟨rfl, hon7, v7, hx7⟩
      obtain ⟨F7, n7, d7, rfl⟩ := hx7.st.form1
      obtain ⟨F8, n8, d8, rfl⟩ := hx7.st.form2
      have HO7 := Lib.hid (HX6.out.bo.kv (hon7.mono (by simp)) HO6.out)
      have HX7 := Lib.hid hx7
      obtain ⟨⟨x0, x1, x2⟩, xf0, xf1, xf2⟩ := c3_at hx7.bo.box
      have x0' : w7.cell? ⟨w.heap.size, 0, none⟩ = some (.int .i64 (s.c : Nat)) := by rw [← HPC.out]; exact x0
      have hbb := (head_row hx7.bo.box).lt
      obtain ⟨⟨y0, y1, y2⟩, yf0, yf1, yf2⟩ := c3_at hx7.bo.res
      have hrr := (head_row hx7.bo.res).lt
      clear hx7 hon7 KF HX6 HO6 x0
      go_wp2
      exact bodyPost_ret (v := .tuple #[.agg (l12C s.c (.slice F7 n7 d7) (.slice F8 n8 d8)), o5]) (by simp [results, Tryz.results24, go_sem, y0, y1, y2]) rfl (by rw [HA1.out, HA2.out]; exact HX7.out.bo.tell12o HX7.out.st HPC.out HO7.out)
end
theorem pol12Ok : Pol12Ok where
  new := fun _ n h1 h2 => p12new_walk n h1 h2
  touch := fun hs ok k _ => p12touch_walk hs ok k
  adm := fun hs ok k hk => p12admit_walk hs ok k hk
  drop := fun hs ok k _ => p12drop_walk hs ok k
  resize := fun hs ok n h1 h2 => p12resize_walk hs ok n h1 h2
  has := fun hs ok k _ => p12has_walk hs ok k
  keys := fun hs ok => p12keys_walk hs ok
  ghosts := fun hs ok => p12ghosts_walk hs ok
end Go.Proofs.YtkhikpnlpcankaaGreat
