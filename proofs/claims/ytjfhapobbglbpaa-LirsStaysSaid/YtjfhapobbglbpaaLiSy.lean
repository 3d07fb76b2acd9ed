/- Inter-reference recency: Stays, walked. -/
import Derived.Test.YtjfhapobbglbpaaLiBd
namespace Go.Proofs.Ytjfhapobbglbpaa
open Go Go.RowKit Go.Deep

/- A hit: the keys that were there are there; a hot one comes to the front of the stack. -/
theorem L12.Ok.stays {s : L12} (h : s.Ok) {k : Nat} (hk : k < 18446744073709551616) : (∀ x ∈ s.keys, x ∈ (s.touch k).keys) ∧ (s.touch k).keys.length = s.keys.length := by
  have h1 := (h.touch hk).2
  have h2 : (s.touch k).keys.Perm s.keys := List.perm_iff_count.2 h1
  exact ⟨fun x hx => h2.mem_iff.2 hx, h2.length_eq⟩
theorem L12.touch_hot {s : L12} {k : Nat} (h : 0 < ct k 2 s.s) : ∃ l, (s.touch k).s = ⟨k, 2⟩ :: l := by
  unfold touch
  rw [if_pos h]
  show ∃ l, pr (⟨k, 2⟩ :: wi k s.s) = ⟨k, 2⟩ :: l
  rw [pr, if_pos (by rw [nk_cons]; simp)]
  exact ⟨_, rfl⟩
theorem ct_next {xs : List It} {i : Nat} (k f : Nat) (hi : i < xs.length) : ct k f (xs.take (i + 1)) = ct k f (xs.take i) + if xs[i].key = k ∧ xs[i].f = f then 1 else 0 := by
  unfold ct
  rw [List.take_succ_eq_append_getElem hi, List.count_append, List.count_singleton]
  congr 1
  obtain ⟨a, b⟩ := xs[i]
  by_cases h : a = k ∧ b = f
  · obtain ⟨rfl, rfl⟩ := h
    simp
  · rw [if_neg h]
    have h2 : ¬ (⟨a, b⟩ : It) = ⟨k, f⟩ := fun e => h (by injection e with e1 e2; exact ⟨e1, e2⟩)
    simp [h2]
section
variable {w : World} {v : Value} {l : List Act8}
set_option maxHeartbeats 4000000 in
set_option maxRecDepth 4000 in
theorem stays12_short (PO : Pol12Ok) (AW : ∀ w, Calls Try.prog 9 #[] w (RetB w true)) (c : Nat) (hc : c < 256) (ha : AV w v l) (hl : l.length ≤ 60) (k : Nat) (hk : k < 18446744073709551616) : Calls Try.prog 8 #[.int .u8 (c : Nat), v, .int .u64 (k : Nat)] w (RetB w true) := by
  have HAW := Lib.hid (AW w)
  have HRUN : Hid (∀ W, AV W v l → Calls Try.prog 16 #[.int .u8 (c : Nat), v] W (P12 W ((L12.new (1 + c % 12 : Nat)).runS l))) := Lib.hid (fun W h => run12_walk PO c hc h hl)
  have HOKN := Lib.hid (run12_ok ha c)
  have HAV := Lib.hid ha
  obtain ⟨A, cap, rfl, _⟩ := ha.mem
  obtain ⟨na, hna⟩ : ∃ na, l.length = na := ⟨_, rfl⟩
  rw [hna] at hl HAV HRUN ⊢
  obtain ⟨σ, hσN⟩ : ∃ σN, (L12.new (1 + c % 12 : Nat)).runS l = σN := ⟨_, rfl⟩
  rw [hσN] at HRUN HOKN
  have hok2 := (HOKN.out.touch hk).1
  have HTO : Hid (∀ W u1 u2, St12 W σ u1 u2 → Calls Try.prog 27 #[.agg (l12C σ.c u1 u2), .int .u64 (k : Nat)] W (P12 W (σ.touch k))) := Lib.hid (fun W _ _ h => PO.touch h HOKN.out k hk)
  have HHOT : Hid (0 < ct k 2 σ.s → ∃ l, (σ.touch k).s = ⟨k, 2⟩ :: l) := Lib.hid L12.touch_hot
  obtain ⟨hin, hln⟩ := HOKN.out.stays hk
  have hct : (σ.touch k).c = σ.c := by
    unfold L12.touch
    repeat' split
    all_goals first
      | rfl
      | exact L12.cool_c _
  obtain ⟨τ, hτ⟩ : ∃ τ, σ.touch k = τ := ⟨_, rfl⟩
  rw [hτ] at HTO HHOT hin hln hct hok2
  have HIN := Lib.hid hin
  have HLN := Lib.hid hln
  have HKS : Hid (∀ W u1 u2, St12 W σ u1 u2 → Calls Try.prog 18 #[.agg (l12C σ.c u1 u2)] W (RetK W σ.keys)) := Lib.hid (fun W _ _ h => PO.keys h HOKN.out)
  have HKT : Hid (∀ W u1 u2, St12 W τ u1 u2 → Calls Try.prog 18 #[.agg (l12C τ.c u1 u2)] W (RetK W τ.keys)) := Lib.hid (fun W _ _ h => PO.keys h hok2)
  have hsl := HOKN.out.sl
  have htl := hok2.sl
  have hkl := HOKN.out.keysLen
  have HKB := Lib.hid hok2.keysLen
  clear ha hna AW hσN hc HOKN hok2 hin hln hτ
  have hlI : ¬ (60 : Int) < (na : Int) := by omega
  obtain ⟨cc, hcc⟩ : ∃ cc, σ.c = cc := ⟨_, rfl⟩
  have HCC := Lib.hid hcc
  have HCT := Lib.hid (hct.trans hcc)
  rw [hcc] at HTO HKS
  rw [hct, hcc] at HKT
  clear hcc hct
  go_enter Try.func8, Try.ntmps8
  go_wp2_with fail
  refine (HAW.out).mono ?_
  rintro e w1 ⟨rfl, hb1⟩
  have HL1 := Lib.hid hb1
  have HAV1 := Lib.hid (HAV.out.below hb1)
  clear hb1 HAW HAV
  go_wp2_with fail
  refine (HRUN.out w1 HAV1.out).mono ?_
  rintro e w2 ⟨q1, q2, he, hb2, hk2⟩
  obtain ⟨F1, d1, rfl, -⟩ := hk2.g1.mem
  obtain ⟨F2, n2, d2, rfl⟩ := hk2.form2
  obtain ⟨n1, hn1⟩ : ∃ m, σ.s.length = m := ⟨_, rfl⟩
  have HN := Lib.hid hn1
  rw [hn1] at hk2 he hsl
  rw [HCC.out] at he
  subst he
  have hbs := Bs12.new (T := PT12) (by decide) (HL1.out.trans (hb2.mono HL1.out.size)) hk2
  rw [HCC.out] at hbs
  have HS2 := Lib.hid hbs
  clear hb2 hk2 hbs HRUN HL1 HAV1 hn1
  have hi5 : (n1 : Int) ≤ 2097152 := by omega
  have KT := Lib.hid (HTO.out _ _ _ HS2.out.st)
  go_wp2_with fail
  refine KT.out.mono ?_
  rintro e w3 ⟨q1, q2, he, hb3, hk3⟩
  obtain ⟨F3, d3, rfl, -⟩ := hk3.g1.mem
  obtain ⟨F4, n4, d4, rfl⟩ := hk3.form2
  obtain ⟨n3, hn3⟩ : ∃ m, τ.s.length = m := ⟨_, rfl⟩
  have HN3 := Lib.hid hn3
  rw [hn3] at hk3 he htl
  rw [HCT.out] at he
  subst he
  have hs3 := HS2.out.step hb3
  have hbt := Bs12.new (T := PT12) (by decide) hs3.low hk3
  rw [HCT.out] at hbt
  have HT3 := Lib.hid hbt
  have HS3 := Lib.hid (hs3.step (low_one w3 (.cells (l12C cc (.slice F3 n3 d3) (.slice F4 n4 d4)) PT12)))
  have hne1 : w2.heap.size < w3.heap.size := (head_row hs3.box).lt
  clear hb3 hk3 hbt hs3 KT HTO HS2 hn3
  have K1 := Lib.hid (HKS.out _ _ _ HS3.out.st)
  have hsb := HS3.out.box
  rw [HCC.out] at hsb
  obtain ⟨⟨x0, x1, x2⟩, _⟩ := c3_at hsb
  clear hsb
  go_wp2_with fail
  refine K1.out.mono ?_
  rintro e w4 ⟨va, rfl, hb4, hka⟩
  have HS4 := Lib.hid (HS3.out.step hb4)
  have HT4 := Lib.hid (HT3.out.step hb4)
  have HKA := Lib.hid hka
  have K2 := Lib.hid (HKT.out _ _ _ HT4.out.st)
  have htb := HT4.out.box
  rw [HCT.out] at htb
  clear hb4 hka K1 HS3 HT3 x0 x1 x2
  obtain ⟨⟨z0, z1, z2⟩, _⟩ := c3_at htb
  clear htb
  go_wp2_with fail
  refine K2.out.mono ?_
  rintro e w5 ⟨vb, rfl, hb5, hkb⟩
  have HS5 := Lib.hid (HS4.out.step hb5)
  have HT5 := Lib.hid (HT4.out.step hb5)
  have HKA5 := Lib.hid (HKA.out.below hb5)
  have HKB5 := Lib.hid hkb
  clear hb5 hkb K2 HS4 HT4 HKA z0 z1 z2
  generalize w2.heap.size = b at *
  generalize w3.heap.size = bt at *
  obtain ⟨Fa, ca, ea, -⟩ := HKA5.out.mem
  subst ea
  obtain ⟨Fb, cb, eb, -⟩ := HKB5.out.mem
  subst eb
  obtain ⟨m1, hm1⟩ : ∃ m, σ.keys.length = m := ⟨_, rfl⟩
  have HM1 := Lib.hid hm1
  have hlen := HLN.out
  rw [hm1] at hlen hkl HKA5 ⊢
  rw [hlen] at HKB5 ⊢
  have hm1I : (m1 : Int) ≤ 100000000 := by omega
  clear hm1 hkl hlen
  go_wp2_with fail
  go_loopg [12] m1 (fun gg s12 wr => ∃ i : Nat, i + gg = m1 ∧ s12 = .int .i64 (i : Nat) ∧ wr = w5)
  case atStart => exact ⟨0, by omega, rfl, rfl⟩
  case round =>
    obtain ⟨i, hi, rfl, rfl⟩ := hrel
    by_cases hlt : i < m1
    · have hltI : (i : Int) < (m1 : Int) := by omega
      have hil : i < σ.keys.length := by rw [HM1.out]; exact hlt
      obtain ⟨F', c', e, _, _, h3⟩ := HKA5.out.mem
      injection e with e1 e2 e3
      subst e1 e3
      obtain ⟨ad, rfl, hadb, q0⟩ := h3 i hil
      obtain ⟨kx, hkx⟩ : ∃ kx, σ.keys[i] = kx := ⟨_, rfl⟩
      have HX : Hid (kx ∈ τ.keys) := Lib.hid (HIN.out kx (hkx ▸ List.getElem_mem hil))
      rw [hkx] at q0
      have K := Lib.hid (rhas_walk HKB5.out HKB.out kx)
      rw [decide_eq_true HX.out] at K
      clear h3 hkx e2 hlt
      go_wp2_with fail
      refine K.out.mono ?_
      rintro e wx ⟨rfl, rfl⟩
      clear K
      go_wp2
      go_roundg (gk - 1)
      case measure => omega
      case rel => exact ⟨i + 1, by omega, by go_num, rfl⟩
    · have hltI : ¬ (i : Int) < (m1 : Int) := by omega
      obtain rfl : i = m1 := by omega
      have hsb := HS5.out.box
      have htb := HT5.out.box
      rw [HCC.out] at hsb
      rw [HCT.out] at htb
      obtain ⟨⟨x0, x1, x2⟩, _⟩ := c3_at hsb
      obtain ⟨⟨z0, z1, z2⟩, _⟩ := c3_at htb
      clear hsb htb hlt hi HKA5 HKB5 HIN HLN HKB HKS HKT
      go_wp2_with fail
      go_loopg [13, 14] n1 (fun gg s13 s14 wq => ∃ (j : Nat) (h : Bool), j + gg = n1 ∧ s13 = .bool h ∧ s14 = .int .i64 (j : Nat) ∧ Hid (h = decide (0 < ct k 2 (σ.s.take j))) ∧ wq = wr)
      case atStart => exact ⟨0, false, by omega, rfl, rfl, Lib.hid rfl, rfl⟩
      case round =>
        obtain ⟨j, h, hj, rfl, rfl, HH, rfl⟩ := hrel
        by_cases hlt : j < n1
        · have hltI : (j : Int) < (n1 : Int) := by omega
          have hil : j < σ.s.length := by rw [HN.out]; exact hlt
          obtain ⟨F', d', e, _, _, h3⟩ := HS5.out.st.g1.mem
          injection e with e1 e2 e3
          subst e1 e3
          obtain ⟨g, off, hF, hg, q0, q1⟩ := h3 j hil
          subst hF
          have hnx := ct_next k 2 hil
          obtain ⟨kx, hkx⟩ : ∃ k, σ.s[j].key = k := ⟨_, rfl⟩
          obtain ⟨fx, hfx⟩ : ∃ f, σ.s[j].f = f := ⟨_, rfl⟩
          rw [hkx] at q0 hnx
          rw [hfx] at q1 hnx
          clear h3 e2 hkx hfx
          cases h
          · have hz : ct k 2 (σ.s.take j) = 0 := by have := of_decide_eq_false HH.out.symm; omega
            rw [hz, Nat.zero_add] at hnx
            by_cases hek : kx = k
            · subst hek
              by_cases hef : fx = 2
              · subst hef
                have HX : Hid (true = decide (0 < ct kx 2 (σ.s.take (j + 1)))) := Lib.hid (by rw [hnx, if_pos ⟨rfl, rfl⟩]; rfl)
                replace q1 : wr.cell? ⟨g, off + j * 2 + 1, none⟩ = some (.int .i64 2) := q1
                clear hnx hz HH
                go_wp2
                go_roundg (gk - 1)
                case measure => omega
                case rel => exact ⟨j + 1, true, by omega, by go_num, by go_num, HX, rfl⟩
              · have HX : Hid (false = decide (0 < ct kx 2 (σ.s.take (j + 1)))) := Lib.hid (by rw [hnx, if_neg (fun e => hef e.2)]; rfl)
                have hefI : ¬ (fx : Int) = 2 := by omega
                clear hnx hz HH
                go_wp2
                go_roundg (gk - 1)
                case measure => omega
                case rel => exact ⟨j + 1, false, by omega, by go_num, by go_num, HX, rfl⟩
            · have HX : Hid (false = decide (0 < ct k 2 (σ.s.take (j + 1)))) := Lib.hid (by rw [hnx, if_neg (fun e => hek e.1)]; rfl)
              have hekI : ¬ (kx : Int) = (k : Int) := by omega
              clear hnx hz HH
              go_wp2
              go_roundg (gk - 1)
              case measure => omega
              case rel => exact ⟨j + 1, false, by omega, by go_num, by go_num, HX, rfl⟩
          · have hz : 0 < ct k 2 (σ.s.take j) := of_decide_eq_true HH.out.symm
            have HX : Hid (true = decide (0 < ct k 2 (σ.s.take (j + 1)))) := Lib.hid (by rw [decide_eq_true (by omega)])
            clear hnx hz HH
            go_wp2
            go_roundg (gk - 1)
            case measure => omega
            case rel => exact ⟨j + 1, true, by omega, by go_num, by go_num, HX, rfl⟩
        · have hltI : ¬ (j : Int) < (n1 : Int) := by omega
          obtain rfl : j = n1 := by omega
          have HL := Lib.hid HS5.out.low
          cases h
          · go_wp2
            go_ret
            exact ⟨rfl, HL.out⟩
          · have hz : 0 < ct k 2 σ.s := by have := of_decide_eq_true HH.out.symm; rwa [← HN.out, List.take_length] at this
            obtain ⟨lt, hlt2⟩ := HHOT.out hz
            have hi3 := HT5.out.st.g1
            rw [hlt2] at hi3 HN3
            obtain ⟨F', d', e, _, _, h3⟩ := hi3.mem
            injection e with e1 e2 e3
            subst e1 e3
            obtain ⟨g, off, hF, hg, q0, q1⟩ := h3 0 (by simp)
            subst hF
            dsimp only [List.getElem_cons_zero] at q0 q1
            rw [Nat.zero_mul, Nat.add_zero] at q0 q1
            have hn3 : 0 < n3 := by rw [← HN3.out]; simp
            have hn3I : (0 : Int) < (n3 : Int) := by omega
            clear h3 e2 hi3 hlt2
            go_wp2
            go_ret
            exact ⟨rfl, HL.out⟩
theorem stays12_walk (PO : Pol12Ok) (AW : ∀ w, Calls Try.prog 9 #[] w (RetB w true)) (c : Nat) (hc : c < 256) (ha : AV w v l) (k : Nat) (hk : k < 18446744073709551616) : Calls Try.prog 8 #[.int .u8 (c : Nat), v, .int .u64 (k : Nat)] w (RetB w true) := by
  by_cases hl : l.length ≤ 60
  · exact stays12_short PO AW c hc ha hl k hk
  · have HAW := Lib.hid (fun W => AW W)
    obtain ⟨A, cap, rfl, _⟩ := ha.mem
    obtain ⟨na, hna⟩ : ∃ na, l.length = na := ⟨_, rfl⟩
    rw [hna] at hl ⊢
    have hlI : (60 : Int) < (na : Int) := by omega
    clear ha hna AW
    go_enter Try.func8, Try.ntmps8
    go_wp2_with fail
    refine (HAW.out _).mono ?_
    rintro e w1 ⟨rfl, hb1⟩
    have HB := Lib.hid hb1
    clear hb1
    go_wp2
    go_ret
    exact ⟨rfl, HB.out⟩
end
end Go.Proofs.Ytjfhapobbglbpaa
