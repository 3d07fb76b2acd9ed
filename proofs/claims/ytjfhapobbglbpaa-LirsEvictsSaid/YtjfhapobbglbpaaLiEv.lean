/- Inter-reference recency: Evicts, walked. -/
import Derived.Test.YtjfhapobbglbpaaLiU
namespace Go.Proofs.Ytjfhapobbglbpaa
open Go Go.RowKit Go.Deep

section
variable {w : World} {v : Value} {l : List Act8}
set_option maxHeartbeats 8000000 in
set_option maxRecDepth 4000 in
theorem evicts12_short (PO : Pol12Ok) (AW : ∀ w, Calls Try.prog 9 #[] w (RetB w true)) (c : Nat) (hc : c < 256) (ha : AV w v l) (hl : l.length ≤ 60) (x : Act8) (wf : x.Ok) : Calls Try.prog 5 #[.int .u8 (c : Nat), v, .agg (act8C x)] w (RetB w true) := by
  have HAW := Lib.hid AW
  have HRUN : Hid (∀ W, AV W v l → Calls Try.prog 16 #[.int .u8 (c : Nat), v] W (P12 W ((L12.new (1 + c % 12 : Nat)).runS l))) := Lib.hid (fun W h => run12_walk PO c hc h hl)
  have HOKR : Hid (∀ i, ((L12.new (1 + c % 12 : Nat)).runS (l.take i)).Ok) := Lib.hid (fun i => (L12.ok_new _).runS _ (fun x hx => by
    obtain ⟨A, c', _, h1⟩ := ha.mem
    obtain ⟨j, hj, rfl⟩ := List.getElem_of_mem (List.mem_of_mem_take hx)
    exact (h1 j hj).1))
  have HOKN : Hid (((L12.new (1 + c % 12 : Nat)).runS l).Ok) := Lib.hid (by have := HOKR.out l.length; rwa [List.take_length] at this)
  have HAV := Lib.hid ha
  obtain ⟨A, cap, rfl, _⟩ := ha.mem
  obtain ⟨na, hna⟩ : ∃ na, l.length = na := ⟨_, rfl⟩
  rw [hna] at hl HAV HRUN ⊢
  have HNA := Lib.hid hna
  have HAX : Hid (∀ W, Below w.heap.size w W → ∀ i (hi : i < l.length), l[i].Ok ∧ ∃ g off, A = some ⟨g, off, none⟩ ∧ g < w.heap.size ∧ ActAt W g (off + i * 3) l[i]) := Lib.hid (fun W hb i hi => by
    obtain ⟨A', c', e, h1⟩ := HAV.out.mem
    injection e with e1 _ _
    subst e1
    obtain ⟨ok, g, off, e2, hg, hcc⟩ := h1 i hi
    exact ⟨ok, g, off, e2, hg, hcc.keep (hb.block g hg)⟩)
  obtain ⟨m0, hm0⟩ : ∃ m : Nat, 1 + c % 12 = m := ⟨_, rfl⟩
  have hmI : (1 : Int) + (c : Int) % 12 = (m0 : Int) := by omega
  have hm14 : m0 ≤ 12 := by omega
  rw [hm0] at HRUN HOKR HOKN
  obtain ⟨s0, hs0⟩ : ∃ s0, L12.new (m0 : Int) = s0 := ⟨_, rfl⟩
  rw [hs0] at HRUN HOKR HOKN
  obtain ⟨σ, hσN⟩ : ∃ σN, s0.runS l = σN := ⟨_, rfl⟩
  rw [hσN] at HRUN HOKN
  have hev := HOKN.out.evs wf
  have hok2 := HOKN.out.act wf
  have hwl := HOKN.out.keysLen
  have hil := hok2.keysLen
  have hol := HOKN.out.actOutLen wf
  have HKK : Hid (∀ W, Calls Try.prog 23 #[.agg (act8C x), .bool (decide (x.key ∈ σ.keys))] W fun e w' => e = .returned (.int .i64 (kindA x (decide (x.key ∈ σ.keys)) : Nat)) ∧ Below W.heap.size W w') := Lib.hid (fun W => rkind_walk x wf _)
  have HSZ : Hid (∀ W, Calls Try.prog 24 #[.agg (act8C x)] W fun e w' => e = .returned (.int .i64 (sizeA x : Nat)) ∧ Below W.heap.size W w') := Lib.hid (fun W => rsize_walk x wf)
  have HDO : Hid (∀ W u1 u2, St12 W σ u1 u2 → Calls Try.prog 12 #[.agg (l12C σ.c u1 u2), .agg (act8C x)] W (P12o W (σ.act x) (σ.actOut x))) := Lib.hid (fun W _ _ h => do12_walk PO h HOKN.out x wf)
  have HKY : Hid (∀ W u1 u2, St12 W σ u1 u2 → Calls Try.prog 18 #[.agg (l12C σ.c u1 u2)] W (RetK W σ.keys)) := Lib.hid (fun W _ _ h => PO.keys h HOKN.out)
  have HKY2 : Hid (∀ W u1 u2, St12 W ((σ.act x)) u1 u2 → Calls Try.prog 18 #[.agg (l12C ((σ.act x)).c u1 u2)] W (RetK W (σ.act x).keys)) := Lib.hid (fun W _ _ h => PO.keys h hok2)
  obtain ⟨q, hq⟩ : ∃ q, kindA x (decide (x.key ∈ σ.keys)) = q := ⟨_, rfl⟩
  have hq4 := kindA_is x (decide (x.key ∈ σ.keys))
  have hsz := sizeA_is x
  rw [hq] at HKK hev hq4
  obtain ⟨z, hz⟩ : ∃ z, sizeA x = z := ⟨_, rfl⟩
  rw [hz] at HSZ hev hsz
  obtain ⟨was, hwas⟩ : ∃ was, σ.keys = was := ⟨_, rfl⟩
  obtain ⟨is, his⟩ : ∃ is, (σ.act x).keys = is := ⟨_, rfl⟩
  obtain ⟨out, hout⟩ : ∃ out, σ.actOut x = out := ⟨_, rfl⟩
  rw [hwas] at HKY HKK hev hwl
  rw [his] at HKY2 hev hil
  rw [hout] at HDO hev hol
  have HEV := Lib.hid hev
  have HWL := Lib.hid hwl
  have HIL := Lib.hid hil
  have HOL := Lib.hid hol
  clear ha hs0 hna AW hm0 hσN hev hok2 hwl hil hol hq hz hwas his hout wf hc HAX HOKR HNA
  have hlI : ¬ (60 : Int) < (na : Int) := by omega
  go_enter Try.func5, Try.ntmps5
  go_wp2_with fail
  refine (HAW.out _).mono ?_
  rintro e w1 ⟨rfl, hb1⟩
  have HL1 := Lib.hid ((low_one w (.cells (act8C x) 38)).trans (hb1.mono (by simp)))
  have HAV1 := Lib.hid (HAV.out.below HL1.out)
  have HA1 := Lib.hid ((hb1.block w.heap.size (by simp)).trans (heap_alloc_new w (.cells (act8C x) 38)))
  clear hb1 HAW HAV
  generalize w.heap.size = b5 at HA1 ⊢
  go_wp2_with fail
  refine (HRUN.out w1 HAV1.out).mono ?_
  rintro e w2 ⟨q1, q2, rfl, hb2, hk2⟩
  obtain ⟨Fa1, na1, da1, rfl⟩ := hk2.form1
  obtain ⟨Fa2, na2, da2, rfl⟩ := hk2.form2
  have HL2 := Lib.hid (HL1.out.trans (hb2.mono HL1.out.size))
  have hb5 := (head_row HA1.out).lt
  have HA2 := Lib.hid ((hb2.block b5 hb5).trans HA1.out)
  have HS2 := Lib.hid (hk2.below (low_one w2 (.cells (l12C σ.c (.slice Fa1 na1 da1) (.slice Fa2 na2 da2)) PT12)))
  have HL3 := Lib.hid (HL2.out.alloc HL2.out.size (.cells (l12C σ.c (.slice Fa1 na1 da1) (.slice Fa2 na2 da2)) PT12))
  have hb52 : b5 < w2.heap.size := (head_row HA2.out).lt
  have HA3 := Lib.hid ((Below.heap_alloc w2 (.cells (l12C σ.c (.slice Fa1 na1 da1) (.slice Fa2 na2 da2)) PT12) b5 hb52).trans HA2.out)
  clear hb2 hk2 HRUN HAV1 HL1 HA1 hb5
  go_wp2_with fail
  refine (HKY.out _ _ _ HS2.out).mono ?_
  rintro e w4 ⟨v4, rfl, hb4, hk4⟩
  have HL4 := Lib.hid (HL3.out.trans (hb4.mono HL3.out.size))
  have HA4 := Lib.hid ((hb4.block b5 (by simp; omega)).trans HA3.out)
  have HB4 := Lib.hid ((hb4.block w2.heap.size (by simp)).trans (heap_alloc_new w2 (.cells (l12C σ.c (.slice Fa1 na1 da1) (.slice Fa2 na2 da2)) PT12)))
  have HS4 := Lib.hid (HS2.out.below hb4)
  have H4 := Lib.hid (Ks.start hk4)
  clear hb4 hk4 HL2 HL3 HA2 HA3 HS2 HKY
  generalize w2.heap.size = b8 at HB4 hb52 ⊢
  obtain ⟨⟨a0, a1, a2⟩, _⟩ := c3_at HA4.out
  obtain ⟨⟨x0, x1, x2⟩, _⟩ := c3_at HB4.out
  go_wp2_with fail
  refine (rhas_walk (ks := was) (H4.out.kv (by simp)) HWL.out x.key).mono ?_
  rintro e w5 ⟨rfl, rfl⟩
  obtain ⟨th, hth⟩ : ∃ th, decide (x.key ∈ was) = th := ⟨_, rfl⟩
  have HTH := Lib.hid hth
  rw [hth] at HKK ⊢
  clear hth
  go_wp2_with fail
  refine (HKK.out w4).mono ?_
  rintro e w6 ⟨rfl, hb6⟩
  have HL6 := Lib.hid (HL4.out.trans (hb6.mono HL4.out.size))
  have hb54 := (head_row HA4.out).lt
  have HA6 := Lib.hid ((hb6.block b5 hb54).trans HA4.out)
  have HB6 := Lib.hid ((hb6.block b8 (head_row HB4.out).lt).trans HB4.out)
  have HS6 := Lib.hid (HS4.out.below hb6)
  have H6 := Lib.hid (H4.out.step hb6)
  clear hb6 HL4 HA4 HB4 HS4 H4 HKK a0 a1 a2 x0 x1 x2
  obtain ⟨⟨a0, a1, a2⟩, _⟩ := c3_at HA6.out
  obtain ⟨⟨x0, x1, x2⟩, _⟩ := c3_at HB6.out
  go_wp2_with fail
  refine (HDO.out _ _ _ HS6.out).mono ?_
  rintro e w7 ⟨q1, q2, o7, he, hb7, hk7, ho7⟩
  obtain ⟨Fb1, nb1, db1, rfl⟩ := hk7.form1
  obtain ⟨Fb2, nb2, db2, rfl⟩ := hk7.form2
  subst he
  have HL7 := Lib.hid ((HL6.out.trans (hb7.mono HL6.out.size)).alloc (HL6.out.trans (hb7.mono HL6.out.size)).size (.cells (l12C (σ.act x).c (.slice Fb1 nb1 db1) (.slice Fb2 nb2 db2)) PT12))
  have hb56 := (head_row HA6.out).lt
  have HA7 := Lib.hid ((Below.heap_alloc w7 (.cells (l12C (σ.act x).c (.slice Fb1 nb1 db1) (.slice Fb2 nb2 db2)) PT12) b5 (Nat.lt_of_lt_of_le hb56 hb7.size)).trans ((hb7.block b5 hb56).trans HA6.out))
  have HS7 := Lib.hid (hk7.below (low_one w7 (.cells (l12C (σ.act x).c (.slice Fb1 nb1 db1) (.slice Fb2 nb2 db2)) PT12)))
  have H7 := Lib.hid ((H6.out.add hb7 ho7).alloc (.cells (l12C (σ.act x).c (.slice Fb1 nb1 db1) (.slice Fb2 nb2 db2)) PT12))
  clear hb7 hk7 ho7 HL6 HA6 HB6 HS6 H6 HDO a0 a1 a2 x0 x1 x2
  go_wp2_with fail
  refine (HKY2.out _ _ _ HS7.out).mono ?_
  rintro e w8 ⟨v8, rfl, hb8, hk8⟩
  have HL8 := Lib.hid (HL7.out.trans (hb8.mono HL7.out.size))
  have HA8 := Lib.hid ((hb8.block b5 (head_row HA7.out).lt).trans HA7.out)
  have H8 := Lib.hid (H7.out.add hb8 hk8)
  clear hb8 hk8 HL7 HA7 HS7 H7 HKY2
  generalize w7.heap.size = b12 at ⊢
  obtain ⟨Fw, cw, ew, _⟩ := (H8.out.kv (v := v4) (ks := was) (by simp)).mem
  obtain ⟨Fi, ci, ei, _⟩ := (H8.out.kv (v := v8) (ks := is) (by simp)).mem
  obtain ⟨Fo, co, eo, _⟩ := (H8.out.kv (v := o7) (ks := out) (by simp)).mem
  obtain ⟨nw, hnw⟩ : ∃ n, was.length = n := ⟨_, rfl⟩
  obtain ⟨ni, hni⟩ : ∃ n, is.length = n := ⟨_, rfl⟩
  obtain ⟨no, hno⟩ : ∃ n, out.length = n := ⟨_, rfl⟩
  rw [hnw] at ew
  rw [hni] at ei
  rw [hno] at eo
  subst ew ei eo
  have HNW := Lib.hid hnw
  have HNI := Lib.hid hni
  have HNO := Lib.hid hno
  have he4 := HEV.out.e4
  have he5 := HEV.out.e5
  rw [hni, hnw, hno] at he4
  rw [hnw, hno] at he5
  have HE4 := Lib.hid he4
  have HE5 := Lib.hid he5
  clear he4 he5
  have hbw : nw ≤ 100000000 := by have := HWL.out; omega
  have hbi : ni ≤ 100000000 := by have := HIL.out; omega
  have hbo : no ≤ 100000000 := by have := HOL.out; omega
  clear hnw hni hno
  have HALL : Hid (∀ W, Below w8.heap.size w8 W → (KV W (.slice Fw nw cw) was) ∧ (KV W (.slice Fi ni ci) is) ∧ (KV W (.slice Fo no co) out) ∧ W.heap[b5]? = some (.cells (act8C x) 38 (0, 0))) := Lib.hid (fun W hb => ⟨(H8.out.kv (by simp)).below hb, (H8.out.kv (by simp)).below hb, (H8.out.kv (by simp)).below hb, (hb.block b5 (head_row HA8.out).lt).trans HA8.out⟩)
  go_wp2_with fail
  go_loopg [15] no (fun gg s15 wr => ∃ i : Nat, i + gg = no ∧ s15 = .int .i64 (i : Nat) ∧ Hid (Below w8.heap.size w8 wr))
  case atStart => exact ⟨0, by omega, rfl, Lib.hid (Below.refl _ _)⟩
  case round =>
    obtain ⟨i, hi, rfl, HB⟩ := hrel
    by_cases hlt : i < no
    · have hltI : (i : Int) < (no : Int) := by omega
      have hio : i < out.length := by rw [HNO.out]; exact hlt
      obtain ⟨k1, k2, k3, k4⟩ := HALL.out wr HB.out
      obtain ⟨F', c', e, _, _, h3⟩ := k3.mem
      injection e with e1 e2 e3
      subst e1
      obtain ⟨ad, hF, _, q0⟩ := h3 i hio
      subst hF
      have hee := HEV.out.e1 _ (List.getElem_mem hio)
      have KW := Lib.hid (rhas_walk k1 HWL.out out[i])
      have KI := Lib.hid (rhas_walk k2 HIL.out out[i])
      rw [decide_eq_true hee.1] at KW
      rw [decide_eq_false hee.2] at KI
      generalize out[i] = y at q0 KW KI
      clear hee h3 k1 k2 k3 k4 e2 e3
      go_wp2_with fail
      refine KW.out.mono ?_
      rintro e w9 ⟨rfl, rfl⟩
      go_wp2_with fail
      refine KI.out.mono ?_
      rintro e w9 ⟨rfl, rfl⟩
      clear KW KI
      go_wp2
      go_roundg (gk - 1)
      case measure => omega
      case rel => exact ⟨i + 1, by omega, by go_num, HB⟩
    · have hltI : ¬ (i : Int) < (no : Int) := by omega
      obtain ⟨wA, hwA⟩ : ∃ y, y = wr := ⟨_, rfl⟩
      subst hwA
      go_wp2_with fail
      go_loopg [16, 90] nw (fun gg s16 s90 wr => ∃ j : Nat, j + gg = nw ∧ s16 = .int .i64 (j : Nat) ∧ (s90 = undef ∨ s90 = .bool true ∨ s90 = .bool false) ∧ Hid (Below w8.heap.size w8 wr))
      case atStart => exact ⟨0, by omega, rfl, .inl rfl, HB⟩
      case round =>
        obtain ⟨j, hj, rfl, h90, HJ⟩ := hrel
        by_cases hlj : j < nw
        · have hljI : (j : Int) < (nw : Int) := by omega
          have hjw : j < was.length := by rw [HNW.out]; exact hlj
          obtain ⟨k1, k2, k3, k4⟩ := HALL.out wr HJ.out
          obtain ⟨F', c', e, _, _, h3⟩ := k1.mem
          injection e with e1 e2 e3
          subst e1
          obtain ⟨ad, hF, hadb, q0⟩ := h3 j hjw
          subst hF
          have hee := HEV.out.e2 _ (List.getElem_mem hjw)
          have KO := Lib.hid (fun m : Nat => has_quiet k3 HOL.out was[j] m)
          have KI := Lib.hid (fun m : Nat => has_quiet k2 HIL.out was[j] m)
          obtain ⟨⟨a0, a1, a2⟩, _⟩ := c3_at k4
          obtain ⟨y, hy⟩ : ∃ y, was[j] = y := ⟨_, rfl⟩
          rw [hy] at q0 KO KI hee
          clear h3 k1 k2 k3 e2 e3 hy
          by_cases c1 : y ∈ out
          · rw [decide_eq_true c1] at KO
            clear c1 hee
            rcases h90 with rfl | rfl | rfl
            all_goals
              go_wp2_with fail
              go_quiet (first | (go_at_call 20; with_reducible exact KO.out _) | (go_at_call 20; with_reducible exact KI.out _))
              go_wp2
              go_roundg (nw - j - 1)
              case measure => omega
              case rel => exact ⟨j + 1, by omega, by go_num, by simp, Lib.hid (below_drewn HJ.out _)⟩
          · rw [decide_eq_false c1] at KO
            by_cases c2 : y ∈ is
            · rw [decide_eq_true c2] at KI
              clear c1 c2 hee
              rcases h90 with rfl | rfl | rfl
              all_goals
                go_wp2_with fail
                go_quiet (first | (go_at_call 20; with_reducible exact KO.out _) | (go_at_call 20; with_reducible exact KI.out _))
                go_wp2
                go_roundg (nw - j - 1)
                case measure => omega
                case rel => exact ⟨j + 1, by omega, by go_num, by simp, Lib.hid (below_drewn HJ.out _)⟩
            · rw [decide_eq_false c2] at KI
              obtain ⟨rfl, rfl⟩ : q = 3 ∧ y = x.key := (hee.resolve_left c1).resolve_left c2
              clear c1 c2 hee
              rcases h90 with rfl | rfl | rfl
              all_goals
                go_wp2_with fail
                go_quiet (first | (go_at_call 20; with_reducible exact KO.out _) | (go_at_call 20; with_reducible exact KI.out _))
                go_wp2
                go_roundg (nw - j - 1)
                case measure => omega
                case rel => exact ⟨j + 1, by omega, by go_num, by simp, Lib.hid (below_drewn HJ.out _)⟩
        · have hljI : ¬ (j : Int) < (nw : Int) := by omega
          obtain ⟨wZ, hwZ⟩ : ∃ y, y = wr := ⟨_, rfl⟩
          subst hwZ
          have HAZ := Lib.hid (HALL.out wZ HJ.out)
          obtain ⟨⟨a0, a1, a2⟩, _⟩ := c3_at HAZ.out.2.2.2
          have HLZ := Lib.hid (HL8.out.trans (HJ.out.mono HL8.out.size))
          have HND := Lib.hid HEV.out.e3
          have hz1 : 1 ≤ z := hsz.1
          have hz2 : z ≤ 14 := hsz.2
          clear h90 HALL HB HJ HA8 H8 HEV HL8 hsz
          have HV : Hid (KVV (wZ.alloc (.cells #[.slice Fo no co] 25)) (.slice (some ⟨wZ.heap.size, 0, none⟩) 1 1) [out]) := Lib.hid (KVV.one HAZ.out.2.2.1 25)
          have HLA := Lib.hid (HLZ.out.alloc HLZ.out.size (.cells #[.slice Fo no co] 25))
          rcases hq4 with rfl | rfl | rfl | rfl
          · clear HE5
            cases th
            · have hmem : x.key ∉ was := of_decide_eq_false HTH.out
              have hni : ((ni : Int) == (nw : Int) - (no : Int)) = true := by
                rw [beq_iff_eq, HE4.out]
                simp [hmem]
              clear HE4 hmem HTH
              go_wp2_with fail
              refine (rapart_walk (kss := [out]) HV.out (by simp) (by have := HOL.out; simpa using this)).mono ?_
              rintro e wy ⟨rfl, hby⟩
              rw [decide_eq_true (show [out].flatten.Nodup by simpa using HND.out)]
              have HF := Lib.hid (HLA.out.trans (hby.mono HLA.out.size))
              clear hby
              go_wp2
              go_ret
              exact ⟨rfl, HF.out⟩
            · have hmem : x.key ∈ was := of_decide_eq_true HTH.out
              have hni : ((ni : Int) == (nw : Int) - (no : Int)) = true := by
                rw [beq_iff_eq, HE4.out]
                simp [hmem]
              clear HE4 hmem HTH
              go_wp2_with fail
              refine (rapart_walk (kss := [out]) HV.out (by simp) (by have := HOL.out; simpa using this)).mono ?_
              rintro e wy ⟨rfl, hby⟩
              rw [decide_eq_true (show [out].flatten.Nodup by simpa using HND.out)]
              have HF := Lib.hid (HLA.out.trans (hby.mono HLA.out.size))
              clear hby
              go_wp2
              go_ret
              exact ⟨rfl, HF.out⟩
          · clear HE5
            cases th
            · have hmem : x.key ∉ was := of_decide_eq_false HTH.out
              have hni : ((ni : Int) == (nw : Int) - (no : Int) + 1) = true := by
                rw [beq_iff_eq, HE4.out]
                simp [hmem]
              clear HE4 hmem HTH
              go_wp2_with fail
              refine (rapart_walk (kss := [out]) HV.out (by simp) (by have := HOL.out; simpa using this)).mono ?_
              rintro e wy ⟨rfl, hby⟩
              rw [decide_eq_true (show [out].flatten.Nodup by simpa using HND.out)]
              have HF := Lib.hid (HLA.out.trans (hby.mono HLA.out.size))
              clear hby
              go_wp2
              go_ret
              exact ⟨rfl, HF.out⟩
            · have hmem : x.key ∈ was := of_decide_eq_true HTH.out
              have hni : ((ni : Int) == (nw : Int) - (no : Int)) = true := by
                rw [beq_iff_eq, HE4.out]
                simp [hmem]
              clear HE4 hmem HTH
              go_wp2_with fail
              refine (rapart_walk (kss := [out]) HV.out (by simp) (by have := HOL.out; simpa using this)).mono ?_
              rintro e wy ⟨rfl, hby⟩
              rw [decide_eq_true (show [out].flatten.Nodup by simpa using HND.out)]
              have HF := Lib.hid (HLA.out.trans (hby.mono HLA.out.size))
              clear hby
              go_wp2
              go_ret
              exact ⟨rfl, HF.out⟩
          · clear HE5
            cases th
            · have hmem : x.key ∉ was := of_decide_eq_false HTH.out
              have hni : ((ni : Int) == (nw : Int) - (no : Int)) = true := by
                rw [beq_iff_eq, HE4.out]
                simp [hmem]
              clear HE4 hmem HTH
              go_wp2_with fail
              refine (rapart_walk (kss := [out]) HV.out (by simp) (by have := HOL.out; simpa using this)).mono ?_
              rintro e wy ⟨rfl, hby⟩
              rw [decide_eq_true (show [out].flatten.Nodup by simpa using HND.out)]
              have HF := Lib.hid (HLA.out.trans (hby.mono HLA.out.size))
              clear hby
              go_wp2
              go_ret
              exact ⟨rfl, HF.out⟩
            · have hmem : x.key ∈ was := of_decide_eq_true HTH.out
              have hni : ((ni : Int) == (nw : Int) - (no : Int) - 1) = true := by
                rw [beq_iff_eq, HE4.out]
                simp [hmem]
              clear HE4 hmem HTH
              go_wp2_with fail
              refine (rapart_walk (kss := [out]) HV.out (by simp) (by have := HOL.out; simpa using this)).mono ?_
              rintro e wy ⟨rfl, hby⟩
              rw [decide_eq_true (show [out].flatten.Nodup by simpa using HND.out)]
              have HF := Lib.hid (HLA.out.trans (hby.mono HLA.out.size))
              clear hby
              go_wp2
              go_ret
              exact ⟨rfl, HF.out⟩
          · have HE5' := Lib.hid (HE5.out rfl)
            clear HE5
            cases th
            · have hmem : x.key ∉ was := of_decide_eq_false HTH.out
              have hni : ((ni : Int) == (nw : Int) - (no : Int)) = true := by
                rw [beq_iff_eq, HE4.out]
                simp [hmem]
              clear HE4 hmem HTH
              go_wp2_with fail
              refine (HSZ.out _).mono ?_
              rintro e wz ⟨rfl, hbz⟩
              have HO2 := Lib.hid (HAZ.out.2.2.1.below hbz)
              have HV2 : Hid (KVV (wz.alloc (.cells #[.slice Fo no co] 25)) (.slice (some ⟨wz.heap.size, 0, none⟩) 1 1) [out]) := Lib.hid (KVV.one HO2.out 25)
              have hlz := HLZ.out.trans (hbz.mono HLZ.out.size)
              have HL2 := Lib.hid (hlz.alloc hlz.size (.cells #[.slice Fo no co] 25))
              clear hbz hlz HV HLA HAZ HLZ HO2
              go_wp2_with fail
              all_goals
                refine (rapart_walk (kss := [out]) HV2.out (by simp) (by have := HOL.out; simpa using this)).mono ?_
                rintro e wy ⟨rfl, hby⟩
                rw [decide_eq_true (show [out].flatten.Nodup by simpa using HND.out)]
                have HF := Lib.hid (HL2.out.trans (hby.mono HL2.out.size))
                clear hby
                go_wp2
                go_ret
                refine ⟨congrArg (fun y : Bool => Ending.returned (Value.bool y)) ?_, HF.out⟩
                have := HE5'.out
                first | rfl | (simp; omega) | simp
            · have hmem : x.key ∈ was := of_decide_eq_true HTH.out
              have hni : ((ni : Int) == (nw : Int) - (no : Int)) = true := by
                rw [beq_iff_eq, HE4.out]
                simp [hmem]
              clear HE4 hmem HTH
              go_wp2_with fail
              refine (HSZ.out _).mono ?_
              rintro e wz ⟨rfl, hbz⟩
              have HO2 := Lib.hid (HAZ.out.2.2.1.below hbz)
              have HV2 : Hid (KVV (wz.alloc (.cells #[.slice Fo no co] 25)) (.slice (some ⟨wz.heap.size, 0, none⟩) 1 1) [out]) := Lib.hid (KVV.one HO2.out 25)
              have hlz := HLZ.out.trans (hbz.mono HLZ.out.size)
              have HL2 := Lib.hid (hlz.alloc hlz.size (.cells #[.slice Fo no co] 25))
              clear hbz hlz HV HLA HAZ HLZ HO2
              go_wp2_with fail
              all_goals
                refine (rapart_walk (kss := [out]) HV2.out (by simp) (by have := HOL.out; simpa using this)).mono ?_
                rintro e wy ⟨rfl, hby⟩
                rw [decide_eq_true (show [out].flatten.Nodup by simpa using HND.out)]
                have HF := Lib.hid (HL2.out.trans (hby.mono HL2.out.size))
                clear hby
                go_wp2
                go_ret
                refine ⟨congrArg (fun y : Bool => Ending.returned (Value.bool y)) ?_, HF.out⟩
                have := HE5'.out
                first | rfl | (simp; omega) | simp
theorem evicts12_walk (PO : Pol12Ok) (AW : ∀ w, Calls Try.prog 9 #[] w (RetB w true)) (c : Nat) (hc : c < 256) (ha : AV w v l) (x : Act8) (wf : x.Ok) : Calls Try.prog 5 #[.int .u8 (c : Nat), v, .agg (act8C x)] w (RetB w true) := by
  by_cases hl : l.length ≤ 60
  · exact evicts12_short PO AW c hc ha hl x wf
  · have HAW := Lib.hid (fun W => AW W)
    obtain ⟨A, cap, rfl, _⟩ := ha.mem
    obtain ⟨na, hna⟩ : ∃ na, l.length = na := ⟨_, rfl⟩
    rw [hna] at hl ⊢
    have hlI : (60 : Int) < (na : Int) := by omega
    clear ha hna AW wf
    go_enter Try.func5, Try.ntmps5
    go_wp2_with fail
    refine (HAW.out _).mono ?_
    rintro e w1 ⟨rfl, hb1⟩
    have HB := Lib.hid hb1
    clear hb1
    go_wp2
    go_ret
    exact ⟨rfl, (low_one w _).trans (HB.out.mono (by simp))⟩
end
end Go.Proofs.Ytjfhapobbglbpaa
