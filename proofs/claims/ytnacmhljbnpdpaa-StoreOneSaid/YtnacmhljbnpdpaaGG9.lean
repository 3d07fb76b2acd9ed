/- Words and walks for layer 6: SsQ. -/
import Derived.Test.YtnacmhljbnpdpaaGG8
/- The laws' same; StoreActs, walked. -/
namespace Go.Proofs.Ytnacmhljbnpdpaa
open Go Go.RowKit Go.Deep

theorem keysAt_nil (w : World) : KeysAt w (.slice none 0 0) [] := ⟨none, 0, rfl, fun i hi => by simp at hi⟩
section
variable {w0 w : World} {sp n m most o oc g c : Nat} {Q : Nat → List Ent} {U : Tb} {K : List Nat}
theorem skeys_any (h : RSA w o n oc m g c Q U K) (q : Int) :
    Calls Try.prog 32 #[.agg (refSC o n oc m g U.n c), .int .i64 q] w (KeysPost w ((qI n Q q).map Ent.key)) := by
  unfold qI
  rcases tag_cases n q with hq | hq | ⟨t, rfl, ht⟩
  · have e : hasT n q = false := by unfold hasT; rw [decide_eq_false (by omega)]; rfl
    rw [e]
    refine (skeys_out h q (.inl hq)).mono ?_
    rintro e w' ⟨rfl, hb⟩
    exact ⟨_, rfl, hb, keysAt_nil _⟩
  · have e : hasT n q = false := by unfold hasT; rw [decide_eq_false (show ¬ q < (n : Int) by omega)]; simp
    rw [e]
    refine (skeys_out h q (.inr hq.2)).mono ?_
    rintro e w' ⟨rfl, hb⟩
    exact ⟨_, rfl, hb, keysAt_nil _⟩
  · rw [hasT_of ht, if_pos rfl, Int.toNat_natCast]
    refine (skeys_in h t ht).mono ?_
    rintro e w' ⟨v, rfl, hb, hk⟩
    exact ⟨v, rfl, hb, hk⟩
theorem QOk.qlen (h : QOk n Q m U most) (hm : most ≤ 1000) (q : Int) : (qI n Q q).length ≤ 1000 := by
  unfold qI
  split
  · rename_i hh
    obtain ⟨t, rfl, ht⟩ := hasT_nat hh
    simpa using h.len hm ht
  · simp
theorem ends_ks (xs : List Ent) (h : 0 < xs.length) : ∃ (h1 : 0 < (xs.map Ent.key).length) (h2 : (xs.map Ent.key).length - 1 < (xs.map Ent.key).length), headK xs = (xs.map Ent.key)[0] ∧ lastK xs = (xs.map Ent.key)[(xs.map Ent.key).length - 1] := by
  refine ⟨by simpa using h, by simp; omega, ?_, ?_⟩
  · cases xs with
    | nil => simp at h
    | cons x xs => rfl
  · rcases List.eq_nil_or_concat xs with rfl | ⟨ys, x, rfl⟩
    · simp at h
    · unfold lastK
      simp
set_option maxHeartbeats 4000000 in
set_option maxRecDepth 4000 in
theorem same_walk (hs : SI w0 w sp n Q m U most K) (hr : RSA w o n oc m g c Q U K) (hm : most ≤ 1000) :
    Calls Try.prog 10 #[ptr sp, .agg (refSC o n oc m g U.n c)] w fun e w' => e = .returned (.bool true) ∧ Below w.heap.size w w' := by
  have hbA := (Below.refl w.heap.size w).alloc (Nat.le_refl _) (.cells (refSC o n oc m g U.n c) 30)
  have HBA := Lib.hid hbA
  have HK0 := Lib.hid (heap_alloc_new w (.cells (refSC o n oc m g U.n c) 30))
  have HS := Lib.hid (hs.still hbA).1
  have HR := Lib.hid (hr.below hbA)
  have hok := hs.ok
  have h8 := hok.eight
  have hQL := Lib.hid (fun q => hok.qlen hm q)
  have hle := hok.le
  clear hs hr hbA hok
  go_enter Try.func10, Try.ntmps10
  go_wp2_with fail
  generalize hX : w.alloc (.cells (refSC o n oc m g U.n c) 30) = X at HBA HK0 HS HR ⊢
  have hwX : w.heap.size < X.heap.size := by rw [← hX]; simp
  clear hX
  obtain ⟨b3, hb3e⟩ : ∃ b, w.heap.size = b := ⟨_, rfl⟩
  have HB3E := Lib.hid hb3e
  rw [hb3e] at HK0 hwX ⊢
  clear hb3e
  go_loopg [5] 6 (fun gg s5 wr => ∃ j : Nat, j + gg = 6 ∧ s5 = .int .i64 ((j : Int) - 1) ∧ Hid (Below X.heap.size X wr))
  case atStart => exact ⟨0, by omega, rfl, Lib.hid (Below.refl _ _)⟩
  case round =>
    obtain ⟨j, hj, rfl, HI⟩ := hrel
    obtain ⟨⟨a0, a1, a2⟩, _⟩ := three_at ((HI.out.block b3 hwX).trans HK0.out)
    by_cases hend : j = 6
    · subst hend
      have hge : ¬ (((6 : Nat) : Int) - 1 < 5) := by decide
      have HT := Lib.hid (fun (W : World) (hb : Below X.heap.size X W) => si_total (HS.out.still hb).1)
      have HTR := Lib.hid (fun (W : World) (hb : Below X.heap.size X W) => stotal_walk (HR.out.below hb))
      have hlI : (sumE Q n : Int) ≤ 1000 := by omega
      generalize sumE Q n = sm at HT HTR hlI
      have HSS : Hid (∀ w', Below X.heap.size X w' → w'.cell? ⟨b3, 0, none⟩ = some (.slice (some ⟨o, 0, none⟩) n oc) ∧ w'.cell? ⟨b3, 1, none⟩ = some (.int .i64 (m : Nat)) ∧ w'.cell? ⟨b3, 2, none⟩ = some (.slice (some ⟨g, 0, none⟩) U.n c)) := Lib.hid (fun w' hb => (three_at ((hb.block b3 hwX).trans HK0.out)).1)
      go_upto_region 14 with fail
      go_region_held3 (fun w' => w'.cell? ⟨b3, 0, none⟩ = some (.slice (some ⟨o, 0, none⟩) n oc) ∧ w'.cell? ⟨b3, 1, none⟩ = some (.int .i64 (m : Nat)) ∧ w'.cell? ⟨b3, 2, none⟩ = some (.slice (some ⟨g, 0, none⟩) U.n c)) (first | with_reducible exact kk5 | with_reducible exact kk6 | with_reducible exact kkz | go_keep)
        (first
          | (go_at_call 17; (with_reducible refine (HT.out _ HI.out.drew).mono ?_); rintro e w5 ⟨rfl, b5⟩; have bb5 := HI.out.drew.trans (b5.mono HI.out.drew.size); have kk5 := HSS.out w5 bb5)
          | (go_at_call 34; (with_reducible refine (HTR.out _ HI.out.drew).mono ?_); rintro e w6 ⟨rfl, b6⟩; have bb6 := HI.out.drew.trans (b6.mono HI.out.drew.size); have kk6 := HSS.out w6 bb6)
          | (go_at_call 34; (with_reducible refine (HTR.out _ bb5).mono ?_); rintro e wz ⟨rfl, b7⟩; have bbz := bb5.trans (b7.mono bb5.size); have kkz := HSS.out wz bbz)
          | (go_at_call 17; (with_reducible refine (HT.out _ bb6).mono ?_); rintro e wz ⟨rfl, b7⟩; have bbz := bb6.trans (b7.mono bb6.size); have kkz := HSS.out wz bbz))
      all_goals
        have HZ := Lib.hid (HBA.out.trans (bbz.mono HBA.out.size))
        clear kkz
        go_wp2
        go_ret
        exact ⟨rfl, HZ.out⟩
    · have hlt : ((j : Int) - 1 < 5) := by omega
      have hq1 : (-1 : Int) ≤ (j : Int) - 1 := by omega
      obtain ⟨q, hqe⟩ : ∃ q, (j : Int) - 1 = q := ⟨_, rfl⟩
      have HQE := Lib.hid hqe
      rw [hqe] at hlt hq1 ⊢
      have hl := hQL.out q
      have HKR := Lib.hid (skeys_any (HR.out.below HI.out) q)
      have HFR := Lib.hid (fun (W : World) (hb : Below X.heap.size X W) => si_front (HS.out.still hb).1 (by omega) q)
      have HBK := Lib.hid (fun (W : World) (hb : Below X.heap.size X W) => si_back (HS.out.still hb).1 (by omega) q)
      have HKY := Lib.hid (fun (W : World) (hb : Below X.heap.size X W) => si_keys (HS.out.still hb).1 (by omega) q)
      have HLN := Lib.hid (fun (W : World) (hb : Below X.heap.size X W) => si_len (HS.out.still hb).1 q)
      obtain ⟨xs, hxs⟩ : ∃ xs, qI n Q q = xs := ⟨_, rfl⟩
      rw [hxs] at hl HKR HFR HBK HKY HLN
      have HE : Hid (0 < xs.length → ∃ (h1 : 0 < (xs.map Ent.key).length) (h2 : (xs.map Ent.key).length - 1 < (xs.map Ent.key).length), headK xs = (xs.map Ent.key)[0] ∧ lastK xs = (xs.map Ent.key)[(xs.map Ent.key).length - 1]) := Lib.hid (ends_ks xs)
      have HE0 : Hid (xs.length = 0 → headK xs = 0 ∧ lastK xs = 0) := Lib.hid (fun h => by
        obtain rfl := List.length_eq_zero_iff.1 h
        exact ⟨rfl, rfl⟩)
      have hkl : (xs.map Ent.key).length = xs.length := by simp
      obtain ⟨ks, hks⟩ : ∃ ks, xs.map Ent.key = ks := ⟨_, rfl⟩
      rw [hks] at HKR HKY HE hkl
      obtain ⟨L, hL⟩ : ∃ L, xs.length = L := ⟨_, rfl⟩
      rw [hL] at hl HFR HBK HLN HE HE0 hkl
      generalize headK xs = hd at HFR HE HE0
      generalize lastK xs = la at HBK HE HE0
      clear hxs hks hL hqe
      have HKL := Lib.hid hkl
      clear hkl
      go_wp2_with fail
      refine HKR.out.mono ?_
      rintro e w1 ⟨v, rfl, hb1, hk⟩
      have HI1 := Lib.hid (HI.out.trans (hb1.mono HI.out.size))
      have HKB := Lib.hid hk
      obtain ⟨F, c1, hv, hcells⟩ := hk.mem
      rw [HKL.out] at hv
      subst hv
      clear hb1 hk a0 a1 a2 HKR
      rcases L with _ | L
      · obtain ⟨rfl, rfl⟩ := HE0.out rfl
        rw [decide_eq_false (by omega)] at HFR HBK
        clear hcells HE HE0
        go_wp2_with fail
        refine (HFR.out w1 HI1.out).mono ?_
        rintro e w2 ⟨rfl, hb⟩
        have HI2 := Lib.hid (HI1.out.trans (hb.mono HI1.out.size))
        have HKB2 := Lib.hid (HKB.out.below hb)
        clear hb
        go_wp2_with fail
        refine (HBK.out w2 HI2.out).mono ?_
        rintro e w3 ⟨rfl, hb⟩
        have HI3 := Lib.hid (HI2.out.trans (hb.mono HI2.out.size))
        have HKB3 := Lib.hid (HKB2.out.below hb)
        clear hb
        go_wp2_with fail
        refine (HKY.out w3 HI3.out).mono ?_
        rintro e w4 ⟨va, rfl, hb, hka⟩
        have HI4 := Lib.hid (HI3.out.trans (hb.mono HI3.out.size))
        have HSM := Lib.hid (ssame_walk hka (HKB3.out.below hb) (by rw [HKL.out]; omega))
        clear hb hka
        go_wp2_with fail
        refine HSM.out.mono ?_
        rintro e w5 ⟨rfl, hb⟩
        have HI5 := Lib.hid (HI4.out.trans (hb.mono HI4.out.size))
        clear hb HSM
        go_wp2_with fail
        refine (HLN.out w5 HI5.out).mono ?_
        rintro e w6 ⟨rfl, hb⟩
        have HI6 := Lib.hid (HI5.out.trans (hb.mono HI5.out.size))
        clear hb
        go_wp2
        go_roundg (gk - 1)
        case measure => omega
        case rel => exact ⟨j + 1, by omega, congrArg (Value.int .i64) (by have := HQE.out; omega), HI6⟩
      · rw [decide_eq_true (Nat.succ_pos L)] at HFR HBK
        obtain ⟨h1, h2, rfl, rfl⟩ := HE.out (Nat.succ_pos L)
        obtain ⟨b, hF, hblt, hc0⟩ := hcells 0 h1
        subst hF
        obtain ⟨b', hF, _, hcl⟩ := hcells _ h2
        injection hF with hF
        injection hF with hF _
        subst hF
        obtain ⟨hd, hhd⟩ : ∃ x, ks[0] = x := ⟨_, rfl⟩
        obtain ⟨la, hla⟩ : ∃ x, ks[ks.length - 1] = x := ⟨_, rfl⟩
        rw [hhd] at hc0 HFR
        rw [hla] at hcl HBK
        have hkL : ks.length - 1 = L := by rw [HKL.out]; rfl
        rw [hkL] at hcl
        clear hcells HE HE0 h1 h2 hhd hla hkL
        have e1 : ((L + 1 : Nat) : Int) - 1 = (L : Int) := by omega
        have hp : (0 : Int) < ((L + 1 : Nat) : Int) := by omega
        go_wp2_with fail
        refine (HFR.out w1 HI1.out).mono ?_
        rintro e w2 ⟨rfl, hb⟩
        have HI2 := Lib.hid (HI1.out.trans (hb.mono HI1.out.size))
        have HKB2 := Lib.hid (HKB.out.below hb)
        clear hb hc0 hcl
        go_wp2_with fail
        refine (HBK.out w2 HI2.out).mono ?_
        rintro e w3 ⟨rfl, hb⟩
        have HI3 := Lib.hid (HI2.out.trans (hb.mono HI2.out.size))
        have HKB3 := Lib.hid (HKB2.out.below hb)
        clear hb
        go_wp2_with fail
        refine (HKY.out w3 HI3.out).mono ?_
        rintro e w4 ⟨va, rfl, hb, hka⟩
        have HI4 := Lib.hid (HI3.out.trans (hb.mono HI3.out.size))
        have HSM := Lib.hid (ssame_walk hka (HKB3.out.below hb) (by rw [HKL.out]; omega))
        clear hb hka
        go_wp2_with fail
        refine HSM.out.mono ?_
        rintro e w5 ⟨rfl, hb⟩
        have HI5 := Lib.hid (HI4.out.trans (hb.mono HI4.out.size))
        clear hb HSM
        go_wp2_with fail
        refine (HLN.out w5 HI5.out).mono ?_
        rintro e w6 ⟨rfl, hb⟩
        have HI6 := Lib.hid (HI5.out.trans (hb.mono HI5.out.size))
        clear hb
        go_wp2
        go_roundg (gk - 1)
        case measure => omega
        case rel => exact ⟨j + 1, by omega, congrArg (Value.int .i64) (by have := HQE.out; omega), HI6⟩
end
end Go.Proofs.Ytnacmhljbnpdpaa
