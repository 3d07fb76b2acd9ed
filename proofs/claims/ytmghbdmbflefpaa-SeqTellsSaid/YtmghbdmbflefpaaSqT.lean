/- SeqTells, walked. -/
import Derived.Test.YtmghbdmbflefpaaSqJ
import Derived.Deep.RegionHeld3
namespace Go.Proofs.Ytmghbdmbflefpaa
open Go Go.RowKit Go.Deep

section
variable {w : World} {v : Value} {ks : List Nat}
set_option maxHeartbeats 2000000 in
set_option maxRecDepth 4000 in
theorem seqTells_walk (P : SeqOk) (AW : ∀ w, Calls Try.prog 8 #[] w (RetB w true)) (h : KV w v ks) (k : Nat) :
    Calls Try.prog 3 #[v, .int .u64 (k : Nat)] w (RetB w true) := by
  have HA := Lib.hid (AW w)
  have H0 := Lib.hid (Ks.start h)
  clear h AW
  go_enter Try.func3, Try.ntmps3
  go_wp2_with fail
  refine HA.out.mono ?_
  rintro e w1 ⟨rfl, hb⟩
  have H1 := Lib.hid (H0.out.step hb)
  clear hb H0 HA
  go_wp2_with fail
  refine (rfew_walk (ks := ks) (H1.out.kv (by simp))).mono ?_
  rintro e w2 ⟨rfl, rfl⟩
  by_cases hle : ks.length ≤ 30
  · rw [decide_eq_true hle]
    have HE := Lib.hid (KO.empty (Nat.le_refl _) (Below.refl w1.heap.size w1))
    have HKE := Lib.hid ((H1.out.alloc (.cells #[] 23)).kv (v := v) (ks := ks) (by simp))
    go_wp2_with (at_builtin; refine wpList_append_kv rfl (.tmp 14) (.tmp 15) rfl w1.heap.size (by kernel_rfl) (by kernel_rfl) _ [] rfl HE.out _ ks rfl HKE.out (by simp; omega) (by simp) ?_)
    intro v6 w6 h6 _ _
    have H6 := Lib.hid (H1.out.add h6.low h6.kv)
    clear h6 HE HKE H1
    go_wp2_with fail
    refine (P.without (ks := ks) (H6.out.kv (by simp)) (by omega) k).mono ?_
    rintro e w7 ⟨v7, rfl, hb, hk⟩
    have H7 := Lib.hid (H6.out.add hb hk)
    clear hb hk H6
    go_wp2_with fail
    refine (P.front (ks := ks) (H7.out.kv (by simp)) (by omega) k).mono ?_
    rintro e w8 ⟨v8, rfl, hb, hk⟩
    have H8 := Lib.hid (H7.out.add hb hk)
    clear hb hk H7
    go_wp2_with fail
    refine (P.has (ks := ks) (H8.out.kv (by simp)) (by omega) k).mono ?_
    rintro e w9 ⟨rfl, hb⟩
    have H9 := Lib.hid (H8.out.step hb)
    clear hb H8
    obtain ⟨b, hb⟩ : ∃ b, decide (k ∈ ks) = b := ⟨_, rfl⟩
    rw [hb]
    have HR := rhas_walk (ks := ks) (H9.out.kv (v := v) (by simp)) (by omega) k
    rw [hb] at HR
    have hbb : (b == b) = true := by simp
    clear hb
    go_wp2_with fail
    refine HR.mono ?_
    rintro e wa ⟨rfl, rfl⟩
    clear HR
    go_wp2_with fail
    refine (rwithout_walk (ks := ks) (H9.out.kv (by simp)) (by omega) k).mono ?_
    rintro e wa ⟨va, rfl, ha⟩
    have HA := Lib.hid (H9.out.add ha.low ha.kv)
    clear ha H9
    go_wp2_with fail
    have hl1 := wo_len k ks
    have hl2 := fr_len k ks
    refine (same_walk (ks := wo k ks) (js := wo k ks) (HA.out.kv (by simp)) (HA.out.kv (by simp)) (by omega)).mono ?_
    rintro e wb ⟨rfl, hb⟩
    rw [decide_eq_true rfl]
    have HB := Lib.hid (HA.out.step hb)
    clear hb HA
    go_wp2_with fail
    refine (rfront_walk (ks := ks) (HB.out.kv (by simp)) (by omega) k).mono ?_
    rintro e wc ⟨vc, rfl, hc⟩
    have HC := Lib.hid (HB.out.add hc.low hc.kv)
    clear hc HB
    go_wp2_with fail
    refine (same_walk (ks := fr k ks) (js := fr k ks) (HC.out.kv (by simp)) (HC.out.kv (by simp)) (by omega)).mono ?_
    rintro e wd ⟨rfl, hb⟩
    rw [decide_eq_true rfl]
    have HD := Lib.hid (HC.out.step hb)
    clear hb HC
    go_wp2_with fail
    refine (same_walk (ks := ks) (js := ks) (HD.out.kv (by simp)) (HD.out.kv (by simp)) (by omega)).mono ?_
    rintro e we ⟨rfl, hb⟩
    rw [decide_eq_true rfl]
    have HE := Lib.hid (HD.out.step hb)
    clear hb HD
    go_wp2
    go_ret
    exact ⟨rfl, HE.out.low⟩
  · rw [decide_eq_false hle]
    go_wp2
    go_ret
    exact ⟨rfl, H1.out.low⟩
end
end Go.Proofs.Ytmghbdmbflefpaa
