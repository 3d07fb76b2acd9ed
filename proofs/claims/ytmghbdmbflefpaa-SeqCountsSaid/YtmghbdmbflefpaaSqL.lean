/- SeqFalls, walked. -/
import Derived.Test.YtmghbdmbflefpaaSqT
import Derived.Test.YtmghbdmbflefpaaSqH
namespace Go.Proofs.Ytmghbdmbflefpaa
open Go Go.RowKit Go.Deep

theorem KV.nil_form {w : World} {v : Value} (h : KV w v []) : ∃ F c, v = .slice F 0 c := by
  obtain ⟨F, c, e, _⟩ := h.mem
  exact ⟨F, c, e⟩
section
variable {w : World} {v : Value} {ks : List Nat}
set_option maxHeartbeats 2000000 in
set_option maxRecDepth 4000 in
theorem seqFalls_walk (P : SeqOk) (AW : ∀ w, Calls Try.prog 8 #[] w (RetB w true)) (h : KV w v ks) (n : Int) (hn1 : -9223372036854775808 ≤ n) (hn2 : n ≤ 9223372036854775807) :
    Calls Try.prog 4 #[v, .int .i64 n] w (RetB w true) := by
  have HA := Lib.hid (AW w)
  have H0 := Lib.hid (Ks.start h)
  obtain ⟨F, c, rfl, hlc, _⟩ := h.mem
  clear h AW
  go_enter Try.func4, Try.ntmps4
  go_wp2_with fail
  refine HA.out.mono ?_
  rintro e w1 ⟨rfl, hb⟩
  have H1 := Lib.hid (H0.out.step hb)
  clear hb H0 HA
  go_wp2_with fail
  refine (rfew_walk (ks := ks) (H1.out.kv (by simp))).mono ?_
  rintro e w2 ⟨rfl, rfl⟩
  by_cases hle : ks.length ≤ 30
  · rw [decide_eq_true hle]
    go_wp2_with fail
    refine (P.fall (ks := ks) (H1.out.kv (by simp)) (by omega) n hn1 hn2).mono ?_
    rintro e w2 ⟨v1, v2, rfl, hb, hk1, hk2⟩
    have H2 := Lib.hid ((H1.out.add hb hk1).add (Below.refl _ _) hk2)
    clear hb H1 hk1 hk2
    go_wp2_with fail
    refine (rfall_walk (ks := ks) (H2.out.kv (by simp)) (by omega) n hn1 hn2).mono ?_
    rintro e w3 ⟨v3, v4, rfl, hk1, hk2⟩
    have H3 := Lib.hid ((H2.out.add hk1.low hk1.kv).add (Below.refl _ _) hk2)
    clear H2 hk1 hk2
    go_wp2_with fail
    refine (P.back (ks := ks) (H3.out.kv (by simp)) (by omega)).mono ?_
    rintro e w4 ⟨v5, rfl, hb, hk⟩
    have H4 := Lib.hid (H3.out.add hb hk)
    clear H3 hb hk
    obtain ⟨fs, hfs⟩ : ∃ fs, (ks.drop n.toNat).reverse = fs := ⟨_, rfl⟩
    obtain ⟨rs, hrs⟩ : ∃ rs, ks.take n.toNat = rs := ⟨_, rfl⟩
    rw [hfs, hrs] at H4
    have hfl : fs.length ≤ 30 := by rw [← hfs]; simp; omega
    have hrl : rs.length ≤ 30 := by rw [← hrs]; simp; omega
    by_cases h0 : ks.length = 0
    · obtain rfl : ks = [] := List.length_eq_zero_iff.1 h0
      simp at hfs hrs
      subst hfs hrs
      have HB := Lib.hid H4.out.low
      obtain ⟨F1, c1, rfl⟩ := (H4.out.kv (v := v1) (ks := []) (by simp)).nil_form
      obtain ⟨F2, c2, rfl⟩ := (H4.out.kv (v := v2) (ks := []) (by simp)).nil_form
      obtain ⟨F5, c5, rfl⟩ := (H4.out.kv (v := v5) (ks := []) (by simp)).nil_form
      clear H4 hle hfl hrl h0
      go_wp2
      go_ret
      exact ⟨rfl, HB.out⟩
    · have hpos : 0 < ks.length := by omega
      have KT : Hid (∀ W, KV W (.slice F ks.length c) ks → KV W (.slice F (ks.length - 1) c) ks.dropLast) := Lib.hid (fun W hk => hk.cut)
      have KB : Hid (∀ W, KV W (.slice F ks.length c) ks → Calls Try.prog 20 #[.slice F ks.length c] W fun e w' => e = .returned (.int .u64 ((ks.getLastD 0 : Nat) : Int)) ∧ W = w') := Lib.hid (fun W hk => rback_walk hk hpos (by omega))
      rw [decide_eq_true hpos]
      obtain ⟨x, hx⟩ : ∃ x, ks.getLastD 0 = x := ⟨_, rfl⟩
      rw [hx] at KB ⊢
      have HKS : Hid (ks.dropLast.length ≤ 30) := Lib.hid (by simp; omega)
      obtain ⟨m, hm⟩ : ∃ m, ks.length = m + 1 := ⟨ks.length - 1, by omega⟩
      have HFL := Lib.hid hfl
      have HRL := Lib.hid hrl
      rw [hm, Nat.add_sub_cancel] at KT
      rw [hm] at KB H4 hlc ⊢
      have hm30 : m + 1 ≤ 30 := by omega
      clear hfs hrs hx hpos h0 hle hfl hrl hm
      have e1 : ((m + 1 : Nat) : Int) - 1 = (m : Int) := by omega
      go_wp2_with fail
      refine (same_walk (ks := fs) (js := fs) (H4.out.kv (by simp)) (H4.out.kv (by simp)) (by have := HFL.out; omega)).mono ?_
      rintro e w5 ⟨rfl, hb⟩
      rw [decide_eq_true rfl]
      have H5 := Lib.hid (H4.out.step hb)
      clear hb
      go_wp2_with fail
      refine (same_walk (ks := rs) (js := rs) (H5.out.kv (by simp)) (H5.out.kv (by simp)) (by have := HRL.out; omega)).mono ?_
      rintro e w6 ⟨rfl, hb⟩
      rw [decide_eq_true rfl]
      have H6 := Lib.hid (H5.out.step hb)
      clear hb
      go_wp2_with fail
      refine (KB.out w6 (H6.out.kv (by simp))).mono ?_
      rintro e w7 ⟨rfl, rfl⟩
      have HT := Lib.hid (KT.out w6 (H6.out.kv (by simp)))
      go_wp2_with fail
      refine (same_walk (ks := ks.dropLast) (js := ks.dropLast) (H6.out.kv (by simp)) HT.out (by have := HKS.out; omega)).mono ?_
      rintro e w7 ⟨rfl, hb⟩
      rw [decide_eq_true rfl]
      have H7 := Lib.hid (H6.out.step hb)
      clear hb
      go_wp2
      go_ret
      exact ⟨rfl, H7.out.low⟩
  · rw [decide_eq_false hle]
    go_wp2
    go_ret
    exact ⟨rfl, H1.out.low⟩
end
end Go.Proofs.Ytmghbdmbflefpaa
