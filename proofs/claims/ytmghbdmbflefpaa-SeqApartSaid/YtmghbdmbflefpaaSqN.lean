/- SeqApart, walked. -/
import Derived.Test.YtmghbdmbflefpaaSqL
namespace Go.Proofs.Ytmghbdmbflefpaa
open Go Go.RowKit Go.Deep

section
variable {w : World} {v u : Value} {ks js : List Nat}
set_option maxHeartbeats 2000000 in
set_option maxRecDepth 4000 in
theorem seqApart_walk (P : SeqOk) (AW : ∀ w, Calls Try.prog 8 #[] w (RetB w true)) (h : KV w v ks) (h' : KV w u js) (k : Nat) (hkb : ∀ x ∈ ks, x < 18446744073709551616) (hjb : ∀ x ∈ js, x < 18446744073709551616) (hk : k < 18446744073709551616) :
    Calls Try.prog 5 #[v, u, .int .u64 (k : Nat)] w (RetB w true) := by
  have HA := Lib.hid (AW w)
  have H0 := Lib.hid ((Ks.start h).add (Below.refl _ _) h')
  obtain ⟨F, n, c, rfl⟩ := h.form
  obtain ⟨G, m, d, rfl⟩ := h'.form
  have HKB := Lib.hid hkb
  have HJB := Lib.hid hjb
  have HFB : Hid (∀ x ∈ fr k ks, x < 18446744073709551616) := Lib.hid (fun x hx => by
    rcases List.mem_cons.1 hx with rfl | hx
    · exact hk
    · exact hkb x ((List.mem_filter.1 hx).1))
  clear h h' AW hkb hjb hk
  go_enter Try.func5, Try.ntmps5
  go_wp2_with fail
  refine HA.out.mono ?_
  rintro e w1 ⟨rfl, hb⟩
  have H1 := Lib.hid (H0.out.step hb)
  clear hb H0 HA
  go_wp2_with fail
  refine (rfew_walk (ks := ks) (H1.out.kv (by simp))).mono ?_
  rintro e w2 ⟨rfl, rfl⟩
  by_cases hle : ks.length ≤ 30
  · rw [decide_eq_true hle]
    go_wp2_with fail
    refine (rfew_walk (ks := js) (H1.out.kv (by simp))).mono ?_
    rintro e w2 ⟨rfl, rfl⟩
    by_cases hle2 : js.length ≤ 30
    · rw [decide_eq_true hle2]
      have HV := Lib.hid (KVV.one (H1.out.kv (v := .slice F n c) (ks := ks) (by simp)) 22)
      have H2 := Lib.hid (H1.out.alloc (.cells #[.slice F n c] 22))
      go_wp2_with fail
      refine (P.apart HV.out (by simp) (by simp; omega) (fun x hx => HKB.out x (by simpa using hx))).mono ?_
      rintro e w3 ⟨rfl, hb⟩
      have H3 := Lib.hid (H2.out.step hb)
      clear hb H1 H2 HV
      obtain ⟨one, hone⟩ : ∃ b, decide [ks].flatten.Nodup = b := ⟨_, rfl⟩
      obtain ⟨two, htwo⟩ : ∃ b, decide [ks, js].flatten.Nodup = b := ⟨_, rfl⟩
      rw [hone]
      have HV := Lib.hid (KVV.two (H3.out.kv (v := .slice F n c) (ks := ks) (by simp)) (H3.out.kv (v := .slice G m d) (ks := js) (by simp)) 22)
      have H2 := Lib.hid (H3.out.alloc (.cells #[.slice F n c, .slice G m d] 22))
      have HONE := Lib.hid hone
      have HTWO := Lib.hid htwo
      clear H3 hone htwo
      go_wp2_with fail
      refine (P.apart HV.out (by simp) (by simp; omega) (fun x hx => by rcases (show x ∈ ks ∨ x ∈ js by simpa using hx) with h | h; exact HKB.out x h; exact HJB.out x h)).mono ?_
      rintro e w4 ⟨rfl, hb⟩
      have H4 := Lib.hid (H2.out.step hb)
      rw [HTWO.out]
      clear hb H2 HV
      have HV := Lib.hid (KVV.two (H4.out.kv (v := .slice F n c) (ks := ks) (by simp)) (H4.out.kv (v := .slice G m d) (ks := js) (by simp)) 22)
      have H2 := Lib.hid (H4.out.alloc (.cells #[.slice F n c, .slice G m d] 22))
      clear H4
      go_wp2_with fail
      refine (rapart_walk HV.out (by simp) (by simp; omega)).mono ?_
      rintro e w5 ⟨rfl, hb⟩
      have H5 := Lib.hid (H2.out.step hb)
      rw [HTWO.out]
      clear hb H2 HV
      have HV := Lib.hid (KVV.one (H5.out.kv (v := .slice F n c) (ks := ks) (by simp)) 22)
      have H2 := Lib.hid (H5.out.alloc (.cells #[.slice F n c] 22))
      clear H5
      go_wp2_with fail
      refine (rapart_walk HV.out (by simp) (by simp; omega)).mono ?_
      rintro e w6 ⟨rfl, hb⟩
      have H6 := Lib.hid (H2.out.step hb)
      rw [HONE.out]
      clear hb H2 HV
      cases one with
      | false =>
        go_wp2_with fail
        refine (P.apart (KVV.none w6) (by simp) (by simp) (fun x hx => by simp at hx)).mono ?_
        rintro e w7 ⟨rfl, hb⟩
        have H7 := Lib.hid (H6.out.step hb)
        rw [show decide ([] : List (List Nat)).flatten.Nodup = true from rfl]
        clear hb H6
        go_wp2
        go_ret
        exact ⟨rfl, H7.out.low⟩
      | true =>
        have HND : Hid (ks.Nodup) := Lib.hid (by simpa using of_decide_eq_true HONE.out)
        go_wp2_with fail
        have hl1 := wo_len k ks
        have hl2 := fr_len k ks
        refine (P.front (ks := ks) (H6.out.kv (by simp)) (by omega) k).mono ?_
        rintro e w7 ⟨v7, rfl, hb, hk⟩
        obtain ⟨F7, n7, c7, rfl⟩ := hk.form
        have H7 := Lib.hid (H6.out.add hb hk)
        clear hb hk H6
        have HV := Lib.hid (KVV.one (H7.out.kv (v := .slice F7 n7 c7) (ks := fr k ks) (by simp)) 22)
        have H2 := Lib.hid (H7.out.alloc (.cells #[.slice F7 n7 c7] 22))
        go_wp2_with fail
        refine (P.apart HV.out (by simp) (by simp; omega) (fun x hx => HFB.out x (by simpa using hx))).mono ?_
        rintro e w8 ⟨rfl, hb⟩
        rw [decide_eq_true (show [fr k ks].flatten.Nodup by simpa using fr_nodup HND.out k)]
        have H8 := Lib.hid (H2.out.step hb)
        clear hb H2 HV H7
        go_wp2_with fail
        refine (P.without (ks := ks) (H8.out.kv (by simp)) (by omega) k).mono ?_
        rintro e w9 ⟨v9, rfl, hb, hk⟩
        obtain ⟨F9, n9, c9, rfl⟩ := hk.form
        have H9 := Lib.hid (H8.out.add hb hk)
        clear hb hk H8
        have HV := Lib.hid (KVV.one (H9.out.kv (v := .slice F9 n9 c9) (ks := wo k ks) (by simp)) 22)
        have H2 := Lib.hid (H9.out.alloc (.cells #[.slice F9 n9 c9] 22))
        go_wp2_with fail
        refine (P.apart HV.out (by simp) (by simp; omega) (fun x hx => HKB.out x ((List.mem_filter.1 (show x ∈ wo k ks by simpa using hx)).1))).mono ?_
        rintro e wa ⟨rfl, hb⟩
        rw [decide_eq_true (show [wo k ks].flatten.Nodup by simpa using wo_nodup HND.out k)]
        have HA := Lib.hid (H2.out.step hb)
        clear hb H2 HV H9
        go_wp2_with fail
        refine (P.apart (KVV.none wa) (by simp) (by simp) (fun x hx => by simp at hx)).mono ?_
        rintro e wb ⟨rfl, hb⟩
        have HB := Lib.hid (HA.out.step hb)
        rw [show decide ([] : List (List Nat)).flatten.Nodup = true from rfl]
        clear hb HA
        go_wp2
        go_ret
        exact ⟨rfl, HB.out.low⟩
    · rw [decide_eq_false hle2]
      go_wp2
      go_ret
      exact ⟨rfl, H1.out.low⟩
  · rw [decide_eq_false hle]
    go_wp2
    go_ret
    exact ⟨rfl, H1.out.low⟩
end
end Go.Proofs.Ytmghbdmbflefpaa
