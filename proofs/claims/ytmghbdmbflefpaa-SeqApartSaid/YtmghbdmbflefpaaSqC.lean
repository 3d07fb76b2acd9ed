/- SeqCounts, walked. -/
import Derived.Test.YtmghbdmbflefpaaSqN
namespace Go.Proofs.Ytmghbdmbflefpaa
open Go Go.RowKit Go.Deep

theorem cell_first {w : World} {ad : Addr} {u : Value} (h : w.cell? (ad.add 0) = some u) : w.cell? ad = some u := by simpa [Addr.add] using h
theorem wo_count {ks : List Nat} (h : ks.Nodup) (k : Nat) : (wo k ks).length = if k ∈ ks then ks.length - 1 else ks.length := by
  have e : wo k ks = ks.erase k := (List.Nodup.erase_eq_filter h k).symm
  rw [e, List.length_erase]
theorem wo_none {ks : List Nat} {k : Nat} (h : k ∉ ks) : wo k ks = ks := by
  unfold wo
  refine List.filter_eq_self.2 (fun a ha => ?_)
  simp only [bne_iff_ne, ne_eq]
  rintro rfl
  exact h ha
section
variable {w : World} {v : Value} {ks : List Nat}
theorem KV.first {k : Nat} (h : KV w v (k :: ks)) : ∃ ad n c, v = .slice (some ad) (n + 1) c ∧ n = ks.length ∧ w.cell? (ad.add 0) = some (.int .u64 (k : Nat)) := by
  obtain ⟨F, c, e, h1, h2, h3⟩ := h.mem
  obtain ⟨ad, rfl, _, h5⟩ := h3 0 (by simp)
  exact ⟨ad, ks.length, c, by simpa using e, rfl, by simpa using h5⟩
set_option maxHeartbeats 4000000 in
set_option maxRecDepth 4000 in
theorem seqCounts_walk (P : SeqOk) (AW : ∀ w, Calls Try.prog 8 #[] w (RetB w true)) (h : KV w v ks) (k : Nat) :
    Calls Try.prog 6 #[v, .int .u64 (k : Nat)] w (RetB w true) := by
  have HA := Lib.hid (AW w)
  obtain ⟨F, c, e, _⟩ := h.mem
  obtain ⟨n, hn⟩ : ∃ n, ks.length = n := ⟨_, rfl⟩
  rw [hn] at e
  subst e
  have HN := Lib.hid hn
  have H0 := Lib.hid (Ks.start h)
  clear h AW hn
  go_enter Try.func6, Try.ntmps6
  go_wp2_with fail
  refine HA.out.mono ?_
  rintro e w1 ⟨rfl, hb⟩
  have H1 := Lib.hid (H0.out.step hb)
  clear hb H0 HA
  go_wp2_with fail
  refine (rfew_walk (ks := ks) (H1.out.kv (by simp))).mono ?_
  rintro e w2 ⟨rfl, rfl⟩
  by_cases hle : ks.length ≤ 30
  · rw [decide_eq_true hle]
    have HV := Lib.hid (KVV.one (H1.out.kv (v := .slice F n c) (ks := ks) (by simp)) 22)
    have H2 := Lib.hid (H1.out.alloc (.cells #[.slice F n c] 22))
    go_wp2_with fail
    refine (rapart_walk HV.out (by simp) (by simp; omega)).mono ?_
    rintro e w3 ⟨rfl, hb⟩
    have H3 := Lib.hid (H2.out.step hb)
    clear hb H2 HV H1
    by_cases hnd : [ks].flatten.Nodup
    · rw [decide_eq_true hnd]
      have hnd2 : ks.Nodup := by simpa using hnd
      have HW := Lib.hid (wo_count hnd2 k)
      have hn30 : n ≤ 30 := by have := HN.out; omega
      have HLE := Lib.hid hle
      clear hnd hnd2
      go_wp2_with fail
      refine (rhas_walk (ks := ks) (H3.out.kv (by simp)) (by have := HLE.out; omega) k).mono ?_
      rintro e w4 ⟨rfl, rfl⟩
      obtain ⟨m, hm⟩ : ∃ m, (wo k ks).length = m := ⟨_, rfl⟩
      have HM := Lib.hid hm
      rw [hm, HN.out] at HW
      clear hm
      by_cases hin : k ∈ ks
      · rw [decide_eq_true hin]
        have hpos : 0 < n := by rw [← HN.out]; exact List.length_pos_of_mem hin
        rw [if_pos hin] at HW
        have hmn : (m : Int) = (n : Int) - 1 := by have := HW.out; omega
        clear hin hle
        go_wp2_with fail
        refine (P.front (ks := ks) (H3.out.kv (by simp)) (by have := HLE.out; omega) k).mono ?_
        rintro e w5 ⟨v5, rfl, hb, hk⟩
        obtain ⟨ad, m', d, rfl, hmm, q0⟩ := KV.first (k := k) (ks := wo k ks) hk
        obtain rfl : m = m' := by have := HM.out; omega
        have H5 := Lib.hid (H3.out.add hb hk)
        clear hk hmm hb H3
        go_wp2_with fail
        refine (P.without (ks := ks) (H5.out.kv (by simp)) (by have := HLE.out; omega) k).mono ?_
        rintro e w6 ⟨v6, rfl, hb, hk⟩
        obtain ⟨F6, c6, e6, _⟩ := hk.mem
        rw [HM.out] at e6
        subst e6
        obtain ⟨_, m2, d2, e7, _, q6⟩ := KV.first (k := k) (ks := wo k ks) ((H5.out.step hb).kv (v := .slice (some ad) (m + 1) d) (by simp [fr]))
        injection e7 with e8 e9 e10
        injection e8 with e8
        subst e8
        have q6 := cell_first q6
        have H6 := Lib.hid (H5.out.add hb hk)
        clear hk hb H5 q0 e9 e10
        go_wp2_with fail
        refine (P.without (ks := ks) (H6.out.kv (by simp)) (by have := HLE.out; omega) k).mono ?_
        rintro e w7 ⟨v7, rfl, hb, hk⟩
        have H7 := Lib.hid (H6.out.add hb hk)
        clear hk hb H6 q6
        go_wp2_with fail
        refine (P.has (ks := wo k ks) (H7.out.kv (by simp)) (by have := HM.out; have := HW.out; omega) k).mono ?_
        rintro e w8 ⟨rfl, hb⟩
        rw [decide_eq_false (not_wo ks k)]
        have H8 := Lib.hid (H7.out.step hb)
        clear hb H7
        go_wp2
        go_ret
        exact ⟨rfl, H8.out.low⟩
      · rw [decide_eq_false hin]
        rw [if_neg hin] at HW
        have hmn : (m : Int) = (n : Int) := by have := HW.out; omega
        clear hin hle
        go_wp2_with fail
        refine (P.front (ks := ks) (H3.out.kv (by simp)) (by have := HLE.out; omega) k).mono ?_
        rintro e w5 ⟨v5, rfl, hb, hk⟩
        obtain ⟨ad, m', d, rfl, hmm, q0⟩ := KV.first (k := k) (ks := wo k ks) hk
        obtain rfl : m = m' := by have := HM.out; omega
        have H5 := Lib.hid (H3.out.add hb hk)
        clear hk hmm hb H3
        go_wp2_with fail
        refine (P.without (ks := ks) (H5.out.kv (by simp)) (by have := HLE.out; omega) k).mono ?_
        rintro e w6 ⟨v6, rfl, hb, hk⟩
        obtain ⟨F6, c6, e6, _⟩ := hk.mem
        rw [HM.out] at e6
        subst e6
        obtain ⟨_, m2, d2, e7, _, q6⟩ := KV.first (k := k) (ks := wo k ks) ((H5.out.step hb).kv (v := .slice (some ad) (m + 1) d) (by simp [fr]))
        injection e7 with e8 e9 e10
        injection e8 with e8
        subst e8
        have q6 := cell_first q6
        have H6 := Lib.hid (H5.out.add hb hk)
        clear hk hb H5 q0 e9 e10
        go_wp2_with fail
        refine (P.without (ks := ks) (H6.out.kv (by simp)) (by have := HLE.out; omega) k).mono ?_
        rintro e w7 ⟨v7, rfl, hb, hk⟩
        have H7 := Lib.hid (H6.out.add hb hk)
        clear hk hb H6 q6
        go_wp2_with fail
        refine (P.has (ks := wo k ks) (H7.out.kv (by simp)) (by have := HM.out; have := HW.out; omega) k).mono ?_
        rintro e w8 ⟨rfl, hb⟩
        rw [decide_eq_false (not_wo ks k)]
        have H8 := Lib.hid (H7.out.step hb)
        clear hb H7
        go_wp2
        go_ret
        exact ⟨rfl, H8.out.low⟩
    · rw [decide_eq_false hnd]
      go_wp2
      go_ret
      exact ⟨rfl, H3.out.low⟩
  · rw [decide_eq_false hle]
    go_wp2
    go_ret
    exact ⟨rfl, H1.out.low⟩
end
end Go.Proofs.Ytmghbdmbflefpaa
