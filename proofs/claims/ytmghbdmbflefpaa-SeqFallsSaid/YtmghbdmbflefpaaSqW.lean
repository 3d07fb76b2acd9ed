/- SeqWhole, walked. -/
import Derived.Test.YtmghbdmbflefpaaSqC
namespace Go.Proofs.Ytmghbdmbflefpaa
open Go Go.RowKit Go.Deep

theorem rev_step {fs : List Nat} {m : Nat} (h : m < fs.length) : (fs.drop (m + 1)).reverse ++ [fs[m]] = (fs.drop m).reverse := by
  rw [List.drop_eq_getElem_cons h, List.reverse_cons]
section
variable {w : World} {v : Value} {ks : List Nat}
set_option maxHeartbeats 4000000 in
set_option maxRecDepth 4000 in
theorem seqWhole_walk (P : SeqOk) (AW : ∀ w, Calls Try.prog 8 #[] w (RetB w true)) (h : KV w v ks) (n : Int) (hn1 : -9223372036854775808 ≤ n) (hn2 : n ≤ 9223372036854775807) :
    Calls Try.prog 7 #[v, .int .i64 n] w (RetB w true) := by
  have HA := Lib.hid (AW w)
  obtain ⟨F, c, e, _⟩ := h.mem
  obtain ⟨q, hq⟩ : ∃ q, ks.length = q := ⟨_, rfl⟩
  rw [hq] at e
  subst e
  have HQ := Lib.hid hq
  have H0 := Lib.hid (Ks.start h)
  clear h AW hq
  go_enter Try.func7, Try.ntmps7
  go_wp2_with fail
  refine HA.out.mono ?_
  rintro e w1 ⟨rfl, hb⟩
  have H1 := Lib.hid (H0.out.step hb)
  clear hb H0 HA
  go_wp2_with fail
  refine (rfew_walk (ks := ks) (H1.out.kv (by simp))).mono ?_
  rintro e w2 ⟨rfl, rfl⟩
  by_cases hle : ks.length ≤ 30
  · rw [decide_eq_true hle]
    go_wp2_with fail
    refine (P.fall (ks := ks) (H1.out.kv (by simp)) (by omega) n hn1 hn2).mono ?_
    rintro e w2 ⟨v1, v2, rfl, hb, hk1, hk2⟩
    have hq30 : q ≤ 30 := by have := HQ.out; omega
    have HWH : Hid ((ks.take n.toNat ++ (ks.drop n.toNat).reverse.reverse) = ks ∧ (ks.drop n.toNat).reverse.length + (ks.take n.toNat).length = q ∧ (ks.take n.toNat).length = min n.toNat q) := Lib.hid ⟨by simp, by simp; have := HQ.out; omega, by rw [List.length_take, HQ.out]⟩
    obtain ⟨fs, hfs⟩ : ∃ fs, (ks.drop n.toNat).reverse = fs := ⟨_, rfl⟩
    obtain ⟨rs, hrs⟩ : ∃ rs, ks.take n.toNat = rs := ⟨_, rfl⟩
    rw [hfs, hrs] at HWH
    rw [hfs] at hk1
    rw [hrs] at hk2
    have H2 := Lib.hid ((H1.out.add hb hk1).add (Below.refl _ _) hk2)
    obtain ⟨F1, c1, e1, _⟩ := hk1.mem
    obtain ⟨F2, c2, e2, _⟩ := hk2.mem
    obtain ⟨a, ha⟩ : ∃ a, fs.length = a := ⟨_, rfl⟩
    obtain ⟨b, hb2⟩ : ∃ b, rs.length = b := ⟨_, rfl⟩
    rw [ha] at e1
    rw [hb2] at e2
    subst e1 e2
    have HFA := Lib.hid ha
    have HRB := Lib.hid hb2
    rw [ha, hb2] at HWH
    have hab : a + b = q := HWH.out.2.1
    clear hb H1 hk1 hk2 hle hfs hrs ha hb2
    have HE := Lib.hid (KO.empty (Nat.le_refl _) (Below.refl w2.heap.size w2))
    have HKE := Lib.hid ((H2.out.alloc (.cells #[] 23)).kv (v := .slice F2 b c2) (ks := rs) (by simp))
    go_wp2_with (at_builtin; refine wpList_append_kv rfl (.tmp 21) (.tmp 22) rfl w2.heap.size (by kernel_rfl) (by kernel_rfl) _ [] rfl HE.out _ rs rfl HKE.out (by simp; have := HRB.out; omega) (by simp) ?_)
    intro v6 w6 h6 _ _
    have H6 := Lib.hid h6
    clear h6 HE HKE
    go_wp2_with fail
    go_loopg [8, 9] a (fun gg s8 s9 wr => ∃ (m : Nat) (v8 : Value), gg = m ∧ v8 = s8 ∧ s9 = .int .i64 ((m : Int) - 1) ∧ m ≤ a ∧ Hid (KO w2.heap.size w2 wr v8 (rs ++ (fs.drop m).reverse)))
    case atStart => exact ⟨a, v6, rfl, rfl, by go_num, by omega, Lib.hid (by
      rw [← HFA.out, List.drop_length, List.reverse_nil, List.append_nil]
      exact H6.out)⟩
    case round =>
      obtain ⟨m, v8, hi, rfl, rfl, hma, HI⟩ := hrel
      by_cases hlt : 0 < m
      · obtain ⟨k, rfl⟩ : ∃ k, m = k + 1 := ⟨m - 1, by omega⟩
        have hk : k < fs.length := by rw [HFA.out]; omega
        obtain ⟨F', c', e, _, _, h3⟩ := ((H2.out.step HI.out.low).kv (v := .slice F1 a c1) (ks := fs) (by simp)).mem
        injection e with e1 e2 e3
        subst e1 e3
        obtain ⟨ad, hF, hadb, q0⟩ := h3 k hk
        subst hF
        have HS := Lib.hid (rev_step hk)
        obtain ⟨x, hx⟩ : ∃ x, fs[k] = x := ⟨_, rfl⟩
        obtain ⟨ys, hys⟩ : ∃ ys, (fs.drop (k + 1)).reverse = ys := ⟨_, rfl⟩
        have hyl : ys.length ≤ 30 := by rw [← hys]; simp; have := HFA.out; omega
        rw [hx] at q0 HS
        rw [hys] at HS HI
        have hszw := HI.out.low.size
        clear h3 hx hys e2
        have HOW := Lib.hid (HI.out.alloc hszw (.cells #[.int .u64 (x : Nat)] 23))
        have HSRC := Lib.hid (KV.one wr x)
        have hszA : w2.heap.size ≤ (wr.alloc (.cells #[.int .u64 (x : Nat)] 23)).heap.size := by simp; omega
        have eK : ((k + 1 : Nat) : Int) - 1 = (k : Int) := by omega
        rw [eK]
        have hkI : (0 : Int) ≤ (k : Int) := by omega
        go_wp2_with (at_builtin; refine wpList_append_kv rfl (.tmp 31) (.tmp 36) rfl w2.heap.size (by kernel_rfl) (by kernel_rfl) v8 (rs ++ ys) rfl HOW.out _ [x] rfl HSRC.out (by simp; have := HRB.out; omega) hszA ?_)
        intro v7 w7 hown7 _ _
        rw [HS.out] at hown7
        have HN := Lib.hid hown7
        clear hown7 q0 hadb
        go_wp2
        go_roundg (gk - 1)
        case measure => omega
        case rel => exact ⟨k, v7, by omega, rfl, by go_num, by omega, HN⟩
      · obtain rfl : m = 0 := by omega
        have HN : Hid (KO w2.heap.size w2 wr v8 ks) := Lib.hid (by
          have h := HI.out
          rw [List.drop_zero, HWH.out.1] at h
          exact h)
        clear HI
        have HX := Lib.hid (H2.out.step HN.out.low)
        go_wp2_with fail
        refine (same_walk (ks := ks) (js := ks) HN.out.kv (HX.out.kv (by simp)) (by have := HQ.out; omega)).mono ?_
        rintro e w8 ⟨rfl, hb⟩
        rw [decide_eq_true rfl]
        have H8 := Lib.hid (HX.out.step hb)
        clear hb
        have HBM : Hid ((b : Int) = min (q : Int) (max n 0)) := Lib.hid (by have := HWH.out.2.2; omega)
        clear hab
        go_wp2
        all_goals go_ret
        all_goals refine ⟨?_, H8.out.low⟩
        all_goals refine congrArg (fun x : Bool => Ending.returned (Value.bool x)) ?_
        all_goals have := HBM.out
        all_goals simp
        all_goals omega
  · rw [decide_eq_false hle]
    go_wp2
    go_ret
    exact ⟨rfl, H1.out.low⟩
end
end Go.Proofs.Ytmghbdmbflefpaa
