/- Words and walks: SqP2. -/
import Derived.Test.YtgkblelgcikafaaGreatG15
import Derived.Deep.RegionHeld3
namespace Go.Proofs.YtgkblelgcikafaaGreat
open Go Go.RowKit Go.Deep
section
variable {w : World} {v : Value} {ks : List Nat}
def IdxP (w : World) (ks : List Nat) (k : Nat) (e : Ending) (w' : World) : Prop := ∃ r : Int, e = .returned (.int .i64 r) ∧ -1 ≤ r ∧ r ≤ 100000000 ∧ decide (0 ≤ r) = decide (k ∈ ks) ∧ w = w'
theorem index_walk (h : KV w v ks) (hl : ks.length ≤ 100000000) (k : Nat) :
    Calls Tryz.prog 73 #[v, .int .u64 (k : Nat)] w (IdxP w ks k) := by
  obtain ⟨F, c, rfl, h1, h2, h3⟩ := h.mem
  have HC := Lib.hid h3
  have HY := Lib.hid (fun hm : k ∈ ks => hm)
  obtain ⟨b, hb⟩ : ∃ b, decide (k ∈ ks) = b := ⟨_, rfl⟩
  have HB := Lib.hid hb
  clear h h3 h2 h1 hb HY
  go_enter Tryz.func73, Tryz.ntmps73
  go_wp2_with fail
  go_loopg [8] ks.length (fun gg s8 wr => ∃ i : Nat, i + gg = ks.length ∧ s8 = .int .i64 (i : Nat) ∧ wr = w ∧ Hid (∀ j (hj : j < ks.length), j < i → ks[j] ≠ k))
  case atStart => exact ⟨0, by omega, rfl, rfl, Lib.hid (fun j _ hj => by omega)⟩
  case round =>
    obtain ⟨i, hi, rfl, rfl, HN⟩ := hrel
    by_cases hlt : i < ks.length
    · have hltI : (i : Int) < (ks.length : Int) := by omega
      obtain ⟨ad, hF, _, q0⟩ := HC.out i hlt
      subst hF
      by_cases he : ks[i] = k
      · rw [he] at q0
        have HT : Hid (b = true) := Lib.hid (by rw [← HB.out]; exact decide_eq_true (he ▸ List.getElem_mem hlt))
        clear he
        go_wp2
        go_ret
        exact ⟨(i : Int), rfl, by omega, by omega, by rw [HB.out, HT.out]; exact decide_eq_true (by omega), rfl⟩
      · have HNX : Hid (∀ j (hj : j < ks.length), j < i + 1 → ks[j] ≠ k) := Lib.hid (fun j hj hji => by
          rcases Nat.lt_or_ge j i with h | h
          · exact HN.out j hj h
          · have : j = i := by omega
            subst this
            exact he)
        have hne : ((k : Int) == ((ks[i] : Nat) : Int)) = false := by
          rw [beq_eq_false_iff_ne]
          omega
        generalize ks[i] = x at q0 hne
        clear he
        go_wp2
        go_roundg (gk - 1)
        case measure => omega
        case rel => exact ⟨i + 1, by omega, by go_num, rfl, HNX⟩
    · have hltI : ¬ (i : Int) < (ks.length : Int) := by omega
      have HF : Hid (b = false) := Lib.hid (by
        rw [← HB.out]
        refine decide_eq_false (fun hm => ?_)
        obtain ⟨j, hj, e⟩ := List.getElem_of_mem hm
        exact HN.out j hj (by omega) e)
      go_wp2
      go_ret
      exact ⟨-1, rfl, by omega, by omega, by rw [HB.out, HF.out]; rfl, rfl⟩
theorem contains_walk (h : KV w v ks) (hl : ks.length ≤ 100000000) (k : Nat) :
    Calls Tryz.prog 51 #[v, .int .u64 (k : Nat)] w fun e w' => e = .returned (.bool (decide (k ∈ ks))) ∧ w = w' := by
  have HC := Lib.hid (index_walk h hl k)
  obtain ⟨F, n, c, rfl⟩ := h.form
  obtain ⟨b, hb⟩ : ∃ b, decide (k ∈ ks) = b := ⟨_, rfl⟩
  have HB := Lib.hid hb
  rw [hb]
  clear h hl hb
  go_enter Tryz.func51, Tryz.ntmps51
  go_wp2_with fail
  refine HC.out.mono ?_
  rintro e w1 ⟨r, rfl, h1, h2, h3, rfl⟩
  rw [HB.out] at h3
  by_cases h0 : 0 ≤ r
  · rw [decide_eq_true h0] at h3
    subst h3
    clear HC HB
    go_wp2
    go_ret
    exact ⟨rfl, rfl⟩
  · rw [decide_eq_false h0] at h3
    subst h3
    clear HC HB
    go_wp2
    go_ret
    exact ⟨congrArg (fun x : Bool => Ending.returned (Value.bool x)) (decide_eq_false (by omega)), rfl⟩
theorem has_walk (h : KV w v ks) (hl : ks.length ≤ 100000000) (k : Nat) :
    Calls Tryz.prog 27 #[v, .int .u64 (k : Nat)] w fun e w' => e = .returned (.bool (decide (k ∈ ks))) ∧ w = w' := by
  have HC := Lib.hid (contains_walk h hl k)
  obtain ⟨F, n, c, rfl⟩ := h.form
  generalize decide (k ∈ ks) = b at HC ⊢
  clear h hl
  go_enter Tryz.func27, Tryz.ntmps27
  go_wp2_with fail
  refine HC.out.mono ?_
  rintro e w1 ⟨rfl, rfl⟩
  clear HC
  go_wp2
  go_ret
  exact ⟨rfl, rfl⟩
set_option maxHeartbeats 100000000 in
theorem fall_walk (h : KV w v ks) (hl : ks.length ≤ 100000000) (n : Int) (hn1 : -9223372036854775808 ≤ n) (hn2 : n ≤ 9223372036854775807) :
    Calls Tryz.prog 55 #[v, .int .i64 n] w (RetTwo w (ks.drop n.toNat).reverse (ks.take n.toNat)) := by
  have H := Lib.hid h
  obtain ⟨F, c, rfl, h1, h2, h3⟩ := h.mem
  clear h h3 h2
  by_cases hA : n < 0
  · have HFIN : Hid (∀ i, i = ks.length → (ks.drop (ks.length - i)).reverse = (ks.drop n.toNat).reverse ∧ ks.take 0 = ks.take n.toNat) := Lib.hid (by
      rintro i rfl
      rw [show n.toNat = 0 by omega, Nat.sub_self]
      exact ⟨rfl, rfl⟩)
    have hA2 : ¬ (0 : Int) ≤ n := by omega
    have hL0 : (0 : Int) ≤ (ks.length : Int) := by omega
    have hlI : (ks.length : Int) ≤ 100000000 := by omega
    go_enter Tryz.func55, Tryz.ntmps55
    go_wp2_with fail
    go_loopg [7, 18] ks.length (fun gg s7 s18 wr => ∃ (i : Nat) (v7 : Value), i + gg = ks.length ∧ v7 = s7 ∧ s18 = .int .i64 (i : Nat) ∧ Hid (KO w.heap.size w wr v7 (ks.drop (ks.length - i)).reverse))
    case atStart => exact ⟨0, _, by omega, rfl, rfl, Lib.hid (by simpa using KO.nil (Below.refl _ _))⟩
    case round =>
      obtain ⟨i, v7, hi, rfl, rfl, HI⟩ := hrel
      by_cases hlt : i < ks.length
      · have hltI : (i : Int) < (ks.length : Int) := by omega
        obtain ⟨k, hk⟩ : ∃ k, k + i + 1 = ks.length := ⟨ks.length - i - 1, by omega⟩
        have hkl : k < ks.length := by omega
        obtain ⟨F', c', e, _, _, h3⟩ := (H.out.below HI.out.low).mem
        injection e with e1 e2 e3
        subst e1 e3
        obtain ⟨ad, hF, hadb, q0⟩ := h3 k hkl
        subst hF
        have e9 : (ks.length : Int) - 1 - (i : Int) = (k : Int) := by omega
        have HD : Hid ((ks.drop (ks.length - i)).reverse ++ [ks[k]] = (ks.drop (ks.length - (i + 1))).reverse) := Lib.hid (by
          rw [show ks.length - i = k + 1 by omega, show ks.length - (i + 1) = k by omega]
          exact (drop_rev hkl).symm)
        have hlen : ((ks.drop (ks.length - i)).reverse).length ≤ 100000000 := by simp; omega
        have hszw := HI.out.low.size
        obtain ⟨ys, hys⟩ : ∃ ys, (ks.drop (ks.length - i)).reverse = ys := ⟨_, rfl⟩
        obtain ⟨x, hx⟩ : ∃ x, ks[k] = x := ⟨_, rfl⟩
        rw [hys] at HI HD hlen
        rw [hx] at q0 HD
        have hklI : (k : Int) < (ks.length : Int) := by omega
        clear h3 hys hx
        have HOW := Lib.hid (HI.out.alloc hszw (.cells #[.int .u64 (x : Nat)] 31))
        have HSRC := Lib.hid (KV.one wr x)
        have hszA : w.heap.size ≤ (wr.alloc (.cells #[.int .u64 (x : Nat)] 31)).heap.size := by simp; omega
        go_wp2_with (at_builtin; refine wpList_append_kv rfl (.tmp 21) (.tmp 30) rfl w.heap.size (by kernel_rfl) (by kernel_rfl) v7 ys rfl HOW.out _ [x] rfl HSRC.out (by simp; omega) hszA ?_)
        intro v6 w6 hown6 _ _
        rw [HD.out] at hown6
        have HN := Lib.hid hown6
        clear hown6 q0 hadb
        go_wp2
        go_roundg (gk - 1)
        case measure => omega
        case rel => exact ⟨i + 1, v6, by omega, rfl, by go_num, HN⟩
      · have hltI : ¬ (i : Int) < (ks.length : Int) := by omega
        obtain ⟨F', c', e, hkt⟩ := (H.out.below HI.out.low).take 0 (by omega)
        injection e with e1 e2 e3
        subst e1 e3
        have HC := Lib.hid (copy_walk hkt (by rw [List.length_take]; omega))
        have HFI : Hid ((ks.drop (ks.length - i)).reverse = (ks.drop n.toNat).reverse ∧ ks.take 0 = ks.take n.toNat) := Lib.hid (HFIN.out i (by omega))
        clear hkt
        go_wp2_with fail
        refine HC.out.mono ?_
        rintro e w5 ⟨v5, rfl, k5⟩
        have HE := Lib.hid (And.intro (HI.out.below HI.out.low.size k5.low) k5.kv)
        clear k5 HC
        go_wp2
        refine bodyPost_ret (v := .tuple #[v7, v5]) (by simp [results, Tryz.results55, go_sem]) rfl ⟨v7, v5, rfl, HE.out.1.low, ?_, ?_⟩
        · rw [← HFI.out.1]
          exact HE.out.1.kv
        · rw [← HFI.out.2]
          exact HE.out.2
  · obtain ⟨N, rfl⟩ : ∃ N : Nat, n = (N : Int) := ⟨n.toNat, by omega⟩
    have hA2 : ¬ (N : Int) < 0 := by omega
    by_cases hB : N < ks.length
    · obtain ⟨m, hm⟩ : ∃ m, N + m = ks.length := ⟨ks.length - N, by omega⟩
      have hmI : (ks.length : Int) - (N : Int) = (m : Int) := by omega
      have hBI : (N : Int) < (ks.length : Int) := by omega
      have hBI2 : ¬ (ks.length : Int) < (N : Int) := by omega
      have hBI3 : (N : Int) ≤ (ks.length : Int) := by omega
      have HFIN : Hid (∀ i, i = m → (ks.drop (ks.length - i)).reverse = (ks.drop (N : Int).toNat).reverse ∧ ks.take N = ks.take (N : Int).toNat) := Lib.hid (by
        rintro i rfl
        rw [Int.toNat_natCast, show ks.length - i = N by omega]
        exact ⟨rfl, rfl⟩)
      have hlI : (ks.length : Int) ≤ 100000000 := by omega
      have hNc : N ≤ c := by omega
      go_enter Tryz.func55, Tryz.ntmps55
      go_wp2_with fail
      go_loopg [7, 18] m (fun gg s7 s18 wr => ∃ (i : Nat) (v7 : Value), i + gg = m ∧ v7 = s7 ∧ s18 = .int .i64 (i : Nat) ∧ Hid (KO w.heap.size w wr v7 (ks.drop (ks.length - i)).reverse))
      case atStart => exact ⟨0, _, by omega, rfl, rfl, Lib.hid (by simpa using KO.nil (Below.refl _ _))⟩
      case round =>
        obtain ⟨i, v7, hi, rfl, rfl, HI⟩ := hrel
        by_cases hlt : i < m
        · have hltI : (i : Int) < (m : Int) := by omega
          obtain ⟨k, hk⟩ : ∃ k, k + i + 1 = ks.length := ⟨ks.length - i - 1, by omega⟩
          have hkl : k < ks.length := by omega
          obtain ⟨F', c', e, _, _, h3⟩ := (H.out.below HI.out.low).mem
          injection e with e1 e2 e3
          subst e1 e3
          obtain ⟨ad, hF, hadb, q0⟩ := h3 k hkl
          subst hF
          have e9 : (ks.length : Int) - 1 - (i : Int) = (k : Int) := by omega
          have HD : Hid ((ks.drop (ks.length - i)).reverse ++ [ks[k]] = (ks.drop (ks.length - (i + 1))).reverse) := Lib.hid (by
            rw [show ks.length - i = k + 1 by omega, show ks.length - (i + 1) = k by omega]
            exact (drop_rev hkl).symm)
          have hlen : ((ks.drop (ks.length - i)).reverse).length ≤ 100000000 := by simp; omega
          have hszw := HI.out.low.size
          obtain ⟨ys, hys⟩ : ∃ ys, (ks.drop (ks.length - i)).reverse = ys := ⟨_, rfl⟩
          obtain ⟨x, hx⟩ : ∃ x, ks[k] = x := ⟨_, rfl⟩
          rw [hys] at HI HD hlen
          rw [hx] at q0 HD
          have hklI : (k : Int) < (ks.length : Int) := by omega
          clear h3 hys hx
          have HOW := Lib.hid (HI.out.alloc hszw (.cells #[.int .u64 (x : Nat)] 31))
          have HSRC := Lib.hid (KV.one wr x)
          have hszA : w.heap.size ≤ (wr.alloc (.cells #[.int .u64 (x : Nat)] 31)).heap.size := by simp; omega
          go_wp2_with (at_builtin; refine wpList_append_kv rfl (.tmp 21) (.tmp 30) rfl w.heap.size (by kernel_rfl) (by kernel_rfl) v7 ys rfl HOW.out _ [x] rfl HSRC.out (by simp; omega) hszA ?_)
          intro v6 w6 hown6 _ _
          rw [HD.out] at hown6
          have HN := Lib.hid hown6
          clear hown6 q0 hadb
          go_wp2
          go_roundg (gk - 1)
          case measure => omega
          case rel => exact ⟨i + 1, v6, by omega, rfl, by go_num, HN⟩
        · have hltI : ¬ (i : Int) < (m : Int) := by omega
          obtain ⟨F', c', e, hkt⟩ := (H.out.below HI.out.low).take N (by omega)
          injection e with e1 e2 e3
          subst e1 e3
          have HC := Lib.hid (copy_walk hkt (by rw [List.length_take]; omega))
          have HFI : Hid ((ks.drop (ks.length - i)).reverse = (ks.drop (N : Int).toNat).reverse ∧ ks.take N = ks.take (N : Int).toNat) := Lib.hid (HFIN.out i (by omega))
          clear hkt
          go_wp2_with fail
          refine HC.out.mono ?_
          rintro e w5 ⟨v5, rfl, k5⟩
          have HE := Lib.hid (And.intro (HI.out.below HI.out.low.size k5.low) k5.kv)
          clear k5 HC
          go_wp2
          refine bodyPost_ret (v := .tuple #[v7, v5]) (by simp [results, Tryz.results55, go_sem]) rfl ⟨v7, v5, rfl, HE.out.1.low, ?_, ?_⟩
          · rw [← HFI.out.1]
            exact HE.out.1.kv
          · rw [← HFI.out.2]
            exact HE.out.2
    · by_cases hC : N = ks.length
      · subst hC
        have HFIN : Hid (∀ i, i = 0 → (ks.drop (ks.length - i)).reverse = (ks.drop (ks.length : Int).toNat).reverse ∧ ks.take ks.length = ks.take (ks.length : Int).toNat) := Lib.hid (by
          rintro i rfl
          simp)
        have hlI : (ks.length : Int) ≤ 100000000 := by omega
        go_enter Tryz.func55, Tryz.ntmps55
        go_wp2_with fail
        go_loopg [7, 18] 0 (fun gg s7 s18 wr => ∃ (i : Nat) (v7 : Value), i + gg = 0 ∧ v7 = s7 ∧ s18 = .int .i64 (i : Nat) ∧ Hid (KO w.heap.size w wr v7 (ks.drop (ks.length - i)).reverse))
        case atStart => exact ⟨0, _, by omega, rfl, rfl, Lib.hid (by simpa using KO.nil (Below.refl _ _))⟩
        case round =>
          obtain ⟨i, v7, hi, rfl, rfl, HI⟩ := hrel
          by_cases hlt : i < 0
          · omega
          · have hltI : ¬ (i : Int) < (0 : Int) := by omega
            obtain ⟨F', c', e, hkt⟩ := (H.out.below HI.out.low).take ks.length (by omega)
            injection e with e1 e2 e3
            subst e1 e3
            have HC := Lib.hid (copy_walk hkt (by rw [List.length_take]; omega))
            have HFI : Hid ((ks.drop (ks.length - i)).reverse = (ks.drop (ks.length : Int).toNat).reverse ∧ ks.take ks.length = ks.take (ks.length : Int).toNat) := Lib.hid (HFIN.out i (by omega))
            clear hkt
            go_wp2_with fail
            refine HC.out.mono ?_
            rintro e w5 ⟨v5, rfl, k5⟩
            have HE := Lib.hid (And.intro (HI.out.below HI.out.low.size k5.low) k5.kv)
            clear k5 HC
            go_wp2
            refine bodyPost_ret (v := .tuple #[v7, v5]) (by simp [results, Tryz.results55, go_sem]) rfl ⟨v7, v5, rfl, HE.out.1.low, ?_, ?_⟩
            · rw [← HFI.out.1]
              exact HE.out.1.kv
            · rw [← HFI.out.2]
              exact HE.out.2
      · have hBI : (ks.length : Int) < (N : Int) := by omega
        have hBI2 : ¬ (N : Int) ≤ (ks.length : Int) := by omega
        have HFIN : Hid (∀ i, i = 0 → (ks.drop (ks.length - i)).reverse = (ks.drop (N : Int).toNat).reverse ∧ ks.take ks.length = ks.take (N : Int).toNat) := Lib.hid (by
          rintro i rfl
          rw [Int.toNat_natCast, List.drop_of_length_le (by omega), List.drop_of_length_le (by omega), List.take_of_length_le (by omega), List.take_of_length_le (by omega)]
          exact ⟨rfl, rfl⟩)
        have hlI : (ks.length : Int) ≤ 100000000 := by omega
        go_enter Tryz.func55, Tryz.ntmps55
        go_wp2_with fail
        go_loopg [7, 18] 0 (fun gg s7 s18 wr => ∃ (i : Nat) (v7 : Value), i + gg = 0 ∧ v7 = s7 ∧ s18 = .int .i64 (i : Nat) ∧ Hid (KO w.heap.size w wr v7 (ks.drop (ks.length - i)).reverse))
        case atStart => exact ⟨0, _, by omega, rfl, rfl, Lib.hid (by simpa using KO.nil (Below.refl _ _))⟩
        case round =>
          obtain ⟨i, v7, hi, rfl, rfl, HI⟩ := hrel
          by_cases hlt : i < 0
          · omega
          · have hltI : ¬ (i : Int) < (0 : Int) := by omega
            obtain ⟨F', c', e, hkt⟩ := (H.out.below HI.out.low).take ks.length (by omega)
            injection e with e1 e2 e3
            subst e1 e3
            have HC := Lib.hid (copy_walk hkt (by rw [List.length_take]; omega))
            have HFI : Hid ((ks.drop (ks.length - i)).reverse = (ks.drop (N : Int).toNat).reverse ∧ ks.take ks.length = ks.take (N : Int).toNat) := Lib.hid (HFIN.out i (by omega))
            clear hkt
            go_wp2_with fail
            refine HC.out.mono ?_
            rintro e w5 ⟨v5, rfl, k5⟩
            have HE := Lib.hid (And.intro (HI.out.below HI.out.low.size k5.low) k5.kv)
            clear k5 HC
            go_wp2
            refine bodyPost_ret (v := .tuple #[v7, v5]) (by simp [results, Tryz.results55, go_sem]) rfl ⟨v7, v5, rfl, HE.out.1.low, ?_, ?_⟩
            · rw [← HFI.out.1]
              exact HE.out.1.kv
            · rw [← HFI.out.2]
              exact HE.out.2
end
end Go.Proofs.YtgkblelgcikafaaGreat
