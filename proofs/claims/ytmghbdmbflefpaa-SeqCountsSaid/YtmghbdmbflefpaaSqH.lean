/- The document's own lists of keys: Fall. -/
import Derived.Test.YtmghbdmbflefpaaSqO
namespace Go.Proofs.Ytmghbdmbflefpaa
open Go Go.RowKit Go.Deep

section
variable {w : World} {v : Value} {ks : List Nat}
def FallP (w : World) (ks : List Nat) (N : Nat) (e : Ending) (w' : World) : Prop := ∃ v1 v2, e = .returned (.tuple #[v1, v2]) ∧ KO w.heap.size w w' v1 (ks.drop N).reverse ∧ KV w' v2 (ks.take N)
set_option maxHeartbeats 100000000 in
theorem rfall_walk (h : KV w v ks) (hl : ks.length ≤ 100000000) (n : Int) (hn1 : -9223372036854775808 ≤ n) (hn2 : n ≤ 9223372036854775807) :
    Calls Try.prog 18 #[v, .int .i64 n] w (FallP w ks n.toNat) := by
  have H := Lib.hid h
  obtain ⟨F, c, rfl, h1, h2, h3⟩ := h.mem
  clear h h3 h2
  go_enter Try.func18, Try.ntmps18
  go_wp2_with fail
  go_loopg [0, 6] ks.length (fun gg s0 s6 wr => ∃ (m : Nat) (v6 : Value), gg = m ∧ s0 = .slice F m c ∧ v6 = s6 ∧ Hid (m ≤ ks.length ∧ n.toNat ≤ m ∨ m = ks.length) ∧ Hid (KO w.heap.size w wr v6 (ks.drop m).reverse))
  case atStart => exact ⟨ks.length, _, rfl, rfl, rfl, Lib.hid (.inr rfl), Lib.hid (by simpa using KO.nil (Below.refl _ _))⟩
  case round =>
    obtain ⟨m, v6, hi, rfl, rfl, HM, HI⟩ := hrel
    have hmle : m ≤ ks.length := by
      rcases HM.out with h | h
      · exact h.1
      · omega
    have hszw := HI.out.low.size
    by_cases hgt : n < (m : Int)
    · by_cases hm0 : m = 0
      · subst hm0
        have HN : Hid (n.toNat = 0) := Lib.hid (by omega)
        go_wp2
        refine bodyPost_ret (v := .tuple #[v6, .slice F 0 c]) (by simp [results, Try.results18, go_sem]) rfl ⟨v6, .slice F 0 c, rfl, ?_, ?_⟩
        · rw [HN.out]
          exact HI.out
        · rw [HN.out]
          obtain ⟨F', c', e, hk⟩ := (H.out.below HI.out.low).take 0 (by omega)
          injection e with e1 e2 e3
          subst e1 e3
          exact hk
      · obtain ⟨k, rfl⟩ : ∃ k, m = k + 1 := ⟨m - 1, by omega⟩
        have hmI : (0 : Int) < ((k + 1 : Nat) : Int) := by omega
        have hk : k < ks.length := by omega
        obtain ⟨F', c', e, _, _, h3⟩ := (H.out.below HI.out.low).mem
        injection e with e1 e2 e3
        subst e1 e3
        obtain ⟨ad, hF, hadb, q0⟩ := h3 k hk
        subst hF
        have HD := Lib.hid (drop_rev hk)
        have HMN : Hid (k ≤ ks.length ∧ n.toNat ≤ k ∨ k = ks.length) := Lib.hid (.inl ⟨by omega, by omega⟩)
        have hgtI : n < (k : Int) + 1 := by omega
        have hlen : ((ks.drop (k + 1)).reverse).length ≤ 100000000 := by simp; omega
        obtain ⟨ys, hys⟩ : ∃ ys, (ks.drop (k + 1)).reverse = ys := ⟨_, rfl⟩
        obtain ⟨x, hx⟩ : ∃ x, ks[k] = x := ⟨_, rfl⟩
        rw [hys] at HI HD hlen
        rw [hx] at q0 HD
        have hkc : k + 1 ≤ c := by omega
        clear h3 hys hx hgt HM hm0 hmle
        have HOW := Lib.hid (HI.out.alloc hszw (.cells #[.int .u64 (x : Nat)] 23))
        have HSRC := Lib.hid (KV.one wr x)
        have hszA : w.heap.size ≤ (wr.alloc (.cells #[.int .u64 (x : Nat)] 23)).heap.size := by simp; omega
        go_wp2_with (at_builtin; refine wpList_append_kv rfl (.tmp 16) (.tmp 23) rfl w.heap.size (by kernel_rfl) (by kernel_rfl) v6 ys rfl HOW.out _ [x] rfl HSRC.out (by simp; omega) hszA ?_)
        intro v7 w7 hown7 _ _
        rw [← HD.out] at hown7
        have HN := Lib.hid hown7
        clear hown7 q0 hadb
        go_wp2
        go_roundg (gk - 1)
        case measure => omega
        case rel => exact ⟨k, v7, by omega, rfl, rfl, HMN, HN⟩
    · have HT : Hid (ks.take n.toNat = ks.take m ∧ (ks.drop n.toNat).reverse = (ks.drop m).reverse) := Lib.hid (by
        rcases HM.out with h | h
        · have : n.toNat = m := by omega
          rw [this]
          exact ⟨rfl, rfl⟩
        · rw [List.take_of_length_le (by omega), List.take_of_length_le (by omega), List.drop_of_length_le (by omega), List.drop_of_length_le (by omega)]
          exact ⟨rfl, rfl⟩)
      go_wp2
      refine bodyPost_ret (v := .tuple #[v6, .slice F m c]) (by simp [results, Try.results18, go_sem]) rfl ⟨v6, .slice F m c, rfl, ?_, ?_⟩
      · rw [HT.out.2]
        exact HI.out
      · rw [HT.out.1]
        obtain ⟨F', c', e, hk⟩ := (H.out.below HI.out.low).take m hmle
        injection e with e1 e2 e3
        subst e1 e3
        exact hk
end
end Go.Proofs.Ytmghbdmbflefpaa
