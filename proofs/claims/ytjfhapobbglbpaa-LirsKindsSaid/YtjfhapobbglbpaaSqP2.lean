/- The program's lists of keys: Has, Back, Fall. -/
import Derived.Test.YtjfhapobbglbpaaSqP1
import Derived.Test.YtjfhapobbglbpaaSqH
import Derived.Deep.RegionHeld3
namespace Go.Proofs.Ytjfhapobbglbpaa
open Go Go.RowKit Go.Deep

section
variable {w : World} {v : Value} {ks : List Nat}
def IdxP (w : World) (ks : List Nat) (k : Nat) (e : Ending) (w' : World) : Prop := ∃ r : Int, e = .returned (.int .i64 r) ∧ -1 ≤ r ∧ r ≤ 100000000 ∧ decide (0 ≤ r) = decide (k ∈ ks) ∧ w = w'
theorem index_walk (h : KV w v ks) (hl : ks.length ≤ 100000000) (k : Nat) :
    Calls Try.prog 77 #[v, .int .u64 (k : Nat)] w (IdxP w ks k) := by
  obtain ⟨F, c, rfl, h1, h2, h3⟩ := h.mem
  have HC := Lib.hid h3
  have HY := Lib.hid (fun hm : k ∈ ks => hm)
  obtain ⟨b, hb⟩ : ∃ b, decide (k ∈ ks) = b := ⟨_, rfl⟩
  have HB := Lib.hid hb
  clear h h3 h2 h1 hb HY
  go_enter Try.func77, Try.ntmps77
  go_wp2_with fail
  go_loopg [8] ks.length (fun gg s8 wr => ∃ i : Nat, i + gg = ks.length ∧ s8 = .int .i64 (i : Nat) ∧ wr = w ∧ Hid (∀ j (hj : j < ks.length), j < i → ks[j] ≠ k))
  case atStart => exact ⟨0, by omega, rfl, rfl, Lib.hid (fun j _ hj => by omega)⟩
  case round =>
    obtain ⟨i, hi, rfl, rfl, HN⟩ := hrel
    by_cases hlt : i < ks.length
    · have hltI : (i : Int) < (ks.length : Int) := by omega
      obtain ⟨ad, hF, _, q0⟩ := HC.out i hlt
      subst hF
      by_cases he : ks[i] = k
      · rw [he] at q0
        have HT : Hid (b = true) := Lib.hid (by rw [← HB.out]; exact decide_eq_true (he ▸ List.getElem_mem hlt))
        clear he
        go_wp2
        go_ret
        exact ⟨(i : Int), rfl, by omega, by omega, by rw [HB.out, HT.out]; exact decide_eq_true (by omega), rfl⟩
      · have HNX : Hid (∀ j (hj : j < ks.length), j < i + 1 → ks[j] ≠ k) := Lib.hid (fun j hj hji => by
          rcases Nat.lt_or_ge j i with h | h
          · exact HN.out j hj h
          · have : j = i := by omega
            subst this
            exact he)
        have hne : ((k : Int) == ((ks[i] : Nat) : Int)) = false := by
          rw [beq_eq_false_iff_ne]
          omega
        generalize ks[i] = x at q0 hne
        clear he
        go_wp2
        go_roundg (gk - 1)
        case measure => omega
        case rel => exact ⟨i + 1, by omega, by go_num, rfl, HNX⟩
    · have hltI : ¬ (i : Int) < (ks.length : Int) := by omega
      have HF : Hid (b = false) := Lib.hid (by
        rw [← HB.out]
        refine decide_eq_false (fun hm => ?_)
        obtain ⟨j, hj, e⟩ := List.getElem_of_mem hm
        exact HN.out j hj (by omega) e)
      go_wp2
      go_ret
      exact ⟨-1, rfl, by omega, by omega, by rw [HB.out, HF.out]; rfl, rfl⟩
theorem contains_walk (h : KV w v ks) (hl : ks.length ≤ 100000000) (k : Nat) :
    Calls Try.prog 61 #[v, .int .u64 (k : Nat)] w fun e w' => e = .returned (.bool (decide (k ∈ ks))) ∧ w = w' := by
  have HC := Lib.hid (index_walk h hl k)
  obtain ⟨F, n, c, rfl⟩ := h.form
  obtain ⟨b, hb⟩ : ∃ b, decide (k ∈ ks) = b := ⟨_, rfl⟩
  have HB := Lib.hid hb
  rw [hb]
  clear h hl hb
  go_enter Try.func61, Try.ntmps61
  go_wp2_with fail
  refine HC.out.mono ?_
  rintro e w1 ⟨r, rfl, h1, h2, h3, rfl⟩
  rw [HB.out] at h3
  by_cases h0 : 0 ≤ r
  · rw [decide_eq_true h0] at h3
    subst h3
    clear HC HB
    go_wp2
    go_ret
    exact ⟨rfl, rfl⟩
  · rw [decide_eq_false h0] at h3
    subst h3
    clear HC HB
    go_wp2
    go_ret
    exact ⟨congrArg (fun x : Bool => Ending.returned (Value.bool x)) (decide_eq_false (by omega)), rfl⟩
theorem has_walk (h : KV w v ks) (hl : ks.length ≤ 100000000) (k : Nat) :
    Calls Try.prog 38 #[v, .int .u64 (k : Nat)] w fun e w' => e = .returned (.bool (decide (k ∈ ks))) ∧ w = w' := by
  have HC := Lib.hid (contains_walk h hl k)
  obtain ⟨F, n, c, rfl⟩ := h.form
  generalize decide (k ∈ ks) = b at HC ⊢
  clear h hl
  go_enter Try.func38, Try.ntmps38
  go_wp2_with fail
  refine HC.out.mono ?_
  rintro e w1 ⟨rfl, rfl⟩
  clear HC
  go_wp2
  go_ret
  exact ⟨rfl, rfl⟩
end
end Go.Proofs.Ytjfhapobbglbpaa
