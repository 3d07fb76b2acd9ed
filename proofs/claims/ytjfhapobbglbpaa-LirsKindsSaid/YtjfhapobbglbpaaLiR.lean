/- Inter-reference recency, the document's own: how many, the place, the last one of a kind. -/
import Derived.Test.YtjfhapobbglbpaaLiP
import Derived.IntWalk
import Derived.Deep.LoopGhost
import Derived.Deep.QuietTactic
import Derived.BigQuiet
namespace Go.Proofs.Ytjfhapobbglbpaa
open Go Go.RowKit Go.Deep

/- What Place tells; what lowest tells. -/
def PlcP (w : World) (xs : List It) (k : Nat) (e : Ending) (w' : World) : Prop := w = w' ∧ ((e = .returned (.int .i64 (-1)) ∧ k ∉ keysI xs) ∨ ∃ (i : Nat) (hi : i < xs.length), e = .returned (.int .i64 (i : Nat)) ∧ xs[i].key = k ∧ ∀ j (hj : j < xs.length), j < i → xs[j].key ≠ k)
def LowP (w : World) (xs : List It) (f : Nat) (e : Ending) (w' : World) : Prop := w = w' ∧ ((e = .returned (.int .i64 (-1)) ∧ ∀ j (hj : j < xs.length), xs[j].f ≠ f) ∨ ∃ (m : Nat) (hm : m < xs.length), e = .returned (.int .i64 (m : Nat)) ∧ xs[m].f = f ∧ ∀ j (hj : j < xs.length), m < j → xs[j].f ≠ f)
section
variable {w : World} {v : Value} {xs : List It}
theorem nk_next (f : Nat) {i : Nat} (hi : i < xs.length) : nk f (xs.take (i + 1)) = nk f (xs.take i) + if xs[i].f = f then 1 else 0 := by
  rw [List.take_succ_eq_append_getElem hi, nk_snoc]
theorem r12many_walk (h : IV w v xs) (hl : xs.length ≤ 100000000) (f : Nat) : Calls Try.prog 40 #[v, .int .i64 (f : Nat)] w fun e w' => e = .returned (.int .i64 (nk f xs : Nat)) ∧ w = w' := by
  obtain ⟨F, c, rfl, h1, h2, h3⟩ := h.mem
  have HC := Lib.hid h3
  have HR : Hid (nk f (xs.take xs.length) = nk f xs) := Lib.hid (by rw [List.take_length])
  have HU : Hid (∀ i, nk f (xs.take i) ≤ i) := Lib.hid (fun i => by
    have h1 : nk f (xs.take i) ≤ (xs.take i).length := List.countP_le_length
    rw [List.length_take] at h1
    omega)
  obtain ⟨n, hn⟩ : ∃ n, xs.length = n := ⟨_, rfl⟩
  rw [hn] at hl HR ⊢
  have HN := Lib.hid hn
  clear h h3 h2 h1 hn
  go_enter Try.func40, Try.ntmps40
  go_wp2_with fail
  go_loopg [5, 6] n (fun gg s5 s6 wr => ∃ (i m : Nat), i + gg = n ∧ s5 = .int .i64 (m : Nat) ∧ s6 = .int .i64 (i : Nat) ∧ wr = w ∧ m ≤ i ∧ Hid (m = nk f (xs.take i)))
  case atStart => exact ⟨0, 0, by omega, rfl, rfl, rfl, Nat.le_refl _, Lib.hid rfl⟩
  case round =>
    obtain ⟨i, m, hi, rfl, rfl, rfl, hmi, HM⟩ := hrel
    by_cases hlt : i < n
    · have hltI : (i : Int) < (n : Int) := by omega
      have hil : i < xs.length := by rw [HN.out]; exact hlt
      obtain ⟨g, off, hF, hg, q0, q1⟩ := HC.out i hil
      have hnx := nk_next f hil
      obtain ⟨fx, hfe⟩ : ∃ fx, xs[i].f = fx := ⟨_, rfl⟩
      rw [hfe] at q1 hnx
      subst hF
      by_cases he : fx = f
      · subst he
        have HX : Hid (m + 1 = nk fx (xs.take (i + 1))) := Lib.hid (by rw [hnx, if_pos rfl, ← HM.out])
        clear hnx q0 hfe
        go_wp2
        go_roundg (gk - 1)
        case measure => omega
        case rel => exact ⟨i + 1, m + 1, by omega, by go_num, by go_num, rfl, by omega, HX⟩
      · have heI : ¬ (fx : Int) = (f : Int) := by omega
        have HX : Hid (m = nk f (xs.take (i + 1))) := Lib.hid (by rw [hnx, if_neg he, Nat.add_zero, ← HM.out])
        clear hnx q0 hfe
        go_wp2
        go_roundg (gk - 1)
        case measure => omega
        case rel => exact ⟨i + 1, m, by omega, rfl, by go_num, rfl, by omega, HX⟩
    · have hltI : ¬ (i : Int) < (n : Int) := by omega
      obtain rfl : i = n := by omega
      have HE : Hid (m = nk f xs) := Lib.hid (HM.out.trans HR.out)
      go_wp2
      go_ret
      exact ⟨congrArg (fun x : Nat => Ending.returned (Value.int .i64 (x : Int))) HE.out, rfl⟩
theorem r12place_walk (h : IV w v xs) (hl : xs.length ≤ 100000000) (k : Nat) : Calls Try.prog 51 #[v, .int .u64 (k : Nat)] w (PlcP w xs k) := by
  obtain ⟨F, c, rfl, h1, h2, h3⟩ := h.mem
  have HC := Lib.hid h3
  obtain ⟨n, hn⟩ : ∃ n, xs.length = n := ⟨_, rfl⟩
  rw [hn] at hl ⊢
  have HN := Lib.hid hn
  clear h h3 h2 h1 hn
  go_enter Try.func51, Try.ntmps51
  go_wp2_with fail
  go_loopg [5] n (fun gg s5 wr => ∃ (i : Nat), i + gg = n ∧ s5 = .int .i64 (i : Nat) ∧ wr = w ∧ Hid (∀ j (hj : j < xs.length), j < i → xs[j].key ≠ k))
  case atStart => exact ⟨0, by omega, rfl, rfl, Lib.hid (fun j _ hj => by omega)⟩
  case round =>
    obtain ⟨i, hi, rfl, rfl, HM⟩ := hrel
    by_cases hlt : i < n
    · have hltI : (i : Int) < (n : Int) := by omega
      have hil : i < xs.length := by rw [HN.out]; exact hlt
      obtain ⟨g, off, hF, hg, q0, q1⟩ := HC.out i hil
      obtain ⟨kx, hke⟩ : ∃ kx, xs[i].key = kx := ⟨_, rfl⟩
      rw [hke] at q0
      have HKE := Lib.hid hke
      subst hF
      clear hke q1
      by_cases he : kx = k
      · subst he
        go_wp2
        go_ret
        exact ⟨rfl, .inr ⟨i, hil, rfl, HKE.out, HM.out⟩⟩
      · have heI : ¬ (kx : Int) = (k : Int) := by omega
        have HX : Hid (∀ j (hj : j < xs.length), j < i + 1 → xs[j].key ≠ k) := Lib.hid (fun j hj hji => by
          rcases Nat.lt_or_ge j i with h | h
          · exact HM.out j hj h
          · obtain rfl : j = i := by omega
            rw [HKE.out]
            exact he)
        go_wp2
        go_roundg (gk - 1)
        case measure => omega
        case rel => exact ⟨i + 1, by omega, by go_num, rfl, HX⟩
    · have hltI : ¬ (i : Int) < (n : Int) := by omega
      have HX : Hid (k ∉ keysI xs) := Lib.hid (fun hm => by
        obtain ⟨x, hx, e⟩ := List.mem_map.1 hm
        obtain ⟨j, hj, rfl⟩ := List.getElem_of_mem hx
        exact HM.out j hj (by rw [HN.out] at hj; omega) e)
      go_wp2
      go_ret
      exact ⟨rfl, .inl ⟨rfl, HX.out⟩⟩
theorem r12lowest_walk (h : IV w v xs) (hl : xs.length ≤ 100000000) (f : Nat) : Calls Try.prog 75 #[v, .int .i64 (f : Nat)] w (LowP w xs f) := by
  obtain ⟨F, c, rfl, h1, h2, h3⟩ := h.mem
  have HC := Lib.hid h3
  obtain ⟨n, hn⟩ : ∃ n, xs.length = n := ⟨_, rfl⟩
  rw [hn] at hl ⊢
  have HN := Lib.hid hn
  clear h h3 h2 h1 hn
  go_enter Try.func75, Try.ntmps75
  go_wp2_with fail
  go_loopg [5, 6] n (fun gg s5 s6 wr => ∃ (i : Nat) (a : Int), i + gg = n ∧ s5 = .int .i64 a ∧ s6 = .int .i64 (i : Nat) ∧ wr = w ∧ Hid ((a = -1 ∧ ∀ j (hj : j < xs.length), j < i → xs[j].f ≠ f) ∨ ∃ (m : Nat) (hm : m < xs.length), a = (m : Nat) ∧ m < i ∧ xs[m].f = f ∧ ∀ j (hj : j < xs.length), m < j → j < i → xs[j].f ≠ f))
  case atStart => exact ⟨0, -1, by omega, rfl, rfl, rfl, Lib.hid (.inl ⟨rfl, fun j _ hj => by omega⟩)⟩
  case round =>
    obtain ⟨i, a, hi, rfl, rfl, rfl, HM⟩ := hrel
    by_cases hlt : i < n
    · have hltI : (i : Int) < (n : Int) := by omega
      have hil : i < xs.length := by rw [HN.out]; exact hlt
      obtain ⟨g, off, hF, hg, q0, q1⟩ := HC.out i hil
      obtain ⟨fx, hfe⟩ : ∃ fx, xs[i].f = fx := ⟨_, rfl⟩
      rw [hfe] at q1
      have HFE := Lib.hid hfe
      subst hF
      clear hfe q0
      by_cases he : fx = f
      · subst he
        go_wp2
        go_roundg (gk - 1)
        case measure => omega
        case rel => exact ⟨i + 1, (i : Nat), by omega, rfl, by go_num, rfl, Lib.hid (.inr ⟨i, hil, rfl, by omega, HFE.out, fun j _ h1 h2 => by omega⟩)⟩
      · have heI : ¬ (fx : Int) = (f : Int) := by omega
        have HX : Hid ((a = -1 ∧ ∀ j (hj : j < xs.length), j < i + 1 → xs[j].f ≠ f) ∨ ∃ (m : Nat) (hm : m < xs.length), a = (m : Nat) ∧ m < i + 1 ∧ xs[m].f = f ∧ ∀ j (hj : j < xs.length), m < j → j < i + 1 → xs[j].f ≠ f) := Lib.hid (by
          rcases HM.out with ⟨e1, h2⟩ | ⟨m, hm, e1, h1, h2, h3⟩
          · refine .inl ⟨e1, fun j hj hji => ?_⟩
            rcases Nat.lt_or_ge j i with h | h
            · exact h2 j hj h
            · obtain rfl : j = i := by omega
              rw [HFE.out]
              exact he
          · refine .inr ⟨m, hm, e1, by omega, h2, fun j hj hmj hji => ?_⟩
            rcases Nat.lt_or_ge j i with h | h
            · exact h3 j hj hmj h
            · obtain rfl : j = i := by omega
              rw [HFE.out]
              exact he)
        go_wp2
        go_roundg (gk - 1)
        case measure => omega
        case rel => exact ⟨i + 1, a, by omega, rfl, by go_num, rfl, HX⟩
    · have hltI : ¬ (i : Int) < (n : Int) := by omega
      obtain rfl : i = n := by omega
      go_wp2
      go_ret
      refine ⟨rfl, ?_⟩
      rcases HM.out with ⟨e1, h2⟩ | ⟨m, hm, e1, h1, h2, h3⟩
      · exact .inl ⟨by rw [e1]; rfl, fun j hj => h2 j hj (by rw [HN.out] at hj; exact hj)⟩
      · exact .inr ⟨m, hm, by rw [e1]; rfl, h2, fun j hj hmj => h3 j hj hmj (by rw [HN.out] at hj; exact hj)⟩
end
end Go.Proofs.Ytjfhapobbglbpaa
