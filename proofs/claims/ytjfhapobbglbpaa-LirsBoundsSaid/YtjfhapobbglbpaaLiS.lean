/- Inter-reference recency, the document's own: cut, set, Room. -/
import Derived.Test.YtjfhapobbglbpaaLiI
import Derived.Test.YtjfhapobbglbpaaPoS
import Derived.Test.YtjfhapobbglbpaaPoA
namespace Go.Proofs.Ytjfhapobbglbpaa
open Go Go.RowKit Go.Deep

section
variable {w : World} {v : Value} {xs : List It}
theorem r12room_walk (c : Nat) (hc : c ≤ 1048576) (h1 : 1 ≤ c) : Calls Try.prog 26 #[.int .i64 (c : Nat)] w fun e w' => e = .returned (.int .i64 (roomH c : Nat)) ∧ w = w' := by
  have hi := roomH_is c
  go_enter Try.func26, Try.ntmps26
  by_cases h : c < 200
  · rw [if_pos h] at hi
    rw [← hi]
    clear hi
    have hI : (c : Int) < 200 := by omega
    go_wp2
    go_ret
    exact ⟨congrArg (fun x : Int => Ending.returned (Value.int .i64 x)) (by omega), rfl⟩
  · rw [if_neg h] at hi
    rw [← hi]
    clear hi
    have hI : ¬ (c : Int) < 200 := by omega
    go_wp2
    go_ret
    exact ⟨congrArg (fun x : Int => Ending.returned (Value.int .i64 x)) (by omega), rfl⟩
set_option maxHeartbeats 1000000 in
theorem r12cut_walk (h : IV w v xs) (hl : xs.length ≤ 100000000) {i : Nat} (hi : i < xs.length) : Calls Try.prog 59 #[v, .int .i64 (i : Nat)] w (RetI w (xs.take i ++ xs.drop (i + 1))) := by
  obtain ⟨F, c, rfl, hcap, _, h3⟩ := h.mem
  obtain ⟨g, off, hF, hg, -⟩ := h3 i hi
  subst hF
  have HT : Hid (∀ W, Below w.heap.size w W → IV W (.slice (some ⟨g, off, none⟩) i c) (xs.take i)) := Lib.hid (fun W hb => by
    obtain ⟨F', d', e, hk⟩ := (h.below hb).take i (by omega)
    injection e with e1 e2 e3
    subst e1 e3
    exact hk)
  have HD : Hid (∀ W, Below w.heap.size w W → IV W (tailI (some ⟨g, off, none⟩) xs.length c (i + 1)) (xs.drop (i + 1))) := Lib.hid (fun W hb => (h.below hb).tail (by omega))
  obtain ⟨n, hn⟩ : ∃ n, xs.length = n := ⟨_, rfl⟩
  have HN := Lib.hid hn
  rw [hn] at hi hl hcap HD ⊢
  have hiI : (i : Int) ≤ (c : Int) := by omega
  have hi2 : i ≤ c := by omega
  have hi3 : i + 1 ≤ n := by omega
  have hi3I : (i : Int) + 1 ≤ (n : Int) := by omega
  have hcI : (n : Int) ≤ (c : Int) := by omega
  have hnI : (n : Int) ≤ 100000000 := by omega
  have HO0 : Hid (OwnI TI12 w.heap.size w (w.alloc (.cells #[] TI12)) (.slice (some ⟨w.heap.size, 0, none⟩) 0 0) []) := Lib.hid (OwnI.empty (Nat.le_refl _) (Below.refl _ _))
  have HT0 := Lib.hid (HT.out _ (low_one w (.cells #[] TI12)))
  clear h h3 hn HT
  go_enter Try.func59, Try.ntmps59
  go_wp2_with (at_builtin; refine wpList_append_iv (e := TI12) rfl (.tmp 6) (.tmp 9) rfl w.heap.size (by kernel_rfl) (by kernel_rfl) _ [] rfl HO0.out _ (xs.take i) rfl HT0.out (by rw [List.length_take]; simp; omega) (by simp) ?_)
  intro v1 w1 hown1 _ _
  have HO1 := Lib.hid hown1
  have HD1 := Lib.hid (HD.out _ hown1.low)
  have hsz := hown1.low.size
  clear hown1 HO0 HT0 HD
  by_cases hd : c = i + 1
  · obtain rfl : n = i + 1 := by omega
    subst hd
    rw [show tailI (some ⟨g, off, none⟩) (i + 1) (i + 1) (i + 1) = .slice (some ⟨g, off, none⟩) 0 0 by simp [tailI]] at HD1
    go_wp2_with (at_builtin; refine wpList_append_iv (e := TI12) rfl (.tmp 11) (.tmp 15) rfl w.heap.size (by kernel_rfl) (by kernel_rfl) _ ([] ++ xs.take i) rfl HO1.out _ (xs.drop (i + 1)) rfl HD1.out (by rw [List.nil_append, List.length_take, List.length_drop, HN.out]; omega) hsz ?_)
    intro v2 w2 hown2 _ _
    have HO2 := Lib.hid hown2
    clear hown2 HO1 HD1
    go_wp2
    go_ret
    exact ⟨_, rfl, HO2.out.low, HO2.out.iv, fun u => Nw.of_iown u HO2.out (Nat.le_refl _)⟩
  · have hdI : ¬ (c : Int) = (i : Int) + 1 := by omega
    rw [show tailI (some ⟨g, off, none⟩) n c (i + 1) = .slice (some ⟨g, off + (i + 1) * 2, none⟩) (n - (i + 1)) (c - (i + 1)) by simp [tailI, hd, Addr.add_lit]] at HD1
    go_wp2_with (at_builtin; refine wpList_append_iv (e := TI12) rfl (.tmp 11) (.tmp 15) rfl w.heap.size (by kernel_rfl) (by kernel_rfl) _ ([] ++ xs.take i) rfl HO1.out _ (xs.drop (i + 1)) rfl HD1.out (by rw [List.nil_append, List.length_take, List.length_drop, HN.out]; omega) hsz ?_)
    intro v2 w2 hown2 _ _
    have HO2 := Lib.hid hown2
    clear hown2 HO1 HD1
    go_wp2
    go_ret
    exact ⟨_, rfl, HO2.out.low, HO2.out.iv, fun u => Nw.of_iown u HO2.out (Nat.le_refl _)⟩
set_option maxHeartbeats 1000000 in
theorem r12set_walk (h : IV w v xs) (hl : xs.length ≤ 100000000) {i : Nat} (hi : i < xs.length) (f : Nat) : Calls Try.prog 76 #[v, .int .i64 (i : Nat), .int .i64 (f : Nat)] w (RetI w (xs.set i ⟨xs[i].key, f⟩)) := by
  obtain ⟨F, c, rfl, -⟩ := h.mem
  have HO0 : Hid (OwnI TI12 w.heap.size w (w.alloc (.cells #[] TI12)) (.slice (some ⟨w.heap.size, 0, none⟩) 0 0) []) := Lib.hid (OwnI.empty (Nat.le_refl _) (Below.refl _ _))
  have HS := Lib.hid (h.below (low_one w (.cells #[] TI12)))
  have HI := Lib.hid hi
  obtain ⟨n, hn⟩ : ∃ n, xs.length = n := ⟨_, rfl⟩
  have hl2 : n ≤ 100000000 := by omega
  have hin : i < n := by omega
  rw [hn] at HS ⊢
  clear h hl
  go_enter Try.func76, Try.ntmps76
  go_wp2_with (at_builtin; refine wpList_append_iv (e := TI12) rfl (.tmp 8) (.tmp 9) rfl w.heap.size (by kernel_rfl) (by kernel_rfl) _ [] rfl HO0.out _ xs rfl HS.out (by rw [hn]; simp; omega) (by simp) ?_)
  intro v1 w1 hown1 _ _
  obtain ⟨g, d, rfl, hd, hset⟩ := hown1.set hown1.low.size hi f
  have HNW := Lib.hid (fun u => Nw.of_iown u hown1 (Nat.le_refl _))
  rw [hn] at hd HNW ⊢
  obtain ⟨f0, hc0⟩ := hset.cell
  have hfr := hset.free
  have hlt := hset.lt
  have HE := Lib.hid (And.intro hset.low hset.iv)
  have hdI : (n : Int) ≤ (d : Int) := by omega
  have hinI : (i : Int) < (n : Int) := by omega
  have HN := Lib.hid hn
  clear hown1 hset HO0 HS hn
  go_wp2
  go_ret
  refine ⟨_, rfl, HE.out.1, ?_, HNW.out⟩
  have h9 := HE.out.2
  rw [List.length_set, HN.out] at h9
  exact h9
end
end Go.Proofs.Ytjfhapobbglbpaa
