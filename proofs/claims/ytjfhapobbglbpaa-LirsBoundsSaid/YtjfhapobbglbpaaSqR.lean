/- The document's own lists of keys: Has, Without, Front, Back, Fall, Few; Same. -/
import Derived.Test.YtjfhapobbglbpaaSqA
import Derived.IntWalk
import Derived.Deep.LoopGhost
import Derived.Deep.QuietTactic
import Derived.BigQuiet
namespace Go.Proofs.Ytjfhapobbglbpaa
open Go Go.RowKit Go.Deep

def OwnK (w : World) (ks : List Nat) (e : Ending) (w' : World) : Prop := ∃ v, e = .returned v ∧ KO w.heap.size w w' v ks
section
variable {w : World} {v : Value} {ks : List Nat}
theorem rhas_walk (h : KV w v ks) (hl : ks.length ≤ 100000000) (k : Nat) :
    Calls Try.prog 20 #[v, .int .u64 (k : Nat)] w fun e w' => e = .returned (.bool (decide (k ∈ ks))) ∧ w = w' := by
  obtain ⟨F, c, rfl, h1, h2, h3⟩ := h.mem
  have HC := Lib.hid h3
  obtain ⟨b, hb⟩ : ∃ b, decide (k ∈ ks) = b := ⟨_, rfl⟩
  have HB := Lib.hid hb
  rw [hb]
  clear h h3 h2 h1 hb
  go_enter Try.func20, Try.ntmps20
  go_wp2_with fail
  go_loopg [5] ks.length (fun gg s5 wr => ∃ i : Nat, i + gg = ks.length ∧ s5 = .int .i64 (i : Nat) ∧ wr = w ∧ Hid (∀ j (hj : j < ks.length), j < i → ks[j] ≠ k))
  case atStart => exact ⟨0, by omega, rfl, rfl, Lib.hid (fun j _ hj => by omega)⟩
  case round =>
    obtain ⟨i, hi, rfl, rfl, HN⟩ := hrel
    by_cases hlt : i < ks.length
    · have hltI : (i : Int) < (ks.length : Int) := by omega
      obtain ⟨ad, hF, _, q0⟩ := HC.out i hlt
      subst hF
      by_cases he : ks[i] = k
      · rw [he] at q0
        have HT : Hid (b = true) := Lib.hid (by rw [← HB.out]; exact decide_eq_true (he ▸ List.getElem_mem hlt))
        clear he
        go_wp2
        go_ret
        exact ⟨congrArg (fun x : Bool => Ending.returned (Value.bool x)) HT.out.symm, rfl⟩
      · have HNX : Hid (∀ j (hj : j < ks.length), j < i + 1 → ks[j] ≠ k) := Lib.hid (fun j hj hji => by
          rcases Nat.lt_or_ge j i with h | h
          · exact HN.out j hj h
          · have : j = i := by omega
            subst this
            exact he)
        have hne : (((ks[i] : Nat) : Int) == (k : Int)) = false := by
          rw [beq_eq_false_iff_ne]
          omega
        generalize ks[i] = x at q0 hne
        clear he
        go_wp2
        go_roundg (gk - 1)
        case measure => omega
        case rel => exact ⟨i + 1, by omega, by go_num, rfl, HNX⟩
    · have hltI : ¬ (i : Int) < (ks.length : Int) := by omega
      have HF : Hid (b = false) := Lib.hid (by
        rw [← HB.out]
        refine decide_eq_false (fun hm => ?_)
        obtain ⟨j, hj, e⟩ := List.getElem_of_mem hm
        exact HN.out j hj (by omega) e)
      go_wp2
      go_ret
      exact ⟨congrArg (fun x : Bool => Ending.returned (Value.bool x)) HF.out.symm, rfl⟩
def wo (k : Nat) (ks : List Nat) : List Nat := ks.filter (fun x => x != k)
theorem wo_take {ks : List Nat} {k i : Nat} (hi : i < ks.length) : wo k (ks.take (i + 1)) = wo k (ks.take i) ++ (if ks[i] = k then [] else [ks[i]]) := by
  unfold wo
  rw [List.take_succ_eq_append_getElem hi, List.filter_append]
  congr 1
  by_cases e : ks[i] = k
  · rw [if_pos e]; simp [e]
  · rw [if_neg e]; simp [e]
theorem wo_len (k : Nat) (ks : List Nat) : (wo k ks).length ≤ ks.length := List.length_filter_le _ _
set_option maxHeartbeats 100000000 in
theorem rwithout_walk (h : KV w v ks) (hl : ks.length ≤ 100000000) (k : Nat) :
    Calls Try.prog 55 #[v, .int .u64 (k : Nat)] w (OwnK w (wo k ks)) := by
  have H := Lib.hid h
  obtain ⟨F, c, rfl, h1, h2, h3⟩ := h.mem
  clear h h3 h2 h1
  go_enter Try.func55, Try.ntmps55
  go_wp2_with fail
  go_loopg [5, 6] ks.length (fun gg s5 s6 wr => ∃ (i : Nat) (v5 : Value), i + gg = ks.length ∧ v5 = s5 ∧ s6 = .int .i64 (i : Nat) ∧ Hid (KO w.heap.size w wr v5 (wo k (ks.take i))))
  case atStart => exact ⟨0, _, by omega, rfl, rfl, Lib.hid (KO.nil (Below.refl _ _))⟩
  case round =>
    obtain ⟨i, v5, hi, rfl, rfl, HI⟩ := hrel
    by_cases hlt : i < ks.length
    · have hltI : (i : Int) < (ks.length : Int) := by omega
      obtain ⟨F', c', e, _, _, h3⟩ := (H.out.below HI.out.low).mem
      injection e with e1 e2 e3
      subst e1 e3
      obtain ⟨ad, hF, hadb, q0⟩ := h3 i hlt
      subst hF
      have HW := Lib.hid (wo_take (k := k) hlt)
      have hszw := HI.out.low.size
      clear h3
      by_cases he : ks[i] = k
      · have HW2 : Hid (wo k (ks.take (i + 1)) = wo k (ks.take i)) := Lib.hid (by rw [HW.out, if_pos he, List.append_nil])
        rw [he] at q0
        have HN := HI.out
        rw [← HW2.out] at HN
        have HNX := Lib.hid HN
        clear he HN HI HW
        go_wp2
        go_roundg (gk - 1)
        case measure => omega
        case rel => exact ⟨i + 1, v5, by omega, rfl, by go_num, HNX⟩
      · have hne : (((ks[i] : Nat) : Int) == (k : Int)) = false := by
          rw [beq_eq_false_iff_ne]
          omega
        have hne2 : (((ks[i] : Nat) : Int) != (k : Int)) = true := by
          rw [bne_iff_ne]
          omega
        have HW2 : Hid (wo k (ks.take i) ++ [ks[i]] = wo k (ks.take (i + 1))) := Lib.hid (by rw [HW.out, if_neg he])
        have hwl := wo_len k (ks.take i)
        rw [List.length_take] at hwl
        obtain ⟨ys, hys⟩ : ∃ ys, wo k (ks.take i) = ys := ⟨_, rfl⟩
        obtain ⟨zs, hzs⟩ : ∃ zs, wo k (ks.take (i + 1)) = zs := ⟨_, rfl⟩
        rw [hys] at HI HW2 hwl
        rw [hzs] at HW2
        have HZS := Lib.hid hzs
        obtain ⟨x, hx⟩ : ∃ x, ks[i] = x := ⟨_, rfl⟩
        rw [hx] at q0 hne hne2 HW2
        have hyl : ys.length ≤ 100000000 := by omega
        clear he hys hzs hx HW hwl
        have HOW := Lib.hid (HI.out.alloc hszw (.cells #[.int .u64 (x : Nat)] 35))
        have HSRC := Lib.hid (KV.one wr x)
        have hszA : w.heap.size ≤ (wr.alloc (.cells #[.int .u64 (x : Nat)] 35)).heap.size := by simp; omega
        go_wp2_with (at_builtin; refine wpList_append_kv rfl (.tmp 19) (.tmp 24) rfl w.heap.size (by kernel_rfl) (by kernel_rfl) v5 ys rfl HOW.out _ [x] rfl HSRC.out (by simp; omega) hszA ?_)
        intro v6 w6 hown6 _ _
        rw [HW2.out, ← HZS.out] at hown6
        have HN := Lib.hid hown6
        clear hown6 hne hne2 q0 hadb
        go_wp2
        go_roundg (gk - 1)
        case measure => omega
        case rel => exact ⟨i + 1, v6, by omega, rfl, by go_num, HN⟩
    · have hltI : ¬ (i : Int) < (ks.length : Int) := by omega
      obtain rfl : i = ks.length := by omega
      have hfin := HI.out
      rw [List.take_length] at hfin
      have HF := Lib.hid hfin
      clear hfin HI
      go_wp2
      go_ret
      exact ⟨_, rfl, HF.out⟩
end
end Go.Proofs.Ytjfhapobbglbpaa
