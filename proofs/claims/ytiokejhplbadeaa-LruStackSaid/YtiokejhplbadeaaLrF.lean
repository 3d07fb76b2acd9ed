/- Least recently used: Calm, walked. -/
import Derived.Test.YtiokejhplbadeaaLrC
namespace Go.Proofs.Ytiokejhplbadeaa
open Go Go.RowKit Go.Deep

def flatA (l : List Act8) : List Value := l.flatMap (fun x => [.int .u8 (x.kind : Nat), .int .u64 (x.key : Nat), .int .u16 (x.n : Nat)])
theorem flatA_len (l : List Act8) : (flatA l).length = l.length * 3 := by
  induction l with
  | nil => rfl
  | cons x l ih => simp [flatA] at ih ⊢; omega
theorem flatA_append (l m : List Act8) : flatA (l ++ m) = flatA l ++ flatA m := by simp [flatA]
theorem flatA_at : ∀ (l : List Act8) (i : Nat) (h : i < l.length), (flatA l)[i * 3]? = some (.int .u8 (l[i].kind : Nat)) ∧ (flatA l)[i * 3 + 1]? = some (.int .u64 (l[i].key : Nat)) ∧ (flatA l)[i * 3 + 2]? = some (.int .u16 (l[i].n : Nat))
  | x :: l, 0, _ => by simp [flatA]
  | x :: l, i + 1, h => by
    have := flatA_at l i (by simpa using h)
    have e : ∀ j, (flatA (x :: l))[(i + 1) * 3 + j]? = (flatA l)[i * 3 + j]? := fun j => by
      show ([.int .u8 (x.kind : Nat), .int .u64 (x.key : Nat), .int .u16 (x.n : Nat)] ++ flatA l)[(i + 1) * 3 + j]? = _
      rw [List.getElem?_append_right (by simp; omega)]
      congr 1
      simp
      omega
    exact ⟨(e 0).trans this.1, (e 1).trans this.2.1, (e 2).trans this.2.2⟩
theorem av_own {w : World} {B : Nat} {v : Value} {l : List Act8} (h : w.ownsRow B 35 3 v l.length (flatA l)) (ok : ∀ x ∈ l, x.Ok) : AV w v l := by
  rcases h.2 with ⟨rfl, h0⟩ | ⟨g, cap, cur, rfl, _, hg, hle, _⟩
  · have : l = [] := List.length_eq_zero_iff.1 h0
    subst this
    exact ⟨none, 0, rfl, fun i hi => by simp at hi⟩
  · refine ⟨some ⟨g, 0, none⟩, cap, rfl, fun i hi => ⟨ok _ (List.getElem_mem hi), g, 0, rfl, (Array.getElem?_eq_some_iff.1 hg).1, ?_⟩⟩
    have hc := h.cells (g := g) rfl
    obtain ⟨e0, e1, e2⟩ := flatA_at l i hi
    have q := fun j => (Addr.add_lit g 0 j).symm
    unfold ActAt
    exact ⟨by rw [q]; exact hc _ _ e0, by rw [Nat.add_assoc, q]; exact hc _ _ e1, by rw [Nat.add_assoc, q]; exact hc _ _ e2⟩
section
variable {w : World} {v : Value} {l : List Act8}
set_option maxHeartbeats 2000000 in
theorem rcalm_walk (h : AV w v l) (hl : l.length ≤ 60) : Calls Try.prog 30 #[v] w fun e w' => ∃ u, e = .returned u ∧ Below w.heap.size w w' ∧ AV w' u (l.map calmA) := by
  have HA := Lib.hid h
  obtain ⟨A, cap, rfl, _⟩ := h.mem
  obtain ⟨na, hna⟩ : ∃ na, l.length = na := ⟨_, rfl⟩
  rw [hna] at hl HA ⊢
  have HNA := Lib.hid hna
  have HAX : Hid (∀ W, Below w.heap.size w W → ∀ i (hi : i < l.length), l[i].Ok ∧ ∃ g off, A = some ⟨g, off, none⟩ ∧ g < w.heap.size ∧ ActAt W g (off + i * 3) l[i]) := Lib.hid (fun W hb i hi => by
    obtain ⟨A', c', e, h1⟩ := HA.out.mem
    injection e with e1 _ _
    subst e1
    obtain ⟨ok, g, off, e2, hg, hcc⟩ := h1 i hi
    exact ⟨ok, g, off, e2, hg, hcc.keep (hb.block g hg)⟩)
  clear h hna HA
  go_enter Try.func30, Try.ntmps30
  go_wp2_with fail
  go_loopg [3, 4] na (fun gg s3 s4 wr => ∃ (i : Nat) (v3 : Value), i + gg = na ∧ v3 = s3 ∧ s4 = .int .i64 (i : Nat) ∧ Hid (Below w.heap.size w wr ∧ wr.ownsRow w.heap.size 35 3 v3 i (flatA ((l.take i).map calmA))))
  case atStart => exact ⟨0, _, by omega, rfl, rfl, Lib.hid ⟨Below.refl _ _, World.ownsRow_nil _ _ _ _⟩⟩
  case round =>
    obtain ⟨i, v3, hi, rfl, rfl, HI⟩ := hrel
    by_cases hlt : i < na
    · have hltI : (i : Int) < (na : Int) := by omega
      have hil : i < l.length := by rw [HNA.out]; exact hlt
      obtain ⟨wf, g, off, hA, hg, hac⟩ := HAX.out wr HI.out.1 i hil
      have HS : Hid (flatA ((l.take i).map calmA) ++ [.int .u8 4, .int .u64 (l[i].key : Nat), .int .u16 0] = flatA ((l.take (i + 1)).map calmA)) := Lib.hid (by
        rw [List.take_succ_eq_append_getElem hil, List.map_append, flatA_append]
        rfl)
      obtain ⟨k, hk⟩ : ∃ k, l[i].key = k := ⟨_, rfl⟩
      obtain ⟨_, a1, _⟩ := hac
      rw [hk] at a1 HS
      obtain ⟨ys, hys⟩ : ∃ ys, flatA ((l.take i).map calmA) = ys := ⟨_, rfl⟩
      rw [hys] at HI HS
      subst hA
      have hszw := HI.out.1.size
      clear wf hk hys
      have HOW := Lib.hid (HI.out.2.alloc (.cells #[.int .u8 4, .int .u64 (k : Nat), .int .u16 0] 35))
      have HLO := Lib.hid (HI.out.1.alloc hszw (.cells #[.int .u8 4, .int .u64 (k : Nat), .int .u16 0] 35))
      have HSRC : Hid (RV (wr.alloc (.cells #[.int .u8 4, .int .u64 (k : Nat), .int .u16 0] 35)) 3 (.slice (some ⟨wr.heap.size, 0, none⟩) 1 1) 1 [.int .u8 4, .int .u64 (k : Nat), .int .u16 0]) := Lib.hid (RV.of_own (World.ownsRow_lit (base := 0) wr #[.int .u8 4, .int .u64 (k : Nat), .int .u16 0] 1 (Nat.zero_le _) (by unfold maxLen; omega) rfl))
      have hszA : w.heap.size ≤ (wr.alloc (.cells #[.int .u8 4, .int .u64 (k : Nat), .int .u16 0] 35)).heap.size := by simp; omega
      go_wp2_with (at_builtin; refine wpList_append_rv rfl (.tmp 11) (.tmp 18) 22 rfl w.heap.size 35 (.agg #[.int .u8 0, .int .u64 0, .int .u16 0]) 3 24 (by kernel_rfl) (by kernel_rfl) rfl (by decide) v3 i _ rfl HOW.out HLO.out _ 1 [.int .u8 4, .int .u64 (k : Nat), .int .u16 0] rfl HSRC.out (by simp [Value.oneCell']) (by omega) (by omega) hszA ?_)
      intro v7 w7 hown7 hlow7 _ _
      rw [HS.out] at hown7
      have HN := Lib.hid (And.intro hlow7 hown7)
      clear hown7 hlow7 a1
      go_wp2
      go_roundg (gk - 1)
      case measure => omega
      case rel => exact ⟨i + 1, v7, by omega, rfl, by go_num, HN⟩
    · have hltI : ¬ (i : Int) < (na : Int) := by omega
      obtain rfl : i = na := by omega
      have HF : Hid (Below w.heap.size w wr ∧ AV wr v3 (l.map calmA)) := Lib.hid (by
        have h := HI.out
        rw [← HNA.out, List.take_length] at h
        refine ⟨h.1, av_own (B := w.heap.size) (by simpa using h.2) (fun x hx => ?_)⟩
        obtain ⟨y, hy, rfl⟩ := List.mem_map.1 hx
        obtain ⟨j, hj, rfl⟩ := List.getElem_of_mem hy
        exact calm_ok (HAX.out w (Below.refl _ _) j hj).1)
      go_wp2
      go_ret
      exact ⟨_, rfl, HF.out.1, HF.out.2⟩
end
end Go.Proofs.Ytiokejhplbadeaa
