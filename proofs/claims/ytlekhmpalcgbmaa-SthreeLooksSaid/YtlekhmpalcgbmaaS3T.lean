/- Three simple queues, the document's own: fall. -/
import Derived.Test.YtlekhmpalcgbmaaS3S
import Derived.Deep.QuietTactic
import Derived.BigQuiet
namespace Go.Proofs.Ytlekhmpalcgbmaa
open Go Go.RowKit Go.Deep

section
variable {w : World} {u1 u2 u3 : Value} {s : L10}
/- Lists that are told lie where others lie, or in new memory. -/
def P10n (w : World) (s : L10) (u1 u2 u3 : Value) (e : Ending) (w' : World) : Prop := ∃ v1 v2 v3, e = .returned (.agg (l10C s.c v1 v2 v3)) ∧ Below w.heap.size w w' ∧ St10 w' s v1 v2 v3 ∧ Nw w.heap.size u1 v1 ∧ Nw w.heap.size u2 v2 ∧ Nw w.heap.size u3 v3
theorem P10n.p10 {e : Ending} {w' : World} (h : P10n w s u1 u2 u3 e w') : P10 w s e w' := by
  obtain ⟨v1, v2, v3, h1, h2, h3, _⟩ := h
  exact ⟨v1, v2, v3, h1, h2, h3⟩
theorem target_quiet (c : Nat) (hc : c ≤ 1048576) (m : Nat) : Calls Try.prog 25 #[.int .i64 (c : Nat)] (w.drewN m) fun e w'' => e = .returned (.int .i64 (tgt c : Nat)) ∧ ∃ m', w'' = w.drewN m' :=
  (rtarget_walk c hc).mono (fun _ _ h => ⟨h.1, m, h.2.symm⟩)
/- Keys fall off the back of Ghost. -/
set_option maxHeartbeats 2000000 in
theorem r10fall_walk (hs : St10 w s u1 u2 u3) (hl : s.ghost.length ≤ 100000000) (hc1 : 1 ≤ s.c) (hc : s.c ≤ 1048576) : Calls Try.prog 55 #[.agg (l10C s.c u1 u2 u3)] w (P10n w s.fall u1 u2 u3) := by
  obtain ⟨F1, n1, d1, rfl⟩ := hs.form1
  obtain ⟨F2, n2, d2, rfl⟩ := hs.form2
  obtain ⟨F3, d3, rfl, hcap, _⟩ := hs.g3.mem
  have HX0 := Lib.hid (Bx10.start w T10 (by decide) hs)
  have HT : Hid (∀ W, Below w.heap.size w W → ∀ m, m ≤ s.ghost.length → KV W (.slice F3 m d3) (s.ghost.take m)) := Lib.hid (fun W hb m hm => by
    obtain ⟨F', d', e, hk⟩ := (hs.g3.below hb).take m hm
    injection e with e1 e2 e3
    subst e1 e3
    exact hk)
  unfold L10.fall
  obtain ⟨h, hh⟩ : ∃ h, room s.c = h := ⟨_, rfl⟩
  obtain ⟨q, hq⟩ : ∃ q, tgt s.c = q := ⟨_, rfl⟩
  have htp := tgt_pos s.c
  have hhe : s.c - q = h := by rw [← hq, ← hh]; rfl
  have hqc : q ≤ s.c := by rw [← hq]; unfold tgt; split <;> omega
  have hcI : ((s.c : Nat) : Int) - (q : Int) = (h : Int) := by omega
  have hhI : (h : Int) ≤ 1048576 := by omega
  have KT := Lib.hid (fun (W : World) (m : Nat) => target_quiet (w := W) s.c hc m)
  rw [hq] at KT
  rw [hh]
  obtain ⟨c, l1, l2, l3⟩ := s
  simp only at *
  clear hs hh htp hhe hqc hq
  obtain ⟨n, hn⟩ : ∃ n, l3.length = n := ⟨_, rfl⟩
  have HN := Lib.hid hn
  rw [hn] at hl HX0 HT hcap ⊢
  have HX : Hid (Bx10 w ((w.alloc (.cells (l10C c (.slice F1 n1 d1) (.slice F2 n2 d2) (.slice F3 n d3)) T10)).alloc (.cells z10 T10)) T10 w.heap.size (w.heap.size + 1) ⟨c, l1, l2, l3.take n⟩ (.slice F1 n1 d1) (.slice F2 n2 d2) (.slice F3 n d3)) := by
    rw [List.take_of_length_le (by omega)]
    exact HX0
  clear hn HX0
  go_enter Try.func55, Try.ntmps55
  go_wp2_with fail
  generalize ((w.alloc (.cells (l10C c (.slice F1 n1 d1) (.slice F2 n2 d2) (.slice F3 n d3)) T10)).alloc (.cells z10 T10)) = W0 at HX ⊢
  go_loopg [] n (fun gg wr => ∃ m : Nat, gg = m ∧ Hid ((m ≤ n ∧ h ≤ m ∨ m = n)) ∧ Hid (Bx10 w wr T10 w.heap.size (w.heap.size + 1) ⟨c, l1, l2, l3.take m⟩ (.slice F1 n1 d1) (.slice F2 n2 d2) (.slice F3 m d3)))
  case atStart => exact ⟨n, rfl, Lib.hid (.inr rfl), HX⟩
  case round =>
    obtain ⟨m, hi, HM, HI⟩ := hrel
    have hmle : m ≤ n := by
      rcases HM.out with h | h
      · exact h.1
      · omega
    obtain ⟨⟨x0, x1, x2, x3⟩, xf0, xf1, xf2, xf3⟩ := c4_at HI.out.bo.box
    have hbb := (head_row HI.out.bo.box).lt
    by_cases hgt : h < m
    · obtain ⟨k, rfl⟩ : ∃ k, m = k + 1 := ⟨m - 1, by omega⟩
      have hgtI : (h : Int) < (k : Int) + 1 := by omega
      have hkc : k ≤ d3 := by omega
      have hkcI : (k : Int) ≤ (d3 : Int) := by omega
      have HMN : Hid (k ≤ n ∧ h ≤ k ∨ k = n) := Lib.hid (.inl ⟨by omega, by omega⟩)
      have HNX := fun nq : Nat => Lib.hid ((HI.out.step (below_drewn (Below.refl wr.heap.size wr) nq)).set3 (HT.out (wr.drewN nq) (HI.out.step (below_drewn (Below.refl wr.heap.size wr) nq)).bo.low k (by omega)))
      clear HM hgt
      go_wp2_with fail
      go_quiet (first | (go_at_call 25; with_reducible exact KT.out _ _))
      go_wp2
      go_roundg (gk - 1)
      case measure => omega
      case rel => exact ⟨k, by omega, HMN, HNX _⟩
    · have hgtI : (m : Int) ≤ (h : Int) := by omega
      have HT2 : Hid (l3.take h = l3.take m) := Lib.hid (by
        rcases HM.out with h' | h'
        · have : h = m := by omega
          rw [this]
        · have := HN.out
          rw [List.take_of_length_le (by omega), List.take_of_length_le (by omega)])
      obtain ⟨⟨y0, y1, y2, y3⟩, yf0, yf1, yf2, yf3⟩ := c4_at HI.out.bo.res
      have hrr := (head_row HI.out.bo.res).lt
      have HDN := fun nq : Nat => Lib.hid (HI.out.step (below_drewn (Below.refl wr.heap.size wr) nq))
      clear HM hgt
      go_wp2_with fail
      go_quiet (first | (go_at_call 25; with_reducible exact KT.out _ _))
      go_wp2
      exact bodyPost_ret (v := .agg (l10C c (.slice F1 n1 d1) (.slice F2 n2 d2) (.slice F3 m d3))) (by simp [results, Try.results55, go_sem, y0, y1, y2, y3]) rfl (by
        rw [HT2.out]
        exact ⟨_, _, _, rfl, (HDN _).out.bo.fin (HDN _).out.only, (HDN _).out.bo.st10 (HDN _).out.only (HDN _).out.st, Nw.refl _ _, Nw.refl _ _, Nw.take _ _ _ hmle⟩)
end
end Go.Proofs.Ytlekhmpalcgbmaa
