/- Inter-reference recency: the laws' same. -/
import Derived.Test.YtjfhapobbglbpaaLiO
import Derived.Test.YtjfhapobbglbpaaSqS
import Derived.Test.YtjfhapobbglbpaaLiJ
import Derived.Deep.QuietTactic
import Derived.BigQuiet
namespace Go.Proofs.Ytjfhapobbglbpaa
open Go Go.RowKit Go.Deep

section
variable {w : World} {u v u1 u2 v1 v2 : Value} {s : L12}
set_option maxHeartbeats 2000000 in
set_option maxRecDepth 4000 in
theorem psame12_walk (h : St12 w s u1 u2) (h' : St12 w s v1 v2) (ok : s.Ok) : Calls Try.prog 14 #[.agg (l12C s.c u1 u2), .agg (l12C s.c v1 v2)] w (RetB w true) := by
  obtain ⟨Fa1, da1, rfl, -⟩ := h.g1.mem
  obtain ⟨Fa2, na2, da2, rfl⟩ := h.form2
  obtain ⟨Fb1, db1, rfl, -⟩ := h'.g1.mem
  obtain ⟨Fb2, nb2, db2, rfl⟩ := h'.form2
  have hsl := ok.sl
  have hql := ok.ql
  clear ok
  obtain ⟨c, xs, q⟩ := s
  simp only at *
  obtain ⟨n, hn⟩ : ∃ n, xs.length = n := ⟨_, rfl⟩
  have HN := Lib.hid hn
  have HQL := Lib.hid hql
  rw [hn] at h h' hsl ⊢
  have hb := low_two w (.cells (l12C c (.slice Fa1 n da1) (.slice Fa2 na2 da2)) PT12) (.cells (l12C c (.slice Fb1 n db1) (.slice Fb2 nb2 db2)) T12)
  obtain ⟨_, ht1, ht2, ht3⟩ := two_blocks (c := (l12C c (.slice Fa1 n da1) (.slice Fa2 na2 da2))) (t := PT12) (d := (l12C c (.slice Fb1 n db1) (.slice Fb2 nb2 db2))) (u := T12) (w := w) (Below.refl _ _)
  have HAL : Hid (∀ W, Below ((w.alloc (.cells (l12C c (.slice Fa1 n da1) (.slice Fa2 na2 da2)) PT12)).alloc (.cells (l12C c (.slice Fb1 n db1) (.slice Fb2 nb2 db2)) T12)).heap.size ((w.alloc (.cells (l12C c (.slice Fa1 n da1) (.slice Fa2 na2 da2)) PT12)).alloc (.cells (l12C c (.slice Fb1 n db1) (.slice Fb2 nb2 db2)) T12)) W → St12 W ⟨c, xs, q⟩ (.slice Fa1 n da1) (.slice Fa2 na2 da2) ∧ St12 W ⟨c, xs, q⟩ (.slice Fb1 n db1) (.slice Fb2 nb2 db2) ∧ (W.cell? ⟨w.heap.size, 0, none⟩ = some (.int .i64 (c : Nat)) ∧ W.cell? ⟨w.heap.size, 1, none⟩ = some (.slice Fa1 n da1) ∧ W.cell? ⟨w.heap.size, 2, none⟩ = some (.slice Fa2 na2 da2)) ∧ (W.cell? ⟨w.heap.size + 1, 0, none⟩ = some (.int .i64 (c : Nat)) ∧ W.cell? ⟨w.heap.size + 1, 1, none⟩ = some (.slice Fb1 n db1) ∧ W.cell? ⟨w.heap.size + 1, 2, none⟩ = some (.slice Fb2 nb2 db2)) ∧ Below w.heap.size w W) := Lib.hid (fun W hW => by
    have h2 := hb.trans (hW.mono hb.size)
    obtain ⟨x, _⟩ := c3_at ((hW.block _ (head_row ht2).lt).trans ht2)
    obtain ⟨z, _⟩ := c3_at ((hW.block _ (head_row ht3).lt).trans ht3)
    exact ⟨h.below h2, h'.below h2, x, z, h2⟩)
  have hnI : (n : Int) ≤ 2097152 := by omega
  have hne0 : ((n : Int) != (n : Int)) = false := by simp
  clear h h' hb ht1 ht2 ht3 hn hql
  go_enter Try.func14, Try.ntmps14
  go_wp2_with fail
  generalize World.alloc (World.alloc w _) _ = W0 at HAL ⊢
  obtain ⟨-, -, ⟨x0, x1, x2⟩, ⟨z0, z1, z2⟩, hbw⟩ := HAL.out W0 (Below.refl _ _)
  clear hbw
  go_wp2_with fail
  go_loopg [5] n (fun gg s5 wr => ∃ i : Nat, i + gg = n ∧ s5 = .int .i64 (i : Nat) ∧ Hid (Below W0.heap.size W0 wr))
  case atStart => exact ⟨0, by omega, rfl, Lib.hid (Below.refl _ _)⟩
  case round =>
    obtain ⟨i, hi, rfl, HB⟩ := hrel
    clear x0 x1 x2 z0 z1 z2
    obtain ⟨hs1, hs2, ⟨x0, x1, x2⟩, ⟨z0, z1, z2⟩, hbw⟩ := HAL.out wr HB.out
    by_cases hlt : i < n
    · have hltI : (i : Int) < (n : Int) := by omega
      obtain ⟨G, d, e, _, _, h3⟩ := hs1.g1.mem
      injection e with e1 e2 e3
      subst e1 e3
      obtain ⟨g, off, hF, hg, q0, q1⟩ := h3 i (by have := HN.out; show i < xs.length; omega)
      subst hF
      obtain ⟨G, d, e, _, _, h3'⟩ := hs2.g1.mem
      injection e with e1 e2' e3
      subst e1 e3
      obtain ⟨g', off', hF, hg', q0', q1'⟩ := h3' i (by have := HN.out; show i < xs.length; omega)
      subst hF
      obtain ⟨kx, hkx⟩ : ∃ k, xs[i]'(by have := HN.out; omega) = k := ⟨_, rfl⟩
      dsimp only at q0 q1 q0' q1'
      rw [hkx] at q0 q1 q0' q1'
      obtain ⟨kx, fx⟩ := kx
      dsimp only at q0 q1 q0' q1'
      have hk0 : ((kx : Int) != (kx : Int)) = false := by simp
      have hf0 : ((fx : Int) != (fx : Int)) = false := by simp
      have HBN := fun m : Nat => Lib.hid (below_drewn HB.out m)
      clear h3 h3' hkx e2 e2' hs1 hs2 hbw
      go_wp2_with fail
      go_quiet (fail)
      go_wp2
      go_roundg (gk - 1)
      case measure => omega
      case rel => exact ⟨i + 1, by omega, by go_num, HBN _⟩
    · have hltI : ¬ (i : Int) < (n : Int) := by omega
      have KSM := Lib.hid (same_walk (ks := q) (js := q) hs1.g2 hs2.g2 (by have := HQL.out; omega))
      rw [decide_eq_true rfl] at KSM
      have HBW := Lib.hid hbw
      clear hs1 hs2 hbw
      go_wp2_with fail
      refine KSM.out.mono ?_
      rintro e w3 ⟨rfl, hb⟩
      have HF := Lib.hid (HBW.out.trans (hb.mono HBW.out.size))
      clear hb
      go_wp2
      go_ret
      exact ⟨rfl, HF.out⟩
end
end Go.Proofs.Ytjfhapobbglbpaa
