/- Three simple queues: the laws' items, and same. -/
import Derived.Test.YtlekhmpalcgbmaaS3O
import Derived.Test.YtlekhmpalcgbmaaSqS
import Derived.Deep.QuietTactic
import Derived.BigQuiet
namespace Go.Proofs.Ytlekhmpalcgbmaa
open Go Go.RowKit Go.Deep

section
variable {w : World} {u v u1 u2 u3 v1 v2 v3 : Value} {s : L10}
set_option maxHeartbeats 2000000 in
theorem items_walk {xs : List It} (h : IV w u xs) (h' : IV w v xs) (hl : xs.length ≤ 100000000) : Calls Try.prog 36 #[u, v] w (RetB w true) := by
  obtain ⟨F, c, rfl, -⟩ := h.mem
  obtain ⟨F', c', rfl, -⟩ := h'.mem
  have H := Lib.hid h
  have H' := Lib.hid h'
  obtain ⟨n, hn⟩ : ∃ n, xs.length = n := ⟨_, rfl⟩
  rw [hn] at hl H H' ⊢
  have HN := Lib.hid hn
  clear h h' hn
  have hnI : (n : Int) ≤ 100000000 := by omega
  have hne0 : ((n : Int) != (n : Int)) = false := by simp
  go_enter Try.func36, Try.ntmps36
  go_wp2_with fail
  go_loopg [5] n (fun gg s5 wr => ∃ i : Nat, i + gg = n ∧ s5 = .int .i64 (i : Nat) ∧ Hid (Below w.heap.size w wr))
  case atStart => exact ⟨0, by omega, rfl, Lib.hid (Below.refl _ _)⟩
  case round =>
    obtain ⟨i, hi, rfl, HB⟩ := hrel
    by_cases hlt : i < n
    · have hltI : (i : Int) < (n : Int) := by omega
      obtain ⟨G, d, e, _, _, h3⟩ := (H.out.below HB.out).mem
      injection e with e1 e2 e3
      subst e1 e3
      obtain ⟨g, off, hF, hg, q0, q1⟩ := h3 i (by have := HN.out; omega)
      subst hF
      obtain ⟨G, d, e, _, _, h3'⟩ := (H'.out.below HB.out).mem
      injection e with e1 e2' e3
      subst e1 e3
      obtain ⟨g', off', hF, hg', q0', q1'⟩ := h3' i (by have := HN.out; omega)
      subst hF
      obtain ⟨kx, hkx⟩ : ∃ k, xs[i]'(by have := HN.out; omega) = k := ⟨_, rfl⟩
      rw [hkx] at q0 q1 q0' q1'
      obtain ⟨kx, fx⟩ := kx
      dsimp only at q0 q1 q0' q1'
      have hk0 : ((kx : Int) != (kx : Int)) = false := by simp
      have hf0 : ((fx : Int) != (fx : Int)) = false := by simp
      have HBN := fun m : Nat => Lib.hid (below_drewn HB.out m)
      clear h3 h3' hkx e2 e2'
      go_wp2_with fail
      go_quiet (fail)
      go_wp2
      go_roundg (gk - 1)
      case measure => omega
      case rel => exact ⟨i + 1, by omega, by go_num, HBN _⟩
    · have hltI : ¬ (i : Int) < (n : Int) := by omega
      go_wp2
      go_ret
      exact ⟨rfl, HB.out⟩
set_option maxHeartbeats 2000000 in
set_option maxRecDepth 4000 in
theorem psame10_walk (h : St10 w s u1 u2 u3) (h' : St10 w s v1 v2 v3) (ok : s.Ok) : Calls Try.prog 13 #[.agg (l10C s.c u1 u2 u3), .agg (l10C s.c v1 v2 v3)] w (RetB w true) := by
  obtain ⟨Fa1, na1, da1, rfl⟩ := h.form1
  obtain ⟨Fa2, na2, da2, rfl⟩ := h.form2
  obtain ⟨Fa3, na3, da3, rfl⟩ := h.form3
  obtain ⟨Fb1, nb1, db1, rfl⟩ := h'.form1
  obtain ⟨Fb2, nb2, db2, rfl⟩ := h'.form2
  obtain ⟨Fb3, nb3, db3, rfl⟩ := h'.form3
  have hb := low_two w (.cells (l10C s.c (.slice Fa1 na1 da1) (.slice Fa2 na2 da2) (.slice Fa3 na3 da3)) PT10) (.cells (l10C s.c (.slice Fb1 nb1 db1) (.slice Fb2 nb2 db2) (.slice Fb3 nb3 db3)) T10)
  have H := Lib.hid (h.below hb)
  have H' := Lib.hid (h'.below hb)
  have HB := Lib.hid hb
  obtain ⟨_, ht1, ht2, ht3⟩ := two_blocks (c := (l10C s.c (.slice Fa1 na1 da1) (.slice Fa2 na2 da2) (.slice Fa3 na3 da3))) (t := PT10) (d := (l10C s.c (.slice Fb1 nb1 db1) (.slice Fb2 nb2 db2) (.slice Fb3 nb3 db3))) (u := T10) (w := w) (Below.refl _ _)
  have HT := Lib.hid (And.intro ht2 ht3)
  clear ht1 ht2 ht3
  have hl_1 := Lib.hid ok.len_small
  have hl_2 := Lib.hid ok.len_main
  have hl_3 := Lib.hid ok.len_ghost
  obtain ⟨c, small, main, ghost⟩ := s
  clear h h' hb ok
  go_enter Try.func13, Try.ntmps13
  go_wp2_with fail
  refine (items_walk H.out.g1 H'.out.g1 hl_1.out).mono ?_
  rintro e w1 ⟨rfl, hb⟩
  have H1 := Lib.hid (H.out.below hb)
  have H1' := Lib.hid (H'.out.below hb)
  have HB1 := Lib.hid (HB.out.trans (hb.mono HB.out.size))
  have HT1 := Lib.hid (And.intro ((hb.block _ (head_row HT.out.1).lt).trans HT.out.1) ((hb.block _ (head_row HT.out.2).lt).trans HT.out.2))
  clear hb HT 
  obtain ⟨⟨x0, x1, x2, x3⟩, xf0, xf1, xf2, xf3⟩ := c4_at HT1.out.1
  obtain ⟨⟨z0, z1, z2, z3⟩, zf0, zf1, zf2, zf3⟩ := c4_at HT1.out.2
  go_wp2_with fail
  refine (items_walk H1.out.g2 H1'.out.g2 hl_2.out).mono ?_
  rintro e w2 ⟨rfl, hb⟩
  have H2 := Lib.hid (H1.out.below hb)
  have H2' := Lib.hid (H1'.out.below hb)
  have HB2 := Lib.hid (HB1.out.trans (hb.mono HB1.out.size))
  have HT2 := Lib.hid (And.intro ((hb.block _ (head_row HT1.out.1).lt).trans HT1.out.1) ((hb.block _ (head_row HT1.out.2).lt).trans HT1.out.2))
  clear hb HT1 x0 x1 x2 x3 xf0 xf1 xf2 xf3 z0 z1 z2 z3 zf0 zf1 zf2 zf3
  obtain ⟨⟨x0, x1, x2, x3⟩, xf0, xf1, xf2, xf3⟩ := c4_at HT2.out.1
  obtain ⟨⟨z0, z1, z2, z3⟩, zf0, zf1, zf2, zf3⟩ := c4_at HT2.out.2
  go_wp2_with fail
  refine (same_walk (ks := ghost) (js := ghost) H2.out.g3 H2'.out.g3 hl_3.out).mono ?_
  rintro e w3 ⟨rfl, hb⟩
  rw [decide_eq_true rfl]
  have H3 := Lib.hid (H2.out.below hb)
  have H3' := Lib.hid (H2'.out.below hb)
  have HB3 := Lib.hid (HB2.out.trans (hb.mono HB2.out.size))
  have HT3 := Lib.hid (And.intro ((hb.block _ (head_row HT2.out.1).lt).trans HT2.out.1) ((hb.block _ (head_row HT2.out.2).lt).trans HT2.out.2))
  clear hb HT2 x0 x1 x2 x3 xf0 xf1 xf2 xf3 z0 z1 z2 z3 zf0 zf1 zf2 zf3
  go_wp2
  go_ret
  exact ⟨rfl, HB3.out⟩
end
end Go.Proofs.Ytlekhmpalcgbmaa
