/- Least recently used, the document's own: Admit, Resize, Keys, Ghosts. -/
import Derived.Test.YtemgbiohfgcphaaLrS
namespace Go.Proofs.Ytemgbiohfgcphaa
open Go Go.RowKit Go.Deep

section
variable {w : World} {u : Value} {s : L8}
set_option maxHeartbeats 2000000 in
theorem r8admit_walk (hs : St8 w s u) (ok : s.Ok) (k : Nat) (_ : k < 18446744073709551616) : Calls Try.prog 28 #[.agg (l8C s.c u), .int .u64 (k : Nat)] w (P8o w (s.adm k) (s.admitOut k)) := by
  have hc1 := ok.pos
  have hl := ok.hl

  have hc2 := ok.cap
  have h := hs.g1
  clear hs
  obtain ⟨F, n, d, rfl⟩ := h.form
  have h0 := B8.start w s.c F n d
  have HB := Lib.hid h0
  have KH := Lib.hid (rhas_walk (h.below h0.low) hl k)
  have KF := Lib.hid (r8shrink_walk (s := s) ⟨h.below h0.low⟩ hl (s.c - 1))
  have H := Lib.hid h
  obtain ⟨c, l⟩ := s
  simp only at *
  unfold L8.adm L8.admitOut
  simp only
  obtain ⟨c', hc'⟩ : ∃ c', c - 1 = c' := ⟨_, rfl⟩
  have hcI : (c : Int) - 1 = (c' : Int) := by omega
  rw [hc'] at KF ⊢
  have HTL := Lib.hid (show (l.take c').length ≤ 100000000 by rw [List.length_take]; omega)
  clear h0 h ok hc'
  by_cases hin : k ∈ l
  · rw [decide_eq_true hin] at KH
    rw [if_pos hin, if_pos hin]
    clear hin
    go_enter Try.func28, Try.ntmps28
    go_wp2_with fail
    refine KH.out.mono ?_
    rintro e w1 ⟨rfl, rfl⟩
    go_wp2
    exact bodyPost_ret (v := .tuple #[.agg (l8C c (.slice F n d)), .slice none 0 0]) (by simp [results, Try.results28, go_sem]) rfl ⟨_, _, rfl, low_two w _ _, ⟨H.out.below (low_two w _ _)⟩, KV.nil _⟩
  · rw [decide_eq_false hin] at KH
    rw [if_neg hin, if_neg hin]
    clear hin
    go_enter Try.func28, Try.ntmps28
    go_wp2_with fail
    refine KH.out.mono ?_
    rintro e w1 ⟨rfl, rfl⟩
    go_wp2_with fail
    refine KF.out.mono ?_
    rintro e w2 ⟨u2, o2, he, hb2, ⟨hk2⟩, ho2⟩
    obtain ⟨F2, n2, d2, rfl⟩ := hk2.form
    have he' : e = .returned (.tuple #[.agg (l8C c (.slice F2 n2 d2)), o2]) := he
    subst he'
    clear he
    have hbo := (HB.out.step hb2).alloc (l8C c (.slice F2 n2 d2)) rfl
    have HB3 := Lib.hid hbo
    have hne : w.heap.size + 2 ≤ w2.heap.size := by have := hb2.size; simp at this; omega
    have hlo := low_one w2 (.cells (l8C c (.slice F2 n2 d2)) T8)
    have KR := Lib.hid (rfront_walk (hk2.below hlo) HTL.out k)
    have HO3 := Lib.hid (ho2.below hlo)
    clear hb2 hk2 ho2 hbo hlo KH KF HB
    go_wp2_with fail
    refine KR.out.mono ?_
    rintro e w4 ⟨v4, rfl, h4⟩
    obtain ⟨F4, n4, d4, rfl⟩ := h4.kv.form
    have H4 := Lib.hid (HB3.out.step h4.low)
    have HV := Lib.hid h4.kv
    have HO4 := Lib.hid (HO3.out.below h4.low)
    obtain ⟨⟨x0, x1⟩, x2, x3⟩ := c2_at H4.out.box
    obtain ⟨⟨y0, y1⟩, y2, y3⟩ := c2_at H4.out.res
    clear h4 KR HB3 HO3
    go_wp2
    have HO : Hid (Only [w2.heap.size, w.heap.size + 1] w4 (((w4.setCell ⟨w2.heap.size, 1, none⟩ (.slice F4 n4 d4)).setCell ⟨w.heap.size + 1, 0, none⟩ (.int .i64 (c : Nat))).setCell ⟨w.heap.size + 1, 1, none⟩ (.slice F4 n4 d4))) := Lib.hid ((((Only.refl _ _).setCell (by simp) _).setCell (by simp) _).setCell (by simp) _)
    exact bodyPost_ret (v := .tuple #[.agg (l8C c (.slice F4 n4 d4)), o2]) (by simp [results, Try.results28, go_sem, y0, y1]) rfl ⟨_, _, rfl, H4.out.fin HO.out, ⟨H4.out.kv HO.out HV.out⟩, H4.out.kv HO.out HO4.out⟩
end
end Go.Proofs.Ytemgbiohfgcphaa
