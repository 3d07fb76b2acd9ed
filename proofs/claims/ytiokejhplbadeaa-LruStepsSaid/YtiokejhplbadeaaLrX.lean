/- Least recently used: the program's own Admit and Resize, and all calls. -/
import Derived.Test.YtiokejhplbadeaaLrZ
namespace Go.Proofs.Ytiokejhplbadeaa
open Go Go.RowKit Go.Deep

section
variable {w : World} {u : Value} {s : L8}
theorem evicting8_walk {w0 : World} {b r c n d : Nat} {F : Option Addr} {l : List Nat} (h : Bo w0 w PT8 b r (l8C c (.slice F n d)) z8) (hk : KV w (.slice F n d) l) :
    Calls Try.prog 57 #[.pointer (some ⟨b, 0, none⟩)] w fun e w' => ∃ g, e = .returned (.func (.func 74) #[] #[.pointer (some ⟨g, 0, none⟩)]) ∧ Bo w0 w' PT8 b r (l8C c (.slice F n d)) z8 ∧
      w'.heap[g]? = some (.cells (evC b) 86 (0, 0)) ∧ KV w' (.slice F n d) l :=
  (evicting_walk b).mono (by
    rintro e w' ⟨rfl, rfl⟩
    exact ⟨_, rfl, h.step (low_one _ _), heap_alloc_new _ _, hk.below (low_one _ _)⟩)
set_option maxHeartbeats 2000000 in
theorem p8admit_walk (hs : St8 w s u) (ok : s.Ok) (k : Nat) : Calls Try.prog 47 #[.agg (l8C s.c u), .int .u64 (k : Nat)] w (P8o w (s.adm k) (s.admitOut k)) := by
  have hc1 := ok.pos
  have hl := ok.hl
  have hc2 := ok.cap
  have h := hs.g1
  clear hs
  obtain ⟨F, n, d, rfl⟩ := h.form
  have h0 := PB8.start w s.c F n d
  have HB := Lib.hid h0
  have KH := Lib.hid (has_walk (h.below h0.low) hl k)
  have KW := Lib.hid (owned8_walk (h.below h0.low) hl s.c)
  have KE := Lib.hid (evicting8_walk h0 (h.below h0.low))
  obtain ⟨c, l⟩ := s
  simp only at *
  unfold L8.adm L8.admitOut
  simp only
  obtain ⟨c', hc'⟩ : ∃ c', c - 1 = c' := ⟨_, rfl⟩
  have hcI : (c : Int) - 1 = (c' : Int) := by omega
  rw [hc']
  have HTL := Lib.hid (show (l.take c').length ≤ 100000000 by rw [List.length_take]; omega)
  have hc3 : c' ≤ 1048576 := by omega
  have HL := Lib.hid hl
  clear h0 h ok hc' hl
  by_cases hin : k ∈ l
  · rw [decide_eq_true hin] at KH
    rw [if_pos hin, if_pos hin]
    clear hin
    go_enter Try.func47, Try.ntmps47
    go_wp2_with fail
    refine KH.out.mono ?_
    rintro e w1 ⟨rfl, rfl⟩
    go_wp2_with fail
    refine KW.out.mono ?_
    rintro e w2 ⟨u2, he, hb2, ⟨hk2⟩⟩
    obtain ⟨F2, n2, d2, rfl⟩ := hk2.form
    have he' : e = .returned (.agg (l8C c (.slice F2 n2 d2))) := he
    subst he'
    clear he
    have H2 := Lib.hid (HB.out.step hb2)
    have HV : Hid (KV w2 (.slice F2 n2 d2) l) := Lib.hid hk2
    obtain ⟨⟨y0, y1⟩, y2, y3⟩ := c2_at H2.out.res
    clear hb2 hk2 KH KE KW HB
    go_wp2
    have HO : Hid (Only [w.heap.size, w.heap.size + 1] w2 ((w2.setCell ⟨w.heap.size + 1, 0, none⟩ (.int .i64 (c : Nat))).setCell ⟨w.heap.size + 1, 1, none⟩ (.slice F2 n2 d2))) := Lib.hid (((Only.refl _ _).setCell (by simp) _).setCell (by simp) _)
    exact bodyPost_ret (v := .tuple #[.agg (l8C c (.slice F2 n2 d2)), .slice none 0 0]) (by simp [results, Try.results47, go_sem, y0, y1]) rfl ⟨_, _, rfl, H2.out.fin HO.out, ⟨H2.out.kv HO.out HV.out⟩, KV.nil _⟩
  · rw [decide_eq_false hin] at KH
    rw [if_neg hin, if_neg hin]
    clear hin
    go_enter Try.func47, Try.ntmps47
    go_wp2_with fail
    refine KH.out.mono ?_
    rintro e w1 ⟨rfl, rfl⟩
    go_wp2_with fail
    refine KE.out.mono ?_
    rintro e w2 ⟨g, rfl, hb2, hg2, hk2⟩
    have KF := Lib.hid (evict_walk hb2 hg2 hk2 HL.out (c' : Int) (by omega) (by omega))
    obtain ⟨⟨x0, x1⟩, x2, x3⟩ := c2_at hb2.box
    clear hb2 hg2 hk2 KH KE KW HB
    go_wp2_with fail
    refine KF.out.mono ?_
    rintro e w3 ⟨o3, F3, n3, d3, rfl, hb3, ho3, hk3⟩
    rw [Int.toNat_natCast] at ho3 hk3
    have KR := Lib.hid (front_walk hk3 HTL.out k)
    have HB3 := Lib.hid hb3
    have HO3 := Lib.hid ho3
    clear x0 x1 x2 x3
    obtain ⟨⟨x0, x1⟩, x2, x3⟩ := c2_at hb3.box
    clear hb3 ho3 hk3 KF
    go_wp2_with fail
    refine KR.out.mono ?_
    rintro e w4 ⟨v4, rfl, h4⟩
    obtain ⟨F4, n4, d4, rfl⟩ := h4.kv.form
    have H4 := Lib.hid (HB3.out.step h4.low)
    have HV := Lib.hid h4.kv
    have HO4 := Lib.hid (HO3.out.below h4.low)
    clear x0 x1 x2 x3
    obtain ⟨⟨x0, x1⟩, x2, x3⟩ := c2_at H4.out.box
    obtain ⟨⟨y0, y1⟩, y2, y3⟩ := c2_at H4.out.res
    clear h4 KR HB3 HO3
    go_wp2
    have HO : Hid (Only [w.heap.size, w.heap.size + 1] w4 (((w4.setCell ⟨w.heap.size, 1, none⟩ (.slice F4 n4 d4)).setCell ⟨w.heap.size + 1, 0, none⟩ (.int .i64 (c : Nat))).setCell ⟨w.heap.size + 1, 1, none⟩ (.slice F4 n4 d4))) := Lib.hid ((((Only.refl _ _).setCell (by simp) _).setCell (by simp) _).setCell (by simp) _)
    exact bodyPost_ret (v := .tuple #[.agg (l8C c (.slice F4 n4 d4)), o3]) (by simp [results, Try.results47, go_sem, y0, y1]) rfl ⟨_, _, rfl, H4.out.fin HO.out, ⟨H4.out.kv HO.out HV.out⟩, H4.out.kv HO.out HO4.out⟩
set_option maxHeartbeats 2000000 in
theorem p8resize_walk (hs : St8 w s u) (ok : s.Ok) (n : Int) (hn1 : -9223372036854775808 ≤ n) (hn2 : n ≤ 9223372036854775807) : Calls Try.prog 31 #[.agg (l8C s.c u), .int .i64 n] w (P8o w (s.resize n) (s.resizeOut n)) := by
  have h := hs.g1
  have hl := ok.hl
  clear hs ok
  obtain ⟨F, m, d, rfl⟩ := h.form
  have h0 := PB8.start w s.c F m d
  have KC := Lib.hid (bounded_walk (w := (w.alloc (.cells (l8C s.c (.slice F m d)) PT8)).alloc (.cells z8 PT8)) n hn1 hn2)
  have hcp := capI_pos n
  unfold L8.resize L8.resizeOut
  obtain ⟨c', hc'⟩ : ∃ c', capI n = c' := ⟨_, rfl⟩
  rw [hc'] at KC hcp ⊢
  have h9 := PB8.start w c' F m d
  have KE := Lib.hid (evicting8_walk h9 (h.below h9.low))
  obtain ⟨⟨x0, x1⟩, x2, x3⟩ := c2_at h0.box
  obtain ⟨c, l⟩ := s
  simp only at *
  have HL := Lib.hid hl
  obtain ⟨h1, h2⟩ := hcp
  clear h0 h hc' h9 hl
  go_enter Try.func31, Try.ntmps31
  go_wp2_with fail
  refine KC.out.mono ?_
  rintro e w1 ⟨rfl, rfl⟩
  go_wp2_with fail
  refine KE.out.mono ?_
  rintro e w2 ⟨g, rfl, hb2, hg2, hk2⟩
  have KF := Lib.hid (evict_walk hb2 hg2 hk2 HL.out (c' : Int) (by omega) (by omega))
  clear x0 x1 x2 x3
  obtain ⟨⟨x0, x1⟩, x2, x3⟩ := c2_at hb2.box
  clear hb2 hg2 hk2 KC KE
  go_wp2_with fail
  refine KF.out.mono ?_
  rintro e w3 ⟨o3, F3, n3, d3, rfl, hb3, ho3, hk3⟩
  rw [Int.toNat_natCast] at ho3 hk3
  have H4 := Lib.hid hb3
  have HO4 := Lib.hid ho3
  have HV := Lib.hid hk3
  clear x0 x1 x2 x3
  obtain ⟨⟨x0, x1⟩, x2, x3⟩ := c2_at hb3.box
  obtain ⟨⟨y0, y1⟩, y2, y3⟩ := c2_at hb3.res
  clear hb3 ho3 hk3 KF
  go_wp2
  have HO : Hid (Only [w.heap.size, w.heap.size + 1] w3 ((w3.setCell ⟨w.heap.size + 1, 0, none⟩ (.int .i64 (c' : Nat))).setCell ⟨w.heap.size + 1, 1, none⟩ (.slice F3 n3 d3))) := Lib.hid (((Only.refl _ _).setCell (by simp) _).setCell (by simp) _)
  exact bodyPost_ret (v := .tuple #[.agg (l8C c' (.slice F3 n3 d3)), o3]) (by simp [results, Try.results31, go_sem, y0, y1]) rfl ⟨_, _, rfl, H4.out.fin HO.out, ⟨H4.out.kv HO.out HV.out⟩, H4.out.kv HO.out HO4.out⟩
end
theorem pol8Ok : Pol8Ok where
  new := fun _ n h1 h2 => p8new_walk n h1 h2
  touch := fun hs ok k _ => p8touch_walk hs ok k
  adm := fun hs ok k _ => p8admit_walk hs ok k
  drop := fun hs ok k _ => p8drop_walk hs ok k
  resize := fun hs ok n h1 h2 => p8resize_walk hs ok n h1 h2
  has := fun hs ok k _ => p8has_walk hs ok k
  keys := fun hs ok => p8keys_walk hs ok
  ghosts := fun hs ok => p8ghosts_walk hs ok
end Go.Proofs.Ytiokejhplbadeaa
