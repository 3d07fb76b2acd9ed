/- Words and walks: LrU LrZ LrX. -/
import Derived.Test.YtebdggoncnhjeaaG1
import Derived.Test.YtebdggoncnhjeaaG16
import Derived.Test.YtebdggoncnhjeaaG17
import Derived.Deep.DeepCutAuto
namespace Go.Proofs.Ytebdggoncnhjeaa
open Go Go.RowKit Go.Deep
def Af8 (w4 : World) (T : TypeId) (s : L8) (out : List Nat) (v o : Value) (wx : World) : Prop := ∃ (P : Nat) (F1 : Option Addr) (n1 d1 : Nat), v = .pointer (some ⟨P, 0, none⟩) ∧ Below w4.heap.size w4 wx ∧ w4.heap.size ≤ P ∧ wx.heap[P]? = some (.cells (l8C s.c (.slice F1 n1 d1)) T (0, 0)) ∧ St8 wx s (.slice F1 n1 d1) ∧ KV wx o out
section
variable {w4 w5 : World} {T : TypeId} {s : L8} {out : List Nat} {o : Value} {F1 : Option Addr} {n1 d1 : Nat}
theorem af8_b (hb : Below w4.heap.size w4 w5) (hs : St8 w5 s (.slice F1 n1 d1)) (ho : KV w5 o out) : Af8 w4 T s out (.pointer (some ⟨w5.heap.size, 0, none⟩)) o (w5.alloc (.cells (l8C s.c (.slice F1 n1 d1)) T)) :=
  ⟨_, _, _, _, rfl, hb.alloc hb.size _, hb.size, heap_alloc_new w5 _, hs.below (low_one w5 _), ho.below (low_one w5 _)⟩
theorem af8_a {O : Obj} {zs : Array Value} (hT : T ≠ 31) (hz : NoU zs) (hzn : ∃ x0 x1, zs = #[x0, x1]) (hb : Below (w4.alloc O).heap.size (w4.alloc O) w5) (hP : w5.heap[w4.heap.size]? = some (.cells zs T (0, 0))) (hs : St8 w5 s (.slice F1 n1 d1)) (ho : KV w5 o out) : Af8 w4 T s out (.pointer (some ⟨w4.heap.size, 0, none⟩)) o ((w5.setCell ⟨w4.heap.size, 0, none⟩ (.int .i64 ((s).c : Nat))).setCell ⟨w4.heap.size, 1, none⟩ (.slice F1 n1 d1)) := by
  obtain ⟨x0, x1, rfl⟩ := hzn
  obtain ⟨h1, h2⟩ := c2_set hP (.int .i64 ((s).c : Nat)) (.slice F1 n1 d1)
  have hl : Below w4.heap.size w4 w5 := (low_one w4 O).trans (hb.mono (by simp))
  have hbx : ∀ g ∈ [w4.heap.size], Bx w5 g := fun g hg => by
    simp only [List.mem_singleton] at hg
    subst hg
    exact ⟨_, _, hP, hz, hT⟩
  exact ⟨_, _, _, _, rfl, hl.trans (h2.below (by simp) hl.size), Nat.le_refl _, h1, ⟨hs.g1.only h2 hbx⟩, ho.only h2 hbx⟩
end
def L8.runS (s : L8) (l : List Act8) : L8 := l.foldl L8.act s
theorem L8.runS_next (s : L8) {l : List Act8} {i : Nat} (hi : i < l.length) : s.runS (l.take (i + 1)) = (s.runS (l.take i)).act l[i] := by
  unfold L8.runS
  rw [List.take_succ_eq_append_getElem hi, List.foldl_append]
  rfl
theorem L8.Ok.runS {s : L8} (h : s.Ok) : ∀ (l : List Act8), (∀ x ∈ l, x.Ok) → (s.runS l).Ok
  | [], _ => h
  | x :: l, hx => L8.Ok.runS (h.act (hx x (by simp))) l (fun y hy => hx y (by simp [hy]))
section
variable {w : World} {v : Value} {l : List Act8}
end
set_option maxRecDepth 8000
theorem PB8.start (w : World) (c : Nat) (F1 : Option Addr) (n1 d1 : Nat) : Bo w ((w.alloc (.cells (l8C c (.slice F1 n1 d1)) PT8)).alloc (.cells z8 PT8)) PT8 w.heap.size (w.heap.size + 1) (l8C c (.slice F1 n1 d1)) z8 :=
  Bo.start w PT8 _ _ rfl rfl (by decide)
section
variable {w : World} {u : Value} {s : L8}
theorem bounded_walk (n : Int) (hn1 : -9223372036854775808 ≤ n) (hn2 : n ≤ 9223372036854775807) :
    Calls Try.prog 49 #[.int .i64 n] w fun e w' => e = .returned (.int .i64 (capI n : Nat)) ∧ w = w' := by
  obtain ⟨c, hc⟩ : ∃ c, capI n = c := ⟨_, rfl⟩
  have HC := Lib.hid hc
  rw [hc]
  clear hc
  by_cases h1 : n < 1
  · have H : Hid ((1 : Int) = (c : Int)) := Lib.hid (by rw [← HC.out, capI, if_pos h1]; rfl)
    go_enter Try.func49, Try.ntmps49
    go_wp2
    go_ret
    exact ⟨by rw [H.out]; rfl, rfl⟩
  · by_cases h1e : n = 1
    · subst h1e
      have H : Hid ((1 : Int) = (c : Int)) := Lib.hid (by rw [← HC.out]; rfl)
      go_enter Try.func49, Try.ntmps49
      go_wp2
      go_ret
      exact ⟨by rw [H.out]; rfl, rfl⟩
    · have h1g : 1 < n := by omega
      by_cases h2 : 1048576 < n
      · have H : Hid ((1048576 : Int) = (c : Int)) := Lib.hid (by rw [← HC.out, capI, if_neg h1, if_pos h2]; rfl)
        clear h1 h1e
        go_enter Try.func49, Try.ntmps49
        go_wp2
        go_ret
        exact ⟨by rw [H.out]; rfl, rfl⟩
      · have H : Hid (n = (c : Int)) := Lib.hid (by rw [← HC.out, capI, if_neg h1, if_neg h2]; omega)
        clear h1 h1e
        by_cases h2e : n = 1048576
        · subst h2e
          go_enter Try.func49, Try.ntmps49
          go_wp2
          go_ret
          exact ⟨by rw [← H.out]; rfl, rfl⟩
        · have h2l : n < 1048576 := by omega
          clear h2e h2
          go_enter Try.func49, Try.ntmps49
          go_wp2
          go_ret
          exact ⟨by rw [← H.out]; rfl, rfl⟩
theorem p8new_walk (n : Int) (hn1 : -9223372036854775808 ≤ n) (hn2 : n ≤ 9223372036854775807) : Calls Try.prog 22 #[.int .i64 n] w (P8 w (L8.new n)) := by
  have KK := Lib.hid (bounded_walk (w := w.alloc (.cells z8 PT8)) n hn1 hn2)
  obtain ⟨c, hc⟩ : ∃ c, capI n = c := ⟨_, rfl⟩
  have HC : Hid (P8 w (L8.new n) = P8 w ⟨c, []⟩) := Lib.hid (by rw [← hc]; rfl)
  rw [hc] at KK
  rw [HC.out]
  clear hc HC
  go_enter Try.func22, Try.ntmps22
  go_wp2_with fail
  refine KK.out.mono ?_
  rintro e w1 ⟨rfl, rfl⟩
  go_wp2
  exact bodyPost_ret (v := .agg (l8C c (.slice none 0 0))) (by simp [results, Try.results22, go_sem]) rfl ⟨_, rfl, (Below.refl _ _).alloc (Nat.le_refl _) _, ⟨KV.nil _⟩⟩
theorem owned8_walk {F : Option Addr} {n d : Nat} {l : List Nat} (h : KV w (.slice F n d) l) (hl : l.length ≤ 100000000) (c : Nat) : Calls Try.prog 51 #[.agg (l8C c (.slice F n d))] w (P8 w ⟨c, l⟩) := by
  have h0 := PB8.start w c F n d
  have HB := Lib.hid h0
  have HK := Lib.hid (h.below h0.low)
  have HN := Lib.hid (KO.nil h0.low)
  have hsz : w.heap.size ≤ ((w.alloc (.cells (l8C c (.slice F n d)) PT8)).alloc (.cells z8 PT8)).heap.size := h0.low.size
  clear h0 h
  go_enter Try.func51, Try.ntmps51
  go_wp2_with (at_builtin; refine wpList_append_kv rfl _ (.tmp 4) rfl w.heap.size (by kernel_rfl) (by kernel_rfl) (.slice none 0 0) [] rfl HN.out _ l rfl HK.out (by simp; omega) hsz ?_)
  intro v6 w6 hown6 _ hkt
  have H6 := Lib.hid (HB.out.kt hkt hown6.low)
  obtain ⟨F6, n6, d6, rfl⟩ := hown6.kv.form
  have HV : Hid (KV w6 (.slice F6 n6 d6) l) := Lib.hid hown6.kv
  clear hown6 hkt
  obtain ⟨⟨x0, x1⟩, x2, x3⟩ := c2_at H6.out.box
  obtain ⟨⟨y0, y1⟩, y2, y3⟩ := c2_at H6.out.res
  go_wp2
  have HO : Hid (Only [w.heap.size, w.heap.size + 1] w6 (((w6.setCell ⟨w.heap.size, 1, none⟩ (.slice F6 n6 d6)).setCell ⟨w.heap.size + 1, 0, none⟩ (.int .i64 (c : Nat))).setCell ⟨w.heap.size + 1, 1, none⟩ (.slice F6 n6 d6))) := Lib.hid ((((Only.refl _ _).setCell (by simp) _).setCell (by simp) _).setCell (by simp) _)
  exact bodyPost_ret (v := .agg (l8C c (.slice F6 n6 d6))) (by simp [results, Try.results51, go_sem, y0, y1]) rfl ⟨_, rfl, H6.out.fin HO.out, ⟨H6.out.kv HO.out HV.out⟩⟩
theorem p8touch_walk (hs : St8 w s u) (ok : s.Ok) (k : Nat) : Calls Try.prog 25 #[.agg (l8C s.c u), .int .u64 (k : Nat)] w (P8 w (s.touch k)) := by
  have h := hs.g1
  have hl := ok.hl
  clear hs ok
  obtain ⟨F, n, d, rfl⟩ := h.form
  have h0 := PB8.start w s.c F n d
  have HB := Lib.hid h0
  have hk0 := h.below h0.low
  have KH := Lib.hid (has_walk hk0 hl k)
  have KF := Lib.hid (kfront_walk hk0 hl k)
  have KW := Lib.hid (owned8_walk hk0 hl s.c)
  obtain ⟨c, l⟩ := s
  simp only at *
  unfold L8.touch
  simp only
  clear h0 hk0 h
  by_cases hin : k ∈ l
  · rw [decide_eq_true hin] at KH
    rw [if_pos hin]
    clear hin
    go_enter Try.func25, Try.ntmps25
    go_wp2_with fail
    refine KH.out.mono ?_
    rintro e w1 ⟨rfl, rfl⟩
    go_wp2_with fail
    refine KF.out.mono ?_
    rintro e w2 ⟨v2, rfl, h2⟩
    obtain ⟨F2, n2, d2, rfl⟩ := h2.kv.form
    have H2 := Lib.hid (HB.out.step h2.low)
    have HV := Lib.hid h2.kv
    obtain ⟨⟨x0, x1⟩, x2, x3⟩ := c2_at H2.out.box
    obtain ⟨⟨y0, y1⟩, y2, y3⟩ := c2_at H2.out.res
    clear h2 KH KF KW HB
    go_wp2
    have HO : Hid (Only [w.heap.size, w.heap.size + 1] w2 (((w2.setCell ⟨w.heap.size, 1, none⟩ (.slice F2 n2 d2)).setCell ⟨w.heap.size + 1, 0, none⟩ (.int .i64 (c : Nat))).setCell ⟨w.heap.size + 1, 1, none⟩ (.slice F2 n2 d2))) := Lib.hid ((((Only.refl _ _).setCell (by simp) _).setCell (by simp) _).setCell (by simp) _)
    exact bodyPost_ret (v := .agg (l8C c (.slice F2 n2 d2))) (by simp [results, Try.results25, go_sem, y0, y1]) rfl ⟨_, rfl, H2.out.fin HO.out, ⟨H2.out.kv HO.out HV.out⟩⟩
  · rw [decide_eq_false hin] at KH
    rw [if_neg hin]
    clear hin
    go_enter Try.func25, Try.ntmps25
    go_wp2_with fail
    refine KH.out.mono ?_
    rintro e w1 ⟨rfl, rfl⟩
    go_wp2_with fail
    refine KW.out.mono ?_
    rintro e w2 ⟨u2, he, hb2, ⟨hk2⟩⟩
    obtain ⟨F2, n2, d2, rfl⟩ := hk2.form
    have he' : e = .returned (.agg (l8C c (.slice F2 n2 d2))) := he
    subst he'
    clear he
    have H2 := Lib.hid (HB.out.step hb2)
    have HV : Hid (KV w2 (.slice F2 n2 d2) l) := Lib.hid hk2
    obtain ⟨⟨y0, y1⟩, y2, y3⟩ := c2_at H2.out.res
    clear hb2 hk2 KH KF KW HB
    go_wp2
    have HO : Hid (Only [w.heap.size, w.heap.size + 1] w2 ((w2.setCell ⟨w.heap.size + 1, 0, none⟩ (.int .i64 (c : Nat))).setCell ⟨w.heap.size + 1, 1, none⟩ (.slice F2 n2 d2))) := Lib.hid (((Only.refl _ _).setCell (by simp) _).setCell (by simp) _)
    exact bodyPost_ret (v := .agg (l8C c (.slice F2 n2 d2))) (by simp [results, Try.results25, go_sem, y0, y1]) rfl ⟨_, rfl, H2.out.fin HO.out, ⟨H2.out.kv HO.out HV.out⟩⟩
theorem p8drop_walk (hs : St8 w s u) (ok : s.Ok) (k : Nat) : Calls Try.prog 27 #[.agg (l8C s.c u), .int .u64 (k : Nat)] w (P8 w (s.drop k)) := by
  have h := hs.g1
  have hl := ok.hl
  clear hs ok
  obtain ⟨F, n, d, rfl⟩ := h.form
  have h0 := PB8.start w s.c F n d
  have HB := Lib.hid h0
  have KF := Lib.hid (without_walk (h.below h0.low) hl k)
  obtain ⟨c, l⟩ := s
  simp only at *
  unfold L8.drop
  simp only
  clear h0 h
  go_enter Try.func27, Try.ntmps27
  go_wp2_with fail
  refine KF.out.mono ?_
  rintro e w2 ⟨v2, rfl, h2⟩
  obtain ⟨F2, n2, d2, rfl⟩ := h2.kv.form
  have H2 := Lib.hid (HB.out.step h2.low)
  have HV := Lib.hid h2.kv
  obtain ⟨⟨x0, x1⟩, x2, x3⟩ := c2_at H2.out.box
  obtain ⟨⟨y0, y1⟩, y2, y3⟩ := c2_at H2.out.res
  clear h2 KF HB
  go_wp2
  have HO : Hid (Only [w.heap.size, w.heap.size + 1] w2 (((w2.setCell ⟨w.heap.size, 1, none⟩ (.slice F2 n2 d2)).setCell ⟨w.heap.size + 1, 0, none⟩ (.int .i64 (c : Nat))).setCell ⟨w.heap.size + 1, 1, none⟩ (.slice F2 n2 d2))) := Lib.hid ((((Only.refl _ _).setCell (by simp) _).setCell (by simp) _).setCell (by simp) _)
  exact bodyPost_ret (v := .agg (l8C c (.slice F2 n2 d2))) (by simp [results, Try.results27, go_sem, y0, y1]) rfl ⟨_, rfl, H2.out.fin HO.out, ⟨H2.out.kv HO.out HV.out⟩⟩
theorem p8has_walk (hs : St8 w s u) (ok : s.Ok) (k : Nat) : Calls Try.prog 24 #[.agg (l8C s.c u), .int .u64 (k : Nat)] w (RetB w (decide (k ∈ s.keys))) := by
  have h := hs.g1
  have hl := ok.hl
  clear hs ok
  obtain ⟨F, n, d, rfl⟩ := h.form
  have HB := Lib.hid (low_one w (.cells (l8C s.c (.slice F n d)) PT8))
  have KH := Lib.hid (has_walk (h.below HB.out) hl k)
  obtain ⟨c, l⟩ := s
  unfold L8.keys
  simp only at *
  clear h
  obtain ⟨b, hb⟩ : ∃ b, decide (k ∈ l) = b := ⟨_, rfl⟩
  rw [hb] at KH ⊢
  clear hb
  go_enter Try.func24, Try.ntmps24
  go_wp2_with fail
  refine KH.out.mono ?_
  rintro e w1 ⟨rfl, rfl⟩
  go_wp2
  go_ret
  exact ⟨rfl, HB.out⟩
theorem field8l (F : Option Addr) (n d c : Nat) (W : World) : (Instr.field PT8 (.agg #[.int .i64 (c : Nat), .slice F n d]) 1).run Try.prog W = .ok (.slice F n d) W := by
  kernel_rfl
theorem p8keys_walk (hs : St8 w s u) (ok : s.Ok) : Calls Try.prog 30 #[.agg (l8C s.c u)] w (RetK w s.keys) := by
  have h := hs.g1
  have hl := ok.hl
  clear hs ok
  obtain ⟨F, n, d, rfl⟩ := h.form
  have HB := Lib.hid (low_one w (.cells (l8C s.c (.slice F n d)) PT8))
  have KW := Lib.hid (owned8_walk (h.below HB.out) hl s.c)
  obtain ⟨c, l⟩ := s
  unfold L8.keys
  simp only at *
  clear h
  go_enter Try.func30, Try.ntmps30
  go_wp2_with fail
  refine KW.out.mono ?_
  rintro e w2 ⟨u2, he, hb2, ⟨hk2⟩⟩
  obtain ⟨F2, n2, d2, rfl⟩ := hk2.form
  have he' : e = .returned (.agg #[.int .i64 (c : Nat), .slice F2 n2 d2]) := he
  subst he'
  clear he
  have HV : Hid (KV w2 (.slice F2 n2 d2) l) := Lib.hid hk2
  have HL := Lib.hid (HB.out.trans (hb2.mono HB.out.size))
  have hfld := field8l
  clear hb2 hk2 KW HB
  go_wp2
  go_ret
  exact ⟨_, rfl, HL.out, HV.out⟩
theorem p8ghosts_walk (hs : St8 w s u) (_ : s.Ok) : Calls Try.prog 31 #[.agg (l8C s.c u)] w fun e w' => e = .returned (.int .i64 (s.ghosts : Nat)) ∧ Below w.heap.size w w' := by
  have h := hs.g1
  clear hs
  obtain ⟨F, m, d, rfl⟩ := h.form
  have HB := Lib.hid (low_one w (.cells (l8C s.c (.slice F m d)) PT8))
  obtain ⟨c, l⟩ := s
  simp only at *
  clear h
  go_enter Try.func31, Try.ntmps31
  go_wp2
  go_ret
  exact ⟨rfl, by first | exact HB.out | exact Below.refl _ _⟩
abbrev evC (b : Nat) : Array Value := #[.pointer (some ⟨b, 0, none⟩)]
theorem evicting_walk (b : Nat) : Calls Try.prog 53 #[.pointer (some ⟨b, 0, none⟩)] w fun e w' =>
    e = .returned (.func (.func 73) #[] #[.pointer (some ⟨w.heap.size, 0, none⟩)]) ∧ w' = w.alloc (.cells (evC b) 82) := by
  go_enter Try.func53, Try.ntmps53
  go_wp2
  go_ret
  exact ⟨rfl, rfl⟩
theorem evict_walk {w0 : World} {b r g c n d : Nat} {F : Option Addr} {l : List Nat} (hB : Bo w0 w PT8 b r (l8C c (.slice F n d)) z8) (hg : w.heap[g]? = some (.cells (evC b) 82 (0, 0))) (h : KV w (.slice F n d) l) (hl : l.length ≤ 100000000)
    (m : Int) (hm1 : -9223372036854775808 ≤ m) (hm2 : m ≤ 9223372036854775807) :
    Calls Try.prog 73 #[.int .i64 m, .pointer (some ⟨g, 0, none⟩)] w fun e w' => ∃ o F' n' d', e = .returned o ∧ Bo w0 w' PT8 b r (l8C c (.slice F' n' d')) z8 ∧ KV w' o (l.drop m.toNat).reverse ∧ KV w' (.slice F' n' d') (l.take m.toNat) := by
  have KF := Lib.hid (fall_walk h hl m hm1 hm2)
  have HB := Lib.hid hB
  have HG := Lib.hid hg
  have hgl := (head_row hg).lt
  obtain ⟨⟨x0, x1⟩, x2, x3⟩ := c2_at hB.box
  have p0 : w.cell? ⟨g, 0, none⟩ = some (.pointer (some ⟨b, 0, none⟩)) := (head_row hg).cell (i := 0) (by simp)
  have p1 := (head_row hg).frozen 0
  clear hB hg h
  go_enter Try.func73, Try.ntmps73
  go_wp2_with fail
  refine KF.out.mono ?_
  rintro e w2 ⟨v, u, rfl, hb2, hk1, hk2⟩
  obtain ⟨F2, n2, d2, rfl⟩ := hk2.form
  have H2 := Lib.hid (HB.out.step hb2)
  have HG2 := Lib.hid ((hb2.block g hgl).trans HG.out)
  have HV1 := Lib.hid hk1
  have HV2 := Lib.hid hk2
  clear x0 x1 x2 x3 p0 p1 hb2 hk1 hk2 KF HB HG
  obtain ⟨⟨x0, x1⟩, x2, x3⟩ := c2_at H2.out.box
  have p0 : w2.cell? ⟨g, 0, none⟩ = some (.pointer (some ⟨b, 0, none⟩)) := (head_row HG2.out).cell (i := 0) (by simp)
  have p1 := (head_row HG2.out).frozen 0
  go_wp2
  go_ret
  have h3 := H2.out.set 1 (.slice F2 n2 d2) rfl
  exact ⟨_, _, _, _, rfl, h3.1, H2.out.kv h3.2 HV1.out, H2.out.kv h3.2 HV2.out⟩
end
set_option maxRecDepth 8000
section
variable {w : World} {u : Value} {s : L8}
theorem evicting8_walk {w0 : World} {b r c n d : Nat} {F : Option Addr} {l : List Nat} (h : Bo w0 w PT8 b r (l8C c (.slice F n d)) z8) (hk : KV w (.slice F n d) l) :
    Calls Try.prog 53 #[.pointer (some ⟨b, 0, none⟩)] w fun e w' => ∃ g, e = .returned (.func (.func 73) #[] #[.pointer (some ⟨g, 0, none⟩)]) ∧ Bo w0 w' PT8 b r (l8C c (.slice F n d)) z8 ∧
      w'.heap[g]? = some (.cells (evC b) 82 (0, 0)) ∧ KV w' (.slice F n d) l :=
  (evicting_walk b).mono (by
    rintro e w' ⟨rfl, rfl⟩
    exact ⟨_, rfl, h.step (low_one _ _), heap_alloc_new _ _, hk.below (low_one _ _)⟩)
set_option maxHeartbeats 2000000 in
theorem p8admit_walk (hs : St8 w s u) (ok : s.Ok) (k : Nat) : Calls Try.prog 26 #[.agg (l8C s.c u), .int .u64 (k : Nat)] w (P8o w (s.adm k) (s.admitOut k)) := by
  have hc1 := ok.pos
  have hl := ok.hl
  have hc2 := ok.cap
  have h := hs.g1
  clear hs
  obtain ⟨F, n, d, rfl⟩ := h.form
  have h0 := PB8.start w s.c F n d
  have HB := Lib.hid h0
  have KH := Lib.hid (has_walk (h.below h0.low) hl k)
  have KW := Lib.hid (owned8_walk (h.below h0.low) hl s.c)
  have KE := Lib.hid (evicting8_walk h0 (h.below h0.low))
  obtain ⟨c, l⟩ := s
  simp only at *
  unfold L8.adm L8.admitOut
  simp only
  obtain ⟨c', hc'⟩ : ∃ c', c - 1 = c' := ⟨_, rfl⟩
  have hcI : (c : Int) - 1 = (c' : Int) := by omega
  rw [hc']
  have HTL := Lib.hid (show (l.take c').length ≤ 100000000 by rw [List.length_take]; omega)
  have hc3 : c' ≤ 1048576 := by omega
  have HL := Lib.hid hl
  clear h0 h ok hc' hl
  by_cases hin : k ∈ l
  · rw [decide_eq_true hin] at KH
    rw [if_pos hin, if_pos hin]
    clear hin
    go_enter Try.func26, Try.ntmps26
    go_wp2_with fail
    refine KH.out.mono ?_
    rintro e w1 ⟨rfl, rfl⟩
    go_wp2_with fail
    refine KW.out.mono ?_
    rintro e w2 ⟨u2, he, hb2, ⟨hk2⟩⟩
    obtain ⟨F2, n2, d2, rfl⟩ := hk2.form
    have he' : e = .returned (.agg (l8C c (.slice F2 n2 d2))) := he
    subst he'
    clear he
    have H2 := Lib.hid (HB.out.step hb2)
    have HV : Hid (KV w2 (.slice F2 n2 d2) l) := Lib.hid hk2
    obtain ⟨⟨y0, y1⟩, y2, y3⟩ := c2_at H2.out.res
    clear hb2 hk2 KH KE KW HB
    go_wp2
    have HO : Hid (Only [w.heap.size, w.heap.size + 1] w2 ((w2.setCell ⟨w.heap.size + 1, 0, none⟩ (.int .i64 (c : Nat))).setCell ⟨w.heap.size + 1, 1, none⟩ (.slice F2 n2 d2))) := Lib.hid (((Only.refl _ _).setCell (by simp) _).setCell (by simp) _)
    exact bodyPost_ret (v := .tuple #[.agg (l8C c (.slice F2 n2 d2)), .slice none 0 0]) (by simp [results, Try.results26, go_sem, y0, y1]) rfl ⟨_, _, rfl, H2.out.fin HO.out, ⟨H2.out.kv HO.out HV.out⟩, KV.nil _⟩
  · rw [decide_eq_false hin] at KH
    rw [if_neg hin, if_neg hin]
    clear hin
    go_enter Try.func26, Try.ntmps26
    go_wp2_with fail
    refine KH.out.mono ?_
    rintro e w1 ⟨rfl, rfl⟩
    go_wp2_with fail
    refine KE.out.mono ?_
    rintro e w2 ⟨g, rfl, hb2, hg2, hk2⟩
    have KF := Lib.hid (evict_walk hb2 hg2 hk2 HL.out (c' : Int) (by omega) (by omega))
    obtain ⟨⟨x0, x1⟩, x2, x3⟩ := c2_at hb2.box
    clear hb2 hg2 hk2 KH KE KW HB
    go_wp2_with fail
    refine KF.out.mono ?_
    rintro e w3 ⟨o3, F3, n3, d3, rfl, hb3, ho3, hk3⟩
    rw [Int.toNat_natCast] at ho3 hk3
    have KR := Lib.hid (kfront_walk hk3 HTL.out k)
    have HB3 := Lib.hid hb3
    have HO3 := Lib.hid ho3
    clear x0 x1 x2 x3
    obtain ⟨⟨x0, x1⟩, x2, x3⟩ := c2_at hb3.box
    clear hb3 ho3 hk3 KF
    go_wp2_with fail
    refine KR.out.mono ?_
    rintro e w4 ⟨v4, rfl, h4⟩
    obtain ⟨F4, n4, d4, rfl⟩ := h4.kv.form
    have H4 := Lib.hid (HB3.out.step h4.low)
    have HV := Lib.hid h4.kv
    have HO4 := Lib.hid (HO3.out.below h4.low)
    clear x0 x1 x2 x3
    obtain ⟨⟨x0, x1⟩, x2, x3⟩ := c2_at H4.out.box
    obtain ⟨⟨y0, y1⟩, y2, y3⟩ := c2_at H4.out.res
    clear h4 KR HB3 HO3
    go_wp2
    have HO : Hid (Only [w.heap.size, w.heap.size + 1] w4 (((w4.setCell ⟨w.heap.size, 1, none⟩ (.slice F4 n4 d4)).setCell ⟨w.heap.size + 1, 0, none⟩ (.int .i64 (c : Nat))).setCell ⟨w.heap.size + 1, 1, none⟩ (.slice F4 n4 d4))) := Lib.hid ((((Only.refl _ _).setCell (by simp) _).setCell (by simp) _).setCell (by simp) _)
    exact bodyPost_ret (v := .tuple #[.agg (l8C c (.slice F4 n4 d4)), o3]) (by simp [results, Try.results26, go_sem, y0, y1]) rfl ⟨_, _, rfl, H4.out.fin HO.out, ⟨H4.out.kv HO.out HV.out⟩, H4.out.kv HO.out HO4.out⟩
set_option maxHeartbeats 2000000 in
theorem p8resize_walk (hs : St8 w s u) (ok : s.Ok) (n : Int) (hn1 : -9223372036854775808 ≤ n) (hn2 : n ≤ 9223372036854775807) : Calls Try.prog 28 #[.agg (l8C s.c u), .int .i64 n] w (P8o w (s.resize n) (s.resizeOut n)) := by
  have h := hs.g1
  have hl := ok.hl
  clear hs ok
  obtain ⟨F, m, d, rfl⟩ := h.form
  have h0 := PB8.start w s.c F m d
  have KC := Lib.hid (bounded_walk (w := (w.alloc (.cells (l8C s.c (.slice F m d)) PT8)).alloc (.cells z8 PT8)) n hn1 hn2)
  have hcp := capI_pos n
  unfold L8.resize L8.resizeOut
  obtain ⟨c', hc'⟩ : ∃ c', capI n = c' := ⟨_, rfl⟩
  rw [hc'] at KC hcp ⊢
  have h9 := PB8.start w c' F m d
  have KE := Lib.hid (evicting8_walk h9 (h.below h9.low))
  obtain ⟨⟨x0, x1⟩, x2, x3⟩ := c2_at h0.box
  obtain ⟨c, l⟩ := s
  simp only at *
  have HL := Lib.hid hl
  obtain ⟨h1, h2⟩ := hcp
  clear h0 h hc' h9 hl
  go_enter Try.func28, Try.ntmps28
  go_wp2_with fail
  refine KC.out.mono ?_
  rintro e w1 ⟨rfl, rfl⟩
  go_wp2_with fail
  refine KE.out.mono ?_
  rintro e w2 ⟨g, rfl, hb2, hg2, hk2⟩
  have KF := Lib.hid (evict_walk hb2 hg2 hk2 HL.out (c' : Int) (by omega) (by omega))
  clear x0 x1 x2 x3
  obtain ⟨⟨x0, x1⟩, x2, x3⟩ := c2_at hb2.box
  clear hb2 hg2 hk2 KC KE
  go_wp2_with fail
  refine KF.out.mono ?_
  rintro e w3 ⟨o3, F3, n3, d3, rfl, hb3, ho3, hk3⟩
  rw [Int.toNat_natCast] at ho3 hk3
  have H4 := Lib.hid hb3
  have HO4 := Lib.hid ho3
  have HV := Lib.hid hk3
  clear x0 x1 x2 x3
  obtain ⟨⟨x0, x1⟩, x2, x3⟩ := c2_at hb3.box
  obtain ⟨⟨y0, y1⟩, y2, y3⟩ := c2_at hb3.res
  clear hb3 ho3 hk3 KF
  go_wp2
  have HO : Hid (Only [w.heap.size, w.heap.size + 1] w3 ((w3.setCell ⟨w.heap.size + 1, 0, none⟩ (.int .i64 (c' : Nat))).setCell ⟨w.heap.size + 1, 1, none⟩ (.slice F3 n3 d3))) := Lib.hid (((Only.refl _ _).setCell (by simp) _).setCell (by simp) _)
  exact bodyPost_ret (v := .tuple #[.agg (l8C c' (.slice F3 n3 d3)), o3]) (by simp [results, Try.results28, go_sem, y0, y1]) rfl ⟨_, _, rfl, H4.out.fin HO.out, ⟨H4.out.kv HO.out HV.out⟩, H4.out.kv HO.out HO4.out⟩
end
theorem pol8Ok : Pol8Ok where
  new := fun _ n h1 h2 => p8new_walk n h1 h2
  touch := fun hs ok k _ => p8touch_walk hs ok k
  adm := fun hs ok k _ => p8admit_walk hs ok k
  drop := fun hs ok k _ => p8drop_walk hs ok k
  resize := fun hs ok n h1 h2 => p8resize_walk hs ok n h1 h2
  has := fun hs ok k _ => p8has_walk hs ok k
  keys := fun hs ok => p8keys_walk hs ok
  ghosts := fun hs ok => p8ghosts_walk hs ok
end Go.Proofs.Ytebdggoncnhjeaa
