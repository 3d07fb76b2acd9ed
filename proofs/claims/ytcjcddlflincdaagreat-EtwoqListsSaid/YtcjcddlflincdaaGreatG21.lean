/- Words and walks: TqH TqX. -/
import Derived.Test.YtcjcddlflincdaaGreatG20
import Derived.BigQuiet
import Derived.WalkMore
namespace Go.Proofs.YtcjcddlflincdaaGreat
open Go Go.RowKit Go.Deep
set_option maxRecDepth 8000
abbrev reC (b : Nat) : Array Value := #[.pointer (some ⟨b, 0, none⟩)]
section
variable {w : World} {u1 u2 u3 : Value} {s : L9}
theorem reclaiming_walk (b : Nat) : Calls Tryz.prog 30 #[.pointer (some ⟨b, 0, none⟩)] w fun e w' =>
    e = .returned (.func (.func 48) #[] #[.pointer (some ⟨w.heap.size, 0, none⟩)]) ∧ w' = w.alloc (.cells (reC b) 61) := by
  go_enter Tryz.func30, Tryz.ntmps30
  go_wp2
  go_ret
  exact ⟨rfl, rfl⟩
theorem reclaiming9_walk {w0 : World} {b r : Nat} (h : Bx9 w0 w PT9 b r s u1 u2 u3) :
    Calls Tryz.prog 30 #[.pointer (some ⟨b, 0, none⟩)] w fun e w' => ∃ g, e = .returned (.func (.func 48) #[] #[.pointer (some ⟨g, 0, none⟩)]) ∧ Bx9 w0 w' PT9 b r s u1 u2 u3 ∧
      w'.heap[g]? = some (.cells (reC b) 61 (0, 0)) :=
  (reclaiming_walk b).mono (by
    rintro e w' ⟨rfl, rfl⟩
    exact ⟨_, rfl, h.step (low_one _ _), heap_alloc_new _ _⟩)
structure Cl9 (w wr : World) (s : L9) (N i m : Nat) (v : Value) : Prop where
  ko : ∃ acc, KO w.heap.size w wr v acc ∧ acc ++ rcO (kin9 s.c) s.inn s.main (i + m - N) i m = s.shrOut N ∧ acc.length ≤ 100000000
  li : rcI (kin9 s.c) (i + m - N) i m = s.li N
  lm : rcM (kin9 s.c) (i + m - N) i m = s.lm N
  le : i ≤ s.inn.length ∧ m ≤ s.main.length
theorem Cl9.next {w7 : World} {N i m f : Nat} {v7 : Value} {i' m' x : Nat} {acc : List Nat} (hf : i + m - N = f + 1) (hs : i' + m' + 1 = i + m) (hi : i' ≤ s.inn.length) (hm : m' ≤ s.main.length)
    (li : rcI (kin9 s.c) f i' m' = s.li N) (lm : rcM (kin9 s.c) f i' m' = s.lm N) (lo : acc ++ (x :: rcO (kin9 s.c) s.inn s.main f i' m') = s.shrOut N) (hal : acc.length ≤ 3000000) (ho : KO w.heap.size w w7 v7 (acc ++ [x])) : Cl9 w w7 s N i' m' v7 := by
  have e : i' + m' - N = f := by omega
  exact ⟨⟨acc ++ [x], ho, by rw [e, List.append_assoc]; exact lo, by simp; omega⟩, by rw [e]; exact li, by rw [e]; exact lm, hi, hm⟩
set_option maxRecDepth 2000 in
set_option maxHeartbeats 4000000 in
theorem reclaim9_zero {w0 : World} {b r g : Nat} (hX : Bx9 w0 w PT9 b r s u1 u2 u3) (hg : w.heap[g]? = some (.cells (reC b) 61 (0, 0))) (h1 : s.inn.length ≤ 1048576) (h2 : s.out.length ≤ 1048576) (h3 : s.main.length ≤ 1048576) (hc : s.c ≤ 1048576) :
    Calls Tryz.prog 48 #[.int .i64 0, .pointer (some ⟨g, 0, none⟩)] w fun e w' => ∃ o v1 v2 v3, e = .returned o ∧ Bx9 w0 w' PT9 b r (s.shr 0) v1 v2 v3 ∧ KV w' o (s.shrOut 0) := by
  have e0 : s.inn.length + s.main.length - 0 = s.many 0 := rfl
  have HI0 : Hid (∀ W, Below w.heap.size w W → Cl9 w W s 0 s.inn.length s.main.length (.slice none 0 0)) := Lib.hid (fun W hb => ⟨⟨[], KO.nil hb, by rw [e0]; rfl, by simp⟩, by rw [e0]; rfl, by rw [e0]; rfl, Nat.le_refl _, Nat.le_refl _⟩)
  have HX := Lib.hid hX
  have HG := Lib.hid hg
  have HKN := Lib.hid (fun W => kin9_walk (w := W) s.c hc)
  have HCUT : Hid (∀ W i m, Below w.heap.size w W → i ≤ s.inn.length → m ≤ s.main.length → Calls Tryz.prog 50 #[.pointer (some ⟨b, 0, none⟩), .int .i64 (i : Nat), .int .i64 (m : Nat)] W (Cut9 w0 W b r ⟨s.c, s.inn.take i, (s.inn.drop i ++ s.out).take (s.c / 2), s.main.take m⟩)) :=
    Lib.hid (fun W i m hb hi hm => cut9_walk (HX.out.step hb) hi hm h1 h2 h3 hc)
  obtain ⟨F1, d1, rfl, -⟩ := hX.st.g1.mem
  obtain ⟨F2, n2, d2, rfl⟩ := hX.st.form2
  obtain ⟨F3, d3, rfl, -⟩ := hX.st.g3.mem
  have hgl := (head_row hg).lt
  have HLD : Hid (∀ W, Below w.heap.size w W → (W.cell? ⟨b, 0, none⟩ = some (.int .i64 (s.c : Nat)) ∧ W.cell? ⟨b, 1, none⟩ = some (.slice F1 s.inn.length d1) ∧ W.cell? ⟨b, 3, none⟩ = some (.slice F3 s.main.length d3)) ∧ W.cell? ⟨g, 0, none⟩ = some (.pointer (some ⟨b, 0, none⟩))) := Lib.hid (fun W hb => by
    obtain ⟨⟨x0, x1, x2, x3⟩, _⟩ := c4_at (HX.out.step hb).bo.box
    exact ⟨⟨x0, x1, x3⟩, (head_row ((hb.block g hgl).trans HG.out)).cell (i := 0) (by simp)⟩)
  have HE1 : Hid (∀ W, Below w.heap.size w W → ∀ k, k < s.inn.length → ∃ ad, F1 = some ad ∧ W.cell? (ad.add k) = some (.int .u64 (s.inn.getD k 0 : Nat))) := Lib.hid (fun W hb k hk => by
    obtain ⟨F', c', e, _, _, h⟩ := (HX.out.step hb).st.g1.mem
    injection e with e1 _ _
    obtain ⟨ad, e2, _, h4⟩ := h k hk
    refine ⟨ad, e1.trans e2, ?_⟩
    rw [h4, List.getD_eq_getElem?_getD, List.getElem?_eq_getElem hk]
    rfl)
  have HE3 : Hid (∀ W, Below w.heap.size w W → ∀ k, k < s.main.length → ∃ ad, F3 = some ad ∧ W.cell? (ad.add k) = some (.int .u64 (s.main.getD k 0 : Nat))) := Lib.hid (fun W hb k hk => by
    obtain ⟨F', c', e, _, _, h⟩ := (HX.out.step hb).st.g3.mem
    injection e with e1 _ _
    obtain ⟨ad, e2, _, h4⟩ := h k hk
    refine ⟨ad, e1.trans e2, ?_⟩
    rw [h4, List.getD_eq_getElem?_getD, List.getElem?_eq_getElem hk]
    rfl)
  obtain ⟨⟨x0, x1, x3⟩, p0⟩ := HLD.out w (Below.refl _ _)
  obtain ⟨n1, hn1⟩ : ∃ n, s.inn.length = n := ⟨_, rfl⟩
  obtain ⟨n3, hn3⟩ : ∃ n, s.main.length = n := ⟨_, rfl⟩
  have HN1 := Lib.hid hn1
  have HN3 := Lib.hid hn3
  rw [hn1] at h1 x1 HI0 HLD HE1 HCUT
  rw [hn3] at h3 x3 HI0 HLD HE3 HCUT
  obtain ⟨kn, hkn⟩ : ∃ kn, kin9 s.c = kn := ⟨_, rfl⟩
  have HKE := Lib.hid hkn
  rw [hkn] at HKN
  clear hX hg hn1 hn3 e0 hkn HX HG h2
  go_enter Tryz.func48, Tryz.ntmps48
  go_wp2_with fail
  go_step3
  go_wp2_with fail
  go_quiet (fail)
  go_wp2_with fail
  go_step3
  go_wp2_with fail
  have HIW := Lib.hid (HI0.out (w.drewN nq) (below_drewn (Below.refl _ _) _))
  generalize w.drewN nq = W0 at HIW ⊢
  clear x0 x1 x3 p0 HI0
  go_loopg [4, 5, 6] (n1 + n3 - 0) (fun gg s4 s5 s6 wr => ∃ (i m : Nat) (v6 : Value), gg = i + m - 0 ∧ s4 = .int .i64 (i : Nat) ∧ s5 = .int .i64 (m : Nat) ∧ v6 = s6 ∧ Hid (Cl9 w wr s 0 i m v6))
  case atStart => exact ⟨n1, n3, _, rfl, rfl, rfl, rfl, HIW⟩
  case round =>
    clear HIW
    obtain ⟨i, m, v6, hi, rfl, rfl, rfl, HI⟩ := hrel
    obtain ⟨acc, hko, hac, hal⟩ := HI.out.ko
    have hli := HI.out.li
    have hlm := HI.out.lm
    have hle := HI.out.le
    rw [HN1.out, HN3.out] at hle
    rw [HKE.out] at hac hli hlm
    have HKO := Lib.hid hko
    have hiI : (i : Int) ≤ 1048576 := by omega
    have hmI : (m : Int) ≤ 1048576 := by omega
    obtain ⟨⟨x0, x1, x3⟩, p0⟩ := HLD.out wr hko.low
    clear hko HI
    by_cases hgt : 0 < i + m
    · have hgtI : ¬ (i : Int) + (m : Int) ≤ 0 := by omega
      obtain ⟨f, hf⟩ : ∃ f, i + m - 0 = f + 1 := ⟨i + m - 0 - 1, by omega⟩
      rw [hf] at hac hli hlm
      have HAL : acc.length ≤ 3000000 := by
        have h := congrArg List.length hac
        rw [List.length_append, rcO_len, L9.shrOut_len] at h
        have := s.many_le 0
        have := HN1.out
        have := HN3.out
        omega
      have HF := Lib.hid hf
      by_cases hin : kn < i ∨ m = 0
      · obtain ⟨k, rfl⟩ : ∃ k, i = k + 1 := ⟨i - 1, by omega⟩
        rw [rcI_in hin, Nat.add_sub_cancel] at hli
        rw [rcM_in hin, Nat.add_sub_cancel] at hlm
        rw [rcO_in hin, Nat.add_sub_cancel] at hac
        have HAR := Lib.hid (And.intro hli (And.intro hlm hac))
        obtain ⟨ad, hF, q0⟩ := HE1.out wr HKO.out.low k (by omega)
        subst hF
        generalize s.inn.getD k 0 = x at q0 HAR
        have hk1 : (k : Int) < (n1 : Int) := by omega
        have hkI : (k : Int) ≤ 1048575 := by omega
        clear hiI
        have hk1N : k < n1 := by omega
        clear hli hlm hac hf
        by_cases hki : kn < k + 1
        · have hkiI : (kn : Int) < (k : Int) + 1 := by omega
          clear hin
          go_wp2_with fail
          refine (HKN.out _).mono ?_
          rintro e w5 ⟨rfl, rfl⟩
          have HOW := Lib.hid (HKO.out.alloc HKO.out.low.size (.cells #[.int .u64 (x : Nat)] 31))
          have HSRC := Lib.hid (KV.one wr x)
          have hszA : w.heap.size ≤ (wr.alloc (.cells #[.int .u64 (x : Nat)] 31)).heap.size := HOW.out.low.size
          go_wp2_with (at_builtin; refine wpList_append_kv rfl (.tmp 50) (.tmp 58) rfl w.heap.size (by kernel_rfl) (by kernel_rfl) v6 acc rfl HOW.out _ [x] rfl HSRC.out (by simp; omega) hszA ?_)
          intro v7 w7 hown7 _ _
          have HNX : Hid (Cl9 w w7 s 0 k m v7) := Lib.hid (Cl9.next HF.out (by omega) (by have := HN1.out; omega) (by have := HN3.out; omega) (by rw [HKE.out]; exact HAR.out.1) (by rw [HKE.out]; exact HAR.out.2.1) (by rw [HKE.out]; exact HAR.out.2.2) HAL hown7)
          have hgf : f < gk := by have := HF.out; omega
          have HGF : Hid (f = k + m - 0) := Lib.hid (by have := HF.out; omega)
          clear hown7 HOW HSRC q0 x0 x1 x3 p0
          go_wp2
          go_roundg f
          case measure => omega
          case rel => exact ⟨k, m, _, HGF.out, by go_num, rfl, rfl, HNX⟩
        · have hkiI : ¬ (kn : Int) < (k : Int) + 1 := by omega
          obtain rfl : m = 0 := by omega
          clear hin
          go_wp2_with fail
          refine (HKN.out _).mono ?_
          rintro e w5 ⟨rfl, rfl⟩
          have HOW := Lib.hid (HKO.out.alloc HKO.out.low.size (.cells #[.int .u64 (x : Nat)] 31))
          have HSRC := Lib.hid (KV.one wr x)
          have hszA : w.heap.size ≤ (wr.alloc (.cells #[.int .u64 (x : Nat)] 31)).heap.size := HOW.out.low.size
          go_wp2_with (at_builtin; refine wpList_append_kv rfl (.tmp 50) (.tmp 58) rfl w.heap.size (by kernel_rfl) (by kernel_rfl) v6 acc rfl HOW.out _ [x] rfl HSRC.out (by simp; omega) hszA ?_)
          intro v7 w7 hown7 _ _
          have HNX : Hid (Cl9 w w7 s 0 k 0 v7) := Lib.hid (Cl9.next HF.out (by omega) (by have := HN1.out; omega) (by have := HN3.out; omega) (by rw [HKE.out]; exact HAR.out.1) (by rw [HKE.out]; exact HAR.out.2.1) (by rw [HKE.out]; exact HAR.out.2.2) HAL hown7)
          have hgf : f < gk := by have := HF.out; omega
          have HGF : Hid (f = k + 0 - 0) := Lib.hid (by have := HF.out; omega)
          clear hown7 HOW HSRC q0 x0 x1 x3 p0
          go_wp2
          go_roundg f
          case measure => omega
          case rel => exact ⟨k, 0, _, HGF.out, by go_num, rfl, rfl, HNX⟩
      · obtain ⟨k, rfl⟩ : ∃ k, m = k + 1 := ⟨m - 1, by omega⟩
        rw [rcI_main hin, Nat.add_sub_cancel] at hli
        rw [rcM_main hin, Nat.add_sub_cancel] at hlm
        rw [rcO_main hin, Nat.add_sub_cancel] at hac
        have HAR := Lib.hid (And.intro hli (And.intro hlm hac))
        obtain ⟨ad, hF, q0⟩ := HE3.out wr HKO.out.low k (by omega)
        subst hF
        generalize s.main.getD k 0 = x at q0 HAR
        have hk1 : (k : Int) < (n3 : Int) := by omega
        have hkI : (k : Int) ≤ 1048575 := by omega
        clear hmI
        have hk1N : k < n3 := by omega
        have hkiI : ¬ (kn : Int) < (i : Int) := by omega
        have hkiN : ¬ kn < i := by omega
        have hkne : (((k : Int) + 1) == 0) = false := by rw [beq_eq_false_iff_ne]; omega
        clear hli hlm hac hf hin
        go_wp2_with fail
        refine (HKN.out _).mono ?_
        rintro e w5 ⟨rfl, rfl⟩
        have HOW := Lib.hid (HKO.out.alloc HKO.out.low.size (.cells #[.int .u64 (x : Nat)] 31))
        have HSRC := Lib.hid (KV.one wr x)
        have hszA : w.heap.size ≤ (wr.alloc (.cells #[.int .u64 (x : Nat)] 31)).heap.size := HOW.out.low.size
        go_wp2_with (at_builtin; refine wpList_append_kv rfl (.tmp 19) (.tmp 27) rfl w.heap.size (by kernel_rfl) (by kernel_rfl) v6 acc rfl HOW.out _ [x] rfl HSRC.out (by simp; omega) hszA ?_)
        intro v7 w7 hown7 _ _
        have HNX : Hid (Cl9 w w7 s 0 i k v7) := Lib.hid (Cl9.next HF.out (by omega) (by have := HN1.out; omega) (by have := HN3.out; omega) (by rw [HKE.out]; exact HAR.out.1) (by rw [HKE.out]; exact HAR.out.2.1) (by rw [HKE.out]; exact HAR.out.2.2) HAL hown7)
        have hgf : f < gk := by have := HF.out; omega
        have HGF : Hid (f = i + k - 0) := Lib.hid (by have := HF.out; omega)
        clear hown7 HOW HSRC q0 x0 x1 x3 p0
        go_wp2
        go_roundg f
        case measure => omega
        case rel => exact ⟨i, k, _, HGF.out, rfl, by go_num, rfl, HNX⟩
    · have hgtI : (i : Int) + (m : Int) ≤ 0 := by omega
      rw [show i + m - 0 = 0 by omega] at hac hli hlm
      have HE : Hid (s.li 0 = i ∧ s.lm 0 = m ∧ s.shrOut 0 = acc) := Lib.hid ⟨hli.symm, hlm.symm, by rw [← hac]; simp [rcO]⟩
      have HCC := Lib.hid (HCUT.out wr i m HKO.out.low hle.1 hle.2)
      clear hac hli hlm hgt hi
      go_wp2_with fail
      refine HCC.out.mono ?_
      rintro e w5 ⟨v1, v2, v3, rfl, hx5, hk5⟩
      have HX5 := Lib.hid hx5
      have HO5 := Lib.hid (hk5 _ _ HKO.out.kv)
      clear hx5 hk5 HCC x0 x1 x3 p0
      go_wp2
      try rw [Exit.noGoto_ret]
      go_ret
      refine ⟨v6, v1, v2, v3, rfl, ?_, ?_⟩
      · have h := HX5.out
        rw [← HE.out.1, ← HE.out.2.1] at h
        exact h
      · rw [HE.out.2.2]
        exact HO5.out
set_option maxRecDepth 2000 in
set_option maxHeartbeats 4000000 in
theorem reclaim9_pos {w0 : World} {b r g N : Nat} (hX : Bx9 w0 w PT9 b r s u1 u2 u3) (hg : w.heap[g]? = some (.cells (reC b) 61 (0, 0))) (h1 : s.inn.length ≤ 1048576) (h2 : s.out.length ≤ 1048576) (h3 : s.main.length ≤ 1048576) (hc : s.c ≤ 1048576) (hN : N ≤ 1048576) (hN0 : 0 < N) :
    Calls Tryz.prog 48 #[.int .i64 (N : Nat), .pointer (some ⟨g, 0, none⟩)] w fun e w' => ∃ o v1 v2 v3, e = .returned o ∧ Bx9 w0 w' PT9 b r (s.shr N) v1 v2 v3 ∧ KV w' o (s.shrOut N) := by
  have e0 : s.inn.length + s.main.length - N = s.many N := rfl
  have HI0 : Hid (∀ W, Below w.heap.size w W → Cl9 w W s N s.inn.length s.main.length (.slice none 0 0)) := Lib.hid (fun W hb => ⟨⟨[], KO.nil hb, by rw [e0]; rfl, by simp⟩, by rw [e0]; rfl, by rw [e0]; rfl, Nat.le_refl _, Nat.le_refl _⟩)
  have HX := Lib.hid hX
  have HG := Lib.hid hg
  have HKN := Lib.hid (fun W => kin9_walk (w := W) s.c hc)
  have HCUT : Hid (∀ W i m, Below w.heap.size w W → i ≤ s.inn.length → m ≤ s.main.length → Calls Tryz.prog 50 #[.pointer (some ⟨b, 0, none⟩), .int .i64 (i : Nat), .int .i64 (m : Nat)] W (Cut9 w0 W b r ⟨s.c, s.inn.take i, (s.inn.drop i ++ s.out).take (s.c / 2), s.main.take m⟩)) :=
    Lib.hid (fun W i m hb hi hm => cut9_walk (HX.out.step hb) hi hm h1 h2 h3 hc)
  obtain ⟨F1, d1, rfl, -⟩ := hX.st.g1.mem
  obtain ⟨F2, n2, d2, rfl⟩ := hX.st.form2
  obtain ⟨F3, d3, rfl, -⟩ := hX.st.g3.mem
  have hgl := (head_row hg).lt
  have HLD : Hid (∀ W, Below w.heap.size w W → (W.cell? ⟨b, 0, none⟩ = some (.int .i64 (s.c : Nat)) ∧ W.cell? ⟨b, 1, none⟩ = some (.slice F1 s.inn.length d1) ∧ W.cell? ⟨b, 3, none⟩ = some (.slice F3 s.main.length d3)) ∧ W.cell? ⟨g, 0, none⟩ = some (.pointer (some ⟨b, 0, none⟩))) := Lib.hid (fun W hb => by
    obtain ⟨⟨x0, x1, x2, x3⟩, _⟩ := c4_at (HX.out.step hb).bo.box
    exact ⟨⟨x0, x1, x3⟩, (head_row ((hb.block g hgl).trans HG.out)).cell (i := 0) (by simp)⟩)
  have HE1 : Hid (∀ W, Below w.heap.size w W → ∀ k, k < s.inn.length → ∃ ad, F1 = some ad ∧ W.cell? (ad.add k) = some (.int .u64 (s.inn.getD k 0 : Nat))) := Lib.hid (fun W hb k hk => by
    obtain ⟨F', c', e, _, _, h⟩ := (HX.out.step hb).st.g1.mem
    injection e with e1 _ _
    obtain ⟨ad, e2, _, h4⟩ := h k hk
    refine ⟨ad, e1.trans e2, ?_⟩
    rw [h4, List.getD_eq_getElem?_getD, List.getElem?_eq_getElem hk]
    rfl)
  have HE3 : Hid (∀ W, Below w.heap.size w W → ∀ k, k < s.main.length → ∃ ad, F3 = some ad ∧ W.cell? (ad.add k) = some (.int .u64 (s.main.getD k 0 : Nat))) := Lib.hid (fun W hb k hk => by
    obtain ⟨F', c', e, _, _, h⟩ := (HX.out.step hb).st.g3.mem
    injection e with e1 _ _
    obtain ⟨ad, e2, _, h4⟩ := h k hk
    refine ⟨ad, e1.trans e2, ?_⟩
    rw [h4, List.getD_eq_getElem?_getD, List.getElem?_eq_getElem hk]
    rfl)
  obtain ⟨⟨x0, x1, x3⟩, p0⟩ := HLD.out w (Below.refl _ _)
  obtain ⟨n1, hn1⟩ : ∃ n, s.inn.length = n := ⟨_, rfl⟩
  obtain ⟨n3, hn3⟩ : ∃ n, s.main.length = n := ⟨_, rfl⟩
  have HN1 := Lib.hid hn1
  have HN3 := Lib.hid hn3
  rw [hn1] at h1 x1 HI0 HLD HE1 HCUT
  rw [hn3] at h3 x3 HI0 HLD HE3 HCUT
  obtain ⟨kn, hkn⟩ : ∃ kn, kin9 s.c = kn := ⟨_, rfl⟩
  have HKE := Lib.hid hkn
  rw [hkn] at HKN
  clear hX hg hn1 hn3 e0 hkn HX HG h2
  go_enter Tryz.func48, Tryz.ntmps48
  go_wp2_with fail
  go_step3
  go_wp2_with fail
  go_quiet (fail)
  go_wp2_with fail
  go_step3
  go_wp2_with fail
  have HIW := Lib.hid (HI0.out (w.drewN nq) (below_drewn (Below.refl _ _) _))
  generalize w.drewN nq = W0 at HIW ⊢
  clear x0 x1 x3 p0 HI0
  go_loopg [4, 5, 6] (n1 + n3 - N) (fun gg s4 s5 s6 wr => ∃ (i m : Nat) (v6 : Value), gg = i + m - N ∧ s4 = .int .i64 (i : Nat) ∧ s5 = .int .i64 (m : Nat) ∧ v6 = s6 ∧ Hid (Cl9 w wr s N i m v6))
  case atStart => exact ⟨n1, n3, _, rfl, rfl, rfl, rfl, HIW⟩
  case round =>
    clear HIW
    obtain ⟨i, m, v6, hi, rfl, rfl, rfl, HI⟩ := hrel
    obtain ⟨acc, hko, hac, hal⟩ := HI.out.ko
    have hli := HI.out.li
    have hlm := HI.out.lm
    have hle := HI.out.le
    rw [HN1.out, HN3.out] at hle
    rw [HKE.out] at hac hli hlm
    have HKO := Lib.hid hko
    have hiI : (i : Int) ≤ 1048576 := by omega
    have hmI : (m : Int) ≤ 1048576 := by omega
    obtain ⟨⟨x0, x1, x3⟩, p0⟩ := HLD.out wr hko.low
    clear hko HI
    have hN1 : (0 : Int) < (N : Int) := by omega
    by_cases hgt : N < i + m
    · have hgtI : ¬ (i : Int) + (m : Int) ≤ (N : Int) := by omega
      obtain ⟨f, hf⟩ : ∃ f, i + m - N = f + 1 := ⟨i + m - N - 1, by omega⟩
      rw [hf] at hac hli hlm
      have HAL : acc.length ≤ 3000000 := by
        have h := congrArg List.length hac
        rw [List.length_append, rcO_len, L9.shrOut_len] at h
        have := s.many_le N
        have := HN1.out
        have := HN3.out
        omega
      have HF := Lib.hid hf
      by_cases hin : kn < i ∨ m = 0
      · obtain ⟨k, rfl⟩ : ∃ k, i = k + 1 := ⟨i - 1, by omega⟩
        rw [rcI_in hin, Nat.add_sub_cancel] at hli
        rw [rcM_in hin, Nat.add_sub_cancel] at hlm
        rw [rcO_in hin, Nat.add_sub_cancel] at hac
        have HAR := Lib.hid (And.intro hli (And.intro hlm hac))
        obtain ⟨ad, hF, q0⟩ := HE1.out wr HKO.out.low k (by omega)
        subst hF
        generalize s.inn.getD k 0 = x at q0 HAR
        have hk1 : (k : Int) < (n1 : Int) := by omega
        have hkI : (k : Int) ≤ 1048575 := by omega
        clear hiI
        have hk1N : k < n1 := by omega
        clear hli hlm hac hf
        by_cases hki : kn < k + 1
        · have hkiI : (kn : Int) < (k : Int) + 1 := by omega
          clear hin
          go_wp2_with fail
          refine (HKN.out _).mono ?_
          rintro e w5 ⟨rfl, rfl⟩
          have HOW := Lib.hid (HKO.out.alloc HKO.out.low.size (.cells #[.int .u64 (x : Nat)] 31))
          have HSRC := Lib.hid (KV.one wr x)
          have hszA : w.heap.size ≤ (wr.alloc (.cells #[.int .u64 (x : Nat)] 31)).heap.size := HOW.out.low.size
          go_wp2_with (at_builtin; refine wpList_append_kv rfl (.tmp 50) (.tmp 58) rfl w.heap.size (by kernel_rfl) (by kernel_rfl) v6 acc rfl HOW.out _ [x] rfl HSRC.out (by simp; omega) hszA ?_)
          intro v7 w7 hown7 _ _
          have HNX : Hid (Cl9 w w7 s N k m v7) := Lib.hid (Cl9.next HF.out (by omega) (by have := HN1.out; omega) (by have := HN3.out; omega) (by rw [HKE.out]; exact HAR.out.1) (by rw [HKE.out]; exact HAR.out.2.1) (by rw [HKE.out]; exact HAR.out.2.2) HAL hown7)
          have hgf : f < gk := by have := HF.out; omega
          have HGF : Hid (f = k + m - N) := Lib.hid (by have := HF.out; omega)
          clear hown7 HOW HSRC q0 x0 x1 x3 p0
          go_wp2
          go_roundg f
          case measure => omega
          case rel => exact ⟨k, m, _, HGF.out, by go_num, rfl, rfl, HNX⟩
        · have hkiI : ¬ (kn : Int) < (k : Int) + 1 := by omega
          obtain rfl : m = 0 := by omega
          clear hin
          go_wp2_with fail
          refine (HKN.out _).mono ?_
          rintro e w5 ⟨rfl, rfl⟩
          have HOW := Lib.hid (HKO.out.alloc HKO.out.low.size (.cells #[.int .u64 (x : Nat)] 31))
          have HSRC := Lib.hid (KV.one wr x)
          have hszA : w.heap.size ≤ (wr.alloc (.cells #[.int .u64 (x : Nat)] 31)).heap.size := HOW.out.low.size
          go_wp2_with (at_builtin; refine wpList_append_kv rfl (.tmp 50) (.tmp 58) rfl w.heap.size (by kernel_rfl) (by kernel_rfl) v6 acc rfl HOW.out _ [x] rfl HSRC.out (by simp; omega) hszA ?_)
          intro v7 w7 hown7 _ _
          have HNX : Hid (Cl9 w w7 s N k 0 v7) := Lib.hid (Cl9.next HF.out (by omega) (by have := HN1.out; omega) (by have := HN3.out; omega) (by rw [HKE.out]; exact HAR.out.1) (by rw [HKE.out]; exact HAR.out.2.1) (by rw [HKE.out]; exact HAR.out.2.2) HAL hown7)
          have hgf : f < gk := by have := HF.out; omega
          have HGF : Hid (f = k + 0 - N) := Lib.hid (by have := HF.out; omega)
          clear hown7 HOW HSRC q0 x0 x1 x3 p0
          go_wp2
          go_roundg f
          case measure => omega
          case rel => exact ⟨k, 0, _, HGF.out, by go_num, rfl, rfl, HNX⟩
      · obtain ⟨k, rfl⟩ : ∃ k, m = k + 1 := ⟨m - 1, by omega⟩
        rw [rcI_main hin, Nat.add_sub_cancel] at hli
        rw [rcM_main hin, Nat.add_sub_cancel] at hlm
        rw [rcO_main hin, Nat.add_sub_cancel] at hac
        have HAR := Lib.hid (And.intro hli (And.intro hlm hac))
        obtain ⟨ad, hF, q0⟩ := HE3.out wr HKO.out.low k (by omega)
        subst hF
        generalize s.main.getD k 0 = x at q0 HAR
        have hk1 : (k : Int) < (n3 : Int) := by omega
        have hkI : (k : Int) ≤ 1048575 := by omega
        clear hmI
        have hk1N : k < n3 := by omega
        have hkiI : ¬ (kn : Int) < (i : Int) := by omega
        have hkiN : ¬ kn < i := by omega
        have hkne : (((k : Int) + 1) == 0) = false := by rw [beq_eq_false_iff_ne]; omega
        clear hli hlm hac hf hin
        go_wp2_with fail
        refine (HKN.out _).mono ?_
        rintro e w5 ⟨rfl, rfl⟩
        have HOW := Lib.hid (HKO.out.alloc HKO.out.low.size (.cells #[.int .u64 (x : Nat)] 31))
        have HSRC := Lib.hid (KV.one wr x)
        have hszA : w.heap.size ≤ (wr.alloc (.cells #[.int .u64 (x : Nat)] 31)).heap.size := HOW.out.low.size
        go_wp2_with (at_builtin; refine wpList_append_kv rfl (.tmp 19) (.tmp 27) rfl w.heap.size (by kernel_rfl) (by kernel_rfl) v6 acc rfl HOW.out _ [x] rfl HSRC.out (by simp; omega) hszA ?_)
        intro v7 w7 hown7 _ _
        have HNX : Hid (Cl9 w w7 s N i k v7) := Lib.hid (Cl9.next HF.out (by omega) (by have := HN1.out; omega) (by have := HN3.out; omega) (by rw [HKE.out]; exact HAR.out.1) (by rw [HKE.out]; exact HAR.out.2.1) (by rw [HKE.out]; exact HAR.out.2.2) HAL hown7)
        have hgf : f < gk := by have := HF.out; omega
        have HGF : Hid (f = i + k - N) := Lib.hid (by have := HF.out; omega)
        clear hown7 HOW HSRC q0 x0 x1 x3 p0
        go_wp2
        go_roundg f
        case measure => omega
        case rel => exact ⟨i, k, _, HGF.out, rfl, by go_num, rfl, HNX⟩
    · have hgtI : (i : Int) + (m : Int) ≤ (N : Int) := by omega
      rw [show i + m - N = 0 by omega] at hac hli hlm
      have HE : Hid (s.li N = i ∧ s.lm N = m ∧ s.shrOut N = acc) := Lib.hid ⟨hli.symm, hlm.symm, by rw [← hac]; simp [rcO]⟩
      have HCC := Lib.hid (HCUT.out wr i m HKO.out.low hle.1 hle.2)
      clear hac hli hlm hgt hi
      go_wp2_with fail
      refine HCC.out.mono ?_
      rintro e w5 ⟨v1, v2, v3, rfl, hx5, hk5⟩
      have HX5 := Lib.hid hx5
      have HO5 := Lib.hid (hk5 _ _ HKO.out.kv)
      clear hx5 hk5 HCC x0 x1 x3 p0
      go_wp2
      try rw [Exit.noGoto_ret]
      go_ret
      refine ⟨v6, v1, v2, v3, rfl, ?_, ?_⟩
      · have h := HX5.out
        rw [← HE.out.1, ← HE.out.2.1] at h
        exact h
      · rw [HE.out.2.2]
        exact HO5.out
theorem reclaim9_walk {w0 : World} {b r g N : Nat} (hX : Bx9 w0 w PT9 b r s u1 u2 u3) (hg : w.heap[g]? = some (.cells (reC b) 61 (0, 0))) (h1 : s.inn.length ≤ 1048576) (h2 : s.out.length ≤ 1048576) (h3 : s.main.length ≤ 1048576) (hc : s.c ≤ 1048576) (hN : N ≤ 1048576) :
    Calls Tryz.prog 48 #[.int .i64 (N : Nat), .pointer (some ⟨g, 0, none⟩)] w fun e w' => ∃ o v1 v2 v3, e = .returned o ∧ Bx9 w0 w' PT9 b r (s.shr N) v1 v2 v3 ∧ KV w' o (s.shrOut N) := by
  rcases Nat.eq_zero_or_pos N with rfl | h
  · exact reclaim9_zero hX hg h1 h2 h3 hc
  · exact reclaim9_pos hX hg h1 h2 h3 hc hN h
end
set_option maxRecDepth 8000
section
variable {w : World} {u1 u2 u3 : Value} {s : L9}
set_option maxHeartbeats 500000 in
theorem p9admit_walk (hs : St9 w s u1 u2 u3) (ok : s.Ok) (k : Nat) : Calls Tryz.prog 10 #[.agg (l9C s.c u1 u2 u3), .int .u64 (k : Nat)] w (P9o w (s.adm k) (s.admitOut k)) := by
  obtain ⟨F1, n1, d1, rfl⟩ := hs.form1
  obtain ⟨F2, n2, d2, rfl⟩ := hs.form2
  obtain ⟨F3, n3, d3, rfl⟩ := hs.form3
  have HX0 := Lib.hid (Bx9.start w PT9 (by decide) hs)
  have KH := Lib.hid (p9has_walk HX0.out.st ok k)
  have KW := Lib.hid (fun (W : World) (hb : Below w.heap.size w W) => owned9_walk (hs.below hb) ok)
  have hpos := ok.pos
  have hcap := ok.cap
  unfold L9.adm L9.admitOut
  have HCL : Hid (∀ (W : World) (b r g : Nat) (v1 v2 v3 : Value), Bx9 w W PT9 b r (s.forget k) v1 v2 v3 → W.heap[g]? = some (.cells (reC b) 61 (0, 0)) → Calls Tryz.prog 48 #[.int .i64 ((s.c - 1 : Nat) : Int), .pointer (some ⟨g, 0, none⟩)] W fun e w' => ∃ o v1 v2 v3, e = .returned o ∧ Bx9 w w' PT9 b r ((s.forget k).shr (s.c - 1)) v1 v2 v3 ∧ KV w' o ((s.forget k).shrOut (s.c - 1))) := Lib.hid (fun W b r g v1 v2 v3 h hg => by
    have hl := ok.len
    have ho := ok.olen
    have hw := wo_len k s.out
    exact reclaim9_walk h hg (by show s.inn.length ≤ _; omega) (by show (wo k s.out).length ≤ _; omega) (by show s.main.length ≤ _; omega) hcap (by omega))
  have HTL : Hid (∀ N, ((s.forget k).shr N).inn.length ≤ 100000000 ∧ ((s.forget k).shr N).main.length ≤ 100000000) := Lib.hid (fun N => by
    have hl := ok.len
    have h1 : ((s.forget k).shr N).inn.length ≤ s.inn.length := List.length_take_le' _ _
    have h2 : ((s.forget k).shr N).main.length ≤ s.main.length := List.length_take_le' _ _
    omega)
  have hol := ok.len_out
  clear ok hs
  obtain ⟨b, hb⟩ : ∃ b, decide (k ∈ s.out) = b := ⟨_, rfl⟩
  have HBO := Lib.hid hb
  rw [hb]
  clear hb
  obtain ⟨c', hc'⟩ : ∃ c', s.c - 1 = c' := ⟨_, rfl⟩
  have hcI : (s.c : Int) - 1 = (c' : Int) := by omega
  rw [hc'] at HCL ⊢
  clear hc'
  have HLO := Lib.hid HX0.out.bo.low
  generalize hW0 : World.alloc _ (.cells z9 PT9) = W0 at HX0 KH HLO
  have HW0 := Lib.hid hW0
  clear hW0
  by_cases hin : k ∈ s.keys
  · rw [if_pos hin, if_pos hin]
    rw [decide_eq_true hin] at KH
    clear hin HCL HTL
    go_enter Tryz.func10, Tryz.ntmps10
    go_wp2_with fail
    rw [HW0.out]
    clear HW0
    refine KH.out.mono ?_
    rintro e w1 ⟨rfl, hb1⟩
    have HX1 := Lib.hid (HX0.out.step hb1)
    clear hb1 KH HX0
    obtain ⟨⟨x0, x1, x2, x3⟩, xf0, xf1, xf2, xf3⟩ := c4_at HX1.out.bo.box
    have hbb := (head_row HX1.out.bo.box).lt
    have KOW := Lib.hid (KW.out w1 HX1.out.bo.low)
    go_wp2_with fail
    refine KOW.out.mono ?_
    rintro e wc ⟨q1, q2, q3, he, hbc, hsc⟩
    obtain ⟨Fc1, nc1, dc1, rfl⟩ := hsc.form1
    obtain ⟨Fc2, nc2, dc2, rfl⟩ := hsc.form2
    obtain ⟨Fc3, nc3, dc3, rfl⟩ := hsc.form3
    have he' : e = .returned (.agg (l9C s.c (.slice Fc1 nc1 dc1) (.slice Fc2 nc2 dc2) (.slice Fc3 nc3 dc3))) := he
    subst he'
    have hbo := HX1.out.bo.step hbc
    obtain ⟨⟨y0, y1, y2, y3⟩, yf0, yf1, yf2, yf3⟩ := c4_at hbo.res
    have hrr := (head_row hbo.res).lt
    have HB2 := Lib.hid hbo
    have HSC := Lib.hid hsc
    clear hbo hsc hbc he KOW KW HX1 HLO x0 x1 x2 x3 xf0 xf1 xf2 xf3 hbb
    go_wp2
    have HO : Hid (Only [w.heap.size, w.heap.size + 1] wc ((((wc.setCell ⟨w.heap.size + 1, 0, none⟩ (.int .i64 (s.c : Nat))).setCell ⟨w.heap.size + 1, 1, none⟩ (.slice Fc1 nc1 dc1)).setCell ⟨w.heap.size + 1, 2, none⟩ (.slice Fc2 nc2 dc2)).setCell ⟨w.heap.size + 1, 3, none⟩ (.slice Fc3 nc3 dc3))) := Lib.hid (((((Only.refl _ _).setCell (by simp) _).setCell (by simp) _).setCell (by simp) _).setCell (by simp) _)
    exact bodyPost_ret (v := .tuple #[.agg (l9C s.c (.slice Fc1 nc1 dc1) (.slice Fc2 nc2 dc2) (.slice Fc3 nc3 dc3)), .slice none 0 0]) (by simp [results, Tryz.results10, go_sem, y0, y1, y2, y3]) rfl ⟨_, _, _, _, rfl, HB2.out.fin HO.out, HB2.out.st9 HO.out HSC.out, KV.nil _⟩
  · rw [if_neg hin, if_neg hin]
    rw [decide_eq_false hin] at KH
    clear hin KW
    go_enter Tryz.func10, Tryz.ntmps10
    go_wp2_with fail
    rw [HW0.out]
    clear HW0
    refine KH.out.mono ?_
    rintro e w1 ⟨rfl, hb1⟩
    have HX1 := Lib.hid (HX0.out.step hb1)
    clear hb1 KH HX0
    obtain ⟨⟨x0, x1, x2, x3⟩, xf0, xf1, xf2, xf3⟩ := c4_at HX1.out.bo.box
    have hbb := (head_row HX1.out.bo.box).lt
    have KH2 := Lib.hid (has_walk HX1.out.st.g2 hol k)
    rw [HBO.out] at KH2
    have KF := Lib.hid (without_walk HX1.out.st.g2 hol k)
    clear HBO HLO
    go_wp2_with fail
    refine KH2.out.mono ?_
    rintro e w2b ⟨rfl, rfl⟩
    clear KH2
    go_wp2_with fail
    refine KF.out.mono ?_
    rintro e va ⟨oa, rfl, ha⟩
    obtain ⟨Fa, na, da, rfl⟩ := ha.kv.form
    have hxa := HX1.out.step ha.low
    clear x0 x1 x2 x3 xf0 xf1 xf2 xf3 hbb
    obtain ⟨⟨x0, x1, x2, x3⟩, xf0, xf1, xf2, xf3⟩ := c4_at hxa.bo.box
    have hbb := (head_row hxa.bo.box).lt
    have hya := hxa.set2 ha.kv
    generalize hWa : va.setCell ⟨w.heap.size, 2, none⟩ (.slice Fa na da) = wa at hya
    have HWa := Lib.hid hWa
    have HXa := Lib.hid hya
    clear ha hWa hxa hya HX1 KF
    have HFA : Hid (Bx9 w wa PT9 w.heap.size (w.heap.size + 1) (s.forget k) (.slice F1 n1 d1) (.slice Fa na da) (.slice F3 n3 d3)) := HXa
    have KE := Lib.hid (reclaiming9_walk HFA.out)
    clear HXa
    go_wp2_with fail
    rw [HWa.out]
    clear HWa
    refine KE.out.mono ?_
    rintro e w3 ⟨g, rfl, hx3, hg3⟩
    have KC := Lib.hid (HCL.out w3 _ _ g _ _ _ hx3 hg3)
    clear x0 x1 x2 x3 xf0 xf1 xf2 xf3 hbb
    obtain ⟨⟨x0, x1, x2, x3⟩, xf0, xf1, xf2, xf3⟩ := c4_at hx3.bo.box
    have hbb := (head_row hx3.bo.box).lt
    have hcs : (s.forget k).c = s.c := rfl
    rw [hcs] at x0
    clear hx3 hg3 KE HFA HCL hcs
    go_wp2_with fail
    refine KC.out.mono ?_
    rintro e w4 ⟨ob, v1, v2, v3, rfl, hx4, ho4⟩
    obtain ⟨Fp1, np1, dp1, rfl⟩ := hx4.st.form1
    obtain ⟨Fp2, np2, dp2, rfl⟩ := hx4.st.form2
    obtain ⟨Fp3, np3, dp3, rfl⟩ := hx4.st.form3
    have hcc : ((s.forget k).shr c').c = s.c := rfl
    obtain ⟨hlt1, hlt3⟩ := HTL.out c'
    clear x0 x1 x2 x3 xf0 xf1 xf2 xf3 hbb KC HTL
    generalize (s.forget k).shr c' = t at *
    generalize (s.forget k).shrOut c' = out at *
    obtain ⟨tc, ti, tO, tm⟩ := t
    dsimp only at hcc hlt1 hlt3
    subst hcc
    have HXp := Lib.hid hx4
    have HOB := Lib.hid ho4
    obtain ⟨⟨x0, x1, x2, x3⟩, xf0, xf1, xf2, xf3⟩ := c4_at hx4.bo.box
    dsimp only at x0
    have hbb := (head_row hx4.bo.box).lt
    clear hx4 ho4
    cases b
    · have KR := Lib.hid (kfront_walk HXp.out.st.g1 hlt1 k)
      go_wp2_with fail
      refine KR.out.mono ?_
      rintro e vf ⟨of, rfl, hf⟩
      obtain ⟨Ff, nf, df, rfl⟩ := hf.kv.form
      have hxf := HXp.out.step hf.low
      clear x0 x1 x2 x3 xf0 xf1 xf2 xf3 hbb
      obtain ⟨⟨x0, x1, x2, x3⟩, xf0, xf1, xf2, xf3⟩ := c4_at hxf.bo.box
      have hbb := (head_row hxf.bo.box).lt
      have hyf := hxf.set1 hf.kv
      have HOF := Lib.hid (hxf.kv (i := 1) (x := .slice Ff nf df) (HOB.out.below hf.low))
      obtain ⟨⟨y0, y1, y2, y3⟩, yf0, yf1, yf2, yf3⟩ := c4_at hxf.bo.res
      have hrr := (head_row hxf.bo.res).lt
      have HXf := Lib.hid hyf
      clear hf hxf hyf HXp KR HOB
      have hd := HXf.out.doneo HOF.out
      have HD := Lib.hid hd
      clear hd HXf HOF
      go_wp2
      exact bodyPost_ret (v := .tuple #[.agg (l9C s.c (.slice Ff nf df) (.slice Fp2 np2 dp2) (.slice Fp3 np3 dp3)), ob]) (by simp [results, Tryz.results10, go_sem, y0, y1, y2, y3]) rfl HD.out
    · have KR := Lib.hid (kfront_walk HXp.out.st.g3 hlt3 k)
      go_wp2_with fail
      refine KR.out.mono ?_
      rintro e vf ⟨of, rfl, hf⟩
      obtain ⟨Ff, nf, df, rfl⟩ := hf.kv.form
      have hxf := HXp.out.step hf.low
      clear x0 x1 x2 x3 xf0 xf1 xf2 xf3 hbb
      obtain ⟨⟨x0, x1, x2, x3⟩, xf0, xf1, xf2, xf3⟩ := c4_at hxf.bo.box
      have hbb := (head_row hxf.bo.box).lt
      have hyf := hxf.set3 hf.kv
      have HOF := Lib.hid (hxf.kv (i := 3) (x := .slice Ff nf df) (HOB.out.below hf.low))
      obtain ⟨⟨y0, y1, y2, y3⟩, yf0, yf1, yf2, yf3⟩ := c4_at hxf.bo.res
      have hrr := (head_row hxf.bo.res).lt
      have HXf := Lib.hid hyf
      clear hf hxf hyf HXp KR HOB
      have hd := HXf.out.doneo HOF.out
      have HD := Lib.hid hd
      clear hd HXf HOF
      go_wp2
      exact bodyPost_ret (v := .tuple #[.agg (l9C s.c (.slice Fp1 np1 dp1) (.slice Fp2 np2 dp2) (.slice Ff nf df)), ob]) (by simp [results, Tryz.results10, go_sem, y0, y1, y2, y3]) rfl HD.out
set_option maxHeartbeats 500000 in
theorem p9resize_walk (hs : St9 w s u1 u2 u3) (ok : s.Ok) (n : Int) (hn1 : -9223372036854775808 ≤ n) (hn2 : n ≤ 9223372036854775807) : Calls Tryz.prog 12 #[.agg (l9C s.c u1 u2 u3), .int .i64 n] w (P9o w (s.resize n) (s.resizeOut n)) := by
  obtain ⟨F1, n1, d1, rfl⟩ := hs.form1
  obtain ⟨F2, n2, d2, rfl⟩ := hs.form2
  obtain ⟨F3, n3, d3, rfl⟩ := hs.form3
  have HX0 := Lib.hid (Bx9.start w PT9 (by decide) hs)
  have KC := Lib.hid (bounded9_walk (w := (w.alloc (.cells (l9C s.c (.slice F1 n1 d1) (.slice F2 n2 d2) (.slice F3 n3 d3)) PT9)).alloc (.cells z9 PT9)) n hn1 hn2)
  have HCP := Lib.hid (capI_pos n)
  unfold L9.resize L9.resizeOut
  obtain ⟨c', hc'⟩ : ∃ c', capI n = c' := ⟨_, rfl⟩
  rw [hc'] at KC HCP ⊢
  have HCL : Hid (∀ (W : World) (b r g : Nat) (v1 v2 v3 : Value), Bx9 w W PT9 b r (s.sized c') v1 v2 v3 → W.heap[g]? = some (.cells (reC b) 61 (0, 0)) → Calls Tryz.prog 48 #[.int .i64 (c' : Nat), .pointer (some ⟨g, 0, none⟩)] W fun e w' => ∃ o v1 v2 v3, e = .returned o ∧ Bx9 w w' PT9 b r ((s.sized c').shr c') v1 v2 v3 ∧ KV w' o ((s.sized c').shrOut c')) := Lib.hid (fun W b r g v1 v2 v3 h hg => by
    have hl := ok.len
    have ho := ok.olen
    have hcap := ok.cap
    exact reclaim9_walk h hg (by show s.inn.length ≤ _; omega) (by show s.out.length ≤ _; omega) (by show s.main.length ≤ _; omega) HCP.out.2 HCP.out.2)
  have hc2 := HCP.out.2
  clear ok hs hc' HCP
  generalize hW0 : World.alloc _ (.cells z9 PT9) = W0 at HX0 KC
  have HW0 := Lib.hid hW0
  clear hW0
  go_enter Tryz.func12, Tryz.ntmps12
  go_wp2_with fail
  rw [HW0.out]
  clear HW0
  refine KC.out.mono ?_
  rintro e w1 ⟨rfl, rfl⟩
  obtain ⟨⟨x0, x1, x2, x3⟩, xf0, xf1, xf2, xf3⟩ := c4_at HX0.out.bo.box
  have hbb := (head_row HX0.out.bo.box).lt
  have hy := HX0.out.set0 c'
  generalize hWa : W0.setCell ⟨w.heap.size, 0, none⟩ (.int .i64 (c' : Nat)) = wa at hy
  have HWa := Lib.hid hWa
  have HFA : Hid (Bx9 w wa PT9 w.heap.size (w.heap.size + 1) (s.sized c') (.slice F1 n1 d1) (.slice F2 n2 d2) (.slice F3 n3 d3)) := Lib.hid hy
  have KE := Lib.hid (reclaiming9_walk HFA.out)
  clear hWa hy HX0 KC
  go_wp2_with fail
  rw [HWa.out]
  clear HWa
  refine KE.out.mono ?_
  rintro e w3 ⟨g, rfl, hx3, hg3⟩
  have KF := Lib.hid (HCL.out w3 _ _ g _ _ _ hx3 hg3)
  clear x0 x1 x2 x3 xf0 xf1 xf2 xf3 hbb
  obtain ⟨⟨x0, x1, x2, x3⟩, xf0, xf1, xf2, xf3⟩ := c4_at hx3.bo.box
  have hbb := (head_row hx3.bo.box).lt
  have hcs : (s.sized c').c = c' := rfl
  rw [hcs] at x0
  clear hx3 hg3 KE HFA HCL hcs
  go_wp2_with fail
  refine KF.out.mono ?_
  rintro e w4 ⟨ob, v1, v2, v3, rfl, hx4, ho4⟩
  obtain ⟨Fp1, np1, dp1, rfl⟩ := hx4.st.form1
  obtain ⟨Fp2, np2, dp2, rfl⟩ := hx4.st.form2
  obtain ⟨Fp3, np3, dp3, rfl⟩ := hx4.st.form3
  have HD := Lib.hid (hx4.doneo ho4)
  clear x0 x1 x2 x3 xf0 xf1 xf2 xf3 hbb KF
  obtain ⟨⟨x0, x1, x2, x3⟩, xf0, xf1, xf2, xf3⟩ := c4_at hx4.bo.box
  have hbb := (head_row hx4.bo.box).lt
  obtain ⟨⟨y0, y1, y2, y3⟩, yf0, yf1, yf2, yf3⟩ := c4_at hx4.bo.res
  have hrr := (head_row hx4.bo.res).lt
  have hcs : ((s.sized c').shr c').c = c' := rfl
  rw [hcs] at x0 HD
  clear hx4 ho4 hcs
  go_wp2
  exact bodyPost_ret (v := .tuple #[.agg (l9C c' (.slice Fp1 np1 dp1) (.slice Fp2 np2 dp2) (.slice Fp3 np3 dp3)), ob]) (by simp [results, Tryz.results12, go_sem, y0, y1, y2, y3]) rfl HD.out
end
theorem pol9Ok : Pol9Ok where
  new := fun _ n h1 h2 => p9new_walk n h1 h2
  touch := fun hs ok k _ => p9touch_walk hs ok k
  adm := fun hs ok k _ => p9admit_walk hs ok k
  drop := fun hs ok k _ => p9drop_walk hs ok k
  resize := fun hs ok n h1 h2 => p9resize_walk hs ok n h1 h2
  has := fun hs ok k _ => p9has_walk hs ok k
  keys := fun hs ok => p9keys_walk hs ok
  ghosts := fun hs ok => p9ghosts_walk hs ok
end Go.Proofs.YtcjcddlflincdaaGreat
