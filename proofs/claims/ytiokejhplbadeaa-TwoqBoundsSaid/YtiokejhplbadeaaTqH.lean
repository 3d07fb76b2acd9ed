/- Two queues: how keys leave, told by a closure. -/
import Derived.Test.YtiokejhplbadeaaTqY
import Derived.BigQuiet
import Derived.WalkMore
namespace Go.Proofs.Ytiokejhplbadeaa
open Go Go.RowKit Go.Deep

/- The state lies in the box b, the box g points at it. -/
abbrev reC (b : Nat) : Array Value := #[.pointer (some ⟨b, 0, none⟩)]
section
variable {w : World} {u1 u2 u3 : Value} {s : L9}
theorem reclaiming_walk (b : Nat) : Calls Try.prog 68 #[.pointer (some ⟨b, 0, none⟩)] w fun e w' =>
    e = .returned (.func (.func 81) #[] #[.pointer (some ⟨w.heap.size, 0, none⟩)]) ∧ w' = w.alloc (.cells (reC b) 95) := by
  go_enter Try.func68, Try.ntmps68
  go_wp2
  go_ret
  exact ⟨rfl, rfl⟩
theorem reclaiming9_walk {w0 : World} {b r : Nat} (h : Bx9 w0 w PT9 b r s u1 u2 u3) :
    Calls Try.prog 68 #[.pointer (some ⟨b, 0, none⟩)] w fun e w' => ∃ g, e = .returned (.func (.func 81) #[] #[.pointer (some ⟨g, 0, none⟩)]) ∧ Bx9 w0 w' PT9 b r s u1 u2 u3 ∧
      w'.heap[g]? = some (.cells (reC b) 95 (0, 0)) :=
  (reclaiming_walk b).mono (by
    rintro e w' ⟨rfl, rfl⟩
    exact ⟨_, rfl, h.step (low_one _ _), heap_alloc_new _ _⟩)
/- Where the closure's loop stands. -/
structure Cl9 (w wr : World) (s : L9) (N i m : Nat) (v : Value) : Prop where
  ko : ∃ acc, KO w.heap.size w wr v acc ∧ acc ++ rcO (kin9 s.c) s.inn s.main (i + m - N) i m = s.shrOut N ∧ acc.length ≤ 100000000
  li : rcI (kin9 s.c) (i + m - N) i m = s.li N
  lm : rcM (kin9 s.c) (i + m - N) i m = s.lm N
  le : i ≤ s.inn.length ∧ m ≤ s.main.length
theorem Cl9.next {w7 : World} {N i m f : Nat} {v7 : Value} {i' m' x : Nat} {acc : List Nat} (hf : i + m - N = f + 1) (hs : i' + m' + 1 = i + m) (hi : i' ≤ s.inn.length) (hm : m' ≤ s.main.length)
    (li : rcI (kin9 s.c) f i' m' = s.li N) (lm : rcM (kin9 s.c) f i' m' = s.lm N) (lo : acc ++ (x :: rcO (kin9 s.c) s.inn s.main f i' m') = s.shrOut N) (hal : acc.length ≤ 3000000) (ho : KO w.heap.size w w7 v7 (acc ++ [x])) : Cl9 w w7 s N i' m' v7 := by
  have e : i' + m' - N = f := by omega
  exact ⟨⟨acc ++ [x], ho, by rw [e, List.append_assoc]; exact lo, by simp; omega⟩, by rw [e]; exact li, by rw [e]; exact lm, hi, hm⟩
set_option maxRecDepth 2000 in
set_option maxHeartbeats 4000000 in
theorem reclaim9_zero {w0 : World} {b r g : Nat} (hX : Bx9 w0 w PT9 b r s u1 u2 u3) (hg : w.heap[g]? = some (.cells (reC b) 95 (0, 0))) (h1 : s.inn.length ≤ 1048576) (h2 : s.out.length ≤ 1048576) (h3 : s.main.length ≤ 1048576) (hc : s.c ≤ 1048576) :
    Calls Try.prog 81 #[.int .i64 0, .pointer (some ⟨g, 0, none⟩)] w fun e w' => ∃ o v1 v2 v3, e = .returned o ∧ Bx9 w0 w' PT9 b r (s.shr 0) v1 v2 v3 ∧ KV w' o (s.shrOut 0) := by
  have e0 : s.inn.length + s.main.length - 0 = s.many 0 := rfl
  have HI0 : Hid (∀ W, Below w.heap.size w W → Cl9 w W s 0 s.inn.length s.main.length (.slice none 0 0)) := Lib.hid (fun W hb => ⟨⟨[], KO.nil hb, by rw [e0]; rfl, by simp⟩, by rw [e0]; rfl, by rw [e0]; rfl, Nat.le_refl _, Nat.le_refl _⟩)
  have HX := Lib.hid hX
  have HG := Lib.hid hg
  have HKN := Lib.hid (fun W => kin9_walk (w := W) s.c hc)
  have HCUT : Hid (∀ W i m, Below w.heap.size w W → i ≤ s.inn.length → m ≤ s.main.length → Calls Try.prog 83 #[.pointer (some ⟨b, 0, none⟩), .int .i64 (i : Nat), .int .i64 (m : Nat)] W (Cut9 w0 W b r ⟨s.c, s.inn.take i, (s.inn.drop i ++ s.out).take (s.c / 2), s.main.take m⟩)) :=
    Lib.hid (fun W i m hb hi hm => cut9_walk (HX.out.step hb) hi hm h1 h2 h3 hc)
  obtain ⟨F1, d1, rfl, -⟩ := hX.st.g1.mem
  obtain ⟨F2, n2, d2, rfl⟩ := hX.st.form2
  obtain ⟨F3, d3, rfl, -⟩ := hX.st.g3.mem
  have hgl := (head_row hg).lt
  have HLD : Hid (∀ W, Below w.heap.size w W → (W.cell? ⟨b, 0, none⟩ = some (.int .i64 (s.c : Nat)) ∧ W.cell? ⟨b, 1, none⟩ = some (.slice F1 s.inn.length d1) ∧ W.cell? ⟨b, 3, none⟩ = some (.slice F3 s.main.length d3)) ∧ W.cell? ⟨g, 0, none⟩ = some (.pointer (some ⟨b, 0, none⟩))) := Lib.hid (fun W hb => by
    obtain ⟨⟨x0, x1, x2, x3⟩, _⟩ := c4_at (HX.out.step hb).bo.box
    exact ⟨⟨x0, x1, x3⟩, (head_row ((hb.block g hgl).trans HG.out)).cell (i := 0) (by simp)⟩)
  have HE1 : Hid (∀ W, Below w.heap.size w W → ∀ k, k < s.inn.length → ∃ ad, F1 = some ad ∧ W.cell? (ad.add k) = some (.int .u64 (s.inn.getD k 0 : Nat))) := Lib.hid (fun W hb k hk => by
    obtain ⟨F', c', e, _, _, h⟩ := (HX.out.step hb).st.g1.mem
    injection e with e1 _ _
    obtain ⟨ad, e2, _, h4⟩ := h k hk
    refine ⟨ad, e1.trans e2, ?_⟩
    rw [h4, List.getD_eq_getElem?_getD, List.getElem?_eq_getElem hk]
    rfl)
  have HE3 : Hid (∀ W, Below w.heap.size w W → ∀ k, k < s.main.length → ∃ ad, F3 = some ad ∧ W.cell? (ad.add k) = some (.int .u64 (s.main.getD k 0 : Nat))) := Lib.hid (fun W hb k hk => by
    obtain ⟨F', c', e, _, _, h⟩ := (HX.out.step hb).st.g3.mem
    injection e with e1 _ _
    obtain ⟨ad, e2, _, h4⟩ := h k hk
    refine ⟨ad, e1.trans e2, ?_⟩
    rw [h4, List.getD_eq_getElem?_getD, List.getElem?_eq_getElem hk]
    rfl)
  obtain ⟨⟨x0, x1, x3⟩, p0⟩ := HLD.out w (Below.refl _ _)
  obtain ⟨n1, hn1⟩ : ∃ n, s.inn.length = n := ⟨_, rfl⟩
  obtain ⟨n3, hn3⟩ : ∃ n, s.main.length = n := ⟨_, rfl⟩
  have HN1 := Lib.hid hn1
  have HN3 := Lib.hid hn3
  rw [hn1] at h1 x1 HI0 HLD HE1 HCUT
  rw [hn3] at h3 x3 HI0 HLD HE3 HCUT
  obtain ⟨kn, hkn⟩ : ∃ kn, kin9 s.c = kn := ⟨_, rfl⟩
  have HKE := Lib.hid hkn
  rw [hkn] at HKN
  clear hX hg hn1 hn3 e0 hkn HX HG h2
  go_enter Try.func81, Try.ntmps81
  go_wp2_with fail
  go_step3
  go_wp2_with fail
  go_quiet (fail)
  go_wp2_with fail
  go_step3
  go_wp2_with fail
  have HIW := Lib.hid (HI0.out (w.drewN nq) (below_drewn (Below.refl _ _) _))
  generalize w.drewN nq = W0 at HIW ⊢
  clear x0 x1 x3 p0 HI0
  go_loopg [4, 5, 6] (n1 + n3 - 0) (fun gg s4 s5 s6 wr => ∃ (i m : Nat) (v6 : Value), gg = i + m - 0 ∧ s4 = .int .i64 (i : Nat) ∧ s5 = .int .i64 (m : Nat) ∧ v6 = s6 ∧ Hid (Cl9 w wr s 0 i m v6))
  case atStart => exact ⟨n1, n3, _, rfl, rfl, rfl, rfl, HIW⟩
  case round =>
    clear HIW
    obtain ⟨i, m, v6, hi, rfl, rfl, rfl, HI⟩ := hrel
    obtain ⟨acc, hko, hac, hal⟩ := HI.out.ko
    have hli := HI.out.li
    have hlm := HI.out.lm
    have hle := HI.out.le
    rw [HN1.out, HN3.out] at hle
    rw [HKE.out] at hac hli hlm
    have HKO := Lib.hid hko
    have hiI : (i : Int) ≤ 1048576 := by omega
    have hmI : (m : Int) ≤ 1048576 := by omega
    obtain ⟨⟨x0, x1, x3⟩, p0⟩ := HLD.out wr hko.low
    clear hko HI
    by_cases hgt : 0 < i + m
    · have hgtI : ¬ (i : Int) + (m : Int) ≤ 0 := by omega
      obtain ⟨f, hf⟩ : ∃ f, i + m - 0 = f + 1 := ⟨i + m - 0 - 1, by omega⟩
      rw [hf] at hac hli hlm
      have HAL : acc.length ≤ 3000000 := by
        have h := congrArg List.length hac
        rw [List.length_append, rcO_len, L9.shrOut_len] at h
        have := s.many_le 0
        have := HN1.out
        have := HN3.out
        omega
      have HF := Lib.hid hf
      by_cases hin : kn < i ∨ m = 0
      · obtain ⟨k, rfl⟩ : ∃ k, i = k + 1 := ⟨i - 1, by omega⟩
        rw [rcI_in hin, Nat.add_sub_cancel] at hli
        rw [rcM_in hin, Nat.add_sub_cancel] at hlm
        rw [rcO_in hin, Nat.add_sub_cancel] at hac
        have HAR := Lib.hid (And.intro hli (And.intro hlm hac))
        obtain ⟨ad, hF, q0⟩ := HE1.out wr HKO.out.low k (by omega)
        subst hF
        generalize s.inn.getD k 0 = x at q0 HAR
        have hk1 : (k : Int) < (n1 : Int) := by omega
        have hkI : (k : Int) ≤ 1048575 := by omega
        clear hiI
        have hk1N : k < n1 := by omega
        clear hli hlm hac hf
        by_cases hki : kn < k + 1
        · have hkiI : (kn : Int) < (k : Int) + 1 := by omega
          clear hin
          go_wp2_with fail
          refine (HKN.out _).mono ?_
          rintro e w5 ⟨rfl, rfl⟩
          have HOW := Lib.hid (HKO.out.alloc HKO.out.low.size (.cells #[.int .u64 (x : Nat)] 32))
          have HSRC := Lib.hid (KV.one wr x)
          have hszA : w.heap.size ≤ (wr.alloc (.cells #[.int .u64 (x : Nat)] 32)).heap.size := HOW.out.low.size
          go_wp2_with (at_builtin; refine wpList_append_kv rfl (.tmp 50) (.tmp 58) rfl w.heap.size (by kernel_rfl) (by kernel_rfl) v6 acc rfl HOW.out _ [x] rfl HSRC.out (by simp; omega) hszA ?_)
          intro v7 w7 hown7 _ _
          have HNX : Hid (Cl9 w w7 s 0 k m v7) := Lib.hid (Cl9.next HF.out (by omega) (by have := HN1.out; omega) (by have := HN3.out; omega) (by rw [HKE.out]; exact HAR.out.1) (by rw [HKE.out]; exact HAR.out.2.1) (by rw [HKE.out]; exact HAR.out.2.2) HAL hown7)
          have hgf : f < gk := by have := HF.out; omega
          have HGF : Hid (f = k + m - 0) := Lib.hid (by have := HF.out; omega)
          clear hown7 HOW HSRC q0 x0 x1 x3 p0
          go_wp2
          go_roundg f
          case measure => omega
          case rel => exact ⟨k, m, _, HGF.out, by go_num, rfl, rfl, HNX⟩
        · have hkiI : ¬ (kn : Int) < (k : Int) + 1 := by omega
          obtain rfl : m = 0 := by omega
          clear hin
          go_wp2_with fail
          refine (HKN.out _).mono ?_
          rintro e w5 ⟨rfl, rfl⟩
          have HOW := Lib.hid (HKO.out.alloc HKO.out.low.size (.cells #[.int .u64 (x : Nat)] 32))
          have HSRC := Lib.hid (KV.one wr x)
          have hszA : w.heap.size ≤ (wr.alloc (.cells #[.int .u64 (x : Nat)] 32)).heap.size := HOW.out.low.size
          go_wp2_with (at_builtin; refine wpList_append_kv rfl (.tmp 50) (.tmp 58) rfl w.heap.size (by kernel_rfl) (by kernel_rfl) v6 acc rfl HOW.out _ [x] rfl HSRC.out (by simp; omega) hszA ?_)
          intro v7 w7 hown7 _ _
          have HNX : Hid (Cl9 w w7 s 0 k 0 v7) := Lib.hid (Cl9.next HF.out (by omega) (by have := HN1.out; omega) (by have := HN3.out; omega) (by rw [HKE.out]; exact HAR.out.1) (by rw [HKE.out]; exact HAR.out.2.1) (by rw [HKE.out]; exact HAR.out.2.2) HAL hown7)
          have hgf : f < gk := by have := HF.out; omega
          have HGF : Hid (f = k + 0 - 0) := Lib.hid (by have := HF.out; omega)
          clear hown7 HOW HSRC q0 x0 x1 x3 p0
          go_wp2
          go_roundg f
          case measure => omega
          case rel => exact ⟨k, 0, _, HGF.out, by go_num, rfl, rfl, HNX⟩
      · obtain ⟨k, rfl⟩ : ∃ k, m = k + 1 := ⟨m - 1, by omega⟩
        rw [rcI_main hin, Nat.add_sub_cancel] at hli
        rw [rcM_main hin, Nat.add_sub_cancel] at hlm
        rw [rcO_main hin, Nat.add_sub_cancel] at hac
        have HAR := Lib.hid (And.intro hli (And.intro hlm hac))
        obtain ⟨ad, hF, q0⟩ := HE3.out wr HKO.out.low k (by omega)
        subst hF
        generalize s.main.getD k 0 = x at q0 HAR
        have hk1 : (k : Int) < (n3 : Int) := by omega
        have hkI : (k : Int) ≤ 1048575 := by omega
        clear hmI
        have hk1N : k < n3 := by omega
        have hkiI : ¬ (kn : Int) < (i : Int) := by omega
        have hkiN : ¬ kn < i := by omega
        have hkne : (((k : Int) + 1) == 0) = false := by rw [beq_eq_false_iff_ne]; omega
        clear hli hlm hac hf hin
        go_wp2_with fail
        refine (HKN.out _).mono ?_
        rintro e w5 ⟨rfl, rfl⟩
        have HOW := Lib.hid (HKO.out.alloc HKO.out.low.size (.cells #[.int .u64 (x : Nat)] 32))
        have HSRC := Lib.hid (KV.one wr x)
        have hszA : w.heap.size ≤ (wr.alloc (.cells #[.int .u64 (x : Nat)] 32)).heap.size := HOW.out.low.size
        go_wp2_with (at_builtin; refine wpList_append_kv rfl (.tmp 19) (.tmp 27) rfl w.heap.size (by kernel_rfl) (by kernel_rfl) v6 acc rfl HOW.out _ [x] rfl HSRC.out (by simp; omega) hszA ?_)
        intro v7 w7 hown7 _ _
        have HNX : Hid (Cl9 w w7 s 0 i k v7) := Lib.hid (Cl9.next HF.out (by omega) (by have := HN1.out; omega) (by have := HN3.out; omega) (by rw [HKE.out]; exact HAR.out.1) (by rw [HKE.out]; exact HAR.out.2.1) (by rw [HKE.out]; exact HAR.out.2.2) HAL hown7)
        have hgf : f < gk := by have := HF.out; omega
        have HGF : Hid (f = i + k - 0) := Lib.hid (by have := HF.out; omega)
        clear hown7 HOW HSRC q0 x0 x1 x3 p0
        go_wp2
        go_roundg f
        case measure => omega
        case rel => exact ⟨i, k, _, HGF.out, rfl, by go_num, rfl, HNX⟩
    · have hgtI : (i : Int) + (m : Int) ≤ 0 := by omega
      rw [show i + m - 0 = 0 by omega] at hac hli hlm
      have HE : Hid (s.li 0 = i ∧ s.lm 0 = m ∧ s.shrOut 0 = acc) := Lib.hid ⟨hli.symm, hlm.symm, by rw [← hac]; simp [rcO]⟩
      have HCC := Lib.hid (HCUT.out wr i m HKO.out.low hle.1 hle.2)
      clear hac hli hlm hgt hi
      go_wp2_with fail
      refine HCC.out.mono ?_
      rintro e w5 ⟨v1, v2, v3, rfl, hx5, hk5⟩
      have HX5 := Lib.hid hx5
      have HO5 := Lib.hid (hk5 _ _ HKO.out.kv)
      clear hx5 hk5 HCC x0 x1 x3 p0
      go_wp2
      try rw [Exit.noGoto_ret]
      go_ret
      refine ⟨v6, v1, v2, v3, rfl, ?_, ?_⟩
      · have h := HX5.out
        rw [← HE.out.1, ← HE.out.2.1] at h
        exact h
      · rw [HE.out.2.2]
        exact HO5.out
set_option maxRecDepth 2000 in
set_option maxHeartbeats 4000000 in
theorem reclaim9_pos {w0 : World} {b r g N : Nat} (hX : Bx9 w0 w PT9 b r s u1 u2 u3) (hg : w.heap[g]? = some (.cells (reC b) 95 (0, 0))) (h1 : s.inn.length ≤ 1048576) (h2 : s.out.length ≤ 1048576) (h3 : s.main.length ≤ 1048576) (hc : s.c ≤ 1048576) (hN : N ≤ 1048576) (hN0 : 0 < N) :
    Calls Try.prog 81 #[.int .i64 (N : Nat), .pointer (some ⟨g, 0, none⟩)] w fun e w' => ∃ o v1 v2 v3, e = .returned o ∧ Bx9 w0 w' PT9 b r (s.shr N) v1 v2 v3 ∧ KV w' o (s.shrOut N) := by
  have e0 : s.inn.length + s.main.length - N = s.many N := rfl
  have HI0 : Hid (∀ W, Below w.heap.size w W → Cl9 w W s N s.inn.length s.main.length (.slice none 0 0)) := Lib.hid (fun W hb => ⟨⟨[], KO.nil hb, by rw [e0]; rfl, by simp⟩, by rw [e0]; rfl, by rw [e0]; rfl, Nat.le_refl _, Nat.le_refl _⟩)
  have HX := Lib.hid hX
  have HG := Lib.hid hg
  have HKN := Lib.hid (fun W => kin9_walk (w := W) s.c hc)
  have HCUT : Hid (∀ W i m, Below w.heap.size w W → i ≤ s.inn.length → m ≤ s.main.length → Calls Try.prog 83 #[.pointer (some ⟨b, 0, none⟩), .int .i64 (i : Nat), .int .i64 (m : Nat)] W (Cut9 w0 W b r ⟨s.c, s.inn.take i, (s.inn.drop i ++ s.out).take (s.c / 2), s.main.take m⟩)) :=
    Lib.hid (fun W i m hb hi hm => cut9_walk (HX.out.step hb) hi hm h1 h2 h3 hc)
  obtain ⟨F1, d1, rfl, -⟩ := hX.st.g1.mem
  obtain ⟨F2, n2, d2, rfl⟩ := hX.st.form2
  obtain ⟨F3, d3, rfl, -⟩ := hX.st.g3.mem
  have hgl := (head_row hg).lt
  have HLD : Hid (∀ W, Below w.heap.size w W → (W.cell? ⟨b, 0, none⟩ = some (.int .i64 (s.c : Nat)) ∧ W.cell? ⟨b, 1, none⟩ = some (.slice F1 s.inn.length d1) ∧ W.cell? ⟨b, 3, none⟩ = some (.slice F3 s.main.length d3)) ∧ W.cell? ⟨g, 0, none⟩ = some (.pointer (some ⟨b, 0, none⟩))) := Lib.hid (fun W hb => by
    obtain ⟨⟨x0, x1, x2, x3⟩, _⟩ := c4_at (HX.out.step hb).bo.box
    exact ⟨⟨x0, x1, x3⟩, (head_row ((hb.block g hgl).trans HG.out)).cell (i := 0) (by simp)⟩)
  have HE1 : Hid (∀ W, Below w.heap.size w W → ∀ k, k < s.inn.length → ∃ ad, F1 = some ad ∧ W.cell? (ad.add k) = some (.int .u64 (s.inn.getD k 0 : Nat))) := Lib.hid (fun W hb k hk => by
    obtain ⟨F', c', e, _, _, h⟩ := (HX.out.step hb).st.g1.mem
    injection e with e1 _ _
    obtain ⟨ad, e2, _, h4⟩ := h k hk
    refine ⟨ad, e1.trans e2, ?_⟩
    rw [h4, List.getD_eq_getElem?_getD, List.getElem?_eq_getElem hk]
    rfl)
  have HE3 : Hid (∀ W, Below w.heap.size w W → ∀ k, k < s.main.length → ∃ ad, F3 = some ad ∧ W.cell? (ad.add k) = some (.int .u64 (s.main.getD k 0 : Nat))) := Lib.hid (fun W hb k hk => by
    obtain ⟨F', c', e, _, _, h⟩ := (HX.out.step hb).st.g3.mem
    injection e with e1 _ _
    obtain ⟨ad, e2, _, h4⟩ := h k hk
    refine ⟨ad, e1.trans e2, ?_⟩
    rw [h4, List.getD_eq_getElem?_getD, List.getElem?_eq_getElem hk]
    rfl)
  obtain ⟨⟨x0, x1, x3⟩, p0⟩ := HLD.out w (Below.refl _ _)
  obtain ⟨n1, hn1⟩ : ∃ n, s.inn.length = n := ⟨_, rfl⟩
  obtain ⟨n3, hn3⟩ : ∃ n, s.main.length = n := ⟨_, rfl⟩
  have HN1 := Lib.hid hn1
  have HN3 := Lib.hid hn3
  rw [hn1] at h1 x1 HI0 HLD HE1 HCUT
  rw [hn3] at h3 x3 HI0 HLD HE3 HCUT
  obtain ⟨kn, hkn⟩ : ∃ kn, kin9 s.c = kn := ⟨_, rfl⟩
  have HKE := Lib.hid hkn
  rw [hkn] at HKN
  clear hX hg hn1 hn3 e0 hkn HX HG h2
  go_enter Try.func81, Try.ntmps81
  go_wp2_with fail
  go_step3
  go_wp2_with fail
  go_quiet (fail)
  go_wp2_with fail
  go_step3
  go_wp2_with fail
  have HIW := Lib.hid (HI0.out (w.drewN nq) (below_drewn (Below.refl _ _) _))
  generalize w.drewN nq = W0 at HIW ⊢
  clear x0 x1 x3 p0 HI0
  go_loopg [4, 5, 6] (n1 + n3 - N) (fun gg s4 s5 s6 wr => ∃ (i m : Nat) (v6 : Value), gg = i + m - N ∧ s4 = .int .i64 (i : Nat) ∧ s5 = .int .i64 (m : Nat) ∧ v6 = s6 ∧ Hid (Cl9 w wr s N i m v6))
  case atStart => exact ⟨n1, n3, _, rfl, rfl, rfl, rfl, HIW⟩
  case round =>
    clear HIW
    obtain ⟨i, m, v6, hi, rfl, rfl, rfl, HI⟩ := hrel
    obtain ⟨acc, hko, hac, hal⟩ := HI.out.ko
    have hli := HI.out.li
    have hlm := HI.out.lm
    have hle := HI.out.le
    rw [HN1.out, HN3.out] at hle
    rw [HKE.out] at hac hli hlm
    have HKO := Lib.hid hko
    have hiI : (i : Int) ≤ 1048576 := by omega
    have hmI : (m : Int) ≤ 1048576 := by omega
    obtain ⟨⟨x0, x1, x3⟩, p0⟩ := HLD.out wr hko.low
    clear hko HI
    have hN1 : (0 : Int) < (N : Int) := by omega
    by_cases hgt : N < i + m
    · have hgtI : ¬ (i : Int) + (m : Int) ≤ (N : Int) := by omega
      obtain ⟨f, hf⟩ : ∃ f, i + m - N = f + 1 := ⟨i + m - N - 1, by omega⟩
      rw [hf] at hac hli hlm
      have HAL : acc.length ≤ 3000000 := by
        have h := congrArg List.length hac
        rw [List.length_append, rcO_len, L9.shrOut_len] at h
        have := s.many_le N
        have := HN1.out
        have := HN3.out
        omega
      have HF := Lib.hid hf
      by_cases hin : kn < i ∨ m = 0
      · obtain ⟨k, rfl⟩ : ∃ k, i = k + 1 := ⟨i - 1, by omega⟩
        rw [rcI_in hin, Nat.add_sub_cancel] at hli
        rw [rcM_in hin, Nat.add_sub_cancel] at hlm
        rw [rcO_in hin, Nat.add_sub_cancel] at hac
        have HAR := Lib.hid (And.intro hli (And.intro hlm hac))
        obtain ⟨ad, hF, q0⟩ := HE1.out wr HKO.out.low k (by omega)
        subst hF
        generalize s.inn.getD k 0 = x at q0 HAR
        have hk1 : (k : Int) < (n1 : Int) := by omega
        have hkI : (k : Int) ≤ 1048575 := by omega
        clear hiI
        have hk1N : k < n1 := by omega
        clear hli hlm hac hf
        by_cases hki : kn < k + 1
        · have hkiI : (kn : Int) < (k : Int) + 1 := by omega
          clear hin
          go_wp2_with fail
          refine (HKN.out _).mono ?_
          rintro e w5 ⟨rfl, rfl⟩
          have HOW := Lib.hid (HKO.out.alloc HKO.out.low.size (.cells #[.int .u64 (x : Nat)] 32))
          have HSRC := Lib.hid (KV.one wr x)
          have hszA : w.heap.size ≤ (wr.alloc (.cells #[.int .u64 (x : Nat)] 32)).heap.size := HOW.out.low.size
          go_wp2_with (at_builtin; refine wpList_append_kv rfl (.tmp 50) (.tmp 58) rfl w.heap.size (by kernel_rfl) (by kernel_rfl) v6 acc rfl HOW.out _ [x] rfl HSRC.out (by simp; omega) hszA ?_)
          intro v7 w7 hown7 _ _
          have HNX : Hid (Cl9 w w7 s N k m v7) := Lib.hid (Cl9.next HF.out (by omega) (by have := HN1.out; omega) (by have := HN3.out; omega) (by rw [HKE.out]; exact HAR.out.1) (by rw [HKE.out]; exact HAR.out.2.1) (by rw [HKE.out]; exact HAR.out.2.2) HAL hown7)
          have hgf : f < gk := by have := HF.out; omega
          have HGF : Hid (f = k + m - N) := Lib.hid (by have := HF.out; omega)
          clear hown7 HOW HSRC q0 x0 x1 x3 p0
          go_wp2
          go_roundg f
          case measure => omega
          case rel => exact ⟨k, m, _, HGF.out, by go_num, rfl, rfl, HNX⟩
        · have hkiI : ¬ (kn : Int) < (k : Int) + 1 := by omega
          obtain rfl : m = 0 := by omega
          clear hin
          go_wp2_with fail
          refine (HKN.out _).mono ?_
          rintro e w5 ⟨rfl, rfl⟩
          have HOW := Lib.hid (HKO.out.alloc HKO.out.low.size (.cells #[.int .u64 (x : Nat)] 32))
          have HSRC := Lib.hid (KV.one wr x)
          have hszA : w.heap.size ≤ (wr.alloc (.cells #[.int .u64 (x : Nat)] 32)).heap.size := HOW.out.low.size
          go_wp2_with (at_builtin; refine wpList_append_kv rfl (.tmp 50) (.tmp 58) rfl w.heap.size (by kernel_rfl) (by kernel_rfl) v6 acc rfl HOW.out _ [x] rfl HSRC.out (by simp; omega) hszA ?_)
          intro v7 w7 hown7 _ _
          have HNX : Hid (Cl9 w w7 s N k 0 v7) := Lib.hid (Cl9.next HF.out (by omega) (by have := HN1.out; omega) (by have := HN3.out; omega) (by rw [HKE.out]; exact HAR.out.1) (by rw [HKE.out]; exact HAR.out.2.1) (by rw [HKE.out]; exact HAR.out.2.2) HAL hown7)
          have hgf : f < gk := by have := HF.out; omega
          have HGF : Hid (f = k + 0 - N) := Lib.hid (by have := HF.out; omega)
          clear hown7 HOW HSRC q0 x0 x1 x3 p0
          go_wp2
          go_roundg f
          case measure => omega
          case rel => exact ⟨k, 0, _, HGF.out, by go_num, rfl, rfl, HNX⟩
      · obtain ⟨k, rfl⟩ : ∃ k, m = k + 1 := ⟨m - 1, by omega⟩
        rw [rcI_main hin, Nat.add_sub_cancel] at hli
        rw [rcM_main hin, Nat.add_sub_cancel] at hlm
        rw [rcO_main hin, Nat.add_sub_cancel] at hac
        have HAR := Lib.hid (And.intro hli (And.intro hlm hac))
        obtain ⟨ad, hF, q0⟩ := HE3.out wr HKO.out.low k (by omega)
        subst hF
        generalize s.main.getD k 0 = x at q0 HAR
        have hk1 : (k : Int) < (n3 : Int) := by omega
        have hkI : (k : Int) ≤ 1048575 := by omega
        clear hmI
        have hk1N : k < n3 := by omega
        have hkiI : ¬ (kn : Int) < (i : Int) := by omega
        have hkiN : ¬ kn < i := by omega
        have hkne : (((k : Int) + 1) == 0) = false := by rw [beq_eq_false_iff_ne]; omega
        clear hli hlm hac hf hin
        go_wp2_with fail
        refine (HKN.out _).mono ?_
        rintro e w5 ⟨rfl, rfl⟩
        have HOW := Lib.hid (HKO.out.alloc HKO.out.low.size (.cells #[.int .u64 (x : Nat)] 32))
        have HSRC := Lib.hid (KV.one wr x)
        have hszA : w.heap.size ≤ (wr.alloc (.cells #[.int .u64 (x : Nat)] 32)).heap.size := HOW.out.low.size
        go_wp2_with (at_builtin; refine wpList_append_kv rfl (.tmp 19) (.tmp 27) rfl w.heap.size (by kernel_rfl) (by kernel_rfl) v6 acc rfl HOW.out _ [x] rfl HSRC.out (by simp; omega) hszA ?_)
        intro v7 w7 hown7 _ _
        have HNX : Hid (Cl9 w w7 s N i k v7) := Lib.hid (Cl9.next HF.out (by omega) (by have := HN1.out; omega) (by have := HN3.out; omega) (by rw [HKE.out]; exact HAR.out.1) (by rw [HKE.out]; exact HAR.out.2.1) (by rw [HKE.out]; exact HAR.out.2.2) HAL hown7)
        have hgf : f < gk := by have := HF.out; omega
        have HGF : Hid (f = i + k - N) := Lib.hid (by have := HF.out; omega)
        clear hown7 HOW HSRC q0 x0 x1 x3 p0
        go_wp2
        go_roundg f
        case measure => omega
        case rel => exact ⟨i, k, _, HGF.out, rfl, by go_num, rfl, HNX⟩
    · have hgtI : (i : Int) + (m : Int) ≤ (N : Int) := by omega
      rw [show i + m - N = 0 by omega] at hac hli hlm
      have HE : Hid (s.li N = i ∧ s.lm N = m ∧ s.shrOut N = acc) := Lib.hid ⟨hli.symm, hlm.symm, by rw [← hac]; simp [rcO]⟩
      have HCC := Lib.hid (HCUT.out wr i m HKO.out.low hle.1 hle.2)
      clear hac hli hlm hgt hi
      go_wp2_with fail
      refine HCC.out.mono ?_
      rintro e w5 ⟨v1, v2, v3, rfl, hx5, hk5⟩
      have HX5 := Lib.hid hx5
      have HO5 := Lib.hid (hk5 _ _ HKO.out.kv)
      clear hx5 hk5 HCC x0 x1 x3 p0
      go_wp2
      try rw [Exit.noGoto_ret]
      go_ret
      refine ⟨v6, v1, v2, v3, rfl, ?_, ?_⟩
      · have h := HX5.out
        rw [← HE.out.1, ← HE.out.2.1] at h
        exact h
      · rw [HE.out.2.2]
        exact HO5.out
theorem reclaim9_walk {w0 : World} {b r g N : Nat} (hX : Bx9 w0 w PT9 b r s u1 u2 u3) (hg : w.heap[g]? = some (.cells (reC b) 95 (0, 0))) (h1 : s.inn.length ≤ 1048576) (h2 : s.out.length ≤ 1048576) (h3 : s.main.length ≤ 1048576) (hc : s.c ≤ 1048576) (hN : N ≤ 1048576) :
    Calls Try.prog 81 #[.int .i64 (N : Nat), .pointer (some ⟨g, 0, none⟩)] w fun e w' => ∃ o v1 v2 v3, e = .returned o ∧ Bx9 w0 w' PT9 b r (s.shr N) v1 v2 v3 ∧ KV w' o (s.shrOut N) := by
  rcases Nat.eq_zero_or_pos N with rfl | h
  · exact reclaim9_zero hX hg h1 h2 h3 hc
  · exact reclaim9_pos hX hg h1 h2 h3 hc hN h
end
end Go.Proofs.Ytiokejhplbadeaa
