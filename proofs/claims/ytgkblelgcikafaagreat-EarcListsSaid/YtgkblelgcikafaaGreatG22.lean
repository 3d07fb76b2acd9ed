/- Words and walks: RcH. -/
import Derived.Test.YtgkblelgcikafaaGreatG21
import Derived.BigQuiet
import Derived.WalkMore
import Derived.Deep.RegionHeld3
import Derived.Deep.RegionWith
import Derived.Deep.AppendLies
import Derived.Deep.RegionLaw
import Derived.Deep.DeepCutAuto
namespace Go.Proofs.YtgkblelgcikafaaGreat
open Go Go.RowKit Go.Deep
set_option maxRecDepth 8000
abbrev reC11 (b : Nat) : Array Value := #[.pointer (some ⟨b, 0, none⟩)]
section
variable {w : World} {u1 u2 u3 u4 : Value} {s : L11}
theorem evicting11_raw (b : Nat) : Calls Tryz.prog 31 #[.pointer (some ⟨b, 0, none⟩)] w fun e w' =>
    e = .returned (.func (.func 54) #[] #[.pointer (some ⟨w.heap.size, 0, none⟩)]) ∧ w' = w.alloc (.cells (reC11 b) 62) := by
  go_enter Tryz.func31, Tryz.ntmps31
  go_wp2
  go_ret
  exact ⟨rfl, rfl⟩
theorem evicting11_walk {w0 : World} {b r : Nat} (h : Bx11 w0 w PT11 b r s u1 u2 u3 u4) :
    Calls Tryz.prog 31 #[.pointer (some ⟨b, 0, none⟩)] w fun e w' => ∃ g, e = .returned (.func (.func 54) #[] #[.pointer (some ⟨g, 0, none⟩)]) ∧ Bx11 w0 w' PT11 b r s u1 u2 u3 u4 ∧
      w'.heap[g]? = some (.cells (reC11 b) 62 (0, 0)) ∧ Below w.heap.size w w' :=
  (evicting11_raw b).mono (by
    rintro e w' ⟨rfl, rfl⟩
    exact ⟨_, rfl, h.step (low_one _ _), heap_alloc_new _ _, low_one _ _⟩)
structure Cl11 (w wr : World) (s : L11) (N : Nat) (gb : Bool) (f i m : Nat) (v : Value) : Prop where
  ko : ∃ acc, KO w.heap.size w wr v acc ∧ acc ++ cuO s.p gb s.t1 s.t2 f i m = s.cutOut N gb
  li : cuI s.p gb f i m = s.li N gb
  lm : cuM s.p gb f i m = s.lm N gb
  le : i ≤ s.t1.length ∧ m ≤ s.t2.length ∧ f ≤ i + m
theorem Cl11.start {W : World} (hb : Below w.heap.size w W) (N : Nat) (gb : Bool) : Cl11 w W s N gb (s.many N) s.t1.length s.t2.length (.slice none 0 0) :=
  ⟨⟨[], KO.nil hb, rfl⟩, rfl, rfl, Nat.le_refl _, Nat.le_refl _, s.many_le N⟩
def Ei11 (w0 W : World) (b r g : Nat) (s : L11) (u1 u2 u3 u4 v : Value) (out : List Nat) : Prop := Bx11 w0 W PT11 b r s u1 u2 u3 u4 ∧ KV W v out ∧ W.heap[g]? = some (.cells (reC11 b) 62 (0, 0))
def EvP11 (w0 : World) (b r : Nat) (s : L11) (out : List Nat) (e : Ending) (w' : World) : Prop := ∃ o v1 v2 v3 v4, e = .returned o ∧ Bx11 w0 w' PT11 b r s v1 v2 v3 v4 ∧ KV w' o out
set_option maxRecDepth 8000 in
set_option maxHeartbeats 8000000 in
theorem evict11_walk {w0 : World} {b r g N : Nat} (gb : Bool) (hX : Bx11 w0 w PT11 b r s u1 u2 u3 u4) (hg : w.heap[g]? = some (.cells (reC11 b) 62 (0, 0))) (h1 : s.t1.length ≤ 1048576) (h2 : s.t2.length ≤ 1048576) (h3 : s.b1.length ≤ 1048576) (h4 : s.b2.length ≤ 3000000) (hp : s.p ≤ 1048576) (hN : N ≤ 1048576) :
    Calls Tryz.prog 54 #[.int .i64 (N : Nat), .bool gb, .pointer (some ⟨g, 0, none⟩)] w (EvP11 w0 b r (s.cut N gb) (s.cutOut N gb)) := by
  have HX := Lib.hid hX
  have HG := Lib.hid hg
  have HI0 : Hid (∀ W, Below w.heap.size w W → Cl11 w W s N gb (s.many N) s.t1.length s.t2.length (.slice none 0 0)) := Lib.hid (fun W hb => Cl11.start hb N gb)
  obtain ⟨F1, d1, rfl, hcap1, hnil1, _⟩ := hX.st.g1.mem
  obtain ⟨F2, d2, rfl, hcap2, hnil2, _⟩ := hX.st.g2.mem
  obtain ⟨F3, n3, d3, rfl⟩ := hX.st.form3
  obtain ⟨F4, n4, d4, rfl⟩ := hX.st.form4
  have hgl := (head_row hg).lt
  have hbl := (head_row hX.bo.box).lt
  have hbg : b ≠ g := fun e => by
    have h := hX.bo.box
    rw [e, hg] at h
    injection h with h
    injection h with h _
    have h6 : (1 : Nat) = 6 := congrArg Array.size h
    omega
  have HLD : Hid (∀ W, Below w.heap.size w W → (W.cell? ⟨b, 1, none⟩ = some (.int .i64 (s.p : Nat)) ∧ W.cell? ⟨b, 2, none⟩ = some (.slice F1 s.t1.length d1) ∧ W.cell? ⟨b, 3, none⟩ = some (.slice F2 s.t2.length d2)) ∧ W.cell? ⟨g, 0, none⟩ = some (.pointer (some ⟨b, 0, none⟩))) := Lib.hid (fun W hb => by
    obtain ⟨⟨x0, x1, x2, x3, x4, x5⟩, _⟩ := c6_at (HX.out.step hb).bo.box
    exact ⟨⟨x1, x2, x3⟩, (head_row ((hb.block g hgl).trans HG.out)).cell (i := 0) (by simp)⟩)
  have HE1 : Hid (∀ W, Below w.heap.size w W → ∀ k, k < s.t1.length → ∃ ad, F1 = some ad ∧ W.cell? (ad.add k) = some (.int .u64 (s.t1.getD k 0 : Nat))) := Lib.hid (fun W hb k hk => by
    obtain ⟨F', c', e, _, _, h⟩ := (HX.out.step hb).st.g1.mem
    injection e with e1 _ _
    obtain ⟨ad, e2, _, h4⟩ := h k hk
    refine ⟨ad, e1.trans e2, ?_⟩
    rw [h4, List.getD_eq_getElem?_getD, List.getElem?_eq_getElem hk]
    rfl)
  have HE2 : Hid (∀ W, Below w.heap.size w W → ∀ k, k < s.t2.length → ∃ ad, F2 = some ad ∧ W.cell? (ad.add k) = some (.int .u64 (s.t2.getD k 0 : Nat))) := Lib.hid (fun W hb k hk => by
    obtain ⟨F', c', e, _, _, h⟩ := (HX.out.step hb).st.g2.mem
    injection e with e1 _ _
    obtain ⟨ad, e2, _, h4⟩ := h k hk
    refine ⟨ad, e1.trans e2, ?_⟩
    rw [h4, List.getD_eq_getElem?_getD, List.getElem?_eq_getElem hk]
    rfl)
  have HKM : Hid (∀ W v, KVV W v [s.t1, s.t2] → Calls Tryz.prog 42 #[v] W fun e w' => e = .returned (.int .i64 ((s.t1.length : Int) + (s.t2.length : Int))) ∧ W = w') := Lib.hid (fun W v hv => by
    have h := many_walk hv (by simp) (by simp; omega)
    have e : (([s.t1, s.t2].flatten.length : Nat) : Int) = (s.t1.length : Int) + (s.t2.length : Int) := by simp
    rw [e] at h
    exact h)
  have HVV : Hid (∀ W, Below w.heap.size w W → KVV (W.alloc (.cells #[.slice F1 s.t1.length d1, .slice F2 s.t2.length d2] 26)) (.slice (some ⟨W.heap.size, 0, none⟩) 2 2) [s.t1, s.t2]) := Lib.hid (fun W hb => KVV.two (hX.st.g1.below hb) (hX.st.g2.below hb) _)
  obtain ⟨⟨x1, x2, x3⟩, p0⟩ := HLD.out w (Below.refl _ _)
  obtain ⟨M, hM⟩ : ∃ M, s.many N = M := ⟨_, rfl⟩
  have HML : Hid (s.t1.length + s.t2.length - N = M) := Lib.hid hM
  rw [hM] at HI0
  obtain ⟨n1, hn1⟩ : ∃ n, s.t1.length = n := ⟨_, rfl⟩
  obtain ⟨n2, hn2⟩ : ∃ n, s.t2.length = n := ⟨_, rfl⟩
  have HN1 := Lib.hid hn1
  have HN2 := Lib.hid hn2
  rw [hn1] at h1 x2 HI0 HLD HE1 HKM HVV hcap1 HML
  rw [hn2] at h2 x3 HI0 HLD HE2 HKM HVV hcap2 HML
  obtain ⟨pp, hpp⟩ : ∃ pp, s.p = pp := ⟨_, rfl⟩
  have HPP := Lib.hid hpp
  rw [hpp] at x1 HLD hp
  have HCP := Lib.hid (And.intro hcap1 (And.intro hcap2 (And.intro hnil1 hnil2)))
  have HB34 := Lib.hid (And.intro h3 h4)
  have HBG := Lib.hid hbg
  have i1 : (n1 : Int) ≤ 1048576 := by omega
  have i2 : (n2 : Int) ≤ 1048576 := by omega
  have iN : (N : Int) ≤ 1048576 := by omega
  have ip : (pp : Int) ≤ 1048576 := by omega
  clear hX hg hn1 hn2 hM hpp hcap1 hcap2 hnil1 hnil2 h3 h4 hbg hgl hbl
  go_enter Tryz.func54, Tryz.ntmps54
  go_wp2_with fail
  go_quiet (fail)
  go_wp2_with fail
  have HIW := Lib.hid (HI0.out (w.drewN nq) (below_drewn (Below.refl _ _) _))
  have HVW := Lib.hid (HVV.out (w.drewN nq) (below_drewn (Below.refl _ _) _))
  have hbw : Below w.heap.size w (w.drewN nq) := below_drewn (Below.refl _ _) _
  generalize w.drewN nq = W0 at HIW HVW hbw ⊢
  have HBW := Lib.hid hbw
  have HWR : Hid (IntKind.i64.wrap ((n1 : Int) + (n2 : Int) - (N : Int)) = (n1 : Int) + (n2 : Int) - (N : Int)) := Lib.hid (by rw [IntKind.wrap_i64]; omega)
  have HWR0 : Hid (IntKind.i64.wrap ((n1 : Int) + (n2 : Int)) = (n1 : Int) + (n2 : Int)) := Lib.hid (by rw [IntKind.wrap_i64]; omega)
  have HLW : Hid (∀ W, Below W0.heap.size W0 W → (W.cell? ⟨b, 2, none⟩ = some (.slice F1 n1 d1) ∧ W.cell? ⟨b, 3, none⟩ = some (.slice F2 n2 d2)) ∧ W.cell? ⟨g, 0, none⟩ = some (.pointer (some ⟨b, 0, none⟩))) := Lib.hid (fun W hb => by
    obtain ⟨⟨x1, x2, x3⟩, p0⟩ := HLD.out W (HBW.out.trans (hb.mono HBW.out.size))
    exact ⟨⟨x2, x3⟩, p0⟩)
  clear x1 x2 x3 p0 hbw
  obtain ⟨⟨x2, x3⟩, p0⟩ := HLW.out W0 (Below.refl _ _)
  go_cut [31, 32] (fun s31 s32 wx => s31 = .int .i64 ((n1 : Int) + (n2 : Int) - (N : Int)) ∧ s32 = .int .i64 0 ∧ Below W0.heap.size W0 wx)
  case first =>
    by_cases hN0 : N = 0
    · subst hN0
      go_region_held3 (fun w' => w'.cell? ⟨b, 2, none⟩ = some (.slice F1 n1 d1) ∧ w'.cell? ⟨b, 3, none⟩ = some (.slice F2 n2 d2) ∧ w'.cell? ⟨g, 0, none⟩ = some (.pointer (some ⟨b, 0, none⟩))) (go_keep)
        (first
          | (go_at_call 42; refine (HKM.out _ _ (HVW.out.below (below_drewn (Below.refl _ _) _))).mono ?_; rintro e wk ⟨rfl, rfl⟩))
      all_goals
        go_wp2_with fail
        go_meet
        exact ⟨by simp [HWR0.out], rfl, below_drewn (low_one _ _) _⟩
    · have hN1 : (0 : Int) < (N : Int) := by omega
      go_region_held3 (fun w' => w'.cell? ⟨b, 2, none⟩ = some (.slice F1 n1 d1) ∧ w'.cell? ⟨b, 3, none⟩ = some (.slice F2 n2 d2) ∧ w'.cell? ⟨g, 0, none⟩ = some (.pointer (some ⟨b, 0, none⟩))) (go_keep)
        (first
          | (go_at_call 42; refine (HKM.out _ _ (HVW.out.below (below_drewn (Below.refl _ _) _))).mono ?_; rintro e wk ⟨rfl, rfl⟩))
      all_goals
        go_wp2_with fail
        go_meet
        exact ⟨congrArg (Value.int .i64) HWR.out, rfl, below_drewn (low_one _ _) _⟩
  case rest =>
    obtain ⟨rfl, rfl, hbc⟩ := hcut
    obtain ⟨acc0, hko0, hac0⟩ := HIW.out.ko
    have hsz0 := hko0.low.size
    have HIC : Hid (Cl11 w wc s N gb M n1 n2 (.slice none 0 0)) := Lib.hid ⟨⟨acc0, hko0.below hko0.low.size hbc, hac0⟩, HIW.out.li, HIW.out.lm, HIW.out.le⟩
    clear x2 x3 p0 hko0 hac0 hsz0 HIW HVW HKM HVV HLW HBW HWR HWR0 hbc HI0
    go_wp2_with fail
    go_loopg [6, 7, 8, 32] M (fun gg s6 s7 s8 s32 wr => ∃ (i m j : Nat) (v : Value), gg + j = M ∧ s6 = .int .i64 (i : Nat) ∧ s7 = .int .i64 (m : Nat) ∧ v = s8 ∧ s32 = .int .i64 (j : Nat) ∧ Hid (Cl11 w wr s N gb gg i m v))
    case atStart => exact ⟨n1, n2, 0, _, by omega, rfl, rfl, rfl, rfl, HIC⟩
    case round =>
      clear HIC
      obtain ⟨i, m, j, v6, hj, rfl, rfl, rfl, rfl, HI⟩ := hrel
      obtain ⟨acc, hko, hac⟩ := HI.out.ko
      have hli := HI.out.li
      have hlm := HI.out.lm
      have hle := HI.out.le
      rw [HN1.out, HN2.out] at hle
      rw [HPP.out] at hac hli hlm
      have HKO := Lib.hid hko
      have hML := HML.out
      have hiI : (i : Int) ≤ 1048576 := by omega
      have hmI : (m : Int) ≤ 1048576 := by omega
      have hjI : (j : Int) ≤ 3000000 := by omega
      obtain ⟨⟨x1, x2, x3⟩, p0⟩ := HLD.out wr hko.low
      clear hko HI
      cases gk with
      | zero =>
        have hlt : ¬ (j : Int) < (n1 : Int) + (n2 : Int) - (N : Int) := by omega
        have HE : Hid (s.cut N gb = ⟨s.c, s.p, s.t1.take i, s.t2.take m, s.t1.drop i ++ s.b1, s.t2.drop m ++ s.b2⟩ ∧ s.cutOut N gb = acc) := Lib.hid (by
          have e1 : s.li N gb = i := hli.symm
          have e2 : s.lm N gb = m := hlm.symm
          refine ⟨?_, by rw [← hac]; simp [cuO]⟩
          unfold L11.cut
          rw [e1, e2])
        have HB0 := HKO.out.low
        have hgl := (head_row HG.out).lt
        have HEI : Hid (Ei11 w0 wr b r g ⟨s.c, s.p, s.t1, s.t2, s.b1, s.b2⟩ (.slice F1 n1 d1) (.slice F2 n2 d2) (.slice F3 n3 d3) (.slice F4 n4 d4) v6 acc) := Lib.hid ⟨by
          have h := HX.out.step HB0
          rw [HN1.out, HN2.out] at h
          exact h, HKO.out.kv, (HB0.block g hgl).trans HG.out⟩
        obtain ⟨hcap1, hcap2, hnil1, hnil2⟩ := HCP.out
        have hl1 := HN1.out
        have hl2 := HN2.out
        have hl3 := HB34.out.1
        have hl4 := HB34.out.2
        have hbg := HBG.out
        have hgb : g ≠ b := fun h => hbg h.symm
        have hi1 : i ≤ n1 := hle.1
        have hm2 : m ≤ n2 := hle.2.1
        have hi1I : (i : Int) ≤ (n1 : Int) := by omega
        have hm2I : (m : Int) ≤ (n2 : Int) := by omega
        clear hli hlm hac hML HKO HB0 HLD HE1 HE2 HX hgl hle hj
        go_wp2_with fail
        clear x1 x2 x3 p0
        have HSS : Hid (∀ W, Below wr.heap.size wr W → Bx11 w0 W PT11 b r ⟨s.c, s.p, s.t1, s.t2, s.b1, s.b2⟩ (.slice F1 n1 d1) (.slice F2 n2 d2) (.slice F3 n3 d3) (.slice F4 n4 d4) ∧ W.heap[g]? = some (.cells (reC11 b) 62 (0, 0))) := Lib.hid (fun W hb => ⟨HEI.out.1.step hb, (hb.block g (head_row HEI.out.2.2).lt).trans HEI.out.2.2⟩)
        obtain ⟨⟨x0, x1, x2, x3, x4, x5⟩, xf0, xf1, xf2, xf3, xf4, xf5⟩ := c6_at HEI.out.1.bo.box
        have hbb := (head_row HEI.out.1.bo.box).lt
        have p0 : wr.cell? ⟨g, 0, none⟩ = some (.pointer (some ⟨b, 0, none⟩)) := (head_row HEI.out.2.2).cell (i := 0) (by simp)
        dsimp only at x0 x1
        have hglt := (head_row HEI.out.2.2).lt
        have hgne : g ≠ wr.heap.size := by omega
        have hgne2 : wr.heap.size ≠ g := by omega
        have hbne : b ≠ wr.heap.size := by omega
        have hbne2 : wr.heap.size ≠ b := by omega
        have HCC : Hid (∀ (W : World) (v : Value), KVV W v [s.t1.drop i, s.b1] → Calls Tryz.prog 39 #[v] W (OwnK W (s.t1.drop i ++ s.b1))) := Lib.hid (fun W v hv => by
          have h := concat_walk hv (by simp) (by simp only [List.flatten_cons, List.flatten_nil, List.append_nil, List.length_append, List.length_drop]; omega)
          have e : [s.t1.drop i, s.b1].flatten = s.t1.drop i ++ s.b1 := by simp
          rw [e] at h
          exact h)
        have HVV : Hid (KVV (wr.alloc (.cells #[tailV F1 n1 d1 i, (.slice F3 n3 d3)] 26)) (.slice (some ⟨wr.heap.size, 0, none⟩) 2 2) [s.t1.drop i, s.b1]) := Lib.hid (by
          have hk : KV wr (.slice F1 n1 d1) s.t1 := HEI.out.1.st.g1
          rw [← hl1] at hk
          have ht := hk.tail (i := i) (by omega)
          rw [hl1] at ht
          exact KVV.two ht HEI.out.1.st.g3 _)
        go_cut [] (fun wx => ∃ Fa na da, Ei11 w0 wx b r g ⟨s.c, s.p, s.t1, s.t2, s.t1.drop i ++ s.b1, s.b2⟩ (.slice F1 n1 d1) (.slice F2 n2 d2) (.slice Fa na da) (.slice F4 n4 d4) v6 acc)
        case first =>
          by_cases hd : d1 = i
          · have hd2 : n1 = i := by omega
            subst hd2
            subst hd
            rw [show tailV F1 d1 d1 d1 = .slice F1 0 0 by simp [tailV]] at HVV
            refine wp_region_held_drew (S := fun w' => w'.cell? ⟨g, 0, none⟩ = some (.pointer (some ⟨b, 0, none⟩)) ∧ w'.cell? ⟨b, 2, none⟩ = some (.slice F1 d1 d1)) (by kernel_rfl) ⟨p0, x2⟩ (fun hHeld => ?_)
            refine wpAnyH_take (i := 0) (v := ?vag0) rfl (by kernel_rfl) (by kernel_rfl) (by kernel_rfl) (fun _ _ _ h => h) (Or.inl ⟨by rfl, ?hag0⟩) hHeld ?rag0
            case hag0 =>
              intro w hSw
              try dsimp only at hSw
              go_simp
              try with_reducible rfl
            try simp only [Act.put, Array.reduceGetElem, List.setIfInBounds_toArray, List.set_cons_zero, List.set_cons_succ]
            refine wpAnyH_take (i := 1) (v := ?vag1) rfl (by kernel_rfl) (by kernel_rfl) (by kernel_rfl) (fun _ _ _ h => h) (Or.inl ⟨by rfl, ?hag1⟩) hHeld ?rag1
            case hag1 =>
              intro w hSw
              try dsimp only at hSw
              go_simp
              try with_reducible rfl
            try simp only [Act.put, Array.reduceGetElem, List.setIfInBounds_toArray, List.set_cons_zero, List.set_cons_succ]
            refine wpAnyH_take (i := 2) (v := ?vag2) rfl (by kernel_rfl) (by kernel_rfl) (by kernel_rfl) (fun _ _ _ h => h) (Or.inl ⟨by rfl, ?hag2⟩) hHeld ?rag2
            case hag2 =>
              intro w hSw
              try dsimp only at hSw
              go_simp
              try with_reducible rfl
            try simp only [Act.put, Array.reduceGetElem, List.setIfInBounds_toArray, List.set_cons_zero, List.set_cons_succ]
            refine wpAnyH_take (i := 3) (v := ?vag3) rfl (by kernel_rfl) (by kernel_rfl) (by kernel_rfl) (fun _ _ _ h => h) (Or.inl ⟨by rfl, ?hag3⟩) hHeld ?rag3
            case hag3 =>
              intro w hSw
              try dsimp only at hSw
              go_simp
              try with_reducible rfl
            try simp only [Act.put, Array.reduceGetElem, List.setIfInBounds_toArray, List.set_cons_zero, List.set_cons_succ]
            refine wpAnyH_take (i := 4) (v := ?vag4) rfl (by kernel_rfl) (by kernel_rfl) (by kernel_rfl) (fun _ _ _ h => h) (Or.inl ⟨by rfl, ?hag4⟩) hHeld ?rag4
            case hag4 =>
              intro w hSw
              try dsimp only at hSw
              go_simp
              try with_reducible rfl
            try simp only [Act.put, Array.reduceGetElem, List.setIfInBounds_toArray, List.set_cons_zero, List.set_cons_succ]
            refine wpAnyH_take (i := 5) (v := ?vag5) rfl (by kernel_rfl) (by kernel_rfl) (by kernel_rfl) (fun _ _ _ h => h) (Or.inl ⟨by rfl, ?hag5⟩) hHeld ?rag5
            case hag5 =>
              intro w hSw
              try dsimp only at hSw
              go_simp
              try with_reducible rfl
            try simp only [Act.put, Array.reduceGetElem, List.setIfInBounds_toArray, List.set_cons_zero, List.set_cons_succ]
            refine wpAnyH_take (i := 6) (v := ?vag6) rfl (by kernel_rfl) (by kernel_rfl) (by kernel_rfl) (fun _ _ _ h => h) (Or.inl ⟨by rfl, ?hag6⟩) hHeld ?rag6
            case hag6 =>
              intro w hSw
              try dsimp only at hSw
              go_simp
              try with_reducible rfl
            try simp only [Act.put, Array.reduceGetElem, List.setIfInBounds_toArray, List.set_cons_zero, List.set_cons_succ]
            refine wpAnyH_take (i := 7) (v := ?vag7) rfl (by kernel_rfl) (by kernel_rfl) (by kernel_rfl) (fun _ _ _ h => h) (Or.inl ⟨by rfl, ?hag7⟩) hHeld ?rag7
            case hag7 =>
              intro w hSw
              try dsimp only at hSw
              go_simp
              try with_reducible rfl
            try simp only [Act.put, Array.reduceGetElem, List.setIfInBounds_toArray, List.set_cons_zero, List.set_cons_succ]
            refine wpAnyH_take (i := 8) (v := ?vag8) rfl (by kernel_rfl) (by kernel_rfl) (by kernel_rfl) (fun _ _ _ h => h) (Or.inl ⟨by rfl, ?hag8⟩) hHeld ?rag8
            case hag8 =>
              intro w hSw
              try dsimp only at hSw
              go_simp
              try with_reducible rfl
            try simp only [Act.put, Array.reduceGetElem, List.setIfInBounds_toArray, List.set_cons_zero, List.set_cons_succ]
            refine wpAnyH_take (i := 9) (v := ?vag9) rfl (by kernel_rfl) (by kernel_rfl) (by kernel_rfl) (fun _ _ _ h => h) (Or.inl ⟨by rfl, ?hag9⟩) hHeld ?rag9
            case hag9 =>
              intro w hSw
              try dsimp only at hSw
              go_simp
              try with_reducible rfl
            try simp only [Act.put, Array.reduceGetElem, List.setIfInBounds_toArray, List.set_cons_zero, List.set_cons_succ]
            refine wpAnyH_ready (rs := [10]) (by kernel_rfl) (by simp) ?_
            refine AllReadyH.cons rfl (fun K hK => ?_) AllReadyH.nil
            go_simp
            refine hK.out _ _ ?_ (fun hHeld => ?_)
            · exact hHeld
            clear hK K
            try simp only [Act.put, Array.reduceGetElem, List.setIfInBounds_toArray, List.set_cons_zero, List.set_cons_succ]
            refine wpAnyH_ready (rs := [11]) (by kernel_rfl) (by simp) ?_
            refine AllReadyH.cons rfl (fun K hK => ?_) AllReadyH.nil
            go_simp
            refine hK.out _ _ ?_ (fun hHeld => ?_)
            · go_keep
            clear hK K
            try simp only [Act.put, Array.reduceGetElem, List.setIfInBounds_toArray, List.set_cons_zero, List.set_cons_succ]
            refine wpAnyH_ready (rs := [12]) (by kernel_rfl) (by simp) ?_
            refine AllReadyH.cons rfl (fun K hK => ?_) AllReadyH.nil
            go_wp2_with (go_simp; go_at_call 39; refine (HCC.out _ _ (HVV.out.below (below_drewn (Below.refl _ _) _))).mono ?_; rintro e wa ⟨va, rfl, ha⟩; have hba := (below_drewn (low_one wr (.cells #[(.slice F1 0 0), (.slice F3 n3 d3)] 26)) _).trans (ha.low.mono (by simp)); have hka := ha.kv; obtain ⟨Fa, na, da, rfl⟩ := hka.form; obtain ⟨⟨xx0, xx1, xx2, xx3, xx4, xx5⟩, xxf0, xxf1, xxf2, xxf3, xxf4, xxf5⟩ := c6_at (HSS.out _ hba).1.bo.box; have hbb2 := (head_row (HSS.out _ hba).1.bo.box).lt; have p1 : wa.cell? ⟨g, 0, none⟩ = some (.pointer (some ⟨b, 0, none⟩)) := (head_row (HSS.out _ hba).2).cell (i := 0) (by simp); have kks := And.intro p1 xx2; have kkz := And.intro (show (wa.setCell ⟨b, 4, none⟩ (.slice Fa na da)).cell? ⟨g, 0, none⟩ = some (.pointer (some ⟨b, 0, none⟩)) from (head_row (show (wa.setCell ⟨b, 4, none⟩ (.slice Fa na da)).heap[g]? = some (.cells (reC11 b) 62 (0, 0)) from by first | exact (Below.heap_setCell _ _ _ _ hbg).trans (HSS.out _ hba).2 | exact (Below.heap_setCell _ _ _ _ hgb).trans (HSS.out _ hba).2)).cell (i := 0) (by simp)) (c6_at ((HSS.out _ hba).1.set4 hka).bo.box).1.2.2.1)
            refine hK.out _ _ ?_ (fun hHeld => ?_)
            · with_reducible exact kks
            clear hK K
            try simp only [Act.put, Array.reduceGetElem, List.setIfInBounds_toArray, List.set_cons_zero, List.set_cons_succ]
            refine wpAnyH_take (i := 13) (v := ?vag13) rfl (by kernel_rfl) (by kernel_rfl) (by kernel_rfl) (fun _ _ _ h => h) (Or.inl ⟨by rfl, ?hag13⟩) hHeld ?rag13
            case hag13 =>
              intro w hSw
              try dsimp only at hSw
              go_simp
              try with_reducible rfl
            try simp only [Act.put, Array.reduceGetElem, List.setIfInBounds_toArray, List.set_cons_zero, List.set_cons_succ]
            refine wpAnyH_take (i := 14) (v := ?vag14) rfl (by kernel_rfl) (by kernel_rfl) (by kernel_rfl) (fun _ _ _ h => h) (Or.inl ⟨by rfl, ?hag14⟩) hHeld ?rag14
            case hag14 =>
              intro w hSw
              try dsimp only at hSw
              go_simp
              try with_reducible rfl
            try simp only [Act.put, Array.reduceGetElem, List.setIfInBounds_toArray, List.set_cons_zero, List.set_cons_succ]
            refine wpAnyH_ready (rs := [15]) (by kernel_rfl) (by simp) ?_
            refine AllReadyH.cons rfl (fun K hK => ?_) AllReadyH.nil
            go_simp
            refine hK.out _ _ ?_ (fun hHeld => ?_)
            · exact kkz
            clear hK K
            try simp only [Act.put, Array.reduceGetElem, List.setIfInBounds_toArray, List.set_cons_zero, List.set_cons_succ]
            refine wpAnyH_done (by kernel_rfl) ?_ _
            go_wp2_with fail
            go_meet
            refine ⟨Fa, na, da, (HSS.out _ hba).1.set4 hka, (HSS.out _ hba).1.kv (HEI.out.2.1.below hba), ?_⟩
            first
              | exact (Below.heap_setCell _ _ _ _ hbg).trans (HSS.out _ hba).2
              | exact (Below.heap_setCell _ _ _ _ hgb).trans (HSS.out _ hba).2
          · obtain ⟨ad, rfl⟩ : ∃ ad, F1 = some ad := by
              cases F1 with
              | none => have := hnil1 rfl; omega
              | some ad => exact ⟨ad, rfl⟩
            rw [show tailV (some ad) n1 d1 i = .slice (some (ad.add i)) (n1 - i) (d1 - i) by simp [tailV, hd]] at HVV
            have hidI : (i : Int) ≤ (d1 : Int) := by omega
            have hid : i ≤ d1 := by omega
            refine wp_region_held_drew (S := fun w' => w'.cell? ⟨g, 0, none⟩ = some (.pointer (some ⟨b, 0, none⟩)) ∧ w'.cell? ⟨b, 2, none⟩ = some (.slice (some ad) n1 d1)) (by kernel_rfl) ⟨p0, x2⟩ (fun hHeld => ?_)
            refine wpAnyH_take (i := 0) (v := ?vah0) rfl (by kernel_rfl) (by kernel_rfl) (by kernel_rfl) (fun _ _ _ h => h) (Or.inl ⟨by rfl, ?hah0⟩) hHeld ?rah0
            case hah0 =>
              intro w hSw
              try dsimp only at hSw
              go_simp
              try with_reducible rfl
            try simp only [Act.put, Array.reduceGetElem, List.setIfInBounds_toArray, List.set_cons_zero, List.set_cons_succ]
            refine wpAnyH_take (i := 1) (v := ?vah1) rfl (by kernel_rfl) (by kernel_rfl) (by kernel_rfl) (fun _ _ _ h => h) (Or.inl ⟨by rfl, ?hah1⟩) hHeld ?rah1
            case hah1 =>
              intro w hSw
              try dsimp only at hSw
              go_simp
              try with_reducible rfl
            try simp only [Act.put, Array.reduceGetElem, List.setIfInBounds_toArray, List.set_cons_zero, List.set_cons_succ]
            refine wpAnyH_take (i := 2) (v := ?vah2) rfl (by kernel_rfl) (by kernel_rfl) (by kernel_rfl) (fun _ _ _ h => h) (Or.inl ⟨by rfl, ?hah2⟩) hHeld ?rah2
            case hah2 =>
              intro w hSw
              try dsimp only at hSw
              go_simp
              try with_reducible rfl
            try simp only [Act.put, Array.reduceGetElem, List.setIfInBounds_toArray, List.set_cons_zero, List.set_cons_succ]
            refine wpAnyH_take (i := 3) (v := ?vah3) rfl (by kernel_rfl) (by kernel_rfl) (by kernel_rfl) (fun _ _ _ h => h) (Or.inl ⟨by rfl, ?hah3⟩) hHeld ?rah3
            case hah3 =>
              intro w hSw
              try dsimp only at hSw
              go_simp
              try with_reducible rfl
            try simp only [Act.put, Array.reduceGetElem, List.setIfInBounds_toArray, List.set_cons_zero, List.set_cons_succ]
            refine wpAnyH_take (i := 4) (v := ?vah4) rfl (by kernel_rfl) (by kernel_rfl) (by kernel_rfl) (fun _ _ _ h => h) (Or.inl ⟨by rfl, ?hah4⟩) hHeld ?rah4
            case hah4 =>
              intro w hSw
              try dsimp only at hSw
              go_simp
              try with_reducible rfl
            try simp only [Act.put, Array.reduceGetElem, List.setIfInBounds_toArray, List.set_cons_zero, List.set_cons_succ]
            refine wpAnyH_take (i := 5) (v := ?vah5) rfl (by kernel_rfl) (by kernel_rfl) (by kernel_rfl) (fun _ _ _ h => h) (Or.inl ⟨by rfl, ?hah5⟩) hHeld ?rah5
            case hah5 =>
              intro w hSw
              try dsimp only at hSw
              go_simp
              try with_reducible rfl
            try simp only [Act.put, Array.reduceGetElem, List.setIfInBounds_toArray, List.set_cons_zero, List.set_cons_succ]
            refine wpAnyH_take (i := 6) (v := ?vah6) rfl (by kernel_rfl) (by kernel_rfl) (by kernel_rfl) (fun _ _ _ h => h) (Or.inl ⟨by rfl, ?hah6⟩) hHeld ?rah6
            case hah6 =>
              intro w hSw
              try dsimp only at hSw
              go_simp
              try with_reducible rfl
            try simp only [Act.put, Array.reduceGetElem, List.setIfInBounds_toArray, List.set_cons_zero, List.set_cons_succ]
            refine wpAnyH_take (i := 7) (v := ?vah7) rfl (by kernel_rfl) (by kernel_rfl) (by kernel_rfl) (fun _ _ _ h => h) (Or.inl ⟨by rfl, ?hah7⟩) hHeld ?rah7
            case hah7 =>
              intro w hSw
              try dsimp only at hSw
              go_simp
              try with_reducible rfl
            try simp only [Act.put, Array.reduceGetElem, List.setIfInBounds_toArray, List.set_cons_zero, List.set_cons_succ]
            refine wpAnyH_take (i := 8) (v := ?vah8) rfl (by kernel_rfl) (by kernel_rfl) (by kernel_rfl) (fun _ _ _ h => h) (Or.inl ⟨by rfl, ?hah8⟩) hHeld ?rah8
            case hah8 =>
              intro w hSw
              try dsimp only at hSw
              go_simp
              try with_reducible rfl
            try simp only [Act.put, Array.reduceGetElem, List.setIfInBounds_toArray, List.set_cons_zero, List.set_cons_succ]
            refine wpAnyH_take (i := 9) (v := ?vah9) rfl (by kernel_rfl) (by kernel_rfl) (by kernel_rfl) (fun _ _ _ h => h) (Or.inl ⟨by rfl, ?hah9⟩) hHeld ?rah9
            case hah9 =>
              intro w hSw
              try dsimp only at hSw
              go_simp
              try with_reducible rfl
            try simp only [Act.put, Array.reduceGetElem, List.setIfInBounds_toArray, List.set_cons_zero, List.set_cons_succ]
            refine wpAnyH_ready (rs := [10]) (by kernel_rfl) (by simp) ?_
            refine AllReadyH.cons rfl (fun K hK => ?_) AllReadyH.nil
            go_simp
            refine hK.out _ _ ?_ (fun hHeld => ?_)
            · exact hHeld
            clear hK K
            try simp only [Act.put, Array.reduceGetElem, List.setIfInBounds_toArray, List.set_cons_zero, List.set_cons_succ]
            refine wpAnyH_ready (rs := [11]) (by kernel_rfl) (by simp) ?_
            refine AllReadyH.cons rfl (fun K hK => ?_) AllReadyH.nil
            go_simp
            refine hK.out _ _ ?_ (fun hHeld => ?_)
            · go_keep
            clear hK K
            try simp only [Act.put, Array.reduceGetElem, List.setIfInBounds_toArray, List.set_cons_zero, List.set_cons_succ]
            refine wpAnyH_ready (rs := [12]) (by kernel_rfl) (by simp) ?_
            refine AllReadyH.cons rfl (fun K hK => ?_) AllReadyH.nil
            go_wp2_with (go_simp; go_at_call 39; refine (HCC.out _ _ (HVV.out.below (below_drewn (Below.refl _ _) _))).mono ?_; rintro e wa ⟨va, rfl, ha⟩; have hba := (below_drewn (low_one wr (.cells #[(.slice (some (ad.add i)) (n1 - i) (d1 - i)), (.slice F3 n3 d3)] 26)) _).trans (ha.low.mono (by simp)); have hka := ha.kv; obtain ⟨Fa, na, da, rfl⟩ := hka.form; obtain ⟨⟨xx0, xx1, xx2, xx3, xx4, xx5⟩, xxf0, xxf1, xxf2, xxf3, xxf4, xxf5⟩ := c6_at (HSS.out _ hba).1.bo.box; have hbb2 := (head_row (HSS.out _ hba).1.bo.box).lt; have p1 : wa.cell? ⟨g, 0, none⟩ = some (.pointer (some ⟨b, 0, none⟩)) := (head_row (HSS.out _ hba).2).cell (i := 0) (by simp); have kks := And.intro p1 xx2; have kkz := And.intro (show (wa.setCell ⟨b, 4, none⟩ (.slice Fa na da)).cell? ⟨g, 0, none⟩ = some (.pointer (some ⟨b, 0, none⟩)) from (head_row (show (wa.setCell ⟨b, 4, none⟩ (.slice Fa na da)).heap[g]? = some (.cells (reC11 b) 62 (0, 0)) from by first | exact (Below.heap_setCell _ _ _ _ hbg).trans (HSS.out _ hba).2 | exact (Below.heap_setCell _ _ _ _ hgb).trans (HSS.out _ hba).2)).cell (i := 0) (by simp)) (c6_at ((HSS.out _ hba).1.set4 hka).bo.box).1.2.2.1)
            refine hK.out _ _ ?_ (fun hHeld => ?_)
            · with_reducible exact kks
            clear hK K
            try simp only [Act.put, Array.reduceGetElem, List.setIfInBounds_toArray, List.set_cons_zero, List.set_cons_succ]
            refine wpAnyH_take (i := 13) (v := ?vah13) rfl (by kernel_rfl) (by kernel_rfl) (by kernel_rfl) (fun _ _ _ h => h) (Or.inl ⟨by rfl, ?hah13⟩) hHeld ?rah13
            case hah13 =>
              intro w hSw
              try dsimp only at hSw
              go_simp
              try with_reducible rfl
            try simp only [Act.put, Array.reduceGetElem, List.setIfInBounds_toArray, List.set_cons_zero, List.set_cons_succ]
            refine wpAnyH_take (i := 14) (v := ?vah14) rfl (by kernel_rfl) (by kernel_rfl) (by kernel_rfl) (fun _ _ _ h => h) (Or.inl ⟨by rfl, ?hah14⟩) hHeld ?rah14
            case hah14 =>
              intro w hSw
              try dsimp only at hSw
              go_simp
              try with_reducible rfl
            try simp only [Act.put, Array.reduceGetElem, List.setIfInBounds_toArray, List.set_cons_zero, List.set_cons_succ]
            refine wpAnyH_ready (rs := [15]) (by kernel_rfl) (by simp) ?_
            refine AllReadyH.cons rfl (fun K hK => ?_) AllReadyH.nil
            go_simp
            refine hK.out _ _ ?_ (fun hHeld => ?_)
            · exact kkz
            clear hK K
            try simp only [Act.put, Array.reduceGetElem, List.setIfInBounds_toArray, List.set_cons_zero, List.set_cons_succ]
            refine wpAnyH_done (by kernel_rfl) ?_ _
            go_wp2_with fail
            go_meet
            refine ⟨Fa, na, da, (HSS.out _ hba).1.set4 hka, (HSS.out _ hba).1.kv (HEI.out.2.1.below hba), ?_⟩
            first
              | exact (Below.heap_setCell _ _ _ _ hbg).trans (HSS.out _ hba).2
              | exact (Below.heap_setCell _ _ _ _ hgb).trans (HSS.out _ hba).2
        case rest =>
          obtain ⟨Fa11, na11, da11, hei⟩ := hcut
          have HEI11 := Lib.hid hei
          clear hei HSS HEI x0 x1 x2 x3 x4 x5 xf0 xf1 xf2 xf3 xf4 xf5 hbb p0 hglt hgne hgne2 hbne hbne2
          go_wp2_with fail
          have HSS : Hid (∀ W, Below wc.heap.size wc W → Bx11 w0 W PT11 b r ⟨s.c, s.p, s.t1, s.t2, (s.t1.drop i ++ s.b1), s.b2⟩ (.slice F1 n1 d1) (.slice F2 n2 d2) (.slice Fa11 na11 da11) (.slice F4 n4 d4) ∧ W.heap[g]? = some (.cells (reC11 b) 62 (0, 0))) := Lib.hid (fun W hb => ⟨HEI11.out.1.step hb, (hb.block g (head_row HEI11.out.2.2).lt).trans HEI11.out.2.2⟩)
          obtain ⟨⟨x0, x1, x2, x3, x4, x5⟩, xf0, xf1, xf2, xf3, xf4, xf5⟩ := c6_at HEI11.out.1.bo.box
          have hbb := (head_row HEI11.out.1.bo.box).lt
          have p0 : wc.cell? ⟨g, 0, none⟩ = some (.pointer (some ⟨b, 0, none⟩)) := (head_row HEI11.out.2.2).cell (i := 0) (by simp)
          dsimp only at x0 x1
          have hglt := (head_row HEI11.out.2.2).lt
          have hgne : g ≠ wc.heap.size := by omega
          have hgne2 : wc.heap.size ≠ g := by omega
          have hbne : b ≠ wc.heap.size := by omega
          have hbne2 : wc.heap.size ≠ b := by omega
          have HCC : Hid (∀ (W : World) (v : Value), KVV W v [s.t2.drop m, s.b2] → Calls Tryz.prog 39 #[v] W (OwnK W (s.t2.drop m ++ s.b2))) := Lib.hid (fun W v hv => by
            have h := concat_walk hv (by simp) (by simp only [List.flatten_cons, List.flatten_nil, List.append_nil, List.length_append, List.length_drop]; omega)
            have e : [s.t2.drop m, s.b2].flatten = s.t2.drop m ++ s.b2 := by simp
            rw [e] at h
            exact h)
          have HVV : Hid (KVV (wc.alloc (.cells #[tailV F2 n2 d2 m, (.slice F4 n4 d4)] 26)) (.slice (some ⟨wc.heap.size, 0, none⟩) 2 2) [s.t2.drop m, s.b2]) := Lib.hid (by
            have hk : KV wc (.slice F2 n2 d2) s.t2 := HEI11.out.1.st.g2
            rw [← hl2] at hk
            have ht := hk.tail (i := m) (by omega)
            rw [hl2] at ht
            exact KVV.two ht HEI11.out.1.st.g4 _)
          go_cut [] (fun wx => ∃ Fa na da, Ei11 w0 wx b r g ⟨s.c, s.p, s.t1, s.t2, (s.t1.drop i ++ s.b1), s.t2.drop m ++ s.b2⟩ (.slice F1 n1 d1) (.slice F2 n2 d2) (.slice Fa11 na11 da11) (.slice Fa na da) v6 acc)
          case first =>
            by_cases hd : d2 = m
            · have hd2 : n2 = m := by omega
              subst hd2
              subst hd
              rw [show tailV F2 d2 d2 d2 = .slice F2 0 0 by simp [tailV]] at HVV
              refine wp_region_held_drew (S := fun w' => w'.cell? ⟨g, 0, none⟩ = some (.pointer (some ⟨b, 0, none⟩)) ∧ w'.cell? ⟨b, 3, none⟩ = some (.slice F2 d2 d2)) (by kernel_rfl) ⟨p0, x3⟩ (fun hHeld => ?_)
              refine wpAnyH_take (i := 0) (v := ?vad0) rfl (by kernel_rfl) (by kernel_rfl) (by kernel_rfl) (fun _ _ _ h => h) (Or.inl ⟨by rfl, ?had0⟩) hHeld ?rad0
              case had0 =>
                intro w hSw
                try dsimp only at hSw
                go_simp
                try with_reducible rfl
              try simp only [Act.put, Array.reduceGetElem, List.setIfInBounds_toArray, List.set_cons_zero, List.set_cons_succ]
              refine wpAnyH_take (i := 1) (v := ?vad1) rfl (by kernel_rfl) (by kernel_rfl) (by kernel_rfl) (fun _ _ _ h => h) (Or.inl ⟨by rfl, ?had1⟩) hHeld ?rad1
              case had1 =>
                intro w hSw
                try dsimp only at hSw
                go_simp
                try with_reducible rfl
              try simp only [Act.put, Array.reduceGetElem, List.setIfInBounds_toArray, List.set_cons_zero, List.set_cons_succ]
              refine wpAnyH_take (i := 2) (v := ?vad2) rfl (by kernel_rfl) (by kernel_rfl) (by kernel_rfl) (fun _ _ _ h => h) (Or.inl ⟨by rfl, ?had2⟩) hHeld ?rad2
              case had2 =>
                intro w hSw
                try dsimp only at hSw
                go_simp
                try with_reducible rfl
              try simp only [Act.put, Array.reduceGetElem, List.setIfInBounds_toArray, List.set_cons_zero, List.set_cons_succ]
              refine wpAnyH_take (i := 3) (v := ?vad3) rfl (by kernel_rfl) (by kernel_rfl) (by kernel_rfl) (fun _ _ _ h => h) (Or.inl ⟨by rfl, ?had3⟩) hHeld ?rad3
              case had3 =>
                intro w hSw
                try dsimp only at hSw
                go_simp
                try with_reducible rfl
              try simp only [Act.put, Array.reduceGetElem, List.setIfInBounds_toArray, List.set_cons_zero, List.set_cons_succ]
              refine wpAnyH_take (i := 4) (v := ?vad4) rfl (by kernel_rfl) (by kernel_rfl) (by kernel_rfl) (fun _ _ _ h => h) (Or.inl ⟨by rfl, ?had4⟩) hHeld ?rad4
              case had4 =>
                intro w hSw
                try dsimp only at hSw
                go_simp
                try with_reducible rfl
              try simp only [Act.put, Array.reduceGetElem, List.setIfInBounds_toArray, List.set_cons_zero, List.set_cons_succ]
              refine wpAnyH_take (i := 5) (v := ?vad5) rfl (by kernel_rfl) (by kernel_rfl) (by kernel_rfl) (fun _ _ _ h => h) (Or.inl ⟨by rfl, ?had5⟩) hHeld ?rad5
              case had5 =>
                intro w hSw
                try dsimp only at hSw
                go_simp
                try with_reducible rfl
              try simp only [Act.put, Array.reduceGetElem, List.setIfInBounds_toArray, List.set_cons_zero, List.set_cons_succ]
              refine wpAnyH_take (i := 6) (v := ?vad6) rfl (by kernel_rfl) (by kernel_rfl) (by kernel_rfl) (fun _ _ _ h => h) (Or.inl ⟨by rfl, ?had6⟩) hHeld ?rad6
              case had6 =>
                intro w hSw
                try dsimp only at hSw
                go_simp
                try with_reducible rfl
              try simp only [Act.put, Array.reduceGetElem, List.setIfInBounds_toArray, List.set_cons_zero, List.set_cons_succ]
              refine wpAnyH_take (i := 7) (v := ?vad7) rfl (by kernel_rfl) (by kernel_rfl) (by kernel_rfl) (fun _ _ _ h => h) (Or.inl ⟨by rfl, ?had7⟩) hHeld ?rad7
              case had7 =>
                intro w hSw
                try dsimp only at hSw
                go_simp
                try with_reducible rfl
              try simp only [Act.put, Array.reduceGetElem, List.setIfInBounds_toArray, List.set_cons_zero, List.set_cons_succ]
              refine wpAnyH_take (i := 8) (v := ?vad8) rfl (by kernel_rfl) (by kernel_rfl) (by kernel_rfl) (fun _ _ _ h => h) (Or.inl ⟨by rfl, ?had8⟩) hHeld ?rad8
              case had8 =>
                intro w hSw
                try dsimp only at hSw
                go_simp
                try with_reducible rfl
              try simp only [Act.put, Array.reduceGetElem, List.setIfInBounds_toArray, List.set_cons_zero, List.set_cons_succ]
              refine wpAnyH_take (i := 9) (v := ?vad9) rfl (by kernel_rfl) (by kernel_rfl) (by kernel_rfl) (fun _ _ _ h => h) (Or.inl ⟨by rfl, ?had9⟩) hHeld ?rad9
              case had9 =>
                intro w hSw
                try dsimp only at hSw
                go_simp
                try with_reducible rfl
              try simp only [Act.put, Array.reduceGetElem, List.setIfInBounds_toArray, List.set_cons_zero, List.set_cons_succ]
              refine wpAnyH_ready (rs := [10]) (by kernel_rfl) (by simp) ?_
              refine AllReadyH.cons rfl (fun K hK => ?_) AllReadyH.nil
              go_simp
              refine hK.out _ _ ?_ (fun hHeld => ?_)
              · exact hHeld
              clear hK K
              try simp only [Act.put, Array.reduceGetElem, List.setIfInBounds_toArray, List.set_cons_zero, List.set_cons_succ]
              refine wpAnyH_ready (rs := [11]) (by kernel_rfl) (by simp) ?_
              refine AllReadyH.cons rfl (fun K hK => ?_) AllReadyH.nil
              go_simp
              refine hK.out _ _ ?_ (fun hHeld => ?_)
              · go_keep
              clear hK K
              try simp only [Act.put, Array.reduceGetElem, List.setIfInBounds_toArray, List.set_cons_zero, List.set_cons_succ]
              refine wpAnyH_ready (rs := [12]) (by kernel_rfl) (by simp) ?_
              refine AllReadyH.cons rfl (fun K hK => ?_) AllReadyH.nil
              go_wp2_with (go_simp; go_at_call 39; refine (HCC.out _ _ (HVV.out.below (below_drewn (Below.refl _ _) _))).mono ?_; rintro e wa ⟨va, rfl, ha⟩; have hba := (below_drewn (low_one wc (.cells #[(.slice F2 0 0), (.slice F4 n4 d4)] 26)) _).trans (ha.low.mono (by simp)); have hka := ha.kv; obtain ⟨Fa, na, da, rfl⟩ := hka.form; obtain ⟨⟨xx0, xx1, xx2, xx3, xx4, xx5⟩, xxf0, xxf1, xxf2, xxf3, xxf4, xxf5⟩ := c6_at (HSS.out _ hba).1.bo.box; have hbb2 := (head_row (HSS.out _ hba).1.bo.box).lt; have p1 : wa.cell? ⟨g, 0, none⟩ = some (.pointer (some ⟨b, 0, none⟩)) := (head_row (HSS.out _ hba).2).cell (i := 0) (by simp); have kks := And.intro p1 xx3; have kkz := And.intro (show (wa.setCell ⟨b, 5, none⟩ (.slice Fa na da)).cell? ⟨g, 0, none⟩ = some (.pointer (some ⟨b, 0, none⟩)) from (head_row (show (wa.setCell ⟨b, 5, none⟩ (.slice Fa na da)).heap[g]? = some (.cells (reC11 b) 62 (0, 0)) from by first | exact (Below.heap_setCell _ _ _ _ hbg).trans (HSS.out _ hba).2 | exact (Below.heap_setCell _ _ _ _ hgb).trans (HSS.out _ hba).2)).cell (i := 0) (by simp)) (c6_at ((HSS.out _ hba).1.set5 hka).bo.box).1.2.2.2.1)
              refine hK.out _ _ ?_ (fun hHeld => ?_)
              · with_reducible exact kks
              clear hK K
              try simp only [Act.put, Array.reduceGetElem, List.setIfInBounds_toArray, List.set_cons_zero, List.set_cons_succ]
              refine wpAnyH_take (i := 13) (v := ?vad13) rfl (by kernel_rfl) (by kernel_rfl) (by kernel_rfl) (fun _ _ _ h => h) (Or.inl ⟨by rfl, ?had13⟩) hHeld ?rad13
              case had13 =>
                intro w hSw
                try dsimp only at hSw
                go_simp
                try with_reducible rfl
              try simp only [Act.put, Array.reduceGetElem, List.setIfInBounds_toArray, List.set_cons_zero, List.set_cons_succ]
              refine wpAnyH_take (i := 14) (v := ?vad14) rfl (by kernel_rfl) (by kernel_rfl) (by kernel_rfl) (fun _ _ _ h => h) (Or.inl ⟨by rfl, ?had14⟩) hHeld ?rad14
              case had14 =>
                intro w hSw
                try dsimp only at hSw
                go_simp
                try with_reducible rfl
              try simp only [Act.put, Array.reduceGetElem, List.setIfInBounds_toArray, List.set_cons_zero, List.set_cons_succ]
              refine wpAnyH_ready (rs := [15]) (by kernel_rfl) (by simp) ?_
              refine AllReadyH.cons rfl (fun K hK => ?_) AllReadyH.nil
              go_simp
              refine hK.out _ _ ?_ (fun hHeld => ?_)
              · exact kkz
              clear hK K
              try simp only [Act.put, Array.reduceGetElem, List.setIfInBounds_toArray, List.set_cons_zero, List.set_cons_succ]
              refine wpAnyH_done (by kernel_rfl) ?_ _
              go_wp2_with fail
              go_meet
              refine ⟨Fa, na, da, (HSS.out _ hba).1.set5 hka, (HSS.out _ hba).1.kv (HEI11.out.2.1.below hba), ?_⟩
              first
                | exact (Below.heap_setCell _ _ _ _ hbg).trans (HSS.out _ hba).2
                | exact (Below.heap_setCell _ _ _ _ hgb).trans (HSS.out _ hba).2
            · obtain ⟨ad, rfl⟩ : ∃ ad, F2 = some ad := by
                cases F2 with
                | none => have := hnil2 rfl; omega
                | some ad => exact ⟨ad, rfl⟩
              rw [show tailV (some ad) n2 d2 m = .slice (some (ad.add m)) (n2 - m) (d2 - m) by simp [tailV, hd]] at HVV
              have hidI : (m : Int) ≤ (d2 : Int) := by omega
              have hid : m ≤ d2 := by omega
              refine wp_region_held_drew (S := fun w' => w'.cell? ⟨g, 0, none⟩ = some (.pointer (some ⟨b, 0, none⟩)) ∧ w'.cell? ⟨b, 3, none⟩ = some (.slice (some ad) n2 d2)) (by kernel_rfl) ⟨p0, x3⟩ (fun hHeld => ?_)
              refine wpAnyH_take (i := 0) (v := ?vae0) rfl (by kernel_rfl) (by kernel_rfl) (by kernel_rfl) (fun _ _ _ h => h) (Or.inl ⟨by rfl, ?hae0⟩) hHeld ?rae0
              case hae0 =>
                intro w hSw
                try dsimp only at hSw
                go_simp
                try with_reducible rfl
              try simp only [Act.put, Array.reduceGetElem, List.setIfInBounds_toArray, List.set_cons_zero, List.set_cons_succ]
              refine wpAnyH_take (i := 1) (v := ?vae1) rfl (by kernel_rfl) (by kernel_rfl) (by kernel_rfl) (fun _ _ _ h => h) (Or.inl ⟨by rfl, ?hae1⟩) hHeld ?rae1
              case hae1 =>
                intro w hSw
                try dsimp only at hSw
                go_simp
                try with_reducible rfl
              try simp only [Act.put, Array.reduceGetElem, List.setIfInBounds_toArray, List.set_cons_zero, List.set_cons_succ]
              refine wpAnyH_take (i := 2) (v := ?vae2) rfl (by kernel_rfl) (by kernel_rfl) (by kernel_rfl) (fun _ _ _ h => h) (Or.inl ⟨by rfl, ?hae2⟩) hHeld ?rae2
              case hae2 =>
                intro w hSw
                try dsimp only at hSw
                go_simp
                try with_reducible rfl
              try simp only [Act.put, Array.reduceGetElem, List.setIfInBounds_toArray, List.set_cons_zero, List.set_cons_succ]
              refine wpAnyH_take (i := 3) (v := ?vae3) rfl (by kernel_rfl) (by kernel_rfl) (by kernel_rfl) (fun _ _ _ h => h) (Or.inl ⟨by rfl, ?hae3⟩) hHeld ?rae3
              case hae3 =>
                intro w hSw
                try dsimp only at hSw
                go_simp
                try with_reducible rfl
              try simp only [Act.put, Array.reduceGetElem, List.setIfInBounds_toArray, List.set_cons_zero, List.set_cons_succ]
              refine wpAnyH_take (i := 4) (v := ?vae4) rfl (by kernel_rfl) (by kernel_rfl) (by kernel_rfl) (fun _ _ _ h => h) (Or.inl ⟨by rfl, ?hae4⟩) hHeld ?rae4
              case hae4 =>
                intro w hSw
                try dsimp only at hSw
                go_simp
                try with_reducible rfl
              try simp only [Act.put, Array.reduceGetElem, List.setIfInBounds_toArray, List.set_cons_zero, List.set_cons_succ]
              refine wpAnyH_take (i := 5) (v := ?vae5) rfl (by kernel_rfl) (by kernel_rfl) (by kernel_rfl) (fun _ _ _ h => h) (Or.inl ⟨by rfl, ?hae5⟩) hHeld ?rae5
              case hae5 =>
                intro w hSw
                try dsimp only at hSw
                go_simp
                try with_reducible rfl
              try simp only [Act.put, Array.reduceGetElem, List.setIfInBounds_toArray, List.set_cons_zero, List.set_cons_succ]
              refine wpAnyH_take (i := 6) (v := ?vae6) rfl (by kernel_rfl) (by kernel_rfl) (by kernel_rfl) (fun _ _ _ h => h) (Or.inl ⟨by rfl, ?hae6⟩) hHeld ?rae6
              case hae6 =>
                intro w hSw
                try dsimp only at hSw
                go_simp
                try with_reducible rfl
              try simp only [Act.put, Array.reduceGetElem, List.setIfInBounds_toArray, List.set_cons_zero, List.set_cons_succ]
              refine wpAnyH_take (i := 7) (v := ?vae7) rfl (by kernel_rfl) (by kernel_rfl) (by kernel_rfl) (fun _ _ _ h => h) (Or.inl ⟨by rfl, ?hae7⟩) hHeld ?rae7
              case hae7 =>
                intro w hSw
                try dsimp only at hSw
                go_simp
                try with_reducible rfl
              try simp only [Act.put, Array.reduceGetElem, List.setIfInBounds_toArray, List.set_cons_zero, List.set_cons_succ]
              refine wpAnyH_take (i := 8) (v := ?vae8) rfl (by kernel_rfl) (by kernel_rfl) (by kernel_rfl) (fun _ _ _ h => h) (Or.inl ⟨by rfl, ?hae8⟩) hHeld ?rae8
              case hae8 =>
                intro w hSw
                try dsimp only at hSw
                go_simp
                try with_reducible rfl
              try simp only [Act.put, Array.reduceGetElem, List.setIfInBounds_toArray, List.set_cons_zero, List.set_cons_succ]
              refine wpAnyH_take (i := 9) (v := ?vae9) rfl (by kernel_rfl) (by kernel_rfl) (by kernel_rfl) (fun _ _ _ h => h) (Or.inl ⟨by rfl, ?hae9⟩) hHeld ?rae9
              case hae9 =>
                intro w hSw
                try dsimp only at hSw
                go_simp
                try with_reducible rfl
              try simp only [Act.put, Array.reduceGetElem, List.setIfInBounds_toArray, List.set_cons_zero, List.set_cons_succ]
              refine wpAnyH_ready (rs := [10]) (by kernel_rfl) (by simp) ?_
              refine AllReadyH.cons rfl (fun K hK => ?_) AllReadyH.nil
              go_simp
              refine hK.out _ _ ?_ (fun hHeld => ?_)
              · exact hHeld
              clear hK K
              try simp only [Act.put, Array.reduceGetElem, List.setIfInBounds_toArray, List.set_cons_zero, List.set_cons_succ]
              refine wpAnyH_ready (rs := [11]) (by kernel_rfl) (by simp) ?_
              refine AllReadyH.cons rfl (fun K hK => ?_) AllReadyH.nil
              go_simp
              refine hK.out _ _ ?_ (fun hHeld => ?_)
              · go_keep
              clear hK K
              try simp only [Act.put, Array.reduceGetElem, List.setIfInBounds_toArray, List.set_cons_zero, List.set_cons_succ]
              refine wpAnyH_ready (rs := [12]) (by kernel_rfl) (by simp) ?_
              refine AllReadyH.cons rfl (fun K hK => ?_) AllReadyH.nil
              go_wp2_with (go_simp; go_at_call 39; refine (HCC.out _ _ (HVV.out.below (below_drewn (Below.refl _ _) _))).mono ?_; rintro e wa ⟨va, rfl, ha⟩; have hba := (below_drewn (low_one wc (.cells #[(.slice (some (ad.add m)) (n2 - m) (d2 - m)), (.slice F4 n4 d4)] 26)) _).trans (ha.low.mono (by simp)); have hka := ha.kv; obtain ⟨Fa, na, da, rfl⟩ := hka.form; obtain ⟨⟨xx0, xx1, xx2, xx3, xx4, xx5⟩, xxf0, xxf1, xxf2, xxf3, xxf4, xxf5⟩ := c6_at (HSS.out _ hba).1.bo.box; have hbb2 := (head_row (HSS.out _ hba).1.bo.box).lt; have p1 : wa.cell? ⟨g, 0, none⟩ = some (.pointer (some ⟨b, 0, none⟩)) := (head_row (HSS.out _ hba).2).cell (i := 0) (by simp); have kks := And.intro p1 xx3; have kkz := And.intro (show (wa.setCell ⟨b, 5, none⟩ (.slice Fa na da)).cell? ⟨g, 0, none⟩ = some (.pointer (some ⟨b, 0, none⟩)) from (head_row (show (wa.setCell ⟨b, 5, none⟩ (.slice Fa na da)).heap[g]? = some (.cells (reC11 b) 62 (0, 0)) from by first | exact (Below.heap_setCell _ _ _ _ hbg).trans (HSS.out _ hba).2 | exact (Below.heap_setCell _ _ _ _ hgb).trans (HSS.out _ hba).2)).cell (i := 0) (by simp)) (c6_at ((HSS.out _ hba).1.set5 hka).bo.box).1.2.2.2.1)
              refine hK.out _ _ ?_ (fun hHeld => ?_)
              · with_reducible exact kks
              clear hK K
              try simp only [Act.put, Array.reduceGetElem, List.setIfInBounds_toArray, List.set_cons_zero, List.set_cons_succ]
              refine wpAnyH_take (i := 13) (v := ?vae13) rfl (by kernel_rfl) (by kernel_rfl) (by kernel_rfl) (fun _ _ _ h => h) (Or.inl ⟨by rfl, ?hae13⟩) hHeld ?rae13
              case hae13 =>
                intro w hSw
                try dsimp only at hSw
                go_simp
                try with_reducible rfl
              try simp only [Act.put, Array.reduceGetElem, List.setIfInBounds_toArray, List.set_cons_zero, List.set_cons_succ]
              refine wpAnyH_take (i := 14) (v := ?vae14) rfl (by kernel_rfl) (by kernel_rfl) (by kernel_rfl) (fun _ _ _ h => h) (Or.inl ⟨by rfl, ?hae14⟩) hHeld ?rae14
              case hae14 =>
                intro w hSw
                try dsimp only at hSw
                go_simp
                try with_reducible rfl
              try simp only [Act.put, Array.reduceGetElem, List.setIfInBounds_toArray, List.set_cons_zero, List.set_cons_succ]
              refine wpAnyH_ready (rs := [15]) (by kernel_rfl) (by simp) ?_
              refine AllReadyH.cons rfl (fun K hK => ?_) AllReadyH.nil
              go_simp
              refine hK.out _ _ ?_ (fun hHeld => ?_)
              · exact kkz
              clear hK K
              try simp only [Act.put, Array.reduceGetElem, List.setIfInBounds_toArray, List.set_cons_zero, List.set_cons_succ]
              refine wpAnyH_done (by kernel_rfl) ?_ _
              go_wp2_with fail
              go_meet
              refine ⟨Fa, na, da, (HSS.out _ hba).1.set5 hka, (HSS.out _ hba).1.kv (HEI11.out.2.1.below hba), ?_⟩
              first
                | exact (Below.heap_setCell _ _ _ _ hbg).trans (HSS.out _ hba).2
                | exact (Below.heap_setCell _ _ _ _ hgb).trans (HSS.out _ hba).2
          case rest =>
            obtain ⟨Fa12, na12, da12, hei⟩ := hcut
            have HEI12 := Lib.hid hei
            clear hei HSS HEI11 x0 x1 x2 x3 x4 x5 xf0 xf1 xf2 xf3 xf4 xf5 hbb p0 hglt hgne hgne2 hbne hbne2
            go_wp2_with fail
            have HSS : Hid (∀ W, Below wc.heap.size wc W → Bx11 w0 W PT11 b r ⟨s.c, s.p, s.t1, s.t2, (s.t1.drop i ++ s.b1), (s.t2.drop m ++ s.b2)⟩ (.slice F1 n1 d1) (.slice F2 n2 d2) (.slice Fa11 na11 da11) (.slice Fa12 na12 da12) ∧ W.heap[g]? = some (.cells (reC11 b) 62 (0, 0))) := Lib.hid (fun W hb => ⟨HEI12.out.1.step hb, (hb.block g (head_row HEI12.out.2.2).lt).trans HEI12.out.2.2⟩)
            obtain ⟨⟨x0, x1, x2, x3, x4, x5⟩, xf0, xf1, xf2, xf3, xf4, xf5⟩ := c6_at HEI12.out.1.bo.box
            have hbb := (head_row HEI12.out.1.bo.box).lt
            have p0 : wc.cell? ⟨g, 0, none⟩ = some (.pointer (some ⟨b, 0, none⟩)) := (head_row HEI12.out.2.2).cell (i := 0) (by simp)
            dsimp only at x0 x1
            have hglt := (head_row HEI12.out.2.2).lt
            have hgne : g ≠ wc.heap.size := by omega
            have hgne2 : wc.heap.size ≠ g := by omega
            have hbne : b ≠ wc.heap.size := by omega
            have hbne2 : wc.heap.size ≠ b := by omega
            have HFT : Hid (∀ (W : World) (v : Value), KV W v s.t1 → Calls Tryz.prog 35 #[v, .int .i64 (i : Nat)] W (RetK W (s.t1.take i))) := Lib.hid (fun W v hv => by
              have h := firsts_walk hv (by omega) (i : Nat) (by omega) (by omega)
              rw [Int.toNat_natCast] at h
              exact h)
            go_cut [] (fun wx => ∃ Fa na da, Ei11 w0 wx b r g ⟨s.c, s.p, s.t1.take i, s.t2, (s.t1.drop i ++ s.b1), (s.t2.drop m ++ s.b2)⟩ (.slice Fa na da) (.slice F2 n2 d2) (.slice Fa11 na11 da11) (.slice Fa12 na12 da12) v6 acc)
            case first =>
              refine wp_region_held_drew (S := fun w' => w'.cell? ⟨g, 0, none⟩ = some (.pointer (some ⟨b, 0, none⟩))) (by kernel_rfl) p0 (fun hHeld => ?_)
              refine wpAnyH_take (i := 0) (v := ?vab0) rfl (by kernel_rfl) (by kernel_rfl) (by kernel_rfl) (fun _ _ _ h => h) (Or.inl ⟨by rfl, ?hab0⟩) hHeld ?rab0
              case hab0 =>
                intro w hSw
                try dsimp only at hSw
                go_simp
                try with_reducible rfl
              try simp only [Act.put, Array.reduceGetElem, List.setIfInBounds_toArray, List.set_cons_zero, List.set_cons_succ]
              refine wpAnyH_take (i := 1) (v := ?vab1) rfl (by kernel_rfl) (by kernel_rfl) (by kernel_rfl) (fun _ _ _ h => h) (Or.inl ⟨by rfl, ?hab1⟩) hHeld ?rab1
              case hab1 =>
                intro w hSw
                try dsimp only at hSw
                go_simp
                try with_reducible rfl
              try simp only [Act.put, Array.reduceGetElem, List.setIfInBounds_toArray, List.set_cons_zero, List.set_cons_succ]
              refine wpAnyH_take (i := 2) (v := ?vab2) rfl (by kernel_rfl) (by kernel_rfl) (by kernel_rfl) (fun _ _ _ h => h) (Or.inl ⟨by rfl, ?hab2⟩) hHeld ?rab2
              case hab2 =>
                intro w hSw
                try dsimp only at hSw
                go_simp
                try with_reducible rfl
              try simp only [Act.put, Array.reduceGetElem, List.setIfInBounds_toArray, List.set_cons_zero, List.set_cons_succ]
              refine wpAnyH_take (i := 3) (v := ?vab3) rfl (by kernel_rfl) (by kernel_rfl) (by kernel_rfl) (fun _ _ _ h => h) (Or.inl ⟨by rfl, ?hab3⟩) hHeld ?rab3
              case hab3 =>
                intro w hSw
                try dsimp only at hSw
                go_simp
                try with_reducible rfl
              try simp only [Act.put, Array.reduceGetElem, List.setIfInBounds_toArray, List.set_cons_zero, List.set_cons_succ]
              refine wpAnyH_take (i := 5) (v := ?vab5) rfl (by kernel_rfl) (by kernel_rfl) (by kernel_rfl) (fun _ _ _ h => h) (Or.inl ⟨by rfl, ?hab5⟩) hHeld ?rab5
              case hab5 =>
                intro w hSw
                try dsimp only at hSw
                go_simp
                try with_reducible rfl
              try simp only [Act.put, Array.reduceGetElem, List.setIfInBounds_toArray, List.set_cons_zero, List.set_cons_succ]
              refine wpAnyH_ready (rs := [4]) (by kernel_rfl) (by simp) ?_
              refine AllReadyH.cons rfl (fun K hK => ?_) AllReadyH.nil
              go_simp
              refine hK.out _ _ ?_ (fun hHeld => ?_)
              · exact hHeld
              clear hK K
              try simp only [Act.put, Array.reduceGetElem, List.setIfInBounds_toArray, List.set_cons_zero, List.set_cons_succ]
              refine wpAnyH_ready (rs := [6]) (by kernel_rfl) (by simp) ?_
              refine AllReadyH.cons rfl (fun K hK => ?_) AllReadyH.nil
              go_wp2_with (go_at_call 35; refine (HFT.out _ _ ((HSS.out _ (below_drewn (Below.refl _ _) 1)).1.st.g1)).mono ?_; rintro e wa ⟨va, rfl, hbq, hka⟩; have hba := (below_drewn (Below.refl wc.heap.size wc) 1).trans hbq; obtain ⟨Fa, na, da, rfl⟩ := hka.form; obtain ⟨⟨xx0, xx1, xx2, xx3, xx4, xx5⟩, xxf0, xxf1, xxf2, xxf3, xxf4, xxf5⟩ := c6_at (HSS.out _ hba).1.bo.box; have hbb2 := (head_row (HSS.out _ hba).1.bo.box).lt; have p1 : wa.cell? ⟨g, 0, none⟩ = some (.pointer (some ⟨b, 0, none⟩)) := (head_row (HSS.out _ hba).2).cell (i := 0) (by simp); have kks := p1; have kkz := (show (wa.setCell ⟨b, 2, none⟩ (.slice Fa na da)).cell? ⟨g, 0, none⟩ = some (.pointer (some ⟨b, 0, none⟩)) from (head_row (show (wa.setCell ⟨b, 2, none⟩ (.slice Fa na da)).heap[g]? = some (.cells (reC11 b) 62 (0, 0)) from by first | exact (Below.heap_setCell _ _ _ _ hbg).trans (HSS.out _ hba).2 | exact (Below.heap_setCell _ _ _ _ hgb).trans (HSS.out _ hba).2)).cell (i := 0) (by simp)))
              refine hK.out _ _ ?_ (fun hHeld => ?_)
              · with_reducible exact kks
              clear hK K
              try simp only [Act.put, Array.reduceGetElem, List.setIfInBounds_toArray, List.set_cons_zero, List.set_cons_succ]
              refine wpAnyH_take (i := 7) (v := ?vab7) rfl (by kernel_rfl) (by kernel_rfl) (by kernel_rfl) (fun _ _ _ h => h) (Or.inl ⟨by rfl, ?hab7⟩) hHeld ?rab7
              case hab7 =>
                intro w hSw
                try dsimp only at hSw
                go_simp
                try with_reducible rfl
              try simp only [Act.put, Array.reduceGetElem, List.setIfInBounds_toArray, List.set_cons_zero, List.set_cons_succ]
              refine wpAnyH_take (i := 8) (v := ?vab8) rfl (by kernel_rfl) (by kernel_rfl) (by kernel_rfl) (fun _ _ _ h => h) (Or.inl ⟨by rfl, ?hab8⟩) hHeld ?rab8
              case hab8 =>
                intro w hSw
                try dsimp only at hSw
                go_simp
                try with_reducible rfl
              try simp only [Act.put, Array.reduceGetElem, List.setIfInBounds_toArray, List.set_cons_zero, List.set_cons_succ]
              refine wpAnyH_ready (rs := [9]) (by kernel_rfl) (by simp) ?_
              refine AllReadyH.cons rfl (fun K hK => ?_) AllReadyH.nil
              go_simp
              refine hK.out _ _ ?_ (fun hHeld => ?_)
              · exact kkz
              clear hK K
              try simp only [Act.put, Array.reduceGetElem, List.setIfInBounds_toArray, List.set_cons_zero, List.set_cons_succ]
              refine wpAnyH_done (by kernel_rfl) ?_ _
              go_wp2_with fail
              go_meet
              refine ⟨Fa, na, da, (HSS.out _ hba).1.set2 hka, (HSS.out _ hba).1.kv (HEI12.out.2.1.below hba), ?_⟩
              first
                | exact (Below.heap_setCell _ _ _ _ hbg).trans (HSS.out _ hba).2
                | exact (Below.heap_setCell _ _ _ _ hgb).trans (HSS.out _ hba).2
            case rest =>
              obtain ⟨Fa13, na13, da13, hei⟩ := hcut
              have HEI13 := Lib.hid hei
              clear hei HSS HEI12 x0 x1 x2 x3 x4 x5 xf0 xf1 xf2 xf3 xf4 xf5 hbb p0 hglt hgne hgne2 hbne hbne2
              go_wp2_with fail
              have HSS : Hid (∀ W, Below wc.heap.size wc W → Bx11 w0 W PT11 b r ⟨s.c, s.p, (s.t1.take i), s.t2, (s.t1.drop i ++ s.b1), (s.t2.drop m ++ s.b2)⟩ (.slice Fa13 na13 da13) (.slice F2 n2 d2) (.slice Fa11 na11 da11) (.slice Fa12 na12 da12) ∧ W.heap[g]? = some (.cells (reC11 b) 62 (0, 0))) := Lib.hid (fun W hb => ⟨HEI13.out.1.step hb, (hb.block g (head_row HEI13.out.2.2).lt).trans HEI13.out.2.2⟩)
              obtain ⟨⟨x0, x1, x2, x3, x4, x5⟩, xf0, xf1, xf2, xf3, xf4, xf5⟩ := c6_at HEI13.out.1.bo.box
              have hbb := (head_row HEI13.out.1.bo.box).lt
              have p0 : wc.cell? ⟨g, 0, none⟩ = some (.pointer (some ⟨b, 0, none⟩)) := (head_row HEI13.out.2.2).cell (i := 0) (by simp)
              dsimp only at x0 x1
              have hglt := (head_row HEI13.out.2.2).lt
              have hgne : g ≠ wc.heap.size := by omega
              have hgne2 : wc.heap.size ≠ g := by omega
              have hbne : b ≠ wc.heap.size := by omega
              have hbne2 : wc.heap.size ≠ b := by omega
              have HFT : Hid (∀ (W : World) (v : Value), KV W v s.t2 → Calls Tryz.prog 35 #[v, .int .i64 (m : Nat)] W (RetK W (s.t2.take m))) := Lib.hid (fun W v hv => by
                have h := firsts_walk hv (by omega) (m : Nat) (by omega) (by omega)
                rw [Int.toNat_natCast] at h
                exact h)
              go_cut [] (fun wx => ∃ Fa na da, Ei11 w0 wx b r g ⟨s.c, s.p, (s.t1.take i), s.t2.take m, (s.t1.drop i ++ s.b1), (s.t2.drop m ++ s.b2)⟩ (.slice Fa13 na13 da13) (.slice Fa na da) (.slice Fa11 na11 da11) (.slice Fa12 na12 da12) v6 acc)
              case first =>
                refine wp_region_held_drew (S := fun w' => w'.cell? ⟨g, 0, none⟩ = some (.pointer (some ⟨b, 0, none⟩))) (by kernel_rfl) p0 (fun hHeld => ?_)
                refine wpAnyH_take (i := 0) (v := ?vaa0) rfl (by kernel_rfl) (by kernel_rfl) (by kernel_rfl) (fun _ _ _ h => h) (Or.inl ⟨by rfl, ?haa0⟩) hHeld ?raa0
                case haa0 =>
                  intro w hSw
                  try dsimp only at hSw
                  go_simp
                  try with_reducible rfl
                try simp only [Act.put, Array.reduceGetElem, List.setIfInBounds_toArray, List.set_cons_zero, List.set_cons_succ]
                refine wpAnyH_take (i := 1) (v := ?vaa1) rfl (by kernel_rfl) (by kernel_rfl) (by kernel_rfl) (fun _ _ _ h => h) (Or.inl ⟨by rfl, ?haa1⟩) hHeld ?raa1
                case haa1 =>
                  intro w hSw
                  try dsimp only at hSw
                  go_simp
                  try with_reducible rfl
                try simp only [Act.put, Array.reduceGetElem, List.setIfInBounds_toArray, List.set_cons_zero, List.set_cons_succ]
                refine wpAnyH_take (i := 2) (v := ?vaa2) rfl (by kernel_rfl) (by kernel_rfl) (by kernel_rfl) (fun _ _ _ h => h) (Or.inl ⟨by rfl, ?haa2⟩) hHeld ?raa2
                case haa2 =>
                  intro w hSw
                  try dsimp only at hSw
                  go_simp
                  try with_reducible rfl
                try simp only [Act.put, Array.reduceGetElem, List.setIfInBounds_toArray, List.set_cons_zero, List.set_cons_succ]
                refine wpAnyH_take (i := 3) (v := ?vaa3) rfl (by kernel_rfl) (by kernel_rfl) (by kernel_rfl) (fun _ _ _ h => h) (Or.inl ⟨by rfl, ?haa3⟩) hHeld ?raa3
                case haa3 =>
                  intro w hSw
                  try dsimp only at hSw
                  go_simp
                  try with_reducible rfl
                try simp only [Act.put, Array.reduceGetElem, List.setIfInBounds_toArray, List.set_cons_zero, List.set_cons_succ]
                refine wpAnyH_take (i := 5) (v := ?vaa5) rfl (by kernel_rfl) (by kernel_rfl) (by kernel_rfl) (fun _ _ _ h => h) (Or.inl ⟨by rfl, ?haa5⟩) hHeld ?raa5
                case haa5 =>
                  intro w hSw
                  try dsimp only at hSw
                  go_simp
                  try with_reducible rfl
                try simp only [Act.put, Array.reduceGetElem, List.setIfInBounds_toArray, List.set_cons_zero, List.set_cons_succ]
                refine wpAnyH_ready (rs := [4]) (by kernel_rfl) (by simp) ?_
                refine AllReadyH.cons rfl (fun K hK => ?_) AllReadyH.nil
                go_simp
                refine hK.out _ _ ?_ (fun hHeld => ?_)
                · exact hHeld
                clear hK K
                try simp only [Act.put, Array.reduceGetElem, List.setIfInBounds_toArray, List.set_cons_zero, List.set_cons_succ]
                refine wpAnyH_ready (rs := [6]) (by kernel_rfl) (by simp) ?_
                refine AllReadyH.cons rfl (fun K hK => ?_) AllReadyH.nil
                go_wp2_with (go_at_call 35; refine (HFT.out _ _ ((HSS.out _ (below_drewn (Below.refl _ _) 1)).1.st.g2)).mono ?_; rintro e wa ⟨va, rfl, hbq, hka⟩; have hba := (below_drewn (Below.refl wc.heap.size wc) 1).trans hbq; obtain ⟨Fa, na, da, rfl⟩ := hka.form; obtain ⟨⟨xx0, xx1, xx2, xx3, xx4, xx5⟩, xxf0, xxf1, xxf2, xxf3, xxf4, xxf5⟩ := c6_at (HSS.out _ hba).1.bo.box; have hbb2 := (head_row (HSS.out _ hba).1.bo.box).lt; have p1 : wa.cell? ⟨g, 0, none⟩ = some (.pointer (some ⟨b, 0, none⟩)) := (head_row (HSS.out _ hba).2).cell (i := 0) (by simp); have kks := p1; have kkz := (show (wa.setCell ⟨b, 3, none⟩ (.slice Fa na da)).cell? ⟨g, 0, none⟩ = some (.pointer (some ⟨b, 0, none⟩)) from (head_row (show (wa.setCell ⟨b, 3, none⟩ (.slice Fa na da)).heap[g]? = some (.cells (reC11 b) 62 (0, 0)) from by first | exact (Below.heap_setCell _ _ _ _ hbg).trans (HSS.out _ hba).2 | exact (Below.heap_setCell _ _ _ _ hgb).trans (HSS.out _ hba).2)).cell (i := 0) (by simp)))
                refine hK.out _ _ ?_ (fun hHeld => ?_)
                · with_reducible exact kks
                clear hK K
                try simp only [Act.put, Array.reduceGetElem, List.setIfInBounds_toArray, List.set_cons_zero, List.set_cons_succ]
                refine wpAnyH_take (i := 7) (v := ?vaa7) rfl (by kernel_rfl) (by kernel_rfl) (by kernel_rfl) (fun _ _ _ h => h) (Or.inl ⟨by rfl, ?haa7⟩) hHeld ?raa7
                case haa7 =>
                  intro w hSw
                  try dsimp only at hSw
                  go_simp
                  try with_reducible rfl
                try simp only [Act.put, Array.reduceGetElem, List.setIfInBounds_toArray, List.set_cons_zero, List.set_cons_succ]
                refine wpAnyH_take (i := 8) (v := ?vaa8) rfl (by kernel_rfl) (by kernel_rfl) (by kernel_rfl) (fun _ _ _ h => h) (Or.inl ⟨by rfl, ?haa8⟩) hHeld ?raa8
                case haa8 =>
                  intro w hSw
                  try dsimp only at hSw
                  go_simp
                  try with_reducible rfl
                try simp only [Act.put, Array.reduceGetElem, List.setIfInBounds_toArray, List.set_cons_zero, List.set_cons_succ]
                refine wpAnyH_ready (rs := [9]) (by kernel_rfl) (by simp) ?_
                refine AllReadyH.cons rfl (fun K hK => ?_) AllReadyH.nil
                go_simp
                refine hK.out _ _ ?_ (fun hHeld => ?_)
                · exact kkz
                clear hK K
                try simp only [Act.put, Array.reduceGetElem, List.setIfInBounds_toArray, List.set_cons_zero, List.set_cons_succ]
                refine wpAnyH_done (by kernel_rfl) ?_ _
                go_wp2_with fail
                go_meet
                refine ⟨Fa, na, da, (HSS.out _ hba).1.set3 hka, (HSS.out _ hba).1.kv (HEI13.out.2.1.below hba), ?_⟩
                first
                  | exact (Below.heap_setCell _ _ _ _ hbg).trans (HSS.out _ hba).2
                  | exact (Below.heap_setCell _ _ _ _ hgb).trans (HSS.out _ hba).2
              case rest =>
                obtain ⟨Fa14, na14, da14, hei⟩ := hcut
                have HEI14 := Lib.hid hei
                clear hei HSS HEI13 x0 x1 x2 x3 x4 x5 xf0 xf1 xf2 xf3 xf4 xf5 hbb p0 hglt hgne hgne2 hbne hbne2
                have HFIN := Lib.hid HEI14.out
                clear HEI14
                go_wp2
                go_ret
                refine ⟨v6, (.slice Fa13 na13 da13), (.slice Fa14 na14 da14), (.slice Fa11 na11 da11), (.slice Fa12 na12 da12), rfl, ?_, ?_⟩
                · have h := HFIN.out.1
                  rw [← HE.out.1] at h
                  exact h
                · have h := HFIN.out.2.1
                  rw [← HE.out.2] at h
                  exact h
      | succ f =>
        have hlt : (j : Int) < (n1 : Int) + (n2 : Int) - (N : Int) := by omega
        have HAL : Hid (acc.length ≤ 3000000) := Lib.hid (by
          have h := congrArg List.length hac
          rw [List.length_append, cuO_len, L11.cutOut_len] at h
          have := s.many_le N
          have := HN1.out
          have := HN2.out
          omega)
        have hFL := hle.2.2
        have hpos : 0 < i + m := by omega
        clear hML
        go_upto_region 5 with fail
        obtain ⟨q, hq⟩ : ∃ q, decide (fst1 pp gb i m) = q := ⟨_, rfl⟩
        have HQ := Lib.hid hq
        go_cut [32, 58] (fun s32 s58 wx => s32 = .int .i64 (j : Nat) ∧ s58 = .bool q ∧ wx = wr)
        case first =>
          clear HKO HAL hac hli hlm
          by_cases hz : m = 0
          · subst hz
            obtain rfl : q = true := by rw [← hq]; exact decide_eq_true (by unfold fst1; first | exact .inl rfl | exact .inr ⟨by omega, .inl (by omega)⟩ | exact .inr ⟨by omega, .inr ⟨rfl, rfl⟩⟩)
            clear hq HQ
            go_wp2_with fail
            go_meet
            exact ⟨rfl, rfl, rfl⟩
          · by_cases hz1 : i = 0
            · subst hz1
              have j3 : ((m : Int) == 0) = false := by rw [beq_eq_false_iff_ne]; omega
              obtain rfl : q = false := by rw [← hq]; exact decide_eq_false (by unfold fst1; rintro (h | ⟨h1, h2 | ⟨h2, h3⟩⟩) <;> first | omega | cases h3)
              clear hq HQ
              go_wp2_with fail
              go_meet
              exact ⟨rfl, rfl, rfl⟩
            · rcases Nat.lt_trichotomy i pp with hpl | hpe | hpg
              · have j3 : ((m : Int) == 0) = false := by rw [beq_eq_false_iff_ne]; omega
                have j0 : ¬ (i : Int) ≤ 0 := by omega
                have j1 : ¬ (pp : Int) < (i : Int) := by omega
                have j2 : ((i : Int) == (pp : Int)) = false := by rw [beq_eq_false_iff_ne]; omega
                obtain rfl : q = false := by rw [← hq]; exact decide_eq_false (by unfold fst1; rintro (h | ⟨h1, h2 | ⟨h2, h3⟩⟩) <;> first | omega | cases h3)
                clear hq HQ
                go_wp2_with fail
                go_meet
                exact ⟨rfl, rfl, rfl⟩
              · cases gb
                · have j3 : ((m : Int) == 0) = false := by rw [beq_eq_false_iff_ne]; omega
                  have j0 : ¬ (i : Int) ≤ 0 := by omega
                  subst hpe
                  have j1 : ¬ (i : Int) < (i : Int) := by omega
                  obtain rfl : q = false := by rw [← hq]; exact decide_eq_false (by unfold fst1; rintro (h | ⟨h1, h2 | ⟨h2, h3⟩⟩) <;> first | omega | cases h3)
                  clear hq HQ
                  go_wp2_with fail
                  go_meet
                  exact ⟨rfl, rfl, rfl⟩
                · have j3 : ((m : Int) == 0) = false := by rw [beq_eq_false_iff_ne]; omega
                  have j0 : ¬ (i : Int) ≤ 0 := by omega
                  subst hpe
                  have j1 : ¬ (i : Int) < (i : Int) := by omega
                  obtain rfl : q = true := by rw [← hq]; exact decide_eq_true (by unfold fst1; first | exact .inl rfl | exact .inr ⟨by omega, .inl (by omega)⟩ | exact .inr ⟨by omega, .inr ⟨rfl, rfl⟩⟩)
                  clear hq HQ
                  go_wp2_with fail
                  go_meet
                  exact ⟨rfl, rfl, rfl⟩
              · have j3 : ((m : Int) == 0) = false := by rw [beq_eq_false_iff_ne]; omega
                have j0 : ¬ (i : Int) ≤ 0 := by omega
                have j1 : (pp : Int) < (i : Int) := by omega
                obtain rfl : q = true := by rw [← hq]; exact decide_eq_true (by unfold fst1; first | exact .inl rfl | exact .inr ⟨by omega, .inl (by omega)⟩ | exact .inr ⟨by omega, .inr ⟨rfl, rfl⟩⟩)
                clear hq HQ
                go_wp2_with fail
                go_meet
                exact ⟨rfl, rfl, rfl⟩
        case rest =>
          obtain ⟨rfl, rfl, rfl⟩ := hcut
          by_cases hf : fst1 pp gb i m
          · obtain rfl : q = true := by rw [← HQ.out]; exact decide_eq_true hf
            obtain ⟨k, rfl⟩ : ∃ k, i = k + 1 := ⟨i - 1, by have := fst1_pos hf hpos; omega⟩
            rw [cuI_in hf, Nat.add_sub_cancel] at hli
            rw [cuM_in hf, Nat.add_sub_cancel] at hlm
            rw [cuO_in hf, Nat.add_sub_cancel] at hac
            obtain ⟨ad, hF, q0⟩ := HE1.out wc HKO.out.low k (by omega)
            subst hF
            generalize s.t1.getD k 0 = x at q0 hac
            have HAR := Lib.hid (And.intro hli (And.intro hlm hac))
            have hk1 : (k : Int) < (n1 : Int) := by omega
            have hkI : (k : Int) ≤ 1048575 := by omega
            have hk1N : k < n1 := by omega
            have hal := HAL.out
            have HJ := Lib.hid hj
            have HLE : Hid (k ≤ n1 ∧ m ≤ n2 ∧ f ≤ k + m) := Lib.hid (by omega)
            clear hli hlm hac hf hpos hFL hq HQ hle hiI
            have HOW := Lib.hid (HKO.out.alloc HKO.out.low.size (.cells #[.int .u64 (x : Nat)] 31))
            have HSRC := Lib.hid (KV.one wc x)
            have hszA : w.heap.size ≤ (wc.alloc (.cells #[.int .u64 (x : Nat)] 31)).heap.size := HOW.out.low.size
            go_wp2_with (at_builtin; refine wpList_append_kv rfl (.tmp 61) (.tmp 69) rfl w.heap.size (by kernel_rfl) (by kernel_rfl) v6 acc rfl HOW.out _ [x] rfl HSRC.out (by simp; omega) hszA ?_)
            intro v7 w7 hown7 _ _
            have HNX : Hid (Cl11 w w7 s N gb f k m v7) := Lib.hid (by
              refine ⟨⟨acc ++ [x], hown7, ?_⟩, by rw [HPP.out]; exact HAR.out.1, by rw [HPP.out]; exact HAR.out.2.1, by rw [HN1.out, HN2.out]; exact HLE.out⟩
              rw [HPP.out, List.append_assoc]
              exact HAR.out.2.2)
            clear hown7 HOW HSRC q0 x1 x2 x3 p0 HKO HAR HAL hal hszA hj HLE
            go_wp2
            go_roundg f
            case measure => omega
            case rel => exact ⟨k, m, j + 1, _, by have := HJ.out; omega, by go_num, rfl, rfl, by go_num, HNX⟩
          · obtain rfl : q = false := by rw [← HQ.out]; exact decide_eq_false hf
            obtain ⟨k, rfl⟩ : ∃ k, m = k + 1 := ⟨m - 1, by have := fst1_neg hf; omega⟩
            rw [cuI_out hf, Nat.add_sub_cancel] at hli
            rw [cuM_out hf, Nat.add_sub_cancel] at hlm
            rw [cuO_out hf, Nat.add_sub_cancel] at hac
            obtain ⟨ad, hF, q0⟩ := HE2.out wc HKO.out.low k (by omega)
            subst hF
            generalize s.t2.getD k 0 = x at q0 hac
            have HAR := Lib.hid (And.intro hli (And.intro hlm hac))
            have hk1 : (k : Int) < (n2 : Int) := by omega
            have hkI : (k : Int) ≤ 1048575 := by omega
            have hk1N : k < n2 := by omega
            have hal := HAL.out
            have HJ := Lib.hid hj
            have HLE : Hid (i ≤ n1 ∧ k ≤ n2 ∧ f ≤ i + k) := Lib.hid (by omega)
            clear hli hlm hac hf hpos hFL hq HQ hle hmI
            have HOW := Lib.hid (HKO.out.alloc HKO.out.low.size (.cells #[.int .u64 (x : Nat)] 31))
            have HSRC := Lib.hid (KV.one wc x)
            have hszA : w.heap.size ≤ (wc.alloc (.cells #[.int .u64 (x : Nat)] 31)).heap.size := HOW.out.low.size
            go_wp2_with (at_builtin; refine wpList_append_kv rfl (.tmp 73) (.tmp 81) rfl w.heap.size (by kernel_rfl) (by kernel_rfl) v6 acc rfl HOW.out _ [x] rfl HSRC.out (by simp; omega) hszA ?_)
            intro v7 w7 hown7 _ _
            have HNX : Hid (Cl11 w w7 s N gb f i k v7) := Lib.hid (by
              refine ⟨⟨acc ++ [x], hown7, ?_⟩, by rw [HPP.out]; exact HAR.out.1, by rw [HPP.out]; exact HAR.out.2.1, by rw [HN1.out, HN2.out]; exact HLE.out⟩
              rw [HPP.out, List.append_assoc]
              exact HAR.out.2.2)
            clear hown7 HOW HSRC q0 x1 x2 x3 p0 HKO HAR HAL hal hszA hj HLE
            go_wp2
            go_roundg f
            case measure => omega
            case rel => exact ⟨i, k, j + 1, _, by have := HJ.out; omega, rfl, by go_num, rfl, by go_num, HNX⟩
end
end Go.Proofs.YtgkblelgcikafaaGreat
