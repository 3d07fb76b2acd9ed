/- Three simple queues: Bounds, walked. -/
import Derived.Test.YtlekhmpalcgbmaaS3U
import Derived.Test.YtlekhmpalcgbmaaS3V
import Derived.IntWalk
namespace Go.Proofs.Ytlekhmpalcgbmaa
open Go Go.RowKit Go.Deep

abbrev PTI10 : TypeId := 58
/- A law's run, ahead of what the law says of it. -/
theorem run10_ok {w : World} {v : Value} {l : List Act8} (ha : AV w v l) (c : Nat) : ((L10.new (1 + c % 12 : Nat)).runS l).Ok := (L10.ok_new _).runS _ (fun x hx => by
  obtain ⟨A, c', _, h1⟩ := ha.mem
  obtain ⟨j, hj, rfl⟩ := List.getElem_of_mem hx
  exact (h1 j hj).1)
section
variable {w : World} {v : Value} {l : List Act8}
set_option maxHeartbeats 4000000 in
set_option maxRecDepth 4000 in
theorem bounds10_short (PO : Pol10Ok) (AW : ∀ w, Calls Try.prog 8 #[] w (RetB w true)) (c : Nat) (hc : c < 256) (ha : AV w v l) (hl : l.length ≤ 60) : Calls Try.prog 6 #[.int .u8 (c : Nat), v] w (RetB w true) := by
  have HAW := Lib.hid (AW w)
  have HRUN : Hid (∀ W, AV W v l → Calls Try.prog 15 #[.int .u8 (c : Nat), v] W (P10 W ((L10.new (1 + c % 12 : Nat)).runS l))) := Lib.hid (fun W h => run10_walk PO c hc h hl)
  have HOKN := Lib.hid (run10_ok ha c)
  have HAV := Lib.hid ha
  obtain ⟨A, cap, rfl, _⟩ := ha.mem
  obtain ⟨na, hna⟩ : ∃ na, l.length = na := ⟨_, rfl⟩
  rw [hna] at hl HAV HRUN ⊢
  obtain ⟨σ, hσN⟩ : ∃ σN, (L10.new (1 + c % 12 : Nat)).runS l = σN := ⟨_, rfl⟩
  rw [hσN] at HRUN HOKN
  have HKY : Hid (∀ W u1 u2 u3, St10 W σ u1 u2 u3 → Calls Try.prog 17 #[.agg (l10C σ.c u1 u2 u3)] W (RetK W σ.keys)) := Lib.hid (fun W _ _ _ h => PO.keys h HOKN.out)
  have hlen := HOKN.out.len
  have hglen := HOKN.out.glen
  have hcap := HOKN.out.cap
  have HTG : Hid (∀ W, Calls Try.prog 25 #[.int .i64 (σ.c : Nat)] W fun e w' => e = .returned (.int .i64 (tgt σ.c : Nat)) ∧ W = w') := Lib.hid (fun W => rtarget_walk σ.c hcap)
  have HFQ := Lib.hid HOKN.out.fine.f
  have HND : Hid ([σ.keys, σ.ghost].flatten.Nodup) := Lib.hid (by have := HOKN.out.fine.nd; simpa using this)
  have hgcap : σ.ghost.length ≤ 1048576 := by have := room_le σ.c; omega
  have hkl : σ.keys.length = (σ.small ++ σ.main).length := by rw [L10.keys_len, List.length_append]; rfl
  have htl : (σ.small ++ σ.main).length ≤ σ.c := by rw [List.length_append]; exact hlen
  have HL8 : Hid ([σ.keys, σ.ghost].flatten.length ≤ 100000000) := Lib.hid (by simp; omega)
  have HLS : Hid (σ.small.length + σ.main.length ≤ 1048576) := Lib.hid (by rw [← List.length_append]; omega)
  have htc : tgt σ.c ≤ σ.c := by have := HOKN.out.pos; unfold tgt; split <;> omega
  have hro : σ.ghost.length + tgt σ.c ≤ σ.c := by unfold room at hglen; omega
  clear ha hna AW hσN hc HOKN hlen hglen
  have hlI : ¬ (60 : Int) < (na : Int) := by omega
  go_enter Try.func6, Try.ntmps6
  go_wp2_with fail
  refine (HAW.out).mono ?_
  rintro e w1 ⟨rfl, hb1⟩
  have HL1 := Lib.hid hb1
  have HAV1 := Lib.hid (HAV.out.below hb1)
  clear hb1 HAW HAV
  go_wp2_with fail
  refine (HRUN.out w1 HAV1.out).mono ?_
  rintro e w2 ⟨q1, q2, q3, he, hb2, hk2⟩
  obtain ⟨F1, n1, d1, rfl⟩ := hk2.form1
  obtain ⟨F2, n2, d2, rfl⟩ := hk2.form2
  obtain ⟨F3, d3, rfl, -⟩ := hk2.g3.mem
  obtain ⟨n3, hn3⟩ : ∃ m, σ.ghost.length = m := ⟨_, rfl⟩
  obtain ⟨nn, hnn⟩ : ∃ m, (σ.small ++ σ.main).length = m := ⟨_, rfl⟩
  rw [hn3] at hk2 he hgcap hro
  rw [hnn] at hkl htl
  have HKL := Lib.hid hkl
  have HNN := Lib.hid hnn
  subst he
  have hbs := Bs10.new (T := PT10) (by decide) (HL1.out.trans (hb2.mono HL1.out.size)) hk2
  have HBS := Lib.hid hbs
  clear hb2 hk2 hbs HRUN HL1 HAV1 hn3 hnn hkl
  obtain ⟨q, hq⟩ : ∃ q, tgt σ.c = q := ⟨_, rfl⟩
  obtain ⟨cc, hcc⟩ : ∃ cc, σ.c = cc := ⟨_, rfl⟩
  have HCC := Lib.hid hcc
  rw [hq, hcc] at htc hro HTG
  rw [hcc] at htl hcap
  have hi1 : (nn : Int) ≤ (cc : Int) := by omega
  have hi2 : (n3 : Int) ≤ (cc : Int) - (q : Int) := by omega
  have hi3 : (q : Int) ≤ (cc : Int) := by omega
  have hi4 : (cc : Int) ≤ 1048576 := by omega
  have hi5 : (n3 : Int) ≤ 1048576 := by omega
  rw [hcc] at HBS HKY ⊢
  clear hcap hcc hq htc hro htl hgcap
  have w1 : IntKind.i64.wrap ((cc : Int) - (q : Int)) = (cc : Int) - (q : Int) := IntWalk.i64_in _ (by omega)
  go_upto_region 5 with fail
  generalize w2.alloc (.cells (l10C cc (.slice F1 n1 d1) (.slice F2 n2 d2) (.slice F3 n3 d3)) PT10) = w5 at HBS ⊢
  generalize w2.heap.size = b at HBS ⊢
  have HSS : Hid (∀ w' : World, Below w5.heap.size w5 w' → w'.cell? ⟨b, 0, none⟩ = some (.int .i64 (cc : Nat)) ∧ w'.cell? ⟨b, 1, none⟩ = some (.slice F1 n1 d1) ∧ w'.cell? ⟨b, 2, none⟩ = some (.slice F2 n2 d2) ∧ w'.cell? ⟨b, 3, none⟩ = some (.slice F3 n3 d3)) := Lib.hid (fun w' hb => by
    obtain ⟨⟨x0, x1, x2, x3⟩, _⟩ := c4_at (HBS.out.step hb).box
    exact ⟨x0.trans (by rw [HCC.out]), x1, x2, x3⟩)
  obtain ⟨x0, x1, x2, x3⟩ := HSS.out w5 (Below.refl _ _)
  go_region_held3 (fun w' => w'.cell? ⟨b, 0, none⟩ = some (.int .i64 (cc : Nat)) ∧ w'.cell? ⟨b, 1, none⟩ = some (.slice F1 n1 d1) ∧ w'.cell? ⟨b, 2, none⟩ = some (.slice F2 n2 d2) ∧ w'.cell? ⟨b, 3, none⟩ = some (.slice F3 n3 d3))
    (first | with_reducible exact kk2 | with_reducible exact kk1 | go_keep)
    (first
      | (refine step_append_iv (e := PTI10) (by rfl) (.tmp 17) (.tmp 19) (by rfl) w5.heap.size (by kernel_rfl) (by kernel_rfl) _ [] (by rfl) (w0 := w5) ((OwnI.empty (e := PTI10) (Nat.le_refl _) (Below.refl _ _)).drewn _) _ σ.small (by rfl) ((HBS.out.step (below_drewn (low_one w5 (.cells #[] PTI10)) _)).st.g1) (by have := HLS.out; simp; omega) (by simp) ?_; intro v1 wa hown1; have kk1 := HSS.out wa hown1.low)
      | (refine step_append_iv (e := PTI10) (by rfl) (.tmp 20) (.tmp 22) (by rfl) w5.heap.size (by kernel_rfl) (by kernel_rfl) _ _ (by rfl) hown1 _ σ.main (by rfl) ((HBS.out.step hown1.low).st.g2) (by have := HLS.out; simp; omega) hown1.low.size ?_; intro v2 wb hown2; have kk2 := HSS.out wb hown2.low))
  obtain ⟨Fz, cz, rfl, -⟩ := hown2.iv.mem
  have hown3 : OwnI PTI10 w5.heap.size w5 wb (.slice Fz (σ.small ++ σ.main).length cz) (σ.small ++ σ.main) := hown2
  have hwl : ([] ++ σ.small ++ σ.main).length = nn := HNN.out
  rw [hwl]
  rw [HNN.out] at hown3
  have HIV := Lib.hid hown3.iv
  have HBL := Lib.hid hown3.low
  clear hown1 hown2 hown3 kk1 kk2 x0 x1 x2 x3 hwl
  go_wp2_with fail
  go_loopg [8] nn (fun gg s8 wr => ∃ i : Nat, i + gg = nn ∧ s8 = .int .i64 (i : Nat) ∧ wr = wb)
  case atStart => exact ⟨0, by omega, rfl, rfl⟩
  case round =>
    obtain ⟨i, hi, rfl, rfl⟩ := hrel
    by_cases hlt : i < nn
    · have hltI : (i : Int) < (nn : Int) := by omega
      obtain ⟨G, d, e, _, _, h3⟩ := HIV.out.mem
      injection e with e1 e2 e3
      subst e1 e3
      obtain ⟨g, off, hF, hg, q0, q1⟩ := h3 i (by have := HNN.out; omega)
      subst hF
      have hfx := HFQ.out _ (List.getElem_mem (l := σ.small ++ σ.main) (n := i) (by have := HNN.out; omega))
      obtain ⟨fx, hfe⟩ : ∃ f, It.f ((σ.small ++ σ.main)[i]'(by have := HNN.out; omega)) = f := ⟨_, rfl⟩
      rw [hfe] at q1 hfx
      have hf1 : ¬ (fx : Int) < 0 := by omega
      have hf2 : ¬ (3 : Int) < (fx : Int) := by omega
      clear h3 hfe q0 e2 hlt
      go_wp2
      go_roundg (gk - 1)
      case measure => omega
      case rel => exact ⟨i + 1, by omega, by go_num, rfl⟩
    · have hltI : ¬ (i : Int) < (nn : Int) := by omega
      clear hlt hi
      have HB6 := Lib.hid (HBS.out.step HBL.out)
      have HLW : Hid (∀ w' : World, Below wr.heap.size wr w' → w'.cell? ⟨b, 0, none⟩ = some (.int .i64 (cc : Nat)) ∧ w'.cell? ⟨b, 1, none⟩ = some (.slice F1 n1 d1) ∧ w'.cell? ⟨b, 2, none⟩ = some (.slice F2 n2 d2) ∧ w'.cell? ⟨b, 3, none⟩ = some (.slice F3 n3 d3)) := Lib.hid (fun w' hb => HSS.out w' (HBL.out.trans (hb.mono HBL.out.size)))
      obtain ⟨x0, x1, x2, x3⟩ := HLW.out _ (Below.refl _ _)
      clear HBS HBL HSS HIV HFQ
      go_upto_region 11 with fail
      go_region_held3 (fun w' => w'.cell? ⟨b, 0, none⟩ = some (.int .i64 (cc : Nat)) ∧ w'.cell? ⟨b, 1, none⟩ = some (.slice F1 n1 d1) ∧ w'.cell? ⟨b, 2, none⟩ = some (.slice F2 n2 d2) ∧ w'.cell? ⟨b, 3, none⟩ = some (.slice F3 n3 d3))
        (first | with_reducible exact kkc | with_reducible exact kkb | with_reducible exact kka | go_keep)
        (first
          | (go_at_call 25; refine (HTG.out _).mono ?_; rintro e wt ⟨rfl, rfl⟩)
          | (go_at_call 17; refine (HKY.out wd _ _ _ (HB6.out.step hBd).st).mono ?_; rintro e we ⟨v9, rfl, hbe, hke⟩; obtain ⟨Fe, ce, rfl, -⟩ := hke.mem; rw [HKL.out]; have hBe := hBd.trans (hbe.mono hBd.size); have kkc := HLW.out we hBe)
          | (go_at_call 24; refine (rapart_walk (kss := [σ.keys, σ.ghost]) (KVV.two hkc (HB6.out.step hBc).st.g3 _) (by simp) HL8.out).mono ?_; rintro e wd ⟨rfl, hbd⟩; rw [decide_eq_true HND.out]; have hBd := (hBc.alloc hBc.size _).trans (hbd.mono (by have := hBc.size; simp; omega)); have kkb := HLW.out wd hBd)
          | (go_at_call 17; refine (HKY.out _ _ _ _ (HB6.out.step (below_drewn (Below.refl _ _) _)).st).mono ?_; rintro e wc ⟨v8, rfl, hbc, hkc⟩; obtain ⟨Fc, nc, dc, rfl⟩ := hkc.form; have hBc := (below_drewn (Below.refl wr.heap.size wr) _).trans hbc; have kka := HLW.out wc hBc))
      have HL := Lib.hid (HB6.out.low.trans (hBe.mono HB6.out.low.size))
      go_wp2
      go_ret
      exact ⟨rfl, HL.out⟩
theorem bounds10_walk (PO : Pol10Ok) (AW : ∀ w, Calls Try.prog 8 #[] w (RetB w true)) (c : Nat) (hc : c < 256) (ha : AV w v l) : Calls Try.prog 6 #[.int .u8 (c : Nat), v] w (RetB w true) := by
  by_cases hl : l.length ≤ 60
  · exact bounds10_short PO AW c hc ha hl
  · have HAW := Lib.hid (fun W => AW W)
    obtain ⟨A, cap, rfl, _⟩ := ha.mem
    obtain ⟨na, hna⟩ : ∃ na, l.length = na := ⟨_, rfl⟩
    rw [hna] at hl ⊢
    have hlI : (60 : Int) < (na : Int) := by omega
    clear ha hna AW
    go_enter Try.func6, Try.ntmps6
    go_wp2_with fail
    refine (HAW.out _).mono ?_
    rintro e w1 ⟨rfl, hb1⟩
    have HB := Lib.hid hb1
    clear hb1
    go_wp2
    go_ret
    exact ⟨rfl, HB.out⟩
end
end Go.Proofs.Ytlekhmpalcgbmaa
