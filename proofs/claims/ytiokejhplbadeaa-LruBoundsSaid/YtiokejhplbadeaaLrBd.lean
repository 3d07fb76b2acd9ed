/- Least recently used: Bounds, walked. -/
import Derived.Test.YtiokejhplbadeaaLrU
namespace Go.Proofs.Ytiokejhplbadeaa
open Go Go.RowKit Go.Deep

section
variable {w : World} {v : Value} {l : List Act8}
theorem field8 (F : Option Addr) (n d c : Nat) (W : World) : (Instr.field PT8 (.agg #[.int .i64 (c : Nat), .slice F n d]) 0).run Try.prog W = .ok (.int .i64 (c : Nat)) W := by
  kernel_rfl
set_option maxHeartbeats 8000000 in
set_option maxRecDepth 4000 in
theorem bounds8_short (PO : Pol8Ok) (AW : ∀ w, Calls Try.prog 13 #[] w (RetB w true)) (c : Nat) (hc : c < 256) (ha : AV w v l) (hl : l.length ≤ 60) (n : Int) (hn1 : -9223372036854775808 ≤ n) (hn2 : n ≤ 9223372036854775807) : Calls Try.prog 7 #[.int .u8 (c : Nat), v, .int .i64 n] w (RetB w true) := by
  have HAW := Lib.hid (AW w)
  have HRUN : Hid (∀ W, AV W v l → Calls Try.prog 20 #[.int .u8 (c : Nat), v] W (P8 W ((L8.new (1 + c % 12 : Nat)).runS l))) := Lib.hid (fun W h => run8_walk PO c hc h hl)
  have HOKR : Hid (∀ i, ((L8.new (1 + c % 12 : Nat)).runS (l.take i)).Ok) := Lib.hid (fun i => (L8.ok_new _).runS _ (fun x hx => by
    obtain ⟨A, c', _, h1⟩ := ha.mem
    obtain ⟨j, hj, rfl⟩ := List.getElem_of_mem (List.mem_of_mem_take hx)
    exact (h1 j hj).1))
  have HOKN : Hid (((L8.new (1 + c % 12 : Nat)).runS l).Ok) := Lib.hid (by have := HOKR.out l.length; rwa [List.take_length] at this)
  have HAV := Lib.hid ha
  obtain ⟨A, cap, rfl, _⟩ := ha.mem
  obtain ⟨na, hna⟩ : ∃ na, l.length = na := ⟨_, rfl⟩
  rw [hna] at hl HAV HRUN ⊢
  have HNA := Lib.hid hna
  have HAX : Hid (∀ W, Below w.heap.size w W → ∀ i (hi : i < l.length), l[i].Ok ∧ ∃ g off, A = some ⟨g, off, none⟩ ∧ g < w.heap.size ∧ ActAt W g (off + i * 3) l[i]) := Lib.hid (fun W hb i hi => by
    obtain ⟨A', c', e, h1⟩ := HAV.out.mem
    injection e with e1 _ _
    subst e1
    obtain ⟨ok, g, off, e2, hg, hcc⟩ := h1 i hi
    exact ⟨ok, g, off, e2, hg, hcc.keep (hb.block g hg)⟩)
  obtain ⟨m0, hm0⟩ : ∃ m : Nat, 1 + c % 12 = m := ⟨_, rfl⟩
  have hmI : (1 : Int) + (c : Int) % 12 = (m0 : Int) := by omega
  have hm14 : m0 ≤ 12 := by omega
  rw [hm0] at HRUN HOKR HOKN
  obtain ⟨s0, hs0⟩ : ∃ s0, L8.new (m0 : Int) = s0 := ⟨_, rfl⟩
  rw [hs0] at HRUN HOKR HOKN
  obtain ⟨σ, hσN⟩ : ∃ σN, s0.runS l = σN := ⟨_, rfl⟩
  rw [hσN] at HRUN HOKN
  have HNEW := Lib.hid (fun W => PO.new W n hn1 hn2)
  have HRES : Hid (∀ W u1, St8 W σ u1 → Calls Try.prog 31 #[.agg (l8C σ.c u1), .int .i64 n] W (P8o W (σ.resize n) (σ.resizeOut n))) := Lib.hid (fun W _ h => PO.resize h HOKN.out n hn1 hn2)
  have HGH : Hid (∀ W u1, St8 W σ u1 → Calls Try.prog 25 #[.agg (l8C σ.c u1)] W (fun e w' => e = .returned (.int .i64 (σ.ghosts : Nat)) ∧ Below W.heap.size W w')) := Lib.hid (fun W _ h => PO.ghosts h HOKN.out)
  have HCAP := Lib.hid (fun W => rcap_walk (w := W) n hn1 hn2)
  have hlen := HOKN.out.len
  have HND := Lib.hid HOKN.out.nd
  have HL8 := Lib.hid HOKN.out.len_l
  have hlen2 : (σ.resize n).l.length ≤ (σ.resize n).c := (HOKN.out.resize n).len
  have hc2 : (σ.resize n).c = capI n := rfl
  have hc3 : (L8.new n).c = capI n := rfl
  clear ha hs0 hna AW hm0 hσN hc HAX HOKR HNA
  have hlI : ¬ (60 : Int) < (na : Int) := by omega
  go_enter Try.func7, Try.ntmps7
  go_wp2_with fail
  refine (HAW.out).mono ?_
  rintro e w1 ⟨rfl, hb1⟩
  have HL1 := Lib.hid hb1
  have HAV1 := Lib.hid (HAV.out.below hb1)
  clear hb1 HAW HAV
  go_wp2_with fail
  refine (HRUN.out w1 HAV1.out).mono ?_
  rintro e w2 ⟨q1, rfl, hb2, hk2⟩
  obtain ⟨F1, d1, rfl, _⟩ := hk2.g1.mem
  obtain ⟨n1, hn1e⟩ : ∃ m, σ.l.length = m := ⟨_, rfl⟩
  rw [hn1e] at hlen hk2 ⊢
  have hl2 := HL1.out.trans (hb2.mono HL1.out.size)
  have HL3 := Lib.hid (hl2.alloc hl2.size (.cells (l8C σ.c (.slice F1 n1 d1)) PT8))
  have HB3 := Lib.hid (heap_alloc_new w2 (.cells (l8C σ.c (.slice F1 n1 d1)) PT8))
  have HS3 := Lib.hid (hk2.below (low_one w2 (.cells (l8C σ.c (.slice F1 n1 d1)) PT8)))
  clear hb2 hk2 hl2 HRUN HL1 HAV1
  go_wp2_with fail
  refine (HRES.out _ _ HS3.out).mono ?_
  rintro e w4 ⟨q1, o4, he, hb4, hk4, ho4⟩
  obtain ⟨F2, d2, rfl, _⟩ := hk4.g1.mem
  obtain ⟨n2, hn2e⟩ : ∃ m, (σ.resize n).l.length = m := ⟨_, rfl⟩
  rw [hn2e] at hlen2 hk4 he
  rw [hc2] at hlen2 he
  subst he
  obtain ⟨cc, hcc⟩ : ∃ cc, capI n = cc := ⟨_, rfl⟩
  have HCC := Lib.hid hcc
  rw [hcc] at HCAP hlen2 hc3 ⊢
  have hl4 := HL3.out.trans (hb4.mono HL3.out.size)
  have HB4 := Lib.hid ((hb4.block w2.heap.size (by simp)).trans HB3.out)
  have HS4 := Lib.hid (HS3.out.below hb4)
  have hz4 := (head_row HB4.out).lt
  generalize w2.heap.size = b8 at HB4 hz4 ⊢
  have HL5 := Lib.hid (hl4.alloc hl4.size (.cells (l8C cc (.slice F2 n2 d2)) PT8))
  have HB5 := Lib.hid ((Below.heap_alloc w4 (.cells (l8C cc (.slice F2 n2 d2)) PT8) b8 hz4).trans HB4.out)
  have HC5 := Lib.hid (heap_alloc_new w4 (.cells (l8C cc (.slice F2 n2 d2)) PT8))
  have HS5 := Lib.hid (HS4.out.below (low_one w4 (.cells (l8C cc (.slice F2 n2 d2)) PT8)))
  clear hb4 hk4 ho4 hl4 HL3 HB3 HS3 HS4 HRES hn1e hn2e hc2 hcc hz4 HB4
  go_wp2_with fail
  generalize w4.alloc (.cells (l8C cc (.slice F2 n2 d2)) PT8) = w5 at HL5 HB5 HC5 HS5 ⊢
  generalize w4.heap.size = b9 at HC5 ⊢
  have HSS : Hid (∀ w' : World, Below w5.heap.size w5 w' → w'.cell? ⟨b8, 0, none⟩ = some (.int .i64 (σ.c : Nat)) ∧ w'.cell? ⟨b8, 1, none⟩ = some (.slice F1 n1 d1) ∧ w'.cell? ⟨b9, 0, none⟩ = some (.int .i64 (cc : Nat)) ∧ w'.cell? ⟨b9, 1, none⟩ = some (.slice F2 n2 d2)) := Lib.hid (fun w' hb => by
    obtain ⟨⟨x0, x1⟩, _⟩ := c2_at ((hb.block b8 (head_row HB5.out).lt).trans HB5.out)
    obtain ⟨⟨z0, z1⟩, _⟩ := c2_at ((hb.block b9 (head_row HC5.out).lt).trans HC5.out)
    exact ⟨x0, x1, z0, z1⟩)
  obtain ⟨x0, x1, z0, z1⟩ := HSS.out w5 (Below.refl _ _)
  have hlenI : (n1 : Int) ≤ (σ.c : Int) := by omega
  have hlen2I : (n2 : Int) ≤ (cc : Int) := by omega
  have g0 : σ.ghosts = 0 := rfl
  rw [g0] at HGH
  have HC3 := Lib.hid hc3
  clear hlen hlen2 g0 hc3
  have HVX : Hid (∀ W, Below w5.heap.size w5 W → KVV (W.alloc (.cells #[.slice F1 n1 d1] 24)) (.slice (some ⟨W.heap.size, 0, none⟩) 1 1) [σ.l]) := Lib.hid (fun W hb => KVV.one (HS5.out.g1.below hb) _)
  have hfld := field8
  go_region_held3 (fun w' => w'.cell? ⟨b8, 0, none⟩ = some (.int .i64 (σ.c : Nat)) ∧ w'.cell? ⟨b8, 1, none⟩ = some (.slice F1 n1 d1) ∧ w'.cell? ⟨b9, 0, none⟩ = some (.int .i64 (cc : Nat)) ∧ w'.cell? ⟨b9, 1, none⟩ = some (.slice F2 n2 d2))
    (first | with_reducible exact kkc | with_reducible exact kkb | with_reducible exact kka | go_keep)
    (first
      | (go_at_call 29; refine (rapart_walk (kss := [σ.l]) (HVX.out _ (below_drewn (Below.refl _ _) _)) (by simp) (by have := HL8.out; simpa using this)).mono ?_; rintro e wa ⟨rfl, hba⟩; rw [decide_eq_true (show [σ.l].flatten.Nodup by simpa using HND.out)]; have hBa := ((below_drewn (Below.refl w5.heap.size w5) _).alloc (Nat.le_refl _) _).trans (hba.mono (by simp)); have kka := HSS.out wa hBa)
      | (go_at_call 25; refine (HGH.out wa _ (HS5.out.below hBa)).mono ?_; rintro e wb ⟨rfl, hbb⟩; have hBb := hBa.trans (hbb.mono hBa.size); have kkb := HSS.out wb hBb)
      | (go_at_call 14; refine (HNEW.out wb).mono ?_; rintro e wc ⟨qc, he, hbc, hkc⟩; rw [HC3.out] at he; obtain ⟨F3, n3, d3, rfl⟩ := hkc.form1; have he' : e = .returned (.agg #[.int .i64 (cc : Nat), .slice F3 n3 d3]) := he; clear he; subst he'; have hBc := hBb.trans (hbc.mono hBb.size); have kkc := HSS.out wc hBc)
      | (go_at_call 32; refine (HCAP.out _).mono ?_; rintro e wd ⟨rfl, rfl⟩))
  have HL := Lib.hid (HL5.out.trans (hBc.mono HL5.out.size))
  go_wp2
  go_ret
  exact ⟨rfl, HL.out⟩
theorem bounds8_walk (PO : Pol8Ok) (AW : ∀ w, Calls Try.prog 13 #[] w (RetB w true)) (c : Nat) (hc : c < 256) (ha : AV w v l) (n : Int) (hn1 : -9223372036854775808 ≤ n) (hn2 : n ≤ 9223372036854775807) : Calls Try.prog 7 #[.int .u8 (c : Nat), v, .int .i64 n] w (RetB w true) := by
  by_cases hl : l.length ≤ 60
  · exact bounds8_short PO AW c hc ha hl n hn1 hn2
  · have HAW := Lib.hid (fun W => AW W)
    obtain ⟨A, cap, rfl, _⟩ := ha.mem
    obtain ⟨na, hna⟩ : ∃ na, l.length = na := ⟨_, rfl⟩
    rw [hna] at hl ⊢
    have hlI : (60 : Int) < (na : Int) := by omega
    clear ha hna AW
    go_enter Try.func7, Try.ntmps7
    go_wp2_with fail
    refine (HAW.out _).mono ?_
    rintro e w1 ⟨rfl, hb1⟩
    have HB := Lib.hid hb1
    clear hb1
    go_wp2
    go_ret
    exact ⟨rfl, HB.out⟩
end
end Go.Proofs.Ytiokejhplbadeaa
