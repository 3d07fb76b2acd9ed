/- Words and walks: ElK ElU ElRo ElN ElNb. -/
import Derived.Test.YtkhikpnlpcankaaG0
import Derived.Test.YtkhikpnlpcankaaG21
import Derived.Test.YtkhikpnlpcankaaG28
import Derived.Deep.DeepCutAuto
namespace Go.Proofs.Ytkhikpnlpcankaa
open Go Go.RowKit Go.Deep
theorem awake_is : L12.adm ⟨2, [], []⟩ 1 = ⟨2, [⟨1, 2⟩], []⟩ ∧ L12.adm ⟨2, [⟨1, 2⟩], []⟩ 2 = ⟨2, [⟨2, 1⟩, ⟨1, 2⟩], [2]⟩ ∧ L12.adm ⟨2, [⟨2, 1⟩, ⟨1, 2⟩], [2]⟩ 3 = ⟨2, [⟨3, 1⟩, ⟨2, 0⟩, ⟨1, 2⟩], [3]⟩ ∧ L12.adm ⟨2, [⟨3, 1⟩, ⟨2, 0⟩, ⟨1, 2⟩], [3]⟩ 2 = ⟨2, [⟨2, 2⟩], [1]⟩ ∧ L12.admitOut ⟨2, [⟨2, 1⟩, ⟨1, 2⟩], [2]⟩ 3 = [2] ∧ L12.admitOut ⟨2, [⟨3, 1⟩, ⟨2, 0⟩, ⟨1, 2⟩], [3]⟩ 2 = [3] := ⟨rfl, rfl, rfl, rfl, rfl, rfl⟩
set_option maxHeartbeats 4000000 in
set_option maxRecDepth 4000 in
theorem awake18_walk (w : World) : Calls Try.prog 5 #[] w (RetB w true) := by
  have HN : Hid (Calls Try.prog 6 #[.int .i64 2] w fun e w' => ∃ xp, e = .returned (ptr xp) ∧ EC w w' xp ⟨2, [], []⟩ 2) := Lib.hid ((enew_walk (Below.refl _ _) 2 (by decide) (by decide)).mono (fun e w' ⟨xp, he, h, _⟩ => ⟨xp, he, h.more (by decide) (by decide)⟩))
  obtain ⟨a1, a2, a3, a4, a5, a6⟩ := awake_is
  go_enter Try.func5, Try.ntmps5
  go_wp2_with fail
  refine HN.out.mono ?_
  rintro e w1 ⟨xp, rfl, h⟩
  have H1 := Lib.hid h
  clear h HN
  go_wp2_with fail
  refine (eadmit_walk H1.out (by decide) 1 (by decide)).mono ?_
  rintro e w2 ⟨o, rfl, h, ho⟩
  have h' := h.1
  rw [a1] at h'
  have H2 := Lib.hid h'
  clear h ho h' H1
  go_wp2_with fail
  refine (eadmit_walk H2.out (by decide) 2 (by decide)).mono ?_
  rintro e w3 ⟨o, rfl, h, ho⟩
  have h' := h.1
  rw [a2] at h'
  have H3 := Lib.hid h'
  clear h ho h' H2
  go_wp2_with fail
  refine (eadmit_walk H3.out (by decide) 3 (by decide)).mono ?_
  rintro e w4 ⟨o, rfl, h, ho⟩
  have h' := h.1
  rw [a3] at h'
  rw [a5] at ho
  obtain ⟨Fb, db, rfl, _⟩ := ho.mem
  have H4 := Lib.hid h'
  have HO4 := Lib.hid ho
  clear h ho h' H3
  have HB := Lib.hid (eadmit_walk H4.out (by decide) 2 (by decide))
  go_wp2_with fail
  refine HB.out.mono ?_
  rintro e w5 ⟨o, rfl, h, ho⟩
  have h' := h.1
  rw [a4] at h'
  rw [a6] at ho
  obtain ⟨Fc, dc, rfl, _⟩ := ho.mem
  have H5 := Lib.hid h'
  have HO5 := Lib.hid (And.intro (HO4.out.kn h.2) ho)
  clear h ho h' H4 HB HO4 a1 a2 a3 a4 a5 a6
  go_wp2_with fail
  have HL5 := Lib.hid (KV.one w5 2)
  have hl5 := low_one w5 (.cells #[.int .u64 2] 28)
  have HO6 := Lib.hid (And.intro (HO5.out.1.below hl5) (HO5.out.2.below hl5))
  have H6 := Lib.hid (H5.out.still hl5)
  clear hl5 HO5 H5
  refine (same_walk (js := [2]) HO6.out.1 HL5.out (by simp)).mono ?_
  rintro e w6 ⟨rfl, hb⟩
  rw [decide_eq_true rfl]
  have H7 := Lib.hid (H6.out.still hb)
  have HO7 := Lib.hid (HO6.out.2.below hb)
  clear hb HO6 H6 HL5
  go_wp2_with fail
  have HL7 := Lib.hid (KV.one w6 3)
  have hl7 := low_one w6 (.cells #[.int .u64 3] 28)
  have HO8 := Lib.hid (HO7.out.below hl7)
  have H8 := Lib.hid (H7.out.still hl7)
  clear hl7 HO7 H7
  refine (same_walk (js := [3]) HO8.out HL7.out (by simp)).mono ?_
  rintro e w8 ⟨rfl, hb⟩
  rw [decide_eq_true rfl]
  have H9 := Lib.hid (H8.out.still hb)
  clear hb HO8 H8 HL7
  go_wp2_with fail
  refine (ehas_walk H9.out 1 (by decide)).mono ?_
  rintro e w9 ⟨rfl, hb⟩
  rw [decide_eq_true (show 1 ∈ L12.keys ⟨2, [⟨2, 2⟩], [1]⟩ by decide)]
  have HA := Lib.hid (H9.out.still hb)
  clear hb H9
  go_wp2_with fail
  refine (ehas_walk HA.out 3 (by decide)).mono ?_
  rintro e wa ⟨rfl, hb⟩
  rw [decide_eq_false (show 3 ∉ L12.keys ⟨2, [⟨2, 2⟩], [1]⟩ by decide)]
  have HB := Lib.hid (HA.out.still hb)
  clear hb HA
  go_wp2_with fail
  refine (ekeys_walk HB.out).mono ?_
  rintro e we ⟨v, rfl, hb, hv⟩
  have hv' : KV we v [2, 1] := hv
  obtain ⟨F4, d4, rfl, _⟩ := hv'.mem
  have HF := Lib.hid (HB.out.still hb)
  have HV := Lib.hid hv'
  clear hb hv hv' HB
  go_wp2_with fail
  have HLe := Lib.hid (KV.lit (w := we) [2, 1] (by decide))
  have hle := low_one we (.cells #[.int .u64 2, .int .u64 1] 28)
  have HVe := Lib.hid (HV.out.below hle)
  have HFe := Lib.hid (HF.out.still hle)
  clear hle HV HF
  refine (same_walk (js := [2, 1]) HVe.out HLe.out (by simp)).mono ?_
  rintro e wf ⟨rfl, hb⟩
  rw [decide_eq_true rfl]
  have HG := Lib.hid (HFe.out.still hb)
  clear hb HVe HFe HLe
  go_wp2_with fail
  refine (estate_walk HG.out).mono ?_
  rintro e wg ⟨u1, u2, rfl, hb, hs⟩
  have HH := Lib.hid (HG.out.still hb)
  obtain ⟨Fs, ds, hu1, _⟩ := hs.g1.mem
  obtain rfl : u1 = .slice Fs 1 ds := hu1
  have hfld : ∀ w : World, (Instr.field 35 (.agg (l12C 2 (.slice Fs 1 ds) u2)) 1).run Try.prog w = .ok (.slice Fs 1 ds) w := fun _ => by kernel_rfl
  clear hb HG hs
  go_wp2_with fail
  refine (eghosts_walk HH.out).mono ?_
  rintro e wb ⟨he, hb⟩
  have he' : e = .returned (.int .i64 0) := he
  subst he'
  have HE := Lib.hid (HH.out.still hb).below
  clear hb HH he
  go_wp2
  go_ret
  exact ⟨rfl, HE.out⟩
theorem L12.act_c {s : L12} (h : s.c ≤ 14) (x : Act8) : (s.act x).c ≤ 14 := by
  have hz := sizeA_is x
  rcases L12.act_cases s x with ⟨_, e, _⟩ | ⟨_, e, _⟩ | ⟨_, e, _⟩ | ⟨_, e, _⟩
  · rw [e, L12.touch_c]; exact h
  · rw [e, L12.adm_c]; exact h
  · rw [e, L12.drop_c]; exact h
  · rw [e, L12.resize_c]
    unfold capI
    split
    · omega
    · split
      · omega
      · omega
theorem L12.runS_c {s : L12} : ∀ (l : List Act8), s.c ≤ 14 → (s.runS l).c ≤ 14
  | [], h => h
  | x :: l, h => L12.runS_c l (L12.act_c h x)
theorem L12.new_c (m : Nat) (h1 : 1 ≤ m) (h : m ≤ 12) : (L12.new (m : Int)).c = m := by
  rw [L12.new_c0]
  unfold capI
  rw [if_neg (by omega), if_neg (by omega)]
  omega
structure ES (w wr : World) (xp b : Nat) (T : TypeId) (s : L12) (F1 : Option Addr) (n1 d1 : Nat) (F2 : Option Addr) (n2 d2 : Nat) : Prop where
  ec : EC w wr xp s 14
  box : wr.heap[b]? = some (.cells (l12C s.c (.slice F1 n1 d1) (.slice F2 n2 d2)) T (0, 0))
  st : St12 wr s (.slice F1 n1 d1) (.slice F2 n2 d2)
  ge : w.heap.size ≤ b
theorem St12.kn {w w' : World} {s : L12} {u1 u2 : Value} (h : St12 w s u1 u2) (hk : Kn w w') : St12 w' s u1 u2 := ⟨h.g1.kn hk, h.g2.kn hk⟩
section
variable {w wr w2 : World} {xp b : Nat} {T : TypeId} {s : L12} {F1 : Option Addr} {n1 d1 : Nat} {F2 : Option Addr} {n2 d2 : Nat}
theorem ES.low (h : ES w wr xp b T s F1 n1 d1 F2 n2 d2) (hb : Below wr.heap.size wr w2) : ES w w2 xp b T s F1 n1 d1 F2 n2 d2 :=
  ⟨h.ec.still hb, (hb.block b (head_row h.box).lt).trans h.box, h.st.below hb, h.ge⟩
theorem ES.bx (h : ES w wr xp b T s F1 n1 d1 F2 n2 d2) (hT : T ≠ 28) : ∀ g ∈ [b], Bx wr g := fun g hg => by
  simp only [List.mem_singleton] at hg
  subst hg
  exact ⟨_, _, h.box, rfl, hT⟩
theorem ES.cells (h : ES w wr xp b T s F1 n1 d1 F2 n2 d2) : wr.cell? ⟨b, 0, none⟩ = some (.int .i64 ((s).c : Nat)) ∧ wr.cell? ⟨b, 1, none⟩ = some (.slice F1 n1 d1) ∧ wr.cell? ⟨b, 2, none⟩ = some (.slice F2 n2 d2) := (c3_at h.box).1
end
section
variable {w : World}
theorem rgrown_walk (c d : Nat) : Calls Try.prog 8 #[.int .i64 (c : Nat), .int .i64 (d : Nat)] w fun e w' => e = .returned (.int .i64 (max c d : Nat)) ∧ w = w' := by
  by_cases h : c < d
  · have hI : (c : Int) < (d : Int) := by omega
    have hm : Hid (max c d = d) := Lib.hid (by omega)
    go_enter Try.func8, Try.ntmps8
    go_wp2
    go_ret
    exact ⟨by rw [hm.out]; rfl, rfl⟩
  · have hI : ¬ (c : Int) < (d : Int) := by omega
    have hm : Hid (max c d = c) := Lib.hid (by omega)
    go_enter Try.func8, Try.ntmps8
    go_wp2
    go_ret
    exact ⟨by rw [hm.out]; rfl, rfl⟩
theorem rmost_walk (c : Nat) (hc : c ≤ 10000) : Calls Try.prog 11 #[.int .i64 (c : Nat)] w fun e w' => e = .returned (.int .i64 (12 * (c : Int) + 32)) ∧ w = w' := by
  have hI : (c : Int) ≤ 10000 := by omega
  have hJ : (0 : Int) ≤ (c : Int) := by omega
  go_enter Try.func11, Try.ntmps11
  go_wp2
  go_ret
  exact ⟨rfl, rfl⟩
end
section
variable {v : Value} {l : List Act8}
set_option maxHeartbeats 8000000 in
set_option maxRecDepth 4000 in
theorem rooms18_short (w : World) (c : Nat) (hc : c < 256) (ha : AV w v l) (hl : l.length ≤ 60) : Calls Try.prog 3 #[.int .u8 (c : Nat), v] w (RetB w true) := by
  have HA := Lib.hid ha
  have HAW := Lib.hid (awake18_walk w)
  obtain ⟨A, cap, rfl, _⟩ := ha.mem
  obtain ⟨m0, hm0⟩ : ∃ m : Nat, 1 + c % 12 = m := ⟨_, rfl⟩
  have hmI : (1 : Int) + (c : Int) % 12 = (m0 : Int) := by omega
  have hcm : (L12.new (m0 : Int)).c = m0 := L12.new_c m0 (by omega) (by omega)
  have hm14 : m0 ≤ 14 := by omega
  have hc0 : (L12.new (m0 : Int)).c ≤ 14 := by omega
  have HNW : Hid (∀ W, Below w.heap.size w W → Calls Try.prog 6 #[.int .i64 (m0 : Int)] W fun e w' => ∃ xp, e = .returned (ptr xp) ∧ EC w w' xp (L12.new (m0 : Int)) m0) := Lib.hid (fun W hb => (enew_walk hb (m0 : Int) (by omega) (by omega)).mono (fun e w' ⟨xp, he, h, _⟩ => ⟨xp, he, h.more (Nat.zero_le _) (by omega)⟩))
  have hok0 : (L12.new (m0 : Int)).Ok := L12.ok_new _
  obtain ⟨s0, hs0⟩ : ∃ s0, L12.new (m0 : Int) = s0 := ⟨_, rfl⟩
  rw [hs0] at HNW hok0 hc0 hcm
  have HOK0 := Lib.hid hok0
  obtain ⟨na, hna⟩ : ∃ na, l.length = na := ⟨_, rfl⟩
  rw [hna] at hl HA ⊢
  have HNA := Lib.hid hna
  have HAX : Hid (∀ W, Below w.heap.size w W → ∀ i (hi : i < l.length), l[i].Ok ∧ ∃ g off, A = some ⟨g, off, none⟩ ∧ g < w.heap.size ∧ ActAt W g (off + i * 3) l[i]) := Lib.hid (fun W hb i hi => by
    obtain ⟨A', c', e, h1⟩ := HA.out.mem
    injection e with e1 _ _
    subst e1
    obtain ⟨ok, g, off, e2, hg, hcc⟩ := h1 i hi
    exact ⟨ok, g, off, e2, hg, hcc.keep (hb.block g hg)⟩)
  have HOKR : Hid (∀ i, (s0.runS (l.take i)).Ok ∧ (s0.runS (l.take i)).c ≤ 14) := Lib.hid (fun i => ⟨HOK0.out.runS _ (fun x hx => by
    obtain ⟨j, hj, rfl⟩ := List.getElem_of_mem (List.mem_of_mem_take hx)
    exact (HAX.out w (Below.refl _ _) j hj).1), L12.runS_c _ hc0⟩)
  clear ha hok0 hs0 hna HA hm0 hc0
  have q1 : (0 : Int) ≤ (c : Int) := by omega
  have q2 : (c : Int) ≤ 255 := by omega
  have hlI : ¬ (60 : Int) < (na : Int) := by omega
  go_enter Try.func3, Try.ntmps3
  go_wp2_with fail
  refine HAW.out.mono ?_
  rintro e w1 ⟨rfl, hb1⟩
  have HL1 := Lib.hid hb1
  clear hb1 HAW
  go_wp2_with fail
  try rw [hmI]
  refine (HNW.out w1 HL1.out).mono ?_
  rintro e w2 ⟨xp, rfl, h2⟩
  have H2 := Lib.hid h2
  clear h2 HNW HL1
  go_wp2_with fail
  try rw [hmI]
  have HI0 : Hid (EC w w2 xp s0 m0 ∧ s0.c ≤ m0 ∧ m0 ≤ 14) := Lib.hid ⟨H2.out, by omega, hm14⟩
  clear hcm hm14 H2
  go_loopg [7, 8, 9, 10] na (fun gg s7 s8 s9 s10 wr => ∃ (i top : Nat), i + gg = na ∧ s7 = .int .i64 (top : Nat) ∧ s8 = .int .i64 (i : Nat) ∧ Hid (EC w wr xp (s0.runS (l.take i)) top ∧ (s0.runS (l.take i)).c ≤ top ∧ top ≤ 14))
  case atStart => exact ⟨0, m0, by omega, rfl, rfl, HI0⟩
  case round =>
    obtain ⟨i, top, hi, rfl, rfl, HI⟩ := hrel
    by_cases hlt : i < na
    · have hltI : (i : Int) < (na : Int) := by omega
      have hil : i < l.length := by rw [HNA.out]; exact hlt
      obtain ⟨wf, g, off, hA, hg, hac⟩ := HAX.out wr HI.out.1.below i hil
      have hcn := (HOKR.out (i + 1)).2
      have HNX := Lib.hid (s0.runS_next hil)
      obtain ⟨σ, hσ⟩ : ∃ σ, s0.runS (l.take i) = σ := ⟨_, rfl⟩
      obtain ⟨x, hx⟩ : ∃ x, l[i] = x := ⟨_, rfl⟩
      rw [hσ] at HI HNX
      rw [hx] at wf hac HNX
      rw [HNX.out] at hcn
      clear hσ hx
      subst hA
      have HDO := Lib.hid (edo_walk HI.out.1 HI.out.2.1 x wf)
      have ht14 := HI.out.2.2
      obtain ⟨a0, a1, a2⟩ := hac
      clear HAX HOKR wf
      go_wp2_with fail
      refine HDO.out.mono ?_
      rintro e w5 ⟨o5, rfl, hp, _⟩
      obtain ⟨σ', hσ'⟩ : ∃ σ', σ.act x = σ' := ⟨_, rfl⟩
      rw [hσ'] at hp hcn HNX
      have HEC5 := Lib.hid hp.1
      clear a0 a1 a2 hp HDO HI hσ'
      go_wp2_with fail
      refine (estate_walk HEC5.out).mono ?_
      rintro e w6 ⟨u1, u2, rfl, hb6, _⟩
      have hfld : ∀ w : World, (Instr.field PT12 (.agg (l12C σ'.c u1 u2)) 0).run Try.prog w = .ok (.int .i64 (σ'.c : Nat)) w := fun _ => by kernel_rfl
      have HEC6 := Lib.hid (HEC5.out.still hb6)
      clear hb6 HEC5
      go_wp2_with fail
      refine (rgrown_walk top σ'.c).mono ?_
      rintro e w7 ⟨rfl, rfl⟩
      obtain ⟨t2, ht2⟩ : ∃ t2, max top σ'.c = t2 := ⟨_, rfl⟩
      have htl : top ≤ t2 ∧ σ'.c ≤ t2 ∧ t2 ≤ 14 := by omega
      rw [ht2]
      have HEC7 := Lib.hid (HEC6.out.more htl.1 (by omega))
      have HCC := Lib.hid htl.2
      have hq2 : (t2 : Int) ≤ 14 := by omega
      have hq3 : (0 : Int) ≤ (t2 : Int) := by omega
      clear HEC6 hfld htl ht2 ht14 hcn
      go_wp2_with fail
      refine (erooms_walk HEC7.out).mono ?_
      rintro e w8 ⟨ra, rb, rfl, hb8, r1, r2, r3, r4⟩
      have HEC8 := Lib.hid (HEC7.out.still hb8)
      have hra : ¬ (12 * (t2 : Int) + 32 < (ra : Int)) := by omega
      have hrb : ¬ (12 * (t2 : Int) + 32 < (rb : Int)) := by omega
      have hla : ¬ ((ra : Int) < (σ'.keys.length : Int)) := by omega
      have hlb : ¬ ((rb : Int) < (σ'.keys.length : Int)) := by omega
      have hM := Lib.hid (fun (W : World) => rmost_walk (w := W) t2 (by omega))
      clear hb8 HEC7 r1 r2 r3 r4
      go_wp2_with fail
      refine (hM.out _).mono ?_
      rintro e w9 ⟨rfl, rfl⟩
      go_wp2_with fail
      refine (hM.out _).mono ?_
      rintro e w9 ⟨rfl, rfl⟩
      go_wp2_with fail
      refine (ekeys_walk HEC8.out).mono ?_
      rintro e w10 ⟨v10, rfl, hb, hv⟩
      obtain ⟨F10, d10, rfl, _⟩ := hv.mem
      have HEC10 := Lib.hid (HEC8.out.still hb)
      clear hb hv HEC8
      go_wp2_with fail
      refine (ekeys_walk HEC10.out).mono ?_
      rintro e w11 ⟨v11, rfl, hb, hv⟩
      obtain ⟨F11, d11, rfl, _⟩ := hv.mem
      have HN : Hid (EC w w11 xp (s0.runS (l.take (i + 1))) t2 ∧ (s0.runS (l.take (i + 1))).c ≤ t2 ∧ t2 ≤ 14) := Lib.hid (by rw [HNX.out]; exact ⟨HEC10.out.still hb, HCC.out⟩)
      clear hb hv HEC10
      go_wp2
      go_roundg (na - i - 1)
      case measure => omega
      case rel => exact ⟨i + 1, t2, by omega, rfl, by go_num, HN⟩
    · have hltI : ¬ (i : Int) < (na : Int) := by omega
      have HL := Lib.hid HI.out.1.below
      clear HI
      go_wp2
      go_ret
      exact ⟨rfl, HL.out⟩
theorem rooms18_walk (w : World) (c : Nat) (hc : c < 256) (ha : AV w v l) : Calls Try.prog 3 #[.int .u8 (c : Nat), v] w (RetB w true) := by
  by_cases hl : l.length ≤ 60
  · exact rooms18_short w c hc ha hl
  · have HAW := Lib.hid (awake18_walk w)
    obtain ⟨A, cap, rfl, _⟩ := ha.mem
    obtain ⟨na, hna⟩ : ∃ na, l.length = na := ⟨_, rfl⟩
    rw [hna] at hl ⊢
    have hlI : (60 : Int) < (na : Int) := by omega
    clear ha hna
    go_enter Try.func3, Try.ntmps3
    go_wp2_with fail
    refine HAW.out.mono ?_
    rintro e w1 ⟨rfl, hb1⟩
    have HB := Lib.hid hb1
    clear hb1
    go_wp2
    go_ret
    exact ⟨rfl, HB.out⟩
end
abbrev nilX : Value := .pointer none
section
variable {k : Nat}
theorem nil_below {w w' : World} (hb : Below (w.alloc (.cells nilC CaT)).heap.size (w.alloc (.cells nilC CaT)) w') : Below w.heap.size w w' := (low_one w _).trans (hb.mono (low_one w _).size)
theorem enHas (w : World) (h64 : k < 18446744073709551616) :
    Calls Try.prog 17 #[nilX, .int .u64 (k : Nat)] w fun e w' => e = .returned (.bool false) ∧ Below w.heap.size w w' := by
  refine (has_any (opens_nil w) (cs_nil w) h64).mono ?_
  rintro e w' ⟨rfl, hb⟩
  exact ⟨by rw [decide_eq_false (show k ∉ L12.none_.keys by simp [L12.none_, L12.keys, hotK, keysI])], nil_below hb⟩
theorem enTouch (w : World) (h64 : k < 18446744073709551616) :
    Calls Try.prog 13 #[nilX, .int .u64 (k : Nat)] w fun e w' => e = .returned (.tuple #[]) ∧ Below w.heap.size w w' := by
  refine (touch_no (opens_nil w) (cs_nil w) h64 (show k ∉ L12.none_.keys by simp [L12.none_, L12.keys, hotK, keysI])).mono ?_
  rintro e w' ⟨rfl, hb⟩
  exact ⟨rfl, nil_below hb⟩
theorem enDrop (w : World) (h64 : k < 18446744073709551616) :
    Calls Try.prog 14 #[nilX, .int .u64 (k : Nat)] w fun e w' => e = .returned (.tuple #[]) ∧ Below w.heap.size w w' := by
  refine (drop_any (opens_nil w) (cs_nil w) L12.none_fine h64).mono ?_
  rintro e w' ⟨rfl, g1, _⟩
  exact ⟨rfl, g1.below⟩
theorem enGhosts (w : World) :
    Calls Try.prog 18 #[nilX] w fun e w' => e = .returned (.int .i64 0) ∧ Below w.heap.size w w' := by
  refine (ghosts_any (opens_nil w) (cs_nil w)).mono ?_
  rintro e w' ⟨rfl, hb⟩
  exact ⟨rfl, nil_below hb⟩
theorem enRooms (w : World) :
    Calls Try.prog 10 #[nilX] w fun e w' => e = .returned (.tuple #[.int .i64 0, .int .i64 0]) ∧ Below w.heap.size w w' := by
  refine (rooms_any (opens_nil w) (cs_nil w)).mono ?_
  rintro e w' ⟨a, b, rfl, hb, _, _, _, _, hz⟩
  obtain ⟨rfl, rfl⟩ := hz rfl
  exact ⟨rfl, nil_below hb⟩
theorem enKeys (w : World) :
    Calls Try.prog 12 #[nilX] w fun e w' => ∃ F d, e = .returned (.slice F 0 d) ∧ Below w.heap.size w w' := by
  refine (keys_any (opens_nil w) (cs_nil w)).mono ?_
  rintro e w' ⟨u, rfl, hb, hk⟩
  obtain ⟨F, d, rfl, _⟩ := hk.mem
  exact ⟨F, d, rfl, nil_below hb⟩
theorem enAdmit (w : World) (k : Value) :
    Calls Try.prog 15 #[nilX, k] w fun e w' => e = .returned (.slice none 0 0) ∧ Below w.heap.size w w' := by
  go_enter Try.func15, Try.ntmps15
  go_wp2
  go_ret
  exact ⟨rfl, Below.refl _ _⟩
theorem enResize (w : World) (n : Int) (hn1 : -9223372036854775808 ≤ n) (hn2 : n ≤ 9223372036854775807) :
    Calls Try.prog 16 #[nilX, .int .i64 n] w fun e w' => ∃ F d, e = .returned (.slice F 0 d) ∧ Below w.heap.size w w' := by
  have e1 : (L12.none_.sized (capI n)).cool = ⟨capI n, [], []⟩ := L12.cool_no (Nat.zero_le _)
  have e2 : (⟨capI n, [], []⟩ : L12).many (capI n) = 0 := by
    unfold L12.many
    simp [nk_nil]
  have hr := resize_any (opens_nil w) (cs_nil w) L12.none_fine L12.none_ord n hn1 hn2 (by rw [e1, e2]; exact Nat.zero_le _)
  rw [e1, e2] at hr
  refine hr.mono ?_
  rintro e w' ⟨o, rfl, ⟨g1, _⟩, g2⟩
  obtain ⟨F, d, rfl, _⟩ := g2.kv.mem
  exact ⟨F, d, rfl, g1.below⟩
theorem enState (w : World) :
    Calls Try.prog 9 #[nilX] w fun e w' => ∃ u1 u2, e = .returned (.agg (l12C 0 u1 u2)) ∧ Below w.heap.size w w' := by
  have hl := low_one w (.cells z12 PT12)
  have hl2 := low_one (w.alloc (.cells z12 PT12)) (.cells nilC CaT)
  have hr := callsIn_wide.1 (state_in (v := none) (wB := (w.alloc (.cells z12 PT12)).alloc (.cells nilC CaT)) (callsIn_wide.2 (opens_nil _)) (by rw [World.size_alloc, World.size_alloc]; omega) ((hl2.block _ (by rw [World.size_alloc]; omega)).trans (heap_alloc_new w _)) (hl.trans (hl2.mono hl.size)) (cs_nil _) L12.none_fine)
  refine hr.mono ?_
  rintro e w' ⟨u1, u2, rfl, hb, _⟩
  exact ⟨u1, u2, rfl, hb⟩
end
set_option maxHeartbeats 4000000 in
set_option maxRecDepth 4000 in
theorem nobody18_walk (w : World) (k : Nat) (hk1 : k < 18446744073709551616) (c : Int) (hc1 : -9223372036854775808 ≤ c) (hc2 : c ≤ 9223372036854775807) : Calls Try.prog 4 #[.int .u64 (k : Nat), .int .i64 c] w (RetB w true) := by
  have HAW := Lib.hid (awake18_walk w)
  have HN : Hid (∀ W, Below w.heap.size w W → Calls Try.prog 6 #[.int .i64 c] W fun e w' => ∃ xp, e = .returned (ptr xp) ∧ EC w w' xp (L12.new c) 0) := Lib.hid (fun W hb => (enew_walk hb c hc1 hc2).mono (fun e w' ⟨xp, he, h, _⟩ => ⟨xp, he, h⟩))
  have HC := Lib.hid (fun (W : World) => rcap_walk (w := W) c hc1 hc2)
  have hfld1 : ∀ (u1 u2 : Value) (w : World), (Instr.field PT12 (.agg (l12C (capI c) u1 u2)) 0).run Try.prog w = .ok (.int .i64 (capI c : Nat)) w := fun _ _ _ => by kernel_rfl
  have HE : Hid ((L12.new c).c = capI c) := Lib.hid (L12.new_c0 c)
  go_enter Try.func4, Try.ntmps4
  go_wp2_with fail
  refine HAW.out.mono ?_
  rintro e w1 ⟨rfl, hb⟩
  have HB1 := Lib.hid hb
  clear hb HAW
  go_wp2_with fail
  refine (enTouch w1 hk1).mono ?_
  rintro e w2 ⟨rfl, hb⟩
  have HB2 := Lib.hid (HB1.out.trans (hb.mono HB1.out.size))
  clear hb HB1
  go_wp2_with fail
  refine (enDrop w2 hk1).mono ?_
  rintro e w3 ⟨rfl, hb⟩
  have HB3 := Lib.hid (HB2.out.trans (hb.mono HB2.out.size))
  clear hb HB2
  go_wp2_with fail
  refine (enRooms w3).mono ?_
  rintro e w4 ⟨rfl, hb⟩
  have HB4 := Lib.hid (HB3.out.trans (hb.mono HB3.out.size))
  clear hb HB3
  go_wp2_with fail
  refine (enAdmit w4 _).mono ?_
  rintro e w5 ⟨rfl, hb⟩
  have HB5 := Lib.hid (HB4.out.trans (hb.mono HB4.out.size))
  clear hb HB4
  go_wp2_with fail
  refine (enResize w5 c hc1 hc2).mono ?_
  rintro e w6 ⟨F6, d6, rfl, hb⟩
  have HB6 := Lib.hid (HB5.out.trans (hb.mono HB5.out.size))
  clear hb HB5
  go_wp2_with fail
  refine (enHas w6 hk1).mono ?_
  rintro e w7 ⟨rfl, hb⟩
  have HB7 := Lib.hid (HB6.out.trans (hb.mono HB6.out.size))
  clear hb HB6
  go_wp2_with fail
  refine (enKeys w7).mono ?_
  rintro e w8 ⟨F8, d8, rfl, hb⟩
  have HB8 := Lib.hid (HB7.out.trans (hb.mono HB7.out.size))
  clear hb HB7
  go_wp2_with fail
  refine (enGhosts w8).mono ?_
  rintro e w8b ⟨rfl, hb⟩
  have HB8b := Lib.hid (HB8.out.trans (hb.mono HB8.out.size))
  clear hb HB8
  go_wp2_with fail
  refine (enState w8b).mono ?_
  rintro e w9 ⟨s1, s2, rfl, hb⟩
  have hfld0 : ∀ w : World, (Instr.field PT12 (.agg (l12C 0 s1 s2)) 0).run Try.prog w = .ok (.int .i64 0) w := fun _ => by kernel_rfl
  have HB9 := Lib.hid (HB8b.out.trans (hb.mono HB8b.out.size))
  clear hb HB8b
  go_wp2_with fail
  refine (HN.out w9 HB9.out).mono ?_
  rintro e wa ⟨xp, rfl, h⟩
  have HX := Lib.hid h
  clear h HN HB9
  go_wp2_with fail
  refine (estate_walk HX.out).mono ?_
  rintro e wb ⟨u1, u2, he, hb, _⟩
  rw [HE.out] at he
  subst he
  have HBb := Lib.hid (HX.out.below.trans (hb.mono HX.out.below.size))
  clear hb HX
  go_wp2_with fail
  refine (HC.out wb).mono ?_
  rintro e wc ⟨rfl, rfl⟩
  go_wp2
  go_ret
  exact ⟨rfl, HBb.out⟩
end Go.Proofs.Ytkhikpnlpcankaa
