/- Words and walks: EaU EaSt. -/
import Derived.Test.YtgkblelgcikafaaG24
import Derived.Test.YtgkblelgcikafaaG29
import Derived.Deep.DeepCutAuto
namespace Go.Proofs.Ytgkblelgcikafaa
open Go Go.RowKit Go.Deep
theorem L11.act_c {s : L11} (h : s.c ≤ 14) (x : Act8) : (s.act x).c ≤ 14 := by
  have hz := sizeA_is x
  rcases L11.act_cases s x with ⟨_, e, _⟩ | ⟨_, e, _⟩ | ⟨_, e, _⟩ | ⟨_, e, _⟩
  · rw [e, L11.touch_c]; exact h
  · rw [e, L11.adm_c]; exact h
  · rw [e, L11.drop_c]; exact h
  · rw [e, L11.resize_c]
    unfold capI
    split
    · omega
    · split
      · omega
      · omega
theorem L11.runS_c {s : L11} : ∀ (l : List Act8), s.c ≤ 14 → (s.runS l).c ≤ 14
  | [], h => h
  | x :: l, h => L11.runS_c l (L11.act_c h x)
theorem L11.new_c (m : Nat) (h1 : 1 ≤ m) (h : m ≤ 12) : (L11.new (m : Int)).c = m := by
  rw [L11.new_c0]
  unfold capI
  rw [if_neg (by omega), if_neg (by omega)]
  omega
structure ES (w wr : World) (xp b : Nat) (T : TypeId) (s : L11) (F1 : Option Addr) (n1 d1 : Nat) (F2 : Option Addr) (n2 d2 : Nat) (F3 : Option Addr) (n3 d3 : Nat) (F4 : Option Addr) (n4 d4 : Nat) : Prop where
  ec : EC w wr xp s 14
  box : wr.heap[b]? = some (.cells (l11C s.c s.p (.slice F1 n1 d1) (.slice F2 n2 d2) (.slice F3 n3 d3) (.slice F4 n4 d4)) T (0, 0))
  st : St11 wr s (.slice F1 n1 d1) (.slice F2 n2 d2) (.slice F3 n3 d3) (.slice F4 n4 d4)
  ge : w.heap.size ≤ b
theorem St11.kn {w w' : World} {s : L11} {u1 u2 u3 u4 : Value} (h : St11 w s u1 u2 u3 u4) (hk : Kn w w') : St11 w' s u1 u2 u3 u4 := ⟨h.g1.kn hk, h.g2.kn hk, h.g3.kn hk, h.g4.kn hk⟩
section
variable {w wr w2 : World} {xp b : Nat} {T : TypeId} {s : L11} {F1 : Option Addr} {n1 d1 : Nat} {F2 : Option Addr} {n2 d2 : Nat} {F3 : Option Addr} {n3 d3 : Nat} {F4 : Option Addr} {n4 d4 : Nat}
theorem ES.low (h : ES w wr xp b T s F1 n1 d1 F2 n2 d2 F3 n3 d3 F4 n4 d4) (hb : Below wr.heap.size wr w2) : ES w w2 xp b T s F1 n1 d1 F2 n2 d2 F3 n3 d3 F4 n4 d4 :=
  ⟨h.ec.still hb, (hb.block b (head_row h.box).lt).trans h.box, h.st.below hb, h.ge⟩
theorem ES.bx (h : ES w wr xp b T s F1 n1 d1 F2 n2 d2 F3 n3 d3 F4 n4 d4) (hT : T ≠ 31) : ∀ g ∈ [b], Bx wr g := fun g hg => by
  simp only [List.mem_singleton] at hg
  subst hg
  exact ⟨_, _, h.box, rfl, hT⟩
theorem ES.cells (h : ES w wr xp b T s F1 n1 d1 F2 n2 d2 F3 n3 d3 F4 n4 d4) : wr.cell? ⟨b, 0, none⟩ = some (.int .i64 ((s).c : Nat)) ∧ wr.cell? ⟨b, 1, none⟩ = some (.int .i64 ((s).p : Nat)) ∧ wr.cell? ⟨b, 2, none⟩ = some (.slice F1 n1 d1) ∧ wr.cell? ⟨b, 3, none⟩ = some (.slice F2 n2 d2) ∧ wr.cell? ⟨b, 4, none⟩ = some (.slice F3 n3 d3) ∧ wr.cell? ⟨b, 5, none⟩ = some (.slice F4 n4 d4) := (c6_at h.box).1
end
theorem es_store {w wc : World} {xp b : Nat} {T : TypeId} {s s' : L11} {F1 : Option Addr} {n1 d1 : Nat} {F2 : Option Addr} {n2 d2 : Nat} {F3 : Option Addr} {n3 d3 : Nat} {F4 : Option Addr} {n4 d4 : Nat} {Fp1 : Option Addr} {np1 dp1 : Nat} {Fp2 : Option Addr} {np2 dp2 : Nat} {Fp3 : Option Addr} {np3 dp3 : Nat} {Fp4 : Option Addr} {np4 dp4 : Nat} (hec : EC w wc xp s' 14) (hbox : wc.heap[b]? = some (.cells (l11C s.c s.p (.slice F1 n1 d1) (.slice F2 n2 d2) (.slice F3 n3 d3) (.slice F4 n4 d4)) T (0, 0))) (hst : St11 wc s' (.slice Fp1 np1 dp1) (.slice Fp2 np2 dp2) (.slice Fp3 np3 dp3) (.slice Fp4 np4 dp4)) (hge : w.heap.size ≤ b) (hT : T ≠ 31) (hTo : okT T = true) :
    ES w ((((((wc.setCell ⟨b, 0, none⟩ (.int .i64 ((s').c : Nat))).setCell ⟨b, 1, none⟩ (.int .i64 ((s').p : Nat))).setCell ⟨b, 2, none⟩ (.slice Fp1 np1 dp1)).setCell ⟨b, 3, none⟩ (.slice Fp2 np2 dp2)).setCell ⟨b, 4, none⟩ (.slice Fp3 np3 dp3)).setCell ⟨b, 5, none⟩ (.slice Fp4 np4 dp4)) xp b T s' Fp1 np1 dp1 Fp2 np2 dp2 Fp3 np3 dp3 Fp4 np4 dp4 ∧ Only [b] wc ((((((wc.setCell ⟨b, 0, none⟩ (.int .i64 ((s').c : Nat))).setCell ⟨b, 1, none⟩ (.int .i64 ((s').p : Nat))).setCell ⟨b, 2, none⟩ (.slice Fp1 np1 dp1)).setCell ⟨b, 3, none⟩ (.slice Fp2 np2 dp2)).setCell ⟨b, 4, none⟩ (.slice Fp3 np3 dp3)).setCell ⟨b, 5, none⟩ (.slice Fp4 np4 dp4)) := by
  obtain ⟨h1, h2⟩ := c6_set hbox (.int .i64 ((s').c : Nat)) (.int .i64 ((s').p : Nat)) (.slice Fp1 np1 dp1) (.slice Fp2 np2 dp2) (.slice Fp3 np3 dp3) (.slice Fp4 np4 dp4)
  refine ⟨⟨hec.only h2 (fun g hg => ?_), h1, ⟨hst.g1.only h2 (fun g hg => ?_), hst.g2.only h2 (fun g hg => ?_), hst.g3.only h2 (fun g hg => ?_), hst.g4.only h2 (fun g hg => ?_)⟩, hge⟩, h2⟩
  · simp only [List.mem_singleton] at hg
    subst hg
    exact ⟨hge, (NP.cells hbox hTo).not_sty⟩
  · simp only [List.mem_singleton] at hg
    subst hg
    exact ⟨_, _, hbox, rfl, hT⟩
  · simp only [List.mem_singleton] at hg
    subst hg
    exact ⟨_, _, hbox, rfl, hT⟩
  · simp only [List.mem_singleton] at hg
    subst hg
    exact ⟨_, _, hbox, rfl, hT⟩
  · simp only [List.mem_singleton] at hg
    subst hg
    exact ⟨_, _, hbox, rfl, hT⟩
section
variable {v : Value} {l : List Act8}
set_option maxHeartbeats 8000000 in
set_option maxRecDepth 4000 in
theorem steps17_short (w : World) (c : Nat) (hc : c < 256) (ha : AV w v l) (hl : l.length ≤ 60) : Calls Try.prog 3 #[.int .u8 (c : Nat), v] w (RetB w true) := by
  have HA := Lib.hid ha
  have HAW := Lib.hid (awake17_walk w)
  obtain ⟨A, cap, rfl, _⟩ := ha.mem
  obtain ⟨m0, hm0⟩ : ∃ m : Nat, 1 + c % 12 = m := ⟨_, rfl⟩
  have hmI : (1 : Int) + (c : Int) % 12 = (m0 : Int) := by omega
  have hc0 : (L11.new (m0 : Int)).c ≤ 14 := by rw [L11.new_c m0 (by omega) (by omega)]; omega
  have HNW : Hid (∀ W, Below w.heap.size w W → Calls Try.prog 8 #[.int .i64 (m0 : Int)] W fun e w' => ∃ xp, e = .returned (ptr xp) ∧ EC w w' xp (L11.new (m0 : Int)) 14) := Lib.hid (fun W hb => (enew_walk hb (m0 : Int) (by omega) (by omega)).mono (fun e w' ⟨xp, he, h, _⟩ => ⟨xp, he, h.more (by decide) (by decide)⟩))
  have HNR := Lib.hid (fun W => r11new_walk (w := W) (m0 : Int) (by omega) (by omega))
  have hok0 : (L11.new (m0 : Int)).Ok := L11.ok_new _
  obtain ⟨s0, hs0⟩ : ∃ s0, L11.new (m0 : Int) = s0 := ⟨_, rfl⟩
  rw [hs0] at HNW HNR hok0 hc0
  have HOK0 := Lib.hid hok0
  obtain ⟨na, hna⟩ : ∃ na, l.length = na := ⟨_, rfl⟩
  rw [hna] at hl HA ⊢
  have HNA := Lib.hid hna
  have HAX : Hid (∀ W, Below w.heap.size w W → ∀ i (hi : i < l.length), l[i].Ok ∧ ∃ g off, A = some ⟨g, off, none⟩ ∧ g < w.heap.size ∧ ActAt W g (off + i * 3) l[i]) := Lib.hid (fun W hb i hi => by
    obtain ⟨A', c', e, h1⟩ := HA.out.mem
    injection e with e1 _ _
    subst e1
    obtain ⟨ok, g, off, e2, hg, hcc⟩ := h1 i hi
    exact ⟨ok, g, off, e2, hg, hcc.keep (hb.block g hg)⟩)
  have HOKR : Hid (∀ i, (s0.runS (l.take i)).Ok ∧ (s0.runS (l.take i)).c ≤ 14) := Lib.hid (fun i => ⟨HOK0.out.runS _ (fun x hx => by
    obtain ⟨j, hj, rfl⟩ := List.getElem_of_mem (List.mem_of_mem_take hx)
    exact (HAX.out w (Below.refl _ _) j hj).1), L11.runS_c _ hc0⟩)
  clear ha hok0 hs0 hna HA hm0 hc0
  have q1 : (0 : Int) ≤ (c : Int) := by omega
  have q2 : (c : Int) ≤ 255 := by omega
  have hlI : ¬ (60 : Int) < (na : Int) := by omega
  go_enter Try.func3, Try.ntmps3
  go_wp2_with fail
  refine HAW.out.mono ?_
  rintro e w1 ⟨rfl, hb1⟩
  have HL1 := Lib.hid hb1
  clear hb1 HAW
  go_wp2_with fail
  try rw [hmI]
  refine (HNW.out w1 HL1.out).mono ?_
  rintro e w2 ⟨xp, rfl, h2⟩
  have H2 := Lib.hid h2
  clear h2 HNW HL1
  go_wp2_with fail
  try rw [hmI]
  refine (HNR.out w2).mono ?_
  rintro e w4 ⟨q_1, q_2, q_3, q_4, rfl, hb4, hk4⟩
  obtain ⟨Fb1, nb1, db1, rfl⟩ := hk4.form1; obtain ⟨Fb2, nb2, db2, rfl⟩ := hk4.form2; obtain ⟨Fb3, nb3, db3, rfl⟩ := hk4.form3; obtain ⟨Fb4, nb4, db4, rfl⟩ := hk4.form4
  have HI0 : Hid (ES w (w4.alloc (.cells (l11C s0.c s0.p (.slice Fb1 nb1 db1) (.slice Fb2 nb2 db2) (.slice Fb3 nb3 db3) (.slice Fb4 nb4 db4)) T11)) xp w4.heap.size T11 s0 Fb1 nb1 db1 Fb2 nb2 db2 Fb3 nb3 db3 Fb4 nb4 db4) := Lib.hid ⟨(H2.out.still hb4).still (low_one w4 _), heap_alloc_new w4 _, hk4.below (low_one w4 _), by have := H2.out.below.size; have := hb4.size; omega⟩
  clear hb4 hk4 HNR H2
  go_wp2_with fail
  generalize (w4.alloc (.cells (l11C s0.c s0.p (.slice Fb1 nb1 db1) (.slice Fb2 nb2 db2) (.slice Fb3 nb3 db3) (.slice Fb4 nb4 db4)) T11)) = wI at HI0 ⊢
  generalize w4.heap.size = b7 at HI0 ⊢
  go_loopg [8, 9, 10, 11] na (fun gg s8 s9 s10 s11 wr => ∃ (i : Nat) (F1 : Option Addr) (n1 d1 : Nat) (F2 : Option Addr) (n2 d2 : Nat) (F3 : Option Addr) (n3 d3 : Nat) (F4 : Option Addr) (n4 d4 : Nat), i + gg = na ∧ s8 = .int .i64 (i : Nat) ∧ Hid (ES w wr xp b7 T11 (s0.runS (l.take i)) F1 n1 d1 F2 n2 d2 F3 n3 d3 F4 n4 d4))
  case atStart => exact ⟨0, _, _, _, _, _, _, _, _, _, _, _, _, by omega, rfl, HI0⟩
  case round =>
    obtain ⟨i, F1, n1, d1, F2, n2, d2, F3, n3, d3, F4, n4, d4, hi, rfl, HI⟩ := hrel
    by_cases hlt : i < na
    · have hltI : (i : Int) < (na : Int) := by omega
      have hil : i < l.length := by rw [HNA.out]; exact hlt
      obtain ⟨wf, g, off, hA, hg, hac⟩ := HAX.out wr HI.out.ec.below i hil
      obtain ⟨hok, hcc⟩ := HOKR.out i
      have hok2 := (HOKR.out (i + 1)).1
      have HNX := Lib.hid (s0.runS_next hil)
      obtain ⟨σ, hσ⟩ : ∃ σ, s0.runS (l.take i) = σ := ⟨_, rfl⟩
      obtain ⟨x, hx⟩ : ∃ x, l[i] = x := ⟨_, rfl⟩
      rw [hσ] at HI hok HNX hcc
      rw [hx] at wf hac HNX
      rw [HNX.out] at hok2
      have HOK2 := Lib.hid hok2
      have HOUT := Lib.hid (hok.actOutLen wf)
      clear hσ hx hok2
      subst hA
      have hgw : ∀ W, Below w.heap.size w W → g < W.heap.size := fun W hb => Nat.lt_of_lt_of_le hg hb.size
      have HAG : Hid (∀ W, Below w.heap.size w W → ActAt W g (off + i * 3) x) := Lib.hid (fun W hb => hac.keep ((hb.block g hg).trans (HI.out.ec.below.block g hg).symm))
      have HDO := Lib.hid (edo_walk HI.out.ec hcc x wf)
      have hWF := Lib.hid wf
      have hOK := Lib.hid hok
      obtain ⟨a0, a1, a2⟩ := hac
      clear HAX HOKR wf hok
      go_wp2_with fail
      refine HDO.out.mono ?_
      rintro e w5 ⟨o5, rfl, hp, ho5⟩
      have hbox5 := (hp.2 b7 (NP.cells HI.out.box (by decide))).trans HI.out.box
      have hst5 := HI.out.st.kn hp.2
      have hg5 := hgw w5 hp.1.below
      have hac5 := HAG.out w5 hp.1.below
      have hb5l := (head_row hbox5).lt
      have HEC5 := Lib.hid hp.1
      have HO5 := Lib.hid ho5
      have HBX5 := Lib.hid hbox5
      have HGE := Lib.hid HI.out.ge
      have HDR : Hid (∀ W, Below w5.heap.size w5 W → Calls Try.prog 11 #[.agg (l11C σ.c σ.p (.slice F1 n1 d1) (.slice F2 n2 d2) (.slice F3 n3 d3) (.slice F4 n4 d4)), .agg (act8C x)] W (P11o W (σ.act x) (σ.actOut x))) := Lib.hid (fun W hb => r11do_walk (hst5.below hb) hOK.out x hWF.out)
      have HSR : Hid (∀ w' : World, (∀ k, k < w5.heap.size → w'.heap[k]? = w5.heap[k]?) → w'.cell? ⟨b7, 0, none⟩ = some (.int .i64 ((σ).c : Nat)) ∧ w'.cell? ⟨b7, 1, none⟩ = some (.int .i64 ((σ).p : Nat)) ∧ w'.cell? ⟨b7, 2, none⟩ = some (.slice F1 n1 d1) ∧ w'.cell? ⟨b7, 3, none⟩ = some (.slice F2 n2 d2) ∧ w'.cell? ⟨b7, 4, none⟩ = some (.slice F3 n3 d3) ∧ w'.cell? ⟨b7, 5, none⟩ = some (.slice F4 n4 d4) ∧ w'.cell? ⟨g, off + i * 3, none⟩ = some (.int .u8 (x.kind : Nat)) ∧ w'.cell? ⟨g, off + i * 3 + 1, none⟩ = some (.int .u64 (x.key : Nat)) ∧ w'.cell? ⟨g, off + i * 3 + 2, none⟩ = some (.int .u16 (x.n : Nat))) := Lib.hid (fun w' hh => by
        obtain ⟨⟨x0, x1, x2, x3, x4, x5⟩, _⟩ := c6_at ((hh b7 hb5l).trans hbox5)
        obtain ⟨a0, a1, a2⟩ := hac5.keep (hh g hg5)
        exact ⟨x0, x1, x2, x3, x4, x5, a0, a1, a2⟩)
      clear a0 a1 a2 hp ho5 hbox5 hst5 hac5 HDO HI HAG hgw
      obtain ⟨x0, x1, x2, x3, x4, x5, a0, a1, a2⟩ := HSR.out w5 (fun _ _ => rfl)
      obtain ⟨w5c, hw5⟩ : ∃ y, y = w5 := ⟨_, rfl⟩
      subst hw5
      go_upto_region 10 with fail
      go_cut [10, 11] (fun s10 s11 wx => ∃ oo, oo = s11 ∧ Af11 w5c T11 (σ.act x) (σ.actOut x) s10 oo wx)
      case first =>
        go_region_held3 (fun w' => w'.cell? ⟨b7, 0, none⟩ = some (.int .i64 ((σ).c : Nat)) ∧ w'.cell? ⟨b7, 1, none⟩ = some (.int .i64 ((σ).p : Nat)) ∧ w'.cell? ⟨b7, 2, none⟩ = some (.slice F1 n1 d1) ∧ w'.cell? ⟨b7, 3, none⟩ = some (.slice F2 n2 d2) ∧ w'.cell? ⟨b7, 4, none⟩ = some (.slice F3 n3 d3) ∧ w'.cell? ⟨b7, 5, none⟩ = some (.slice F4 n4 d4) ∧ w'.cell? ⟨g, off + i * 3, none⟩ = some (.int .u8 (x.kind : Nat)) ∧ w'.cell? ⟨g, off + i * 3 + 1, none⟩ = some (.int .u64 (x.key : Nat)) ∧ w'.cell? ⟨g, off + i * 3 + 2, none⟩ = some (.int .u16 (x.n : Nat)))
          (first | with_reducible exact kk0 | with_reducible exact KK1 _ (c6_set hP5 _ _ _ _ _ _).2 | go_keep)
          (first
          | (go_at_call 11; refine (HDR.out _ (below_drewn (low_one w5c (.cells z11 T11)) _)).mono ?_; rintro e w6 ⟨q_1, q_2, q_3, q_4, o6, he, hb6, hk6, ho6⟩; obtain ⟨Fa1, na1, da1, rfl⟩ := hk6.form1; obtain ⟨Fa2, na2, da2, rfl⟩ := hk6.form2; obtain ⟨Fa3, na3, da3, rfl⟩ := hk6.form3; obtain ⟨Fa4, na4, da4, rfl⟩ := hk6.form4; subst he; have hbA := (below_drewn (Below.refl (w5c.alloc (.cells z11 T11)).heap.size (w5c.alloc (.cells z11 T11))) _).trans hb6; have kk0 := HSR.out w6 (fun k hk => (hbA.block k (by simp; omega)).trans (Below.heap_alloc w5c _ k hk)); have hP5 := (hbA.block w5c.heap.size (by simp)).trans (heap_alloc_new w5c _); have KK1 := fun (W : World) (ho : Only [w5c.heap.size] w6 W) => HSR.out W (fun k hk => (ho.block k (by have := hbA.size; simp at this; omega) (by simp; omega)).trans ((hbA.block k (by simp; omega)).trans (Below.heap_alloc w5c _ k hk))); obtain ⟨⟨z0, z1, z2, z3, z4, z5⟩, zf0, zf1, zf2, zf3, zf4, zf5⟩ := c6_at hP5)
          | (go_at_call 11; refine (HDR.out _ (below_drewn (Below.refl _ _) _)).mono ?_; rintro e w6 ⟨q_1, q_2, q_3, q_4, o6, he, hb6, hk6, ho6⟩; obtain ⟨Fa1, na1, da1, rfl⟩ := hk6.form1; obtain ⟨Fa2, na2, da2, rfl⟩ := hk6.form2; obtain ⟨Fa3, na3, da3, rfl⟩ := hk6.form3; obtain ⟨Fa4, na4, da4, rfl⟩ := hk6.form4; subst he; have hbA := (below_drewn (Below.refl w5c.heap.size w5c) _).trans hb6; have kk0 := HSR.out w6 (fun k hk => hbA.block k hk)))
        all_goals
          go_wp2_with fail
          go_meet
          first
            | exact ⟨_, rfl, af11_b hbA hk6 ho6⟩
            | exact ⟨_, rfl, af11_a (zs := z11) (by decide) rfl ⟨_, _, _, _, _, _, rfl⟩ hbA hP5 hk6 ho6⟩
      case rest =>
        obtain ⟨o2, rfl, P2, Fd1, nd1, dd1, Fd2, nd2, dd2, Fd3, nd3, dd3, Fd4, nd4, dd4, rfl, hbc, hP2, hcell, hst, hou⟩ := hcut
        have hbx := (hbc.block b7 hb5l).trans HBX5.out
        have hne : P2 ≠ b7 := by omega
        have hne' := Ne.symm hne
        obtain ⟨⟨j0, j1, j2, j3, j4, j5⟩, _⟩ := c6_at hcell
        obtain ⟨⟨y0, y1, y2, y3, y4, y5⟩, yf0, yf1, yf2, yf3, yf4, yf5⟩ := c6_at hbx
        have HN : Hid (∀ W, W = ((((((wc.setCell ⟨b7, 0, none⟩ (.int .i64 ((σ.act x).c : Nat))).setCell ⟨b7, 1, none⟩ (.int .i64 ((σ.act x).p : Nat))).setCell ⟨b7, 2, none⟩ (.slice Fd1 nd1 dd1)).setCell ⟨b7, 3, none⟩ (.slice Fd2 nd2 dd2)).setCell ⟨b7, 4, none⟩ (.slice Fd3 nd3 dd3)).setCell ⟨b7, 5, none⟩ (.slice Fd4 nd4 dd4)) → ES w W xp b7 T11 (σ.act x) Fd1 nd1 dd1 Fd2 nd2 dd2 Fd3 nd3 dd3 Fd4 nd4 dd4 ∧ KV W o5 (σ.actOut x) ∧ KV W o2 (σ.actOut x)) := Lib.hid (by
          rintro W rfl
          obtain ⟨h1, h2⟩ := es_store (Fp1 := Fd1) (np1 := nd1) (dp1 := dd1) (Fp2 := Fd2) (np2 := nd2) (dp2 := dd2) (Fp3 := Fd3) (np3 := nd3) (dp3 := dd3) (Fp4 := Fd4) (np4 := nd4) (dp4 := dd4) (HEC5.out.still hbc) hbx hst HGE.out (by decide) (by decide)
          have hS : ∀ g ∈ [b7], Bx wc g := fun g hg => by
            simp only [List.mem_singleton] at hg
            subst hg
            exact ⟨_, _, hbx, rfl, by decide⟩
          exact ⟨h1, (HO5.out.below hbc).only h2 hS, hou.only h2 hS⟩)
        clear x0 x1 x2 x3 x4 x5 a0 a1 a2 hbc hst hou hcell hbx HSR HDR HEC5 HO5 HBX5 HGE hP2
        go_upto_region 12 with fail
        have hW := HN.out _ rfl
        clear HN j0 j1 j2 j3 j4 j5 y0 y1 y2 y3 y4 y5 yf0 yf1 yf2 yf3 yf4 yf5
        generalize ((((((wc.setCell ⟨b7, 0, none⟩ (.int .i64 ((σ.act x).c : Nat))).setCell ⟨b7, 1, none⟩ (.int .i64 ((σ.act x).p : Nat))).setCell ⟨b7, 2, none⟩ (.slice Fd1 nd1 dd1)).setCell ⟨b7, 3, none⟩ (.slice Fd2 nd2 dd2)).setCell ⟨b7, 4, none⟩ (.slice Fd3 nd3 dd3)).setCell ⟨b7, 5, none⟩ (.slice Fd4 nd4 dd4)) = W at hW ⊢
        have HW := Lib.hid hW
        clear hW
        obtain ⟨⟨y0, y1, y2, y3, y4, y5⟩, _⟩ := c6_at HW.out.1.box
        have HSM : Hid (∀ W', Below W.heap.size W W' → Calls Try.prog 12 #[o5, o2] W' fun e w' => e = .returned (.bool true) ∧ Below W.heap.size W w') := Lib.hid (fun W' hb => by
          refine (same_walk (HW.out.2.1.below hb) (HW.out.2.2.below hb) HOUT.out).mono ?_
          rintro e w' ⟨rfl, hb'⟩
          rw [decide_eq_true rfl]
          exact ⟨rfl, hb.trans (hb'.mono hb.size)⟩)
        have HSE : Hid (∀ W', Below W.heap.size W W' → Calls Try.prog 14 #[ptr xp] W' fun e w' => ∃ Fe1 ne1 de1 Fe2 ne2 de2 Fe3 ne3 de3 Fe4 ne4 de4, e = .returned (.agg (l11C (σ.act x).c (σ.act x).p (.slice Fe1 ne1 de1) (.slice Fe2 ne2 de2) (.slice Fe3 ne3 de3) (.slice Fe4 ne4 de4))) ∧ Below W.heap.size W w' ∧ St11 w' (σ.act x) (.slice Fe1 ne1 de1) (.slice Fe2 ne2 de2) (.slice Fe3 ne3 de3) (.slice Fe4 ne4 de4)) := Lib.hid (fun W' hb => by
          refine (estate_walk (HW.out.1.ec.still hb)).mono ?_
          rintro e w' ⟨u1, u2, u3, u4, rfl, hb', hs⟩
          obtain ⟨Fe1, ne1, de1, rfl⟩ := hs.form1; obtain ⟨Fe2, ne2, de2, rfl⟩ := hs.form2; obtain ⟨Fe3, ne3, de3, rfl⟩ := hs.form3; obtain ⟨Fe4, ne4, de4, rfl⟩ := hs.form4
          exact ⟨_, _, _, _, _, _, _, _, _, _, _, _, rfl, hb.trans (hb'.mono hb.size), hs⟩)
        have HSA : Hid (∀ W' Fe1 ne1 de1 Fe2 ne2 de2 Fe3 ne3 de3 Fe4 ne4 de4, Below W.heap.size W W' → St11 W' (σ.act x) (.slice Fe1 ne1 de1) (.slice Fe2 ne2 de2) (.slice Fe3 ne3 de3) (.slice Fe4 ne4 de4) → Calls Try.prog 13 #[.agg (l11C (σ.act x).c (σ.act x).p (.slice Fe1 ne1 de1) (.slice Fe2 ne2 de2) (.slice Fe3 ne3 de3) (.slice Fe4 ne4 de4)), .agg (l11C (σ.act x).c (σ.act x).p (.slice Fd1 nd1 dd1) (.slice Fd2 nd2 dd2) (.slice Fd3 nd3 dd3) (.slice Fd4 nd4 dd4))] W' fun e w' => e = .returned (.bool true) ∧ Below W.heap.size W w') := Lib.hid (fun W' Fe1 ne1 de1 Fe2 ne2 de2 Fe3 ne3 de3 Fe4 ne4 de4 hb hs => by
          refine (esame_walk hs (HW.out.1.st.below hb) HOK2.out).mono ?_
          rintro e w' ⟨rfl, hb'⟩
          exact ⟨rfl, hb.trans (hb'.mono hb.size)⟩)
        have HKC : Hid (∀ W', Below W.heap.size W W' → W'.cell? ⟨b7, 0, none⟩ = some (.int .i64 ((σ.act x).c : Nat)) ∧ W'.cell? ⟨b7, 1, none⟩ = some (.int .i64 ((σ.act x).p : Nat)) ∧ W'.cell? ⟨b7, 2, none⟩ = some (.slice Fd1 nd1 dd1) ∧ W'.cell? ⟨b7, 3, none⟩ = some (.slice Fd2 nd2 dd2) ∧ W'.cell? ⟨b7, 4, none⟩ = some (.slice Fd3 nd3 dd3) ∧ W'.cell? ⟨b7, 5, none⟩ = some (.slice Fd4 nd4 dd4)) := Lib.hid (fun W' hb => (HW.out.1.low hb).cells)
        go_region_held3 (fun w' => w'.cell? ⟨b7, 0, none⟩ = some (.int .i64 ((σ.act x).c : Nat)) ∧ w'.cell? ⟨b7, 1, none⟩ = some (.int .i64 ((σ.act x).p : Nat)) ∧ w'.cell? ⟨b7, 2, none⟩ = some (.slice Fd1 nd1 dd1) ∧ w'.cell? ⟨b7, 3, none⟩ = some (.slice Fd2 nd2 dd2) ∧ w'.cell? ⟨b7, 4, none⟩ = some (.slice Fd3 nd3 dd3) ∧ w'.cell? ⟨b7, 5, none⟩ = some (.slice Fd4 nd4 dd4))
          (first | with_reducible exact kk6 | with_reducible exact kk7 | with_reducible exact kk8 | go_keep)
          (first
          | (go_at_call 12; refine (HSM.out _ (below_drewn (Below.refl _ _) _)).mono ?_; rintro e w6 ⟨rfl, hb6⟩; have kk6 := HKC.out w6 hb6)
          | (go_at_call 14; refine (HSE.out _ hb6).mono ?_; rintro e w7 ⟨Fg1, ng1, dg1, Fg2, ng2, dg2, Fg3, ng3, dg3, Fg4, ng4, dg4, rfl, hb7, hs7⟩; have kk7 := HKC.out w7 hb7)
          | (go_at_call 13; refine (HSA.out _ _ _ _ _ _ _ _ _ _ _ _ _ hb7 hs7).mono ?_; rintro e w8 ⟨rfl, hb8⟩; have kk8 := HKC.out w8 hb8))
        have HN : Hid (ES w w8 xp b7 T11 (s0.runS (l.take (i + 1))) Fd1 nd1 dd1 Fd2 nd2 dd2 Fd3 nd3 dd3 Fd4 nd4 dd4) := Lib.hid (by rw [HNX.out]; exact HW.out.1.low hb8)
        clear hb6 hb7 hb8 hs7 kk6 kk7 kk8 HSM HSE HSA HKC HW y0 y1 y2 y3 y4 y5
        go_wp2
        go_roundg (na - i - 1)
        case measure => omega
        case rel => exact ⟨i + 1, _, _, _, _, _, _, _, _, _, _, _, _, by omega, by go_num, HN⟩
    · have hltI : ¬ (i : Int) < (na : Int) := by omega
      have hok := (HOKR.out i).1
      obtain ⟨σ, hσ⟩ : ∃ σ, s0.runS (l.take i) = σ := ⟨_, rfl⟩
      rw [hσ] at HI hok
      have HOK := Lib.hid hok
      clear hσ hok
      obtain ⟨⟨y0, y1, y2, y3, y4, y5⟩, _⟩ := c6_at HI.out.box
      have HSE : Hid (∀ W', Below wr.heap.size wr W' → Calls Try.prog 14 #[ptr xp] W' fun e w' => ∃ Fe1 ne1 de1 Fe2 ne2 de2 Fe3 ne3 de3 Fe4 ne4 de4, e = .returned (.agg (l11C σ.c σ.p (.slice Fe1 ne1 de1) (.slice Fe2 ne2 de2) (.slice Fe3 ne3 de3) (.slice Fe4 ne4 de4))) ∧ Below wr.heap.size wr w' ∧ St11 w' σ (.slice Fe1 ne1 de1) (.slice Fe2 ne2 de2) (.slice Fe3 ne3 de3) (.slice Fe4 ne4 de4)) := Lib.hid (fun W' hb => by
        refine (estate_walk (HI.out.ec.still hb)).mono ?_
        rintro e w' ⟨u1, u2, u3, u4, rfl, hb', hs⟩
        obtain ⟨Fe1, ne1, de1, rfl⟩ := hs.form1; obtain ⟨Fe2, ne2, de2, rfl⟩ := hs.form2; obtain ⟨Fe3, ne3, de3, rfl⟩ := hs.form3; obtain ⟨Fe4, ne4, de4, rfl⟩ := hs.form4
        exact ⟨_, _, _, _, _, _, _, _, _, _, _, _, rfl, hb.trans (hb'.mono hb.size), hs⟩)
      have HSA : Hid (∀ W' Fe1 ne1 de1 Fe2 ne2 de2 Fe3 ne3 de3 Fe4 ne4 de4, Below wr.heap.size wr W' → St11 W' σ (.slice Fe1 ne1 de1) (.slice Fe2 ne2 de2) (.slice Fe3 ne3 de3) (.slice Fe4 ne4 de4) → Calls Try.prog 13 #[.agg (l11C σ.c σ.p (.slice Fe1 ne1 de1) (.slice Fe2 ne2 de2) (.slice Fe3 ne3 de3) (.slice Fe4 ne4 de4)), .agg (l11C σ.c σ.p (.slice F1 n1 d1) (.slice F2 n2 d2) (.slice F3 n3 d3) (.slice F4 n4 d4))] W' fun e w' => e = .returned (.bool true) ∧ Below wr.heap.size wr w') := Lib.hid (fun W' Fe1 ne1 de1 Fe2 ne2 de2 Fe3 ne3 de3 Fe4 ne4 de4 hb hs => by
        refine (esame_walk hs (HI.out.st.below hb) HOK.out).mono ?_
        rintro e w' ⟨rfl, hb'⟩
        exact ⟨rfl, hb.trans (hb'.mono hb.size)⟩)
      have HKC : Hid (∀ W', Below wr.heap.size wr W' → W'.cell? ⟨b7, 0, none⟩ = some (.int .i64 ((σ).c : Nat)) ∧ W'.cell? ⟨b7, 1, none⟩ = some (.int .i64 ((σ).p : Nat)) ∧ W'.cell? ⟨b7, 2, none⟩ = some (.slice F1 n1 d1) ∧ W'.cell? ⟨b7, 3, none⟩ = some (.slice F2 n2 d2) ∧ W'.cell? ⟨b7, 4, none⟩ = some (.slice F3 n3 d3) ∧ W'.cell? ⟨b7, 5, none⟩ = some (.slice F4 n4 d4)) := Lib.hid (fun W' hb => (HI.out.low hb).cells)
      go_upto_region 14 with fail
      go_region_held3 (fun w' => w'.cell? ⟨b7, 0, none⟩ = some (.int .i64 ((σ).c : Nat)) ∧ w'.cell? ⟨b7, 1, none⟩ = some (.int .i64 ((σ).p : Nat)) ∧ w'.cell? ⟨b7, 2, none⟩ = some (.slice F1 n1 d1) ∧ w'.cell? ⟨b7, 3, none⟩ = some (.slice F2 n2 d2) ∧ w'.cell? ⟨b7, 4, none⟩ = some (.slice F3 n3 d3) ∧ w'.cell? ⟨b7, 5, none⟩ = some (.slice F4 n4 d4))
        (first | with_reducible exact kk7 | with_reducible exact kk8 | go_keep)
        (first
        | (go_at_call 14; refine (HSE.out _ (below_drewn (Below.refl _ _) _)).mono ?_; rintro e w7 ⟨Fg1, ng1, dg1, Fg2, ng2, dg2, Fg3, ng3, dg3, Fg4, ng4, dg4, rfl, hb7, hs7⟩; have kk7 := HKC.out w7 hb7)
        | (go_at_call 13; refine (HSA.out _ _ _ _ _ _ _ _ _ _ _ _ _ hb7 hs7).mono ?_; rintro e w8 ⟨rfl, hb8⟩; have kk8 := HKC.out w8 hb8))
      have HL := Lib.hid (HI.out.ec.below.trans (hb8.mono HI.out.ec.below.size))
      clear hb7 hb8 hs7 kk7 kk8
      go_wp2
      go_ret
      exact ⟨rfl, HL.out⟩
theorem steps17_walk (w : World) (c : Nat) (hc : c < 256) (ha : AV w v l) : Calls Try.prog 3 #[.int .u8 (c : Nat), v] w (RetB w true) := by
  by_cases hl : l.length ≤ 60
  · exact steps17_short w c hc ha hl
  · have HAW := Lib.hid (awake17_walk w)
    obtain ⟨A, cap, rfl, _⟩ := ha.mem
    obtain ⟨na, hna⟩ : ∃ na, l.length = na := ⟨_, rfl⟩
    rw [hna] at hl ⊢
    have hlI : (60 : Int) < (na : Int) := by omega
    clear ha hna
    go_enter Try.func3, Try.ntmps3
    go_wp2_with fail
    refine HAW.out.mono ?_
    rintro e w1 ⟨rfl, hb1⟩
    have HB := Lib.hid hb1
    clear hb1
    go_wp2
    go_ret
    exact ⟨rfl, HB.out⟩
end
end Go.Proofs.Ytgkblelgcikafaa
