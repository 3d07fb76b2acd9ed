/- Words and walks: ElLi. -/
import Derived.Test.YtkhikpnlpcankaaGreatG32
import Derived.Test.YtkhikpnlpcankaaGreatG40
import Derived.Deep.DeepCutAuto
namespace Go.Proofs.YtkhikpnlpcankaaGreat
open Go Go.RowKit Go.Deep
structure EM (w wr : World) (xp b : Nat) (s s' : L12) (F1 : Option Addr) (n1 d1 : Nat) (F2 : Option Addr) (n2 d2 : Nat) (gone : Value) (out : List Nat) : Prop where
  ec : EC w wr xp s 14
  box : wr.heap[b]? = some (.cells (l12C s'.c (.slice F1 n1 d1) (.slice F2 n2 d2)) PT12 (0, 0))
  st : St12 wr s' (.slice F1 n1 d1) (.slice F2 n2 d2)
  ge : w.heap.size ≤ b
  out : KV wr gone out
theorem EM.low {w wr w2 : World} {xp b : Nat} {s s' : L12} {F1 : Option Addr} {n1 d1 : Nat} {F2 : Option Addr} {n2 d2 : Nat} {gone : Value} {out : List Nat} (h : EM w wr xp b s s' F1 n1 d1 F2 n2 d2 gone out) (hb : Below wr.heap.size wr w2) : EM w w2 xp b s s' F1 n1 d1 F2 n2 d2 gone out :=
  ⟨h.ec.still hb, (hb.block b (head_row h.box).lt).trans h.box, h.st.below hb, h.ge, h.out.below hb⟩
theorem em_store {w wc : World} {xp b : Nat} {s s0 s' : L12} {F1 : Option Addr} {n1 d1 : Nat} {F2 : Option Addr} {n2 d2 : Nat} {Fp1 : Option Addr} {np1 dp1 : Nat} {Fp2 : Option Addr} {np2 dp2 : Nat} {gone : Value} {out : List Nat} (hec : EC w wc xp s 14) (hbox : wc.heap[b]? = some (.cells (l12C s0.c (.slice F1 n1 d1) (.slice F2 n2 d2)) PT12 (0, 0))) (hst : St12 wc s' (.slice Fp1 np1 dp1) (.slice Fp2 np2 dp2)) (hge : w.heap.size ≤ b) (ho : KV wc gone out) :
    EM w (((wc.setCell ⟨b, 0, none⟩ (.int .i64 ((s').c : Nat))).setCell ⟨b, 1, none⟩ (.slice Fp1 np1 dp1)).setCell ⟨b, 2, none⟩ (.slice Fp2 np2 dp2)) xp b s s' Fp1 np1 dp1 Fp2 np2 dp2 gone out := by
  obtain ⟨h1, h2⟩ := c3_set hbox (.int .i64 ((s').c : Nat)) (.slice Fp1 np1 dp1) (.slice Fp2 np2 dp2)
  have hS : ∀ g ∈ [b], Bx wc g := fun g hg => by
    simp only [List.mem_singleton] at hg
    subst hg
    exact ⟨_, _, hbox, rfl, by decide⟩
  refine ⟨hec.only h2 (fun g hg => ?_), h1, ⟨hst.g1.only h2 hS, hst.g2.only h2 hS⟩, hge, ho.only h2 hS⟩
  simp only [List.mem_singleton] at hg
  subst hg
  exact ⟨hge, (NP.cells hbox (by decide)).not_sty⟩
theorem af12_low {w4 w5 wx : World} {T : TypeId} {s : L12} {out : List Nat} {v o : Value} (hb : Below w4.heap.size w4 w5) (h : Af12 w5 T s out v o wx) : Af12 w4 T s out v o wx := by
  obtain ⟨P, F1, n1, d1, F2, n2, d2, h1, h2, h3, h4, h5, h6⟩ := h
  exact ⟨P, F1, n1, d1, F2, n2, d2, h1, hb.trans (h2.mono hb.size), Nat.le_trans hb.size h3, h4, h5, h6⟩
section
variable {v : Value} {l : List Act8}
set_option maxHeartbeats 8000000 in
set_option maxRecDepth 4000 in
theorem lists18_short (w : World) (c : Nat) (hc : c < 256) (ha : AV w v l) (hl : l.length ≤ 60) : Calls Tryz.prog 5 #[.int .u8 (c : Nat), v] w (RetB w true) := by
  have HA := Lib.hid ha
  have HAW := Lib.hid (awake18_walk w)
  obtain ⟨A, cap, rfl, _⟩ := ha.mem
  obtain ⟨m0, hm0⟩ : ∃ m : Nat, 1 + c % 12 = m := ⟨_, rfl⟩
  have hmI : (1 : Int) + (c : Int) % 12 = (m0 : Int) := by omega
  have hc0 : (L12.new (m0 : Int)).c ≤ 14 := by rw [L12.new_c m0 (by omega) (by omega)]; omega
  have HNW : Hid (∀ W, Below w.heap.size w W → Calls Tryz.prog 7 #[.int .i64 (m0 : Int)] W fun e w' => ∃ xp, e = .returned (ptr xp) ∧ EC w w' xp (L12.new (m0 : Int)) 14) := Lib.hid (fun W hb => (enew_walk hb (m0 : Int) (by omega) (by omega)).mono (fun e w' ⟨xp, he, h, _⟩ => ⟨xp, he, h.more (by decide) (by decide)⟩))
  have HNR := Lib.hid (fun W => pol12Ok.new W (m0 : Int) (by omega) (by omega))
  have hok0 : (L12.new (m0 : Int)).Ok := L12.ok_new _
  obtain ⟨s0, hs0⟩ : ∃ s0, L12.new (m0 : Int) = s0 := ⟨_, rfl⟩
  rw [hs0] at HNW HNR hok0 hc0
  have HOK0 := Lib.hid hok0
  obtain ⟨na, hna⟩ : ∃ na, l.length = na := ⟨_, rfl⟩
  rw [hna] at hl HA ⊢
  have HNA := Lib.hid hna
  have HAX : Hid (∀ W, Below w.heap.size w W → ∀ i (hi : i < l.length), l[i].Ok ∧ ∃ g off, A = some ⟨g, off, none⟩ ∧ g < w.heap.size ∧ ActAt W g (off + i * 3) l[i]) := Lib.hid (fun W hb i hi => by
    obtain ⟨A', c', e, h1⟩ := HA.out.mem
    injection e with e1 _ _
    subst e1
    obtain ⟨ok, g, off, e2, hg, hcc⟩ := h1 i hi
    exact ⟨ok, g, off, e2, hg, hcc.keep (hb.block g hg)⟩)
  have HOKR : Hid (∀ i, (s0.runS (l.take i)).Ok ∧ (s0.runS (l.take i)).c ≤ 14) := Lib.hid (fun i => ⟨HOK0.out.runS _ (fun x hx => by
    obtain ⟨j, hj, rfl⟩ := List.getElem_of_mem (List.mem_of_mem_take hx)
    exact (HAX.out w (Below.refl _ _) j hj).1), L12.runS_c _ hc0⟩)
  clear ha hok0 hs0 hna HA hm0 hc0
  have q1 : (0 : Int) ≤ (c : Int) := by omega
  have q2 : (c : Int) ≤ 255 := by omega
  have hlI : ¬ (60 : Int) < (na : Int) := by omega
  go_enter Tryz.func5, Tryz.ntmps5
  go_wp2_with fail
  refine HAW.out.mono ?_
  rintro e w1 ⟨rfl, hb1⟩
  have HL1 := Lib.hid hb1
  clear hb1 HAW
  go_wp2_with fail
  try rw [hmI]
  refine (HNW.out w1 HL1.out).mono ?_
  rintro e w2 ⟨xp, rfl, h2⟩
  have H2 := Lib.hid h2
  clear h2 HNW HL1
  go_wp2_with fail
  try rw [hmI]
  refine (HNR.out w2).mono ?_
  rintro e w4 ⟨q_1, q_2, rfl, hb4, hk4⟩
  obtain ⟨Fb1, nb1, db1, rfl⟩ := hk4.form1; obtain ⟨Fb2, nb2, db2, rfl⟩ := hk4.form2
  have HI0 : Hid (ES w (w4.alloc (.cells (l12C s0.c (.slice Fb1 nb1 db1) (.slice Fb2 nb2 db2)) PT12)) xp w4.heap.size PT12 s0 Fb1 nb1 db1 Fb2 nb2 db2) := Lib.hid ⟨(H2.out.still hb4).still (low_one w4 _), heap_alloc_new w4 _, hk4.below (low_one w4 _), by have := H2.out.below.size; have := hb4.size; omega⟩
  clear hb4 hk4 HNR H2
  go_wp2_with fail
  generalize (w4.alloc (.cells (l12C s0.c (.slice Fb1 nb1 db1) (.slice Fb2 nb2 db2)) PT12)) = wI at HI0 ⊢
  generalize w4.heap.size = b7 at HI0 ⊢
  go_loopg [8, 9, 10, 11, 12, 13, 14] na (fun gg s8 s9 s10 s11 s12 s13 s14 wr => ∃ (i : Nat) (F1 : Option Addr) (n1 d1 : Nat) (F2 : Option Addr) (n2 d2 : Nat), i + gg = na ∧ s8 = .int .i64 (i : Nat) ∧ Hid (ES w wr xp b7 PT12 (s0.runS (l.take i)) F1 n1 d1 F2 n2 d2))
  case atStart => exact ⟨0, _, _, _, _, _, _, by omega, rfl, HI0⟩
  case round =>
    obtain ⟨i, F1, n1, d1, F2, n2, d2, hi, rfl, HI⟩ := hrel
    by_cases hlt : i < na
    · have hltI : (i : Int) < (na : Int) := by omega
      have hil : i < l.length := by rw [HNA.out]; exact hlt
      obtain ⟨wf, g, off, hA, hg, hac⟩ := HAX.out wr HI.out.ec.below i hil
      obtain ⟨hok, hcc⟩ := HOKR.out i
      have hok2 := (HOKR.out (i + 1)).1
      have HNX := Lib.hid (s0.runS_next hil)
      obtain ⟨σ, hσ⟩ : ∃ σ, s0.runS (l.take i) = σ := ⟨_, rfl⟩
      obtain ⟨x, hx⟩ : ∃ x, l[i] = x := ⟨_, rfl⟩
      rw [hσ] at HI hok HNX hcc
      rw [hx] at wf hac HNX
      rw [HNX.out] at hok2
      have HOK2 := Lib.hid hok2
      have HOUT := Lib.hid (hok.actOutLen wf)
      clear hσ hx hok2
      subst hA
      have HAG : Hid (∀ W, Below w.heap.size w W → ActAt W g (off + i * 3) x) := Lib.hid (fun W hb => hac.keep ((hb.block g hg).trans (HI.out.ec.below.block g hg).symm))
      have hWF := Lib.hid wf
      have hOK := Lib.hid hok
      have hCC := Lib.hid hcc
      have hKL := hok.keysLen
      have hc := L12.act_cases σ x
      obtain ⟨q, hq⟩ : ∃ q, kindA x (decide (x.key ∈ σ.keys)) = q := ⟨_, rfl⟩
      have KK : Hid (∀ W, Calls Tryz.prog 21 #[.agg (act8C x), .bool (decide (x.key ∈ σ.keys))] W fun e w' => e = .returned (.int .i64 (q : Nat)) ∧ Below W.heap.size W w') := Lib.hid (fun W => by rw [← hq]; exact rkind_walk x wf _)
      have KH : Hid (∀ W, Below wr.heap.size wr W → Calls Tryz.prog 22 #[.agg (l12C σ.c (.slice F1 n1 d1) (.slice F2 n2 d2)), .int .u64 (x.key : Nat)] W (RetB W (decide (x.key ∈ σ.keys)))) := Lib.hid (fun W hb => pol12Ok.has (HI.out.st.below hb) hok x.key wf.key)
      rw [hq] at hc
      have HC := Lib.hid hc
      generalize decide (x.key ∈ σ.keys) = bb at KK KH hq
      have HSR : Hid (∀ w' : World, Below wr.heap.size wr w' → w'.cell? ⟨b7, 0, none⟩ = some (.int .i64 ((σ).c : Nat)) ∧ w'.cell? ⟨b7, 1, none⟩ = some (.slice F1 n1 d1) ∧ w'.cell? ⟨b7, 2, none⟩ = some (.slice F2 n2 d2) ∧ w'.cell? ⟨g, off + i * 3, none⟩ = some (.int .u8 (x.kind : Nat)) ∧ w'.cell? ⟨g, off + i * 3 + 1, none⟩ = some (.int .u64 (x.key : Nat)) ∧ w'.cell? ⟨g, off + i * 3 + 2, none⟩ = some (.int .u16 (x.n : Nat))) := Lib.hid (fun w' hb => by
        obtain ⟨x0, x1, x2⟩ := (HI.out.low hb).cells
        obtain ⟨a0, a1, a2⟩ := HAG.out w' (HI.out.low hb).ec.below
        exact ⟨x0, x1, x2, a0, a1, a2⟩)
      obtain ⟨x0, x1, x2, a0, a1, a2⟩ := HSR.out wr (Below.refl _ _)
      clear HAX HOKR wf hok hcc hc hq hac
      go_upto_region 9 with fail
      go_region_held3 (fun w' => w'.cell? ⟨b7, 0, none⟩ = some (.int .i64 ((σ).c : Nat)) ∧ w'.cell? ⟨b7, 1, none⟩ = some (.slice F1 n1 d1) ∧ w'.cell? ⟨b7, 2, none⟩ = some (.slice F2 n2 d2) ∧ w'.cell? ⟨g, off + i * 3, none⟩ = some (.int .u8 (x.kind : Nat)) ∧ w'.cell? ⟨g, off + i * 3 + 1, none⟩ = some (.int .u64 (x.key : Nat)) ∧ w'.cell? ⟨g, off + i * 3 + 2, none⟩ = some (.int .u16 (x.n : Nat)))
        (first | with_reducible exact kk5 | with_reducible exact kk6 | go_keep)
        (first
        | (go_at_call 22; refine (KH.out _ (below_drewn (Below.refl _ _) _)).mono ?_; rintro e w5 ⟨rfl, hb5⟩; have hb5' := (below_drewn (Below.refl wr.heap.size wr) _).trans hb5; have kk5 := HSR.out w5 hb5')
        | (go_at_call 21; refine (KK.out _).mono ?_; rintro e w6 ⟨rfl, hb6⟩; have hb6' := hb5'.trans (hb6.mono hb5'.size); have kk6 := HSR.out w6 hb6'))
      have HI6 := Lib.hid (HI.out.low hb6')
      clear hb5 hb5' hb6 hb6' kk5 kk6 KH KK HSR HI x0 x1 x2 a0 a1 a2
      go_upto_if 49 with fail
      have HSR : Hid (∀ w' : World, (∀ k, k < w6.heap.size → w'.heap[k]? = w6.heap[k]?) → w'.cell? ⟨b7, 0, none⟩ = some (.int .i64 ((σ).c : Nat)) ∧ w'.cell? ⟨b7, 1, none⟩ = some (.slice F1 n1 d1) ∧ w'.cell? ⟨b7, 2, none⟩ = some (.slice F2 n2 d2) ∧ w'.cell? ⟨g, off + i * 3, none⟩ = some (.int .u8 (x.kind : Nat)) ∧ w'.cell? ⟨g, off + i * 3 + 1, none⟩ = some (.int .u64 (x.key : Nat)) ∧ w'.cell? ⟨g, off + i * 3 + 2, none⟩ = some (.int .u16 (x.n : Nat))) := Lib.hid (fun w' hh => by
        obtain ⟨⟨x0, x1, x2⟩, _⟩ := c3_at ((hh b7 (head_row HI6.out.box).lt).trans HI6.out.box)
        obtain ⟨a0, a1, a2⟩ := (HAG.out w6 HI6.out.ec.below).keep (hh g (Nat.lt_of_lt_of_le hg HI6.out.ec.below.size))
        exact ⟨x0, x1, x2, a0, a1, a2⟩)
      obtain ⟨x0, x1, x2, a0, a1, a2⟩ := HSR.out w6 (fun _ _ => rfl)
      go_cut [10, 11, 12, 13, 14] (fun s10 s11 s12 s13 s14 wx => ∃ (oo : Value) (Fp1 : Option Addr) (np1 dp1 : Nat) (Fp2 : Option Addr) (np2 dp2 : Nat), oo = s10 ∧ Hid (EM w wx xp b7 σ (σ.act x) Fp1 np1 dp1 Fp2 np2 dp2 oo (σ.actOut x)))
      case first =>
        rcases HC.out with ⟨rfl, e1, e2⟩ | ⟨rfl, e1, e2⟩ | ⟨rfl, e1, e2⟩ | ⟨rfl, e1, e2⟩
        · have HE2 := Lib.hid (And.intro e1 e2)
          clear e1 e2 HC
          have KX : Hid (∀ W, Below w6.heap.size w6 W → Calls Tryz.prog 23 #[.agg (l12C σ.c (.slice F1 n1 d1) (.slice F2 n2 d2)), .int .u64 (x.key : Nat)] W (P12 W (σ.act x))) := Lib.hid (fun W hb => by rw [HE2.out.1]; exact pol12Ok.touch (HI6.out.st.below hb) hOK.out x.key hWF.out.key)
          go_upto_region 12 with fail
          go_region_with (go_at_call 23; refine (KX.out _ (below_drewn (Below.refl _ _) _)).mono ?_; rintro e w8 ⟨q_1, q_2, rfl, hb8, hk8⟩; obtain ⟨Fh1, nh1, dh1, rfl⟩ := hk8.form1; obtain ⟨Fh2, nh2, dh2, rfl⟩ := hk8.form2; have hbA := (below_drewn (Below.refl w6.heap.size w6) _).trans hb8; have hI8 := HI6.out.low hbA; obtain ⟨⟨y0, y1, y2⟩, yf0, yf1, yf2⟩ := c3_at hI8.box)
          all_goals
            have HM := Lib.hid (em_store (Fp1 := Fh1) (np1 := nh1) (dp1 := dh1) (Fp2 := Fh2) (np2 := nh2) (dp2 := dh2) hI8.ec hI8.box hk8 hI8.ge (show KV w8 (.slice none 0 0) (σ.actOut x) by rw [HE2.out.2]; exact KV.nil w8))
            go_wp2_with fail
            go_meet
            exact ⟨_, _, _, _, _, _, _, rfl, HM⟩
        · have HE2 := Lib.hid (And.intro e1 e2)
          clear e1 e2 HC
          have KX : Hid (∀ W, Below w6.heap.size w6 W → Calls Tryz.prog 24 #[.agg (l12C σ.c (.slice F1 n1 d1) (.slice F2 n2 d2)), .int .u64 (x.key : Nat)] W (P12o W (σ.act x) (σ.actOut x))) := Lib.hid (fun W hb => by rw [HE2.out.1, HE2.out.2]; exact pol12Ok.adm (HI6.out.st.below hb) hOK.out x.key hWF.out.key)
          go_upto_region 14 with fail
          go_cut [11, 12] (fun s11 s12 wx => ∃ oo, oo = s12 ∧ Af12 w6 PT12 (σ.act x) (σ.actOut x) s11 oo wx)
          case first =>
            go_region_held3 (fun w' => w'.cell? ⟨b7, 0, none⟩ = some (.int .i64 ((σ).c : Nat)) ∧ w'.cell? ⟨b7, 1, none⟩ = some (.slice F1 n1 d1) ∧ w'.cell? ⟨b7, 2, none⟩ = some (.slice F2 n2 d2) ∧ w'.cell? ⟨g, off + i * 3, none⟩ = some (.int .u8 (x.kind : Nat)) ∧ w'.cell? ⟨g, off + i * 3 + 1, none⟩ = some (.int .u64 (x.key : Nat)) ∧ w'.cell? ⟨g, off + i * 3 + 2, none⟩ = some (.int .u16 (x.n : Nat)))
              (first | with_reducible exact kk0 | with_reducible exact kk9 | with_reducible exact KK1 _ (c3_set hP5 _ _ _).2 | go_keep)
              (first
              | (go_at_call 24; refine (KX.out _ (below_drewn (low_one w6 (.cells z12 PT12)) _)).mono ?_; rintro e w8 ⟨q_1, q_2, o8, he, hb8, hk8, ho8⟩; obtain ⟨Fa1, na1, da1, rfl⟩ := hk8.form1; obtain ⟨Fa2, na2, da2, rfl⟩ := hk8.form2; subst he; have hbA := (below_drewn (Below.refl (w6.alloc (.cells z12 PT12)).heap.size (w6.alloc (.cells z12 PT12))) _).trans hb8; have kk0 := HSR.out w8 (fun k hk => (hbA.block k (by simp; omega)).trans (Below.heap_alloc w6 _ k hk)); have hP5 := (hbA.block w6.heap.size (by simp)).trans (heap_alloc_new w6 _); have KK1 := fun (W : World) (ho : Only [w6.heap.size] w8 W) => HSR.out W (fun k hk => (ho.block k (by have := hbA.size; simp at this; omega) (by simp; omega)).trans ((hbA.block k (by simp; omega)).trans (Below.heap_alloc w6 _ k hk))); obtain ⟨⟨z0, z1, z2⟩, zf0, zf1, zf2⟩ := c3_at hP5)
              | (go_at_call 24; refine (KX.out _ (below_drewn (Below.refl _ _) _)).mono ?_; rintro e w8 ⟨q_1, q_2, o8, he, hb8, hk8, ho8⟩; obtain ⟨Fa1, na1, da1, rfl⟩ := hk8.form1; obtain ⟨Fa2, na2, da2, rfl⟩ := hk8.form2; subst he; have hbA := (below_drewn (Below.refl w6.heap.size w6) _).trans hb8; have kk0 := HSR.out w8 (fun k hk => hbA.block k hk)))
            all_goals
              go_wp2_with fail
              go_meet
              first
                | exact ⟨_, rfl, af12_a (zs := z12) (by decide) rfl ⟨_, _, _, rfl⟩ hbA hP5 hk8 ho8⟩
                | exact ⟨_, rfl, af12_b hbA hk8 ho8⟩
          case rest =>
            obtain ⟨o2, rfl, P2, Fd1, nd1, dd1, Fd2, nd2, dd2, rfl, hbc, hP2, hcell, hst, hou⟩ := hcut
            have hI := HI6.out.low hbc
            have hb7l := (head_row HI6.out.box).lt
            have hne : P2 ≠ b7 := by omega
            have hne' := Ne.symm hne
            obtain ⟨⟨j0, j1, j2⟩, _⟩ := c3_at hcell
            obtain ⟨⟨y0, y1, y2⟩, yf0, yf1, yf2⟩ := c3_at hI.box
            have HM := Lib.hid (em_store (Fp1 := Fd1) (np1 := nd1) (dp1 := dd1) (Fp2 := Fd2) (np2 := nd2) (dp2 := dd2) hI.ec hI.box hst hI.ge hou)
            clear hI hbc hst hou hcell HSR HI6 x0 x1 x2 a0 a1 a2 KX
            go_wp2_with fail
            go_meet
            exact ⟨_, _, _, _, _, _, _, rfl, HM⟩
        · have HE2 := Lib.hid (And.intro e1 e2)
          clear e1 e2 HC
          have KX : Hid (∀ W, Below w6.heap.size w6 W → Calls Tryz.prog 25 #[.agg (l12C σ.c (.slice F1 n1 d1) (.slice F2 n2 d2)), .int .u64 (x.key : Nat)] W (P12 W (σ.act x))) := Lib.hid (fun W hb => by rw [HE2.out.1]; exact pol12Ok.drop (HI6.out.st.below hb) hOK.out x.key hWF.out.key)
          go_upto_region 18 with fail
          go_region_with (go_at_call 25; refine (KX.out _ (below_drewn (Below.refl _ _) _)).mono ?_; rintro e w8 ⟨q_1, q_2, rfl, hb8, hk8⟩; obtain ⟨Fh1, nh1, dh1, rfl⟩ := hk8.form1; obtain ⟨Fh2, nh2, dh2, rfl⟩ := hk8.form2; have hbA := (below_drewn (Below.refl w6.heap.size w6) _).trans hb8; have hI8 := HI6.out.low hbA; obtain ⟨⟨y0, y1, y2⟩, yf0, yf1, yf2⟩ := c3_at hI8.box)
          all_goals
            have HM := Lib.hid (em_store (Fp1 := Fh1) (np1 := nh1) (dp1 := dh1) (Fp2 := Fh2) (np2 := nh2) (dp2 := dh2) hI8.ec hI8.box hk8 hI8.ge (show KV w8 (.slice none 0 0) (σ.actOut x) by rw [HE2.out.2]; exact KV.nil w8))
            go_wp2_with fail
            go_meet
            exact ⟨_, _, _, _, _, _, _, rfl, HM⟩
        · have HE2 := Lib.hid (And.intro e1 e2)
          have hz := sizeA_is x
          have KS : Hid (∀ W, Calls Tryz.prog 27 #[.agg (act8C x)] W fun e w' => e = .returned (.int .i64 (sizeA x : Nat)) ∧ Below W.heap.size W w') := Lib.hid (fun W => rsize_walk x hWF.out)
          have KX : Hid (∀ W, Below w6.heap.size w6 W → Calls Tryz.prog 26 #[.agg (l12C σ.c (.slice F1 n1 d1) (.slice F2 n2 d2)), .int .i64 (sizeA x : Nat)] W (P12o W (σ.act x) (σ.actOut x))) := Lib.hid (fun W hb => by rw [HE2.out.1, HE2.out.2]; exact pol12Ok.resize (HI6.out.st.below hb) hOK.out _ (by omega) (by omega))
          generalize sizeA x = z at KS KX hz
          clear e1 e2 HC hz
          go_upto_region 19 with fail
          go_cut [13, 14] (fun s13 s14 wx => ∃ oo, oo = s14 ∧ Af12 w6 PT12 (σ.act x) (σ.actOut x) s13 oo wx)
          case first =>
            go_region_held3 (fun w' => w'.cell? ⟨b7, 0, none⟩ = some (.int .i64 ((σ).c : Nat)) ∧ w'.cell? ⟨b7, 1, none⟩ = some (.slice F1 n1 d1) ∧ w'.cell? ⟨b7, 2, none⟩ = some (.slice F2 n2 d2) ∧ w'.cell? ⟨g, off + i * 3, none⟩ = some (.int .u8 (x.kind : Nat)) ∧ w'.cell? ⟨g, off + i * 3 + 1, none⟩ = some (.int .u64 (x.key : Nat)) ∧ w'.cell? ⟨g, off + i * 3 + 2, none⟩ = some (.int .u16 (x.n : Nat)))
              (first | with_reducible exact kk0 | with_reducible exact kk7 | with_reducible exact KK1 _ (c3_set hP5 _ _ _).2 | go_keep)
              (first
              | (go_at_call 27; refine (KS.out ((w6.alloc (.cells z12 PT12)).drewN _)).mono ?_; rintro e w7 ⟨rfl, hb7⟩; have hbSa := (below_drewn (Below.refl (w6.alloc (.cells z12 PT12)).heap.size (w6.alloc (.cells z12 PT12))) _).trans hb7; have kk7 := HSR.out w7 (fun k hk => (hbSa.block k (by simp; omega)).trans (Below.heap_alloc w6 _ k hk)))
              | (go_at_call 27; refine (KS.out (w6.drewN _)).mono ?_; rintro e w7 ⟨rfl, hb7⟩; have hbS := (below_drewn (Below.refl w6.heap.size w6) _).trans hb7; have kk7 := HSR.out w7 (fun k hk => hbS.block k hk))
              | (go_at_call 26; refine (KX.out _ ((low_one w6 (.cells z12 PT12)).trans (hbSa.mono (by simp)))).mono ?_; rintro e w8 ⟨q_1, q_2, o8, he, hb8, hk8, ho8⟩; obtain ⟨Fa1, na1, da1, rfl⟩ := hk8.form1; obtain ⟨Fa2, na2, da2, rfl⟩ := hk8.form2; subst he; have hbA := hbSa.trans (hb8.mono hbSa.size); have kk0 := HSR.out w8 (fun k hk => (hbA.block k (by simp; omega)).trans (Below.heap_alloc w6 _ k hk)); have hP5 := (hbA.block w6.heap.size (by simp)).trans (heap_alloc_new w6 _); have KK1 := fun (W : World) (ho : Only [w6.heap.size] w8 W) => HSR.out W (fun k hk => (ho.block k (by have := hbA.size; simp at this; omega) (by simp; omega)).trans ((hbA.block k (by simp; omega)).trans (Below.heap_alloc w6 _ k hk))); obtain ⟨⟨z0, z1, z2⟩, zf0, zf1, zf2⟩ := c3_at hP5)
              | (go_at_call 26; refine (KX.out (w7.alloc (.cells z12 PT12)) (hbS.trans ((low_one w7 (.cells z12 PT12)).mono hbS.size))).mono ?_; rintro e w8 ⟨q_1, q_2, o8, he, hb8, hk8, ho8⟩; obtain ⟨Fa1, na1, da1, rfl⟩ := hk8.form1; obtain ⟨Fa2, na2, da2, rfl⟩ := hk8.form2; subst he; have hs7 := hbS.size; have kk0 := HSR.out w8 (fun k hk => (hb8.block k (by simp; omega)).trans ((Below.heap_alloc w7 _ k (by omega)).trans (hbS.block k hk))); have hP5 := (hb8.block w7.heap.size (by simp)).trans (heap_alloc_new w7 _); have KK1 := fun (W : World) (ho : Only [w7.heap.size] w8 W) => HSR.out W (fun k hk => (ho.block k (by have := hb8.size; simp at this; omega) (by simp; omega)).trans ((hb8.block k (by simp; omega)).trans ((Below.heap_alloc w7 _ k (by omega)).trans (hbS.block k hk)))); obtain ⟨⟨z0, z1, z2⟩, zf0, zf1, zf2⟩ := c3_at hP5)
              | (go_at_call 26; refine (KX.out w7 hbS).mono ?_; rintro e w8 ⟨q_1, q_2, o8, he, hb8, hk8, ho8⟩; obtain ⟨Fa1, na1, da1, rfl⟩ := hk8.form1; obtain ⟨Fa2, na2, da2, rfl⟩ := hk8.form2; subst he; have hbA := hbS.trans (hb8.mono hbS.size); have kk0 := HSR.out w8 (fun k hk => hbA.block k hk)))
            all_goals
              go_wp2_with fail
              go_meet
              first
                | exact ⟨_, rfl, af12_a (zs := z12) (by decide) rfl ⟨_, _, _, rfl⟩ hbA hP5 hk8 ho8⟩
                | exact ⟨_, rfl, af12_low hbS (af12_a (zs := z12) (by decide) rfl ⟨_, _, _, rfl⟩ hb8 hP5 hk8 ho8)⟩
                | exact ⟨_, rfl, af12_b hbA hk8 ho8⟩
          case rest =>
            obtain ⟨o2, rfl, P2, Fd1, nd1, dd1, Fd2, nd2, dd2, rfl, hbc, hP2, hcell, hst, hou⟩ := hcut
            have hI := HI6.out.low hbc
            have hb7l := (head_row HI6.out.box).lt
            have hne : P2 ≠ b7 := by omega
            have hne' := Ne.symm hne
            obtain ⟨⟨j0, j1, j2⟩, _⟩ := c3_at hcell
            obtain ⟨⟨y0, y1, y2⟩, yf0, yf1, yf2⟩ := c3_at hI.box
            have HM := Lib.hid (em_store (Fp1 := Fd1) (np1 := nd1) (dp1 := dd1) (Fp2 := Fd2) (np2 := nd2) (dp2 := dd2) hI.ec hI.box hst hI.ge hou)
            clear hI hbc hst hou hcell HSR HI6 x0 x1 x2 a0 a1 a2 KX
            go_wp2_with fail
            go_meet
            exact ⟨_, _, _, _, _, _, _, rfl, HM⟩
      case rest =>
        obtain ⟨o10, Fp1, np1, dp1, Fp2, np2, dp2, rfl, HM⟩ := hcut
        obtain ⟨σ', hσ'⟩ : ∃ σ', σ.act x = σ' := ⟨_, rfl⟩
        have HD : Hid (∀ W, Below wc.heap.size wc W → Calls Tryz.prog 9 #[ptr xp, .agg (act8C x)] W fun e w' => ∃ o, e = .returned o ∧ Hid (ES w w' xp b7 PT12 σ' Fp1 np1 dp1 Fp2 np2 dp2 ∧ KV w' o (σ.actOut x) ∧ KV w' o10 (σ.actOut x))) := Lib.hid (fun W hb => by
          have h := HM.out.low hb
          refine (edo_walk h.ec hCC.out x hWF.out).mono ?_
          rintro e w' ⟨o, rfl, hp, ho⟩
          rw [hσ'] at hp h
          exact ⟨o, rfl, Lib.hid ⟨⟨hp.1, (hp.2 b7 (NP.cells h.box (by decide))).trans h.box, h.st.kn hp.2, h.ge⟩, ho, h.out.kn hp.2⟩⟩)
        rw [hσ'] at HM HNX HOK2
        have HSS : Hid (∀ w', ES w w' xp b7 PT12 σ' Fp1 np1 dp1 Fp2 np2 dp2 → w'.cell? ⟨b7, 0, none⟩ = some (.int .i64 ((σ').c : Nat)) ∧ w'.cell? ⟨b7, 1, none⟩ = some (.slice Fp1 np1 dp1) ∧ w'.cell? ⟨b7, 2, none⟩ = some (.slice Fp2 np2 dp2) ∧ w'.cell? ⟨g, off + i * 3, none⟩ = some (.int .u8 (x.kind : Nat)) ∧ w'.cell? ⟨g, off + i * 3 + 1, none⟩ = some (.int .u64 (x.key : Nat)) ∧ w'.cell? ⟨g, off + i * 3 + 2, none⟩ = some (.int .u16 (x.n : Nat))) := Lib.hid (fun w' h => by
          obtain ⟨x0, x1, x2⟩ := h.cells
          obtain ⟨a0, a1, a2⟩ := HAG.out w' h.ec.below
          exact ⟨x0, x1, x2, a0, a1, a2⟩)
        obtain ⟨⟨y0, y1, y2⟩, _⟩ := c3_at HM.out.box
        obtain ⟨v0, v1, v2⟩ := HAG.out wc HM.out.ec.below
        have hkl := HOK2.out.keysLen
        generalize σ.actOut x = out at HD HOUT
        clear hσ' HSR x0 x1 x2 a0 a1 a2 HI6 HM HC
        go_upto_region 22 with fail
        go_region_held3 (fun w' => w'.cell? ⟨b7, 0, none⟩ = some (.int .i64 ((σ').c : Nat)) ∧ w'.cell? ⟨b7, 1, none⟩ = some (.slice Fp1 np1 dp1) ∧ w'.cell? ⟨b7, 2, none⟩ = some (.slice Fp2 np2 dp2) ∧ w'.cell? ⟨g, off + i * 3, none⟩ = some (.int .u8 (x.kind : Nat)) ∧ w'.cell? ⟨g, off + i * 3 + 1, none⟩ = some (.int .u64 (x.key : Nat)) ∧ w'.cell? ⟨g, off + i * 3 + 2, none⟩ = some (.int .u16 (x.n : Nat)))
          (first | with_reducible exact kkd | with_reducible exact kke | with_reducible exact kkf | with_reducible exact kkg | with_reducible exact kkh | with_reducible exact kkx | with_reducible exact kki | go_keep)
          (first
          | (go_at_call 9; refine (HD.out _ (below_drewn (Below.refl _ _) _)).mono ?_; rintro e wd ⟨od, rfl, hN⟩; have kkd := HSS.out _ hN.out.1)
          | (go_at_call 11; refine (same_walk hkf2 hkg hkl).mono ?_; rintro e wh ⟨rfl, hbh⟩; rw [decide_eq_true rfl]; have hH := Lib.hid (hG.out.low hbh); have kkh := HSS.out _ hH.out)
          | (go_at_call 11; refine (same_walk hN.out.2.1 hN.out.2.2 HOUT.out).mono ?_; rintro e we ⟨rfl, hbe⟩; rw [decide_eq_true rfl]; have hE := Lib.hid (hN.out.1.low hbe); have kke := HSS.out _ hE.out)
          | (go_at_call 15; refine (ekeys_walk hE.out.ec).mono ?_; rintro e wf ⟨vf, rfl, hbf, hkf⟩; have hF := Lib.hid (hE.out.low hbf); have kkf := HSS.out _ hF.out)
          | (go_at_call 28; refine (pol12Ok.keys hF.out.st HOK2.out).mono ?_; rintro e wg ⟨vg, rfl, hbg, hkg⟩; have hG := Lib.hid (hF.out.low hbg); have kkg := HSS.out _ hG.out; have hkf2 := hkf.below hbg)
          | (go_at_call 18; refine (eghosts_walk hH.out.ec).mono ?_; rintro e wx ⟨rfl, hbx⟩; have hX := Lib.hid (hH.out.low hbx); have kkx := HSS.out _ hX.out)
          | (go_at_call 29; refine (pol12Ok.ghosts hX.out.st HOK2.out).mono ?_; rintro e wi ⟨rfl, hbi⟩; have hI := Lib.hid (hX.out.low hbi); have kki := HSS.out _ hI.out))
        have HN : Hid (ES w wi xp b7 PT12 (s0.runS (l.take (i + 1))) Fp1 np1 dp1 Fp2 np2 dp2) := Lib.hid (by rw [HNX.out]; exact hI.out)
        clear kkd kke kkf kkg kkh kkx kki hX hbx hN hE hF hG hH hI hbe hbf hbg hbh hbi hkf hkf2 hkg HD HSS y0 y1 y2 v0 v1 v2
        go_wp2
        go_roundg (na - i - 1)
        case measure => omega
        case rel => exact ⟨i + 1, _, _, _, _, _, _, by omega, by go_num, HN⟩
    · have hltI : ¬ (i : Int) < (na : Int) := by omega
      have HL := Lib.hid HI.out.ec.below
      clear HI
      go_wp2
      go_ret
      exact ⟨rfl, HL.out⟩
theorem lists18_walk (w : World) (c : Nat) (hc : c < 256) (ha : AV w v l) : Calls Tryz.prog 5 #[.int .u8 (c : Nat), v] w (RetB w true) := by
  by_cases hl : l.length ≤ 60
  · exact lists18_short w c hc ha hl
  · have HAW := Lib.hid (awake18_walk w)
    obtain ⟨A, cap, rfl, _⟩ := ha.mem
    obtain ⟨na, hna⟩ : ∃ na, l.length = na := ⟨_, rfl⟩
    rw [hna] at hl ⊢
    have hlI : (60 : Int) < (na : Int) := by omega
    clear ha hna
    go_enter Tryz.func5, Tryz.ntmps5
    go_wp2_with fail
    refine HAW.out.mono ?_
    rintro e w1 ⟨rfl, hb1⟩
    have HB := Lib.hid hb1
    clear hb1
    go_wp2
    go_ret
    exact ⟨rfl, HB.out⟩
end
end Go.Proofs.YtkhikpnlpcankaaGreat
