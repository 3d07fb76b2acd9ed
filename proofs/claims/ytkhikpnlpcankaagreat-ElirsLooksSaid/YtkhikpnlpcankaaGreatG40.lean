/- Words and walks: ElD ElK ElU ElSt. -/
import Derived.Test.YtkhikpnlpcankaaGreatG1
import Derived.Test.YtkhikpnlpcankaaGreatG28
import Derived.Test.YtkhikpnlpcankaaGreatG39
import Derived.Deep.RegionWith
import Derived.Deep.DeepCutAuto
namespace Go.Proofs.YtkhikpnlpcankaaGreat
open Go Go.RowKit Go.Deep
abbrev actT : TypeId := 35
section
variable {w0 w : World} {xp top : Nat} {s : L12}
set_option maxHeartbeats 8000000 in
set_option maxRecDepth 4000 in
theorem edo_walk (h : EC w0 w xp s top) (hct : s.c ≤ top) (x : Act8) (wf : x.Ok) : Calls Tryz.prog 9 #[ptr xp, .agg (act8C x)] w (EPo w0 w xp (s.act x) top (s.actOut x)) := by
  have hlow := low_one w (.cells (act8C x) actT)
  have HA := Lib.hid (heap_alloc_new w (.cells (act8C x) actT))
  have HB := Lib.hid hlow
  have hc := L12.act_cases s x
  have hz := sizeA_is x
  obtain ⟨q, hq⟩ : ∃ q, kindA x (decide (x.key ∈ s.keys)) = q := ⟨_, rfl⟩
  have KH : Hid (∀ W, Below w.heap.size w W → Calls Tryz.prog 16 #[ptr xp, .int .u64 (x.key : Nat)] W (RetB W (decide (x.key ∈ s.keys)))) := Lib.hid (fun W hb => ehas_walk (h.still hb) x.key wf.key)
  have KK : Hid (∀ W, Calls Tryz.prog 21 #[.agg (act8C x), .bool (decide (x.key ∈ s.keys))] W fun e w' => e = .returned (.int .i64 (q : Nat)) ∧ Below W.heap.size W w') := Lib.hid (fun W => by rw [← hq]; exact rkind_walk x wf _)
  have KS : Hid (∀ W, Calls Tryz.prog 27 #[.agg (act8C x)] W fun e w' => e = .returned (.int .i64 (sizeA x : Nat)) ∧ Below W.heap.size W w') := Lib.hid (fun W => rsize_walk x wf)
  have KT : Hid (∀ W, Below w.heap.size w W → Calls Tryz.prog 34 #[ptr xp, .int .u64 (x.key : Nat)] W fun e w' => e = .returned (.tuple #[]) ∧ EPo w0 w xp (s.touch x.key) top [] (.returned (.slice none 0 0)) w') := Lib.hid (fun W hb => (etouch_walk (h.still hb) x.key wf.key).mono (fun e w' ⟨he, g1, g2⟩ => ⟨he, _, rfl, ⟨g1, (Kn.below hb).trans g2⟩, KV.nil _⟩))
  have KD : Hid (∀ W, Below w.heap.size w W → Calls Tryz.prog 35 #[ptr xp, .int .u64 (x.key : Nat)] W fun e w' => e = .returned (.tuple #[]) ∧ EPo w0 w xp (s.drop x.key) top [] (.returned (.slice none 0 0)) w') := Lib.hid (fun W hb => (edrop_walk (h.still hb) x.key wf.key).mono (fun e w' ⟨he, g1, g2⟩ => ⟨he, _, rfl, ⟨g1, (Kn.below hb).trans g2⟩, KV.nil _⟩))
  have KA : Hid (∀ W, Below w.heap.size w W → Calls Tryz.prog 30 #[ptr xp, .int .u64 (x.key : Nat)] W fun e w' => ∃ o, e = .returned o ∧ EPo w0 w xp (s.adm x.key) top (s.admitOut x.key) (.returned o) w') := Lib.hid (fun W hb => (eadmit_walk (h.still hb) hct x.key wf.key).mono (fun e w' ⟨o, he, ⟨g1, g2⟩, g3⟩ => ⟨o, he, o, rfl, ⟨g1, (Kn.below hb).trans g2⟩, g3⟩))
  have KR : Hid (∀ W, Below w.heap.size w W → Calls Tryz.prog 36 #[ptr xp, .int .i64 (sizeA x : Nat)] W fun e w' => ∃ o, e = .returned o ∧ EPo w0 w xp (s.resize (sizeA x : Nat)) top (s.resizeOut (sizeA x : Nat)) (.returned o) w') := Lib.hid (fun W hb => (eresize_walk (h.still hb) _ (by omega) (by omega)).mono (fun e w' ⟨o, he, ⟨g1, g2⟩, g3⟩ => ⟨o, he, o, rfl, ⟨g1, (Kn.below hb).trans g2⟩, g3⟩))
  rw [hq] at hc
  generalize decide (x.key ∈ s.keys) = bb at KH KK hq
  generalize sizeA x = z at KS KR hz hc
  have hR : Hid (q = 1 ∧ EPo w0 w xp (s.act x) top (s.actOut x) = EPo w0 w xp (s.touch x.key) top [] ∨ q = 2 ∧ EPo w0 w xp (s.act x) top (s.actOut x) = EPo w0 w xp (s.adm x.key) top (s.admitOut x.key) ∨ q = 3 ∧ EPo w0 w xp (s.act x) top (s.actOut x) = EPo w0 w xp (s.drop x.key) top [] ∨ q = 4 ∧ EPo w0 w xp (s.act x) top (s.actOut x) = EPo w0 w xp (s.resize z) top (s.resizeOut z)) := Lib.hid (by
    rcases hc with ⟨h1, e1, e2⟩ | ⟨h1, e1, e2⟩ | ⟨h1, e1, e2⟩ | ⟨h1, e1, e2⟩
    · exact .inl ⟨h1, by rw [e1, e2]⟩
    · exact .inr (.inl ⟨h1, by rw [e1, e2]⟩)
    · exact .inr (.inr (.inl ⟨h1, by rw [e1, e2]⟩))
    · exact .inr (.inr (.inr ⟨h1, by rw [e1, e2]⟩)))
  generalize EPo w0 w xp (s.act x) top (s.actOut x) = R at hR ⊢
  generalize EPo w0 w xp (s.touch x.key) top [] = RT at hR KT
  generalize EPo w0 w xp (s.adm x.key) top (s.admitOut x.key) = RA at hR KA
  generalize EPo w0 w xp (s.drop x.key) top [] = RD at hR KD
  generalize EPo w0 w xp (s.resize z) top (s.resizeOut z) = RR at hR KR
  clear hq hc hlow h hct hz wf
  obtain ⟨⟨a0, a1, a2⟩, _⟩ := c3_at HA.out
  have hAt := (head_row HA.out).lt
  have KH2 : Hid (∀ W, Below (w.alloc (.cells (act8C x) actT)).heap.size (w.alloc (.cells (act8C x) actT)) W → Calls Tryz.prog 16 #[ptr xp, .int .u64 (x.key : Nat)] W fun e w' => e = .returned (.bool bb) ∧ Below (w.alloc (.cells (act8C x) actT)).heap.size (w.alloc (.cells (act8C x) actT)) w') := Lib.hid (fun W hb => (KH.out W (HB.out.trans (hb.mono HB.out.size))).mono (fun e w' ⟨he, hb'⟩ => ⟨he, hb.trans (hb'.mono hb.size)⟩))
  have KC : Hid (∀ W, Below (w.alloc (.cells (act8C x) actT)).heap.size (w.alloc (.cells (act8C x) actT)) W → W.cell? ⟨w.heap.size, 0, none⟩ = some (.int .u8 (x.kind : Nat)) ∧ W.cell? ⟨w.heap.size, 1, none⟩ = some (.int .u64 (x.key : Nat)) ∧ W.cell? ⟨w.heap.size, 2, none⟩ = some (.int .u16 (x.n : Nat))) := Lib.hid (fun W hb => (c3_at ((hb.block _ hAt).trans HA.out)).1)
  clear KH
  generalize hW0 : w.alloc (.cells (act8C x) actT) = W0 at HB HA KH2 KC hAt a0 a1 a2
  have HW0 := Lib.hid hW0
  clear hW0
  rcases hR.out with ⟨rfl, e1⟩ | ⟨rfl, e1⟩ | ⟨rfl, e1⟩ | ⟨rfl, e1⟩
  all_goals
    subst e1
    clear hR
    go_enter Tryz.func9, Tryz.ntmps9
    go_upto_region 1 with fail
    rw [HW0.out]
    clear HW0
    go_region_held3 (fun w' => w'.cell? ⟨w.heap.size, 0, none⟩ = some (.int .u8 (x.kind : Nat)) ∧ w'.cell? ⟨w.heap.size, 1, none⟩ = some (.int .u64 (x.key : Nat)) ∧ w'.cell? ⟨w.heap.size, 2, none⟩ = some (.int .u16 (x.n : Nat))) (first | with_reducible exact kk5 | with_reducible exact kk6 | go_keep)
      (first
        | (go_at_call 16; refine (KH2.out _ (below_drewn (Below.refl _ _) _)).mono ?_; rintro e w5 ⟨rfl, hb5⟩; have kk5 := KC.out w5 hb5)
        | (go_at_call 21; refine (KK.out _).mono ?_; rintro e w6 ⟨rfl, hb6⟩; have hb7 := hb5.trans (hb6.mono hb5.size); have kk6 := KC.out w6 hb7))
    have HB7 := Lib.hid (HB.out.trans (hb7.mono HB.out.size))
    obtain ⟨x0, x1, x2⟩ := kk6
    clear hb7 hb5 hb6 KH2 KK KC HB HA hAt a0 a1 a2
    go_wp2_with fail
    first
      | (refine (KT.out w6 HB7.out).mono ?_; rintro e w7 ⟨rfl, hR⟩; have HR := Lib.hid hR; clear hR KT KA KD KR KS; go_wp2; first | exact HR.out | (go_ret; exact HR.out))
      | (refine (KD.out w6 HB7.out).mono ?_; rintro e w7 ⟨rfl, hR⟩; have HR := Lib.hid hR; clear hR KT KA KD KR KS; go_wp2; first | exact HR.out | (go_ret; exact HR.out))
      | (refine (KA.out w6 HB7.out).mono ?_; rintro e w7 ⟨o, rfl, hR⟩; have HR := Lib.hid hR; clear hR KT KA KD KR KS; go_wp2; first | exact HR.out | (go_ret; exact HR.out))
      | (refine (KS.out w6).mono ?_; rintro e w7 ⟨rfl, hb⟩; have HB8 := Lib.hid (HB7.out.trans (hb.mono HB7.out.size)); clear hb HB7; go_wp2_with fail; refine (KR.out w7 HB8.out).mono ?_; rintro e w8 ⟨o, rfl, hR⟩; have HR := Lib.hid hR; clear hR KT KA KD KR KS; go_wp2; first | exact HR.out | (go_ret; exact HR.out))
end
section
variable {w : World} {u v u1 u2 v1 v2 : Value} {s : L12}
set_option maxHeartbeats 2000000 in
set_option maxRecDepth 4000 in
theorem esame_walk (h : St12 w s u1 u2) (h' : St12 w s v1 v2) (ok : s.Ok) : Calls Tryz.prog 12 #[.agg (l12C s.c u1 u2), .agg (l12C s.c v1 v2)] w (RetB w true) := by
  obtain ⟨Fa1, da1, rfl, -⟩ := h.g1.mem
  obtain ⟨Fa2, na2, da2, rfl⟩ := h.form2
  obtain ⟨Fb1, db1, rfl, -⟩ := h'.g1.mem
  obtain ⟨Fb2, nb2, db2, rfl⟩ := h'.form2
  have hsl := ok.sl
  have hql := ok.ql
  clear ok
  obtain ⟨c, xs, q⟩ := s
  simp only at *
  obtain ⟨n, hn⟩ : ∃ n, xs.length = n := ⟨_, rfl⟩
  have HN := Lib.hid hn
  have HQL := Lib.hid hql
  rw [hn] at h h' hsl ⊢
  have hb := low_two w (.cells (l12C c (.slice Fa1 n da1) (.slice Fa2 na2 da2)) PT12) (.cells (l12C c (.slice Fb1 n db1) (.slice Fb2 nb2 db2)) T12)
  obtain ⟨_, ht1, ht2, ht3⟩ := two_blocks (c := (l12C c (.slice Fa1 n da1) (.slice Fa2 na2 da2))) (t := PT12) (d := (l12C c (.slice Fb1 n db1) (.slice Fb2 nb2 db2))) (u := T12) (w := w) (Below.refl _ _)
  have HAL : Hid (∀ W, Below ((w.alloc (.cells (l12C c (.slice Fa1 n da1) (.slice Fa2 na2 da2)) PT12)).alloc (.cells (l12C c (.slice Fb1 n db1) (.slice Fb2 nb2 db2)) T12)).heap.size ((w.alloc (.cells (l12C c (.slice Fa1 n da1) (.slice Fa2 na2 da2)) PT12)).alloc (.cells (l12C c (.slice Fb1 n db1) (.slice Fb2 nb2 db2)) T12)) W → St12 W ⟨c, xs, q⟩ (.slice Fa1 n da1) (.slice Fa2 na2 da2) ∧ St12 W ⟨c, xs, q⟩ (.slice Fb1 n db1) (.slice Fb2 nb2 db2) ∧ (W.cell? ⟨w.heap.size, 0, none⟩ = some (.int .i64 (c : Nat)) ∧ W.cell? ⟨w.heap.size, 1, none⟩ = some (.slice Fa1 n da1) ∧ W.cell? ⟨w.heap.size, 2, none⟩ = some (.slice Fa2 na2 da2)) ∧ (W.cell? ⟨w.heap.size + 1, 0, none⟩ = some (.int .i64 (c : Nat)) ∧ W.cell? ⟨w.heap.size + 1, 1, none⟩ = some (.slice Fb1 n db1) ∧ W.cell? ⟨w.heap.size + 1, 2, none⟩ = some (.slice Fb2 nb2 db2)) ∧ Below w.heap.size w W) := Lib.hid (fun W hW => by
    have h2 := hb.trans (hW.mono hb.size)
    obtain ⟨x, _⟩ := c3_at ((hW.block _ (head_row ht2).lt).trans ht2)
    obtain ⟨z, _⟩ := c3_at ((hW.block _ (head_row ht3).lt).trans ht3)
    exact ⟨h.below h2, h'.below h2, x, z, h2⟩)
  have hnI : (n : Int) ≤ 2097152 := by omega
  have hne0 : ((n : Int) != (n : Int)) = false := by simp
  clear h h' hb ht1 ht2 ht3 hn hql
  go_enter Tryz.func12, Tryz.ntmps12
  go_wp2_with fail
  generalize World.alloc (World.alloc w _) _ = W0 at HAL ⊢
  obtain ⟨-, -, ⟨x0, x1, x2⟩, ⟨z0, z1, z2⟩, hbw⟩ := HAL.out W0 (Below.refl _ _)
  clear hbw
  go_wp2_with fail
  go_loopg [5] n (fun gg s5 wr => ∃ i : Nat, i + gg = n ∧ s5 = .int .i64 (i : Nat) ∧ Hid (Below W0.heap.size W0 wr))
  case atStart => exact ⟨0, by omega, rfl, Lib.hid (Below.refl _ _)⟩
  case round =>
    obtain ⟨i, hi, rfl, HB⟩ := hrel
    clear x0 x1 x2 z0 z1 z2
    obtain ⟨hs1, hs2, ⟨x0, x1, x2⟩, ⟨z0, z1, z2⟩, hbw⟩ := HAL.out wr HB.out
    by_cases hlt : i < n
    · have hltI : (i : Int) < (n : Int) := by omega
      obtain ⟨G, d, e, _, _, h3⟩ := hs1.g1.mem
      injection e with e1 e2 e3
      subst e1 e3
      obtain ⟨g, off, hF, hg, q0, q1⟩ := h3 i (by have := HN.out; show i < xs.length; omega)
      subst hF
      obtain ⟨G, d, e, _, _, h3'⟩ := hs2.g1.mem
      injection e with e1 e2' e3
      subst e1 e3
      obtain ⟨g', off', hF, hg', q0', q1'⟩ := h3' i (by have := HN.out; show i < xs.length; omega)
      subst hF
      obtain ⟨kx, hkx⟩ : ∃ k, xs[i]'(by have := HN.out; omega) = k := ⟨_, rfl⟩
      dsimp only at q0 q1 q0' q1'
      rw [hkx] at q0 q1 q0' q1'
      obtain ⟨kx, fx⟩ := kx
      dsimp only at q0 q1 q0' q1'
      have hk0 : ((kx : Int) != (kx : Int)) = false := by simp
      have hf0 : ((fx : Int) != (fx : Int)) = false := by simp
      have HBN := fun m : Nat => Lib.hid (below_drewn HB.out m)
      clear h3 h3' hkx e2 e2' hs1 hs2 hbw
      go_wp2_with fail
      go_quiet (fail)
      go_wp2
      go_roundg (gk - 1)
      case measure => omega
      case rel => exact ⟨i + 1, by omega, by go_num, HBN _⟩
    · have hltI : ¬ (i : Int) < (n : Int) := by omega
      have KSM := Lib.hid (same_walk (ks := q) (js := q) hs1.g2 hs2.g2 (by have := HQL.out; omega))
      rw [decide_eq_true rfl] at KSM
      have HBW := Lib.hid hbw
      clear hs1 hs2 hbw
      go_wp2_with fail
      refine KSM.out.mono ?_
      rintro e w3 ⟨rfl, hb⟩
      have HF := Lib.hid (HBW.out.trans (hb.mono HBW.out.size))
      clear hb
      go_wp2
      go_ret
      exact ⟨rfl, HF.out⟩
end
theorem awake_is : L12.adm ⟨2, [], []⟩ 1 = ⟨2, [⟨1, 2⟩], []⟩ ∧ L12.adm ⟨2, [⟨1, 2⟩], []⟩ 2 = ⟨2, [⟨2, 1⟩, ⟨1, 2⟩], [2]⟩ ∧ L12.adm ⟨2, [⟨2, 1⟩, ⟨1, 2⟩], [2]⟩ 3 = ⟨2, [⟨3, 1⟩, ⟨2, 0⟩, ⟨1, 2⟩], [3]⟩ ∧ L12.adm ⟨2, [⟨3, 1⟩, ⟨2, 0⟩, ⟨1, 2⟩], [3]⟩ 2 = ⟨2, [⟨2, 2⟩], [1]⟩ ∧ L12.admitOut ⟨2, [⟨2, 1⟩, ⟨1, 2⟩], [2]⟩ 3 = [2] ∧ L12.admitOut ⟨2, [⟨3, 1⟩, ⟨2, 0⟩, ⟨1, 2⟩], [3]⟩ 2 = [3] := ⟨rfl, rfl, rfl, rfl, rfl, rfl⟩
set_option maxHeartbeats 4000000 in
set_option maxRecDepth 4000 in
theorem awake18_walk (w : World) : Calls Tryz.prog 6 #[] w (RetB w true) := by
  have HN : Hid (Calls Tryz.prog 7 #[.int .i64 2] w fun e w' => ∃ xp, e = .returned (ptr xp) ∧ EC w w' xp ⟨2, [], []⟩ 2) := Lib.hid ((enew_walk (Below.refl _ _) 2 (by decide) (by decide)).mono (fun e w' ⟨xp, he, h, _⟩ => ⟨xp, he, h.more (by decide) (by decide)⟩))
  obtain ⟨a1, a2, a3, a4, a5, a6⟩ := awake_is
  go_enter Tryz.func6, Tryz.ntmps6
  go_wp2_with fail
  refine HN.out.mono ?_
  rintro e w1 ⟨xp, rfl, h⟩
  have H1 := Lib.hid h
  clear h HN
  go_wp2_with fail
  refine (eadmit_walk H1.out (by decide) 1 (by decide)).mono ?_
  rintro e w2 ⟨o, rfl, h, ho⟩
  have h' := h.1
  rw [a1] at h'
  have H2 := Lib.hid h'
  clear h ho h' H1
  go_wp2_with fail
  refine (eadmit_walk H2.out (by decide) 2 (by decide)).mono ?_
  rintro e w3 ⟨o, rfl, h, ho⟩
  have h' := h.1
  rw [a2] at h'
  have H3 := Lib.hid h'
  clear h ho h' H2
  go_wp2_with fail
  refine (eadmit_walk H3.out (by decide) 3 (by decide)).mono ?_
  rintro e w4 ⟨o, rfl, h, ho⟩
  have h' := h.1
  rw [a3] at h'
  rw [a5] at ho
  obtain ⟨Fb, db, rfl, _⟩ := ho.mem
  have H4 := Lib.hid h'
  have HO4 := Lib.hid ho
  clear h ho h' H3
  have HB := Lib.hid (eadmit_walk H4.out (by decide) 2 (by decide))
  go_wp2_with fail
  refine HB.out.mono ?_
  rintro e w5 ⟨o, rfl, h, ho⟩
  have h' := h.1
  rw [a4] at h'
  rw [a6] at ho
  obtain ⟨Fc, dc, rfl, _⟩ := ho.mem
  have H5 := Lib.hid h'
  have HO5 := Lib.hid (And.intro (HO4.out.kn h.2) ho)
  clear h ho h' H4 HB HO4 a1 a2 a3 a4 a5 a6
  go_wp2_with fail
  have HL5 := Lib.hid (KV.one w5 2)
  have hl5 := low_one w5 (.cells #[.int .u64 2] 32)
  have HO6 := Lib.hid (And.intro (HO5.out.1.below hl5) (HO5.out.2.below hl5))
  have H6 := Lib.hid (H5.out.still hl5)
  clear hl5 HO5 H5
  refine (same_walk (js := [2]) HO6.out.1 HL5.out (by simp)).mono ?_
  rintro e w6 ⟨rfl, hb⟩
  rw [decide_eq_true rfl]
  have H7 := Lib.hid (H6.out.still hb)
  have HO7 := Lib.hid (HO6.out.2.below hb)
  clear hb HO6 H6 HL5
  go_wp2_with fail
  have HL7 := Lib.hid (KV.one w6 3)
  have hl7 := low_one w6 (.cells #[.int .u64 3] 32)
  have HO8 := Lib.hid (HO7.out.below hl7)
  have H8 := Lib.hid (H7.out.still hl7)
  clear hl7 HO7 H7
  refine (same_walk (js := [3]) HO8.out HL7.out (by simp)).mono ?_
  rintro e w8 ⟨rfl, hb⟩
  rw [decide_eq_true rfl]
  have H9 := Lib.hid (H8.out.still hb)
  clear hb HO8 H8 HL7
  go_wp2_with fail
  refine (ehas_walk H9.out 1 (by decide)).mono ?_
  rintro e w9 ⟨rfl, hb⟩
  rw [decide_eq_true (show 1 ∈ L12.keys ⟨2, [⟨2, 2⟩], [1]⟩ by decide)]
  have HA := Lib.hid (H9.out.still hb)
  clear hb H9
  go_wp2_with fail
  refine (ehas_walk HA.out 3 (by decide)).mono ?_
  rintro e wa ⟨rfl, hb⟩
  rw [decide_eq_false (show 3 ∉ L12.keys ⟨2, [⟨2, 2⟩], [1]⟩ by decide)]
  have HB := Lib.hid (HA.out.still hb)
  clear hb HA
  go_wp2_with fail
  refine (ekeys_walk HB.out).mono ?_
  rintro e we ⟨v, rfl, hb, hv⟩
  have hv' : KV we v [2, 1] := hv
  obtain ⟨F4, d4, rfl, _⟩ := hv'.mem
  have HF := Lib.hid (HB.out.still hb)
  have HV := Lib.hid hv'
  clear hb hv hv' HB
  go_wp2_with fail
  have HLe := Lib.hid (KV.lit (w := we) [2, 1] (by decide))
  have hle := low_one we (.cells #[.int .u64 2, .int .u64 1] 32)
  have HVe := Lib.hid (HV.out.below hle)
  have HFe := Lib.hid (HF.out.still hle)
  clear hle HV HF
  refine (same_walk (js := [2, 1]) HVe.out HLe.out (by simp)).mono ?_
  rintro e wf ⟨rfl, hb⟩
  rw [decide_eq_true rfl]
  have HG := Lib.hid (HFe.out.still hb)
  clear hb HVe HFe HLe
  go_wp2_with fail
  refine (estate_walk HG.out).mono ?_
  rintro e wg ⟨u1, u2, rfl, hb, hs⟩
  have HH := Lib.hid (HG.out.still hb)
  obtain ⟨Fs, ds, hu1, _⟩ := hs.g1.mem
  obtain rfl : u1 = .slice Fs 1 ds := hu1
  have hfld : ∀ w : World, (Instr.field 42 (.agg (l12C 2 (.slice Fs 1 ds) u2)) 1).run Tryz.prog w = .ok (.slice Fs 1 ds) w := fun _ => by kernel_rfl
  clear hb HG hs
  go_wp2_with fail
  refine (eghosts_walk HH.out).mono ?_
  rintro e wb ⟨he, hb⟩
  have he' : e = .returned (.int .i64 0) := he
  subst he'
  have HE := Lib.hid (HH.out.still hb).below
  clear hb HH he
  go_wp2
  go_ret
  exact ⟨rfl, HE.out⟩
theorem L12.act_c {s : L12} (h : s.c ≤ 14) (x : Act8) : (s.act x).c ≤ 14 := by
  have hz := sizeA_is x
  rcases L12.act_cases s x with ⟨_, e, _⟩ | ⟨_, e, _⟩ | ⟨_, e, _⟩ | ⟨_, e, _⟩
  · rw [e, L12.touch_c]; exact h
  · rw [e, L12.adm_c]; exact h
  · rw [e, L12.drop_c]; exact h
  · rw [e, L12.resize_c]
    unfold capI
    split
    · omega
    · split
      · omega
      · omega
theorem L12.runS_c {s : L12} : ∀ (l : List Act8), s.c ≤ 14 → (s.runS l).c ≤ 14
  | [], h => h
  | x :: l, h => L12.runS_c l (L12.act_c h x)
theorem L12.new_c (m : Nat) (h1 : 1 ≤ m) (h : m ≤ 12) : (L12.new (m : Int)).c = m := by
  rw [L12.new_c0]
  unfold capI
  rw [if_neg (by omega), if_neg (by omega)]
  omega
structure ES (w wr : World) (xp b : Nat) (T : TypeId) (s : L12) (F1 : Option Addr) (n1 d1 : Nat) (F2 : Option Addr) (n2 d2 : Nat) : Prop where
  ec : EC w wr xp s 14
  box : wr.heap[b]? = some (.cells (l12C s.c (.slice F1 n1 d1) (.slice F2 n2 d2)) T (0, 0))
  st : St12 wr s (.slice F1 n1 d1) (.slice F2 n2 d2)
  ge : w.heap.size ≤ b
theorem St12.kn {w w' : World} {s : L12} {u1 u2 : Value} (h : St12 w s u1 u2) (hk : Kn w w') : St12 w' s u1 u2 := ⟨h.g1.kn hk, h.g2.kn hk⟩
section
variable {w wr w2 : World} {xp b : Nat} {T : TypeId} {s : L12} {F1 : Option Addr} {n1 d1 : Nat} {F2 : Option Addr} {n2 d2 : Nat}
theorem ES.low (h : ES w wr xp b T s F1 n1 d1 F2 n2 d2) (hb : Below wr.heap.size wr w2) : ES w w2 xp b T s F1 n1 d1 F2 n2 d2 :=
  ⟨h.ec.still hb, (hb.block b (head_row h.box).lt).trans h.box, h.st.below hb, h.ge⟩
theorem ES.bx (h : ES w wr xp b T s F1 n1 d1 F2 n2 d2) (hT : T ≠ 32) : ∀ g ∈ [b], Bx wr g := fun g hg => by
  simp only [List.mem_singleton] at hg
  subst hg
  exact ⟨_, _, h.box, rfl, hT⟩
theorem ES.cells (h : ES w wr xp b T s F1 n1 d1 F2 n2 d2) : wr.cell? ⟨b, 0, none⟩ = some (.int .i64 ((s).c : Nat)) ∧ wr.cell? ⟨b, 1, none⟩ = some (.slice F1 n1 d1) ∧ wr.cell? ⟨b, 2, none⟩ = some (.slice F2 n2 d2) := (c3_at h.box).1
end
theorem es_store {w wc : World} {xp b : Nat} {T : TypeId} {s s' : L12} {F1 : Option Addr} {n1 d1 : Nat} {F2 : Option Addr} {n2 d2 : Nat} {Fp1 : Option Addr} {np1 dp1 : Nat} {Fp2 : Option Addr} {np2 dp2 : Nat} (hec : EC w wc xp s' 14) (hbox : wc.heap[b]? = some (.cells (l12C s.c (.slice F1 n1 d1) (.slice F2 n2 d2)) T (0, 0))) (hst : St12 wc s' (.slice Fp1 np1 dp1) (.slice Fp2 np2 dp2)) (hge : w.heap.size ≤ b) (hT : T ≠ 32) (hTo : okT T = true) :
    ES w (((wc.setCell ⟨b, 0, none⟩ (.int .i64 ((s').c : Nat))).setCell ⟨b, 1, none⟩ (.slice Fp1 np1 dp1)).setCell ⟨b, 2, none⟩ (.slice Fp2 np2 dp2)) xp b T s' Fp1 np1 dp1 Fp2 np2 dp2 ∧ Only [b] wc (((wc.setCell ⟨b, 0, none⟩ (.int .i64 ((s').c : Nat))).setCell ⟨b, 1, none⟩ (.slice Fp1 np1 dp1)).setCell ⟨b, 2, none⟩ (.slice Fp2 np2 dp2)) := by
  obtain ⟨h1, h2⟩ := c3_set hbox (.int .i64 ((s').c : Nat)) (.slice Fp1 np1 dp1) (.slice Fp2 np2 dp2)
  refine ⟨⟨hec.only h2 (fun g hg => ?_), h1, ⟨hst.g1.only h2 (fun g hg => ?_), hst.g2.only h2 (fun g hg => ?_)⟩, hge⟩, h2⟩
  · simp only [List.mem_singleton] at hg
    subst hg
    exact ⟨hge, (NP.cells hbox hTo).not_sty⟩
  · simp only [List.mem_singleton] at hg
    subst hg
    exact ⟨_, _, hbox, rfl, hT⟩
  · simp only [List.mem_singleton] at hg
    subst hg
    exact ⟨_, _, hbox, rfl, hT⟩
section
variable {v : Value} {l : List Act8}
set_option maxHeartbeats 8000000 in
set_option maxRecDepth 4000 in
theorem steps18_short (w : World) (c : Nat) (hc : c < 256) (ha : AV w v l) (hl : l.length ≤ 60) : Calls Tryz.prog 3 #[.int .u8 (c : Nat), v] w (RetB w true) := by
  have HA := Lib.hid ha
  have HAW := Lib.hid (awake18_walk w)
  obtain ⟨A, cap, rfl, _⟩ := ha.mem
  obtain ⟨m0, hm0⟩ : ∃ m : Nat, 1 + c % 12 = m := ⟨_, rfl⟩
  have hmI : (1 : Int) + (c : Int) % 12 = (m0 : Int) := by omega
  have hc0 : (L12.new (m0 : Int)).c ≤ 14 := by rw [L12.new_c m0 (by omega) (by omega)]; omega
  have HNW : Hid (∀ W, Below w.heap.size w W → Calls Tryz.prog 7 #[.int .i64 (m0 : Int)] W fun e w' => ∃ xp, e = .returned (ptr xp) ∧ EC w w' xp (L12.new (m0 : Int)) 14) := Lib.hid (fun W hb => (enew_walk hb (m0 : Int) (by omega) (by omega)).mono (fun e w' ⟨xp, he, h, _⟩ => ⟨xp, he, h.more (by decide) (by decide)⟩))
  have HNR := Lib.hid (fun W => r12new_walk (w := W) (m0 : Int) (by omega) (by omega))
  have hok0 : (L12.new (m0 : Int)).Ok := L12.ok_new _
  obtain ⟨s0, hs0⟩ : ∃ s0, L12.new (m0 : Int) = s0 := ⟨_, rfl⟩
  rw [hs0] at HNW HNR hok0 hc0
  have HOK0 := Lib.hid hok0
  obtain ⟨na, hna⟩ : ∃ na, l.length = na := ⟨_, rfl⟩
  rw [hna] at hl HA ⊢
  have HNA := Lib.hid hna
  have HAX : Hid (∀ W, Below w.heap.size w W → ∀ i (hi : i < l.length), l[i].Ok ∧ ∃ g off, A = some ⟨g, off, none⟩ ∧ g < w.heap.size ∧ ActAt W g (off + i * 3) l[i]) := Lib.hid (fun W hb i hi => by
    obtain ⟨A', c', e, h1⟩ := HA.out.mem
    injection e with e1 _ _
    subst e1
    obtain ⟨ok, g, off, e2, hg, hcc⟩ := h1 i hi
    exact ⟨ok, g, off, e2, hg, hcc.keep (hb.block g hg)⟩)
  have HOKR : Hid (∀ i, (s0.runS (l.take i)).Ok ∧ (s0.runS (l.take i)).c ≤ 14) := Lib.hid (fun i => ⟨HOK0.out.runS _ (fun x hx => by
    obtain ⟨j, hj, rfl⟩ := List.getElem_of_mem (List.mem_of_mem_take hx)
    exact (HAX.out w (Below.refl _ _) j hj).1), L12.runS_c _ hc0⟩)
  clear ha hok0 hs0 hna HA hm0 hc0
  have q1 : (0 : Int) ≤ (c : Int) := by omega
  have q2 : (c : Int) ≤ 255 := by omega
  have hlI : ¬ (60 : Int) < (na : Int) := by omega
  go_enter Tryz.func3, Tryz.ntmps3
  go_wp2_with fail
  refine HAW.out.mono ?_
  rintro e w1 ⟨rfl, hb1⟩
  have HL1 := Lib.hid hb1
  clear hb1 HAW
  go_wp2_with fail
  try rw [hmI]
  refine (HNW.out w1 HL1.out).mono ?_
  rintro e w2 ⟨xp, rfl, h2⟩
  have H2 := Lib.hid h2
  clear h2 HNW HL1
  go_wp2_with fail
  try rw [hmI]
  refine (HNR.out w2).mono ?_
  rintro e w4 ⟨q_1, q_2, rfl, hb4, hk4⟩
  obtain ⟨Fb1, nb1, db1, rfl⟩ := hk4.form1; obtain ⟨Fb2, nb2, db2, rfl⟩ := hk4.form2
  have HI0 : Hid (ES w (w4.alloc (.cells (l12C s0.c (.slice Fb1 nb1 db1) (.slice Fb2 nb2 db2)) T12)) xp w4.heap.size T12 s0 Fb1 nb1 db1 Fb2 nb2 db2) := Lib.hid ⟨(H2.out.still hb4).still (low_one w4 _), heap_alloc_new w4 _, hk4.below (low_one w4 _), by have := H2.out.below.size; have := hb4.size; omega⟩
  clear hb4 hk4 HNR H2
  go_wp2_with fail
  generalize (w4.alloc (.cells (l12C s0.c (.slice Fb1 nb1 db1) (.slice Fb2 nb2 db2)) T12)) = wI at HI0 ⊢
  generalize w4.heap.size = b7 at HI0 ⊢
  go_loopg [8, 9, 10, 11] na (fun gg s8 s9 s10 s11 wr => ∃ (i : Nat) (F1 : Option Addr) (n1 d1 : Nat) (F2 : Option Addr) (n2 d2 : Nat), i + gg = na ∧ s8 = .int .i64 (i : Nat) ∧ Hid (ES w wr xp b7 T12 (s0.runS (l.take i)) F1 n1 d1 F2 n2 d2))
  case atStart => exact ⟨0, _, _, _, _, _, _, by omega, rfl, HI0⟩
  case round =>
    obtain ⟨i, F1, n1, d1, F2, n2, d2, hi, rfl, HI⟩ := hrel
    by_cases hlt : i < na
    · have hltI : (i : Int) < (na : Int) := by omega
      have hil : i < l.length := by rw [HNA.out]; exact hlt
      obtain ⟨wf, g, off, hA, hg, hac⟩ := HAX.out wr HI.out.ec.below i hil
      obtain ⟨hok, hcc⟩ := HOKR.out i
      have hok2 := (HOKR.out (i + 1)).1
      have HNX := Lib.hid (s0.runS_next hil)
      obtain ⟨σ, hσ⟩ : ∃ σ, s0.runS (l.take i) = σ := ⟨_, rfl⟩
      obtain ⟨x, hx⟩ : ∃ x, l[i] = x := ⟨_, rfl⟩
      rw [hσ] at HI hok HNX hcc
      rw [hx] at wf hac HNX
      rw [HNX.out] at hok2
      have HOK2 := Lib.hid hok2
      have HOUT := Lib.hid (hok.actOutLen wf)
      clear hσ hx hok2
      subst hA
      have hgw : ∀ W, Below w.heap.size w W → g < W.heap.size := fun W hb => Nat.lt_of_lt_of_le hg hb.size
      have HAG : Hid (∀ W, Below w.heap.size w W → ActAt W g (off + i * 3) x) := Lib.hid (fun W hb => hac.keep ((hb.block g hg).trans (HI.out.ec.below.block g hg).symm))
      have HDO := Lib.hid (edo_walk HI.out.ec hcc x wf)
      have hWF := Lib.hid wf
      have hOK := Lib.hid hok
      obtain ⟨a0, a1, a2⟩ := hac
      clear HAX HOKR wf hok
      go_wp2_with fail
      refine HDO.out.mono ?_
      rintro e w5 ⟨o5, rfl, hp, ho5⟩
      have hbox5 := (hp.2 b7 (NP.cells HI.out.box (by decide))).trans HI.out.box
      have hst5 := HI.out.st.kn hp.2
      have hg5 := hgw w5 hp.1.below
      have hac5 := HAG.out w5 hp.1.below
      have hb5l := (head_row hbox5).lt
      have HEC5 := Lib.hid hp.1
      have HO5 := Lib.hid ho5
      have HBX5 := Lib.hid hbox5
      have HGE := Lib.hid HI.out.ge
      have HDR : Hid (∀ W, Below w5.heap.size w5 W → Calls Tryz.prog 10 #[.agg (l12C σ.c (.slice F1 n1 d1) (.slice F2 n2 d2)), .agg (act8C x)] W (P12o W (σ.act x) (σ.actOut x))) := Lib.hid (fun W hb => r12do_walk (hst5.below hb) hOK.out x hWF.out)
      have HSR : Hid (∀ w' : World, (∀ k, k < w5.heap.size → w'.heap[k]? = w5.heap[k]?) → w'.cell? ⟨b7, 0, none⟩ = some (.int .i64 ((σ).c : Nat)) ∧ w'.cell? ⟨b7, 1, none⟩ = some (.slice F1 n1 d1) ∧ w'.cell? ⟨b7, 2, none⟩ = some (.slice F2 n2 d2) ∧ w'.cell? ⟨g, off + i * 3, none⟩ = some (.int .u8 (x.kind : Nat)) ∧ w'.cell? ⟨g, off + i * 3 + 1, none⟩ = some (.int .u64 (x.key : Nat)) ∧ w'.cell? ⟨g, off + i * 3 + 2, none⟩ = some (.int .u16 (x.n : Nat))) := Lib.hid (fun w' hh => by
        obtain ⟨⟨x0, x1, x2⟩, _⟩ := c3_at ((hh b7 hb5l).trans hbox5)
        obtain ⟨a0, a1, a2⟩ := hac5.keep (hh g hg5)
        exact ⟨x0, x1, x2, a0, a1, a2⟩)
      clear a0 a1 a2 hp ho5 hbox5 hst5 hac5 HDO HI HAG hgw
      obtain ⟨x0, x1, x2, a0, a1, a2⟩ := HSR.out w5 (fun _ _ => rfl)
      obtain ⟨w5c, hw5⟩ : ∃ y, y = w5 := ⟨_, rfl⟩
      subst hw5
      go_upto_region 10 with fail
      go_cut [10, 11] (fun s10 s11 wx => ∃ oo, oo = s11 ∧ Af12 w5c T12 (σ.act x) (σ.actOut x) s10 oo wx)
      case first =>
        go_region_held3 (fun w' => w'.cell? ⟨b7, 0, none⟩ = some (.int .i64 ((σ).c : Nat)) ∧ w'.cell? ⟨b7, 1, none⟩ = some (.slice F1 n1 d1) ∧ w'.cell? ⟨b7, 2, none⟩ = some (.slice F2 n2 d2) ∧ w'.cell? ⟨g, off + i * 3, none⟩ = some (.int .u8 (x.kind : Nat)) ∧ w'.cell? ⟨g, off + i * 3 + 1, none⟩ = some (.int .u64 (x.key : Nat)) ∧ w'.cell? ⟨g, off + i * 3 + 2, none⟩ = some (.int .u16 (x.n : Nat)))
          (first | with_reducible exact kk0 | with_reducible exact KK1 _ (c3_set hP5 _ _ _).2 | go_keep)
          (first
          | (go_at_call 10; refine (HDR.out _ (below_drewn (low_one w5c (.cells z12 T12)) _)).mono ?_; rintro e w6 ⟨q_1, q_2, o6, he, hb6, hk6, ho6⟩; obtain ⟨Fa1, na1, da1, rfl⟩ := hk6.form1; obtain ⟨Fa2, na2, da2, rfl⟩ := hk6.form2; subst he; have hbA := (below_drewn (Below.refl (w5c.alloc (.cells z12 T12)).heap.size (w5c.alloc (.cells z12 T12))) _).trans hb6; have kk0 := HSR.out w6 (fun k hk => (hbA.block k (by simp; omega)).trans (Below.heap_alloc w5c _ k hk)); have hP5 := (hbA.block w5c.heap.size (by simp)).trans (heap_alloc_new w5c _); have KK1 := fun (W : World) (ho : Only [w5c.heap.size] w6 W) => HSR.out W (fun k hk => (ho.block k (by have := hbA.size; simp at this; omega) (by simp; omega)).trans ((hbA.block k (by simp; omega)).trans (Below.heap_alloc w5c _ k hk))); obtain ⟨⟨z0, z1, z2⟩, zf0, zf1, zf2⟩ := c3_at hP5)
          | (go_at_call 10; refine (HDR.out _ (below_drewn (Below.refl _ _) _)).mono ?_; rintro e w6 ⟨q_1, q_2, o6, he, hb6, hk6, ho6⟩; obtain ⟨Fa1, na1, da1, rfl⟩ := hk6.form1; obtain ⟨Fa2, na2, da2, rfl⟩ := hk6.form2; subst he; have hbA := (below_drewn (Below.refl w5c.heap.size w5c) _).trans hb6; have kk0 := HSR.out w6 (fun k hk => hbA.block k hk)))
        all_goals
          go_wp2_with fail
          go_meet
          first
            | exact ⟨_, rfl, af12_b hbA hk6 ho6⟩
            | exact ⟨_, rfl, af12_a (zs := z12) (by decide) rfl ⟨_, _, _, rfl⟩ hbA hP5 hk6 ho6⟩
      case rest =>
        obtain ⟨o2, rfl, P2, Fd1, nd1, dd1, Fd2, nd2, dd2, rfl, hbc, hP2, hcell, hst, hou⟩ := hcut
        have hbx := (hbc.block b7 hb5l).trans HBX5.out
        have hne : P2 ≠ b7 := by omega
        have hne' := Ne.symm hne
        obtain ⟨⟨j0, j1, j2⟩, _⟩ := c3_at hcell
        obtain ⟨⟨y0, y1, y2⟩, yf0, yf1, yf2⟩ := c3_at hbx
        have HN : Hid (∀ W, W = (((wc.setCell ⟨b7, 0, none⟩ (.int .i64 ((σ.act x).c : Nat))).setCell ⟨b7, 1, none⟩ (.slice Fd1 nd1 dd1)).setCell ⟨b7, 2, none⟩ (.slice Fd2 nd2 dd2)) → ES w W xp b7 T12 (σ.act x) Fd1 nd1 dd1 Fd2 nd2 dd2 ∧ KV W o5 (σ.actOut x) ∧ KV W o2 (σ.actOut x)) := Lib.hid (by
          rintro W rfl
          obtain ⟨h1, h2⟩ := es_store (Fp1 := Fd1) (np1 := nd1) (dp1 := dd1) (Fp2 := Fd2) (np2 := nd2) (dp2 := dd2) (HEC5.out.still hbc) hbx hst HGE.out (by decide) (by decide)
          have hS : ∀ g ∈ [b7], Bx wc g := fun g hg => by
            simp only [List.mem_singleton] at hg
            subst hg
            exact ⟨_, _, hbx, rfl, by decide⟩
          exact ⟨h1, (HO5.out.below hbc).only h2 hS, hou.only h2 hS⟩)
        clear x0 x1 x2 a0 a1 a2 hbc hst hou hcell hbx HSR HDR HEC5 HO5 HBX5 HGE hP2
        go_upto_region 12 with fail
        have hW := HN.out _ rfl
        clear HN j0 j1 j2 y0 y1 y2 yf0 yf1 yf2
        generalize (((wc.setCell ⟨b7, 0, none⟩ (.int .i64 ((σ.act x).c : Nat))).setCell ⟨b7, 1, none⟩ (.slice Fd1 nd1 dd1)).setCell ⟨b7, 2, none⟩ (.slice Fd2 nd2 dd2)) = W at hW ⊢
        have HW := Lib.hid hW
        clear hW
        obtain ⟨⟨y0, y1, y2⟩, _⟩ := c3_at HW.out.1.box
        have HSM : Hid (∀ W', Below W.heap.size W W' → Calls Tryz.prog 11 #[o5, o2] W' fun e w' => e = .returned (.bool true) ∧ Below W.heap.size W w') := Lib.hid (fun W' hb => by
          refine (same_walk (HW.out.2.1.below hb) (HW.out.2.2.below hb) HOUT.out).mono ?_
          rintro e w' ⟨rfl, hb'⟩
          rw [decide_eq_true rfl]
          exact ⟨rfl, hb.trans (hb'.mono hb.size)⟩)
        have HSE : Hid (∀ W', Below W.heap.size W W' → Calls Tryz.prog 13 #[ptr xp] W' fun e w' => ∃ Fe1 ne1 de1 Fe2 ne2 de2, e = .returned (.agg (l12C (σ.act x).c (.slice Fe1 ne1 de1) (.slice Fe2 ne2 de2))) ∧ Below W.heap.size W w' ∧ St12 w' (σ.act x) (.slice Fe1 ne1 de1) (.slice Fe2 ne2 de2)) := Lib.hid (fun W' hb => by
          refine (estate_walk (HW.out.1.ec.still hb)).mono ?_
          rintro e w' ⟨u1, u2, rfl, hb', hs⟩
          obtain ⟨Fe1, ne1, de1, rfl⟩ := hs.form1; obtain ⟨Fe2, ne2, de2, rfl⟩ := hs.form2
          exact ⟨_, _, _, _, _, _, rfl, hb.trans (hb'.mono hb.size), hs⟩)
        have HSA : Hid (∀ W' Fe1 ne1 de1 Fe2 ne2 de2, Below W.heap.size W W' → St12 W' (σ.act x) (.slice Fe1 ne1 de1) (.slice Fe2 ne2 de2) → Calls Tryz.prog 12 #[.agg (l12C (σ.act x).c (.slice Fe1 ne1 de1) (.slice Fe2 ne2 de2)), .agg (l12C (σ.act x).c (.slice Fd1 nd1 dd1) (.slice Fd2 nd2 dd2))] W' fun e w' => e = .returned (.bool true) ∧ Below W.heap.size W w') := Lib.hid (fun W' Fe1 ne1 de1 Fe2 ne2 de2 hb hs => by
          refine (esame_walk hs (HW.out.1.st.below hb) HOK2.out).mono ?_
          rintro e w' ⟨rfl, hb'⟩
          exact ⟨rfl, hb.trans (hb'.mono hb.size)⟩)
        have HKC : Hid (∀ W', Below W.heap.size W W' → W'.cell? ⟨b7, 0, none⟩ = some (.int .i64 ((σ.act x).c : Nat)) ∧ W'.cell? ⟨b7, 1, none⟩ = some (.slice Fd1 nd1 dd1) ∧ W'.cell? ⟨b7, 2, none⟩ = some (.slice Fd2 nd2 dd2)) := Lib.hid (fun W' hb => (HW.out.1.low hb).cells)
        go_region_held3 (fun w' => w'.cell? ⟨b7, 0, none⟩ = some (.int .i64 ((σ.act x).c : Nat)) ∧ w'.cell? ⟨b7, 1, none⟩ = some (.slice Fd1 nd1 dd1) ∧ w'.cell? ⟨b7, 2, none⟩ = some (.slice Fd2 nd2 dd2))
          (first | with_reducible exact kk6 | with_reducible exact kk7 | with_reducible exact kk8 | go_keep)
          (first
          | (go_at_call 11; refine (HSM.out _ (below_drewn (Below.refl _ _) _)).mono ?_; rintro e w6 ⟨rfl, hb6⟩; have kk6 := HKC.out w6 hb6)
          | (go_at_call 13; refine (HSE.out _ hb6).mono ?_; rintro e w7 ⟨Fg1, ng1, dg1, Fg2, ng2, dg2, rfl, hb7, hs7⟩; have kk7 := HKC.out w7 hb7)
          | (go_at_call 12; refine (HSA.out _ _ _ _ _ _ _ hb7 hs7).mono ?_; rintro e w8 ⟨rfl, hb8⟩; have kk8 := HKC.out w8 hb8))
        have HN : Hid (ES w w8 xp b7 T12 (s0.runS (l.take (i + 1))) Fd1 nd1 dd1 Fd2 nd2 dd2) := Lib.hid (by rw [HNX.out]; exact HW.out.1.low hb8)
        clear hb6 hb7 hb8 hs7 kk6 kk7 kk8 HSM HSE HSA HKC HW y0 y1 y2
        go_wp2
        go_roundg (na - i - 1)
        case measure => omega
        case rel => exact ⟨i + 1, _, _, _, _, _, _, by omega, by go_num, HN⟩
    · have hltI : ¬ (i : Int) < (na : Int) := by omega
      have hok := (HOKR.out i).1
      obtain ⟨σ, hσ⟩ : ∃ σ, s0.runS (l.take i) = σ := ⟨_, rfl⟩
      rw [hσ] at HI hok
      have HOK := Lib.hid hok
      clear hσ hok
      obtain ⟨⟨y0, y1, y2⟩, _⟩ := c3_at HI.out.box
      have HSE : Hid (∀ W', Below wr.heap.size wr W' → Calls Tryz.prog 13 #[ptr xp] W' fun e w' => ∃ Fe1 ne1 de1 Fe2 ne2 de2, e = .returned (.agg (l12C σ.c (.slice Fe1 ne1 de1) (.slice Fe2 ne2 de2))) ∧ Below wr.heap.size wr w' ∧ St12 w' σ (.slice Fe1 ne1 de1) (.slice Fe2 ne2 de2)) := Lib.hid (fun W' hb => by
        refine (estate_walk (HI.out.ec.still hb)).mono ?_
        rintro e w' ⟨u1, u2, rfl, hb', hs⟩
        obtain ⟨Fe1, ne1, de1, rfl⟩ := hs.form1; obtain ⟨Fe2, ne2, de2, rfl⟩ := hs.form2
        exact ⟨_, _, _, _, _, _, rfl, hb.trans (hb'.mono hb.size), hs⟩)
      have HSA : Hid (∀ W' Fe1 ne1 de1 Fe2 ne2 de2, Below wr.heap.size wr W' → St12 W' σ (.slice Fe1 ne1 de1) (.slice Fe2 ne2 de2) → Calls Tryz.prog 12 #[.agg (l12C σ.c (.slice Fe1 ne1 de1) (.slice Fe2 ne2 de2)), .agg (l12C σ.c (.slice F1 n1 d1) (.slice F2 n2 d2))] W' fun e w' => e = .returned (.bool true) ∧ Below wr.heap.size wr w') := Lib.hid (fun W' Fe1 ne1 de1 Fe2 ne2 de2 hb hs => by
        refine (esame_walk hs (HI.out.st.below hb) HOK.out).mono ?_
        rintro e w' ⟨rfl, hb'⟩
        exact ⟨rfl, hb.trans (hb'.mono hb.size)⟩)
      have HKC : Hid (∀ W', Below wr.heap.size wr W' → W'.cell? ⟨b7, 0, none⟩ = some (.int .i64 ((σ).c : Nat)) ∧ W'.cell? ⟨b7, 1, none⟩ = some (.slice F1 n1 d1) ∧ W'.cell? ⟨b7, 2, none⟩ = some (.slice F2 n2 d2)) := Lib.hid (fun W' hb => (HI.out.low hb).cells)
      go_upto_region 14 with fail
      go_region_held3 (fun w' => w'.cell? ⟨b7, 0, none⟩ = some (.int .i64 ((σ).c : Nat)) ∧ w'.cell? ⟨b7, 1, none⟩ = some (.slice F1 n1 d1) ∧ w'.cell? ⟨b7, 2, none⟩ = some (.slice F2 n2 d2))
        (first | with_reducible exact kk7 | with_reducible exact kk8 | go_keep)
        (first
        | (go_at_call 13; refine (HSE.out _ (below_drewn (Below.refl _ _) _)).mono ?_; rintro e w7 ⟨Fg1, ng1, dg1, Fg2, ng2, dg2, rfl, hb7, hs7⟩; have kk7 := HKC.out w7 hb7)
        | (go_at_call 12; refine (HSA.out _ _ _ _ _ _ _ hb7 hs7).mono ?_; rintro e w8 ⟨rfl, hb8⟩; have kk8 := HKC.out w8 hb8))
      have HL := Lib.hid (HI.out.ec.below.trans (hb8.mono HI.out.ec.below.size))
      clear hb7 hb8 hs7 kk7 kk8
      go_wp2
      go_ret
      exact ⟨rfl, HL.out⟩
theorem steps18_walk (w : World) (c : Nat) (hc : c < 256) (ha : AV w v l) : Calls Tryz.prog 3 #[.int .u8 (c : Nat), v] w (RetB w true) := by
  by_cases hl : l.length ≤ 60
  · exact steps18_short w c hc ha hl
  · have HAW := Lib.hid (awake18_walk w)
    obtain ⟨A, cap, rfl, _⟩ := ha.mem
    obtain ⟨na, hna⟩ : ∃ na, l.length = na := ⟨_, rfl⟩
    rw [hna] at hl ⊢
    have hlI : (60 : Int) < (na : Int) := by omega
    clear ha hna
    go_enter Tryz.func3, Tryz.ntmps3
    go_wp2_with fail
    refine HAW.out.mono ?_
    rintro e w1 ⟨rfl, hb1⟩
    have HB := Lib.hid hb1
    clear hb1
    go_wp2
    go_ret
    exact ⟨rfl, HB.out⟩
end
end Go.Proofs.YtkhikpnlpcankaaGreat
