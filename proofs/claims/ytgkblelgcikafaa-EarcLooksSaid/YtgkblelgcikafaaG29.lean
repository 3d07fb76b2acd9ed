/- Words and walks: EaZ EaY EaD EaK. -/
import Derived.Test.YtgkblelgcikafaaG1
import Derived.Test.YtgkblelgcikafaaG18
import Derived.Test.YtgkblelgcikafaaG28
import Derived.Deep.RegionWith
namespace Go.Proofs.Ytgkblelgcikafaa
open Go Go.RowKit Go.Deep
section
variable {w0 w w' : World} {xp top : Nat} {s : L11} {k : Nat}
theorem cut_sum (s : L11) (n : Nat) (g : Bool) : (s.cut n g).t1.length ≤ n := by
  obtain ⟨e1, e2, -, -⟩ := s.cut_lens n g
  have h1 := s.l_sum n g
  have h2 : s.many n = s.t1.length + s.t2.length - n := rfl
  have h3 := s.li_le n g
  have h4 := s.lm_le n g
  omega
set_option maxHeartbeats 8000000 in
set_option maxRecDepth 4000 in
theorem eresize_walk (h : EC w0 w xp s top) (n : Int) (hn1 : -9223372036854775808 ≤ n) (hn2 : n ≤ 9223372036854775807) :
    Calls Try.prog 27 #[ptr xp, .int .i64 n] w (EPo w0 w xp (s.resize n) top (s.resizeOut n)) := by
  obtain ⟨sp, hx⟩ := h.mem
  have hm : 2 * top ≤ 10000 := by have := h.small; omega
  have hE := Lib.hid (fun (W : World) => eopen_walk (w := W) xp)
  have HB := Lib.hid (ebounded_walk (w := w) n hn1 hn2)
  have hcp := capI_pos n
  have hge := h.ge
  have hokR := h.ok.resize n
  obtain ⟨c, hcc⟩ : ∃ c, capI n = c := ⟨_, rfl⟩
  obtain ⟨pz, hpz⟩ : ∃ pz, min s.p c = pz := ⟨_, rfl⟩
  obtain ⟨t, ht⟩ : ∃ t, (s.sized c).cut c false = t := ⟨_, rfl⟩
  have htc : t.c = c := by rw [← ht]; rfl
  have htp : t.p = pz := by rw [← ht]; exact hpz
  have eR : s.resize n = t.fall := by rw [← ht, ← hcc]; rfl
  have eO : s.resizeOut n = (s.sized c).cutOut c false := by rw [← hcc]; rfl
  obtain ⟨m0, hm0⟩ : ∃ m0, t.t1.length = m0 := ⟨_, rfl⟩
  have hm0c : m0 ≤ c := by rw [← hm0, ← ht]; exact cut_sum _ _ _
  obtain ⟨m1, hm1⟩ : ∃ m1, (t.b1.take (c - m0)).length = m1 := ⟨_, rfl⟩
  have hm1c : m1 ≤ c := by rw [← hm1, List.length_take]; omega
  rw [hcc] at HB hcp
  have HCS : Hid (∀ W, CP w0 w xp sp c s.p (q11 s) (2 * top) W → CP w0 w xp sp c pz (q11 s) (2 * top) (W.setCell ⟨xp, 2, none⟩ (.int .i64 (pz : Nat))).drew) := Lib.hid (fun W hW => CP.still ⟨(hW.1.aimS hge pz).1, hW.2.trans (hW.1.aimS hge pz).2⟩ (below_drew17 (Below.refl _ _)))
  have HCX : Hid (CP w0 w xp sp c s.p (q11 s) (2 * top) (w.setCell ⟨xp, 1, none⟩ (.int .i64 (c : Nat)))) := Lib.hid (hx.capS hge c)
  have HEV : Hid (∀ W, CP w0 w xp sp c pz (q11 s) (2 * top) W → Calls Try.prog 47 #[ptr xp, .int .i64 (c : Nat), .bool false] W fun e w' => ∃ o, e = .returned o ∧ CP w0 w xp sp c pz (q11 t) (2 * top) w' ∧ KV w' o (s.resizeOut n)) := Lib.hid (fun W hW => by
    have hW' : CX w0 W xp sp (s.sized c).c (s.sized c).p (q11 (s.sized c)) (2 * top) := by
      rw [show (s.sized c).p = pz from hpz]
      exact hW.1
    have := evictAll_walk (g := false) hW' (h.ok.fine.sized c) hm (by rw [show (s.sized c).p = pz from hpz]; omega) c (by omega)
    refine this.mono ?_
    rintro e w' ⟨o, rfl, g1, g2⟩
    rw [show (s.sized c).p = pz from hpz, ht] at g1
    exact ⟨o, rfl, ⟨g1.1, hW.2.trans g1.2⟩, by rw [eO]; exact g2.kv⟩)
  have HL0 : Hid (∀ W, CP w0 w xp sp c pz (q11 t) (2 * top) W → Calls Try.prog 41 #[ptr sp, .int .i64 0] W fun e w' => e = .returned (.int .i64 (m0 : Nat)) ∧ Below W.heap.size W w') := Lib.hid (fun W hW => x_len hW.1 (Below.refl _ _) (t := 0) (by decide) hm0)
  have HL2 : Hid (∀ W, CP w0 w xp sp c pz (quad t.t1 t.t2 (t.b1.take (c - m0)) t.b2) (2 * top) W → Calls Try.prog 41 #[ptr sp, .int .i64 2] W fun e w' => e = .returned (.int .i64 (m1 : Nat)) ∧ Below W.heap.size W w') := Lib.hid (fun W hW => x_len hW.1 (Below.refl _ _) (t := 2) (by decide) hm1)
  have HC2 : Hid (∀ W x o, CP w0 w xp sp c pz (q11 t) (2 * top) W → KV W o (s.resizeOut n) → x = (c : Int) - (m0 : Int) → Calls Try.prog 48 #[ptr xp, .int .i64 2, .int .i64 x] W fun e w' => ∃ o2, e = .returned o2 ∧ CP w0 w xp sp c pz (quad t.t1 t.t2 (t.b1.take (c - m0)) t.b2) (2 * top) w' ∧ KV w' o (s.resizeOut n)) := Lib.hid (fun W x o hW hko hxx => by
    have hW' : CX w0 W xp sp t.c t.p (q11 t) (2 * top) := by rw [htc, htp]; exact hW.1
    refine (cut2_walk hW' hm x (c - m0) (by omega) (by omega) (by omega)).mono ?_
    rintro e w' ⟨o2, rfl, g1, g2⟩
    refine ⟨o2, rfl, ⟨?_, hW.2.trans g1.2⟩, hko.kn g1.2⟩
    have := g1.1
    dsimp only at this
    rw [htc, htp] at this
    exact this)
  have HC3 : Hid (∀ W x o, CP w0 w xp sp c pz (quad t.t1 t.t2 (t.b1.take (c - m0)) t.b2) (2 * top) W → KV W o (s.resizeOut n) → x = (c : Int) - (m1 : Int) → Calls Try.prog 48 #[ptr xp, .int .i64 3, .int .i64 x] W fun e w' => ∃ o2, e = .returned o2 ∧ CP w0 w xp sp c pz (q11 t.fall) (2 * top) w' ∧ KV w' o (s.resizeOut n)) := Lib.hid (fun W x o hW hko hxx => by
    refine (cut3_walk (s := ⟨c, pz, t.t1, t.t2, t.b1.take (c - m0), t.b2⟩) hW.1 hm x (c - m1) (by omega) (by omega) (by omega)).mono ?_
    rintro e w' ⟨o2, rfl, g1, g2⟩
    refine ⟨o2, rfl, ⟨?_, hW.2.trans g1.2⟩, hko.kn g1.2⟩
    have e2 : q11 t.fall = quad t.t1 t.t2 (t.b1.take (c - m0)) (t.b2.take (c - m1)) := by
      show quad t.t1 t.t2 (t.b1.take (t.c - t.t1.length)) (t.b2.take (t.c - (t.b1.take (t.c - t.t1.length)).length)) = _
      rw [htc, hm0, hm1]
    rw [e2]
    exact g1.1)
  have HFI : Hid (∀ W o, CP w0 w xp sp c pz (q11 t.fall) (2 * top) W → KV W o (s.resizeOut n) → EPo w0 w xp (s.resize n) top (s.resizeOut n) (.returned o) W) := Lib.hid (fun W o hW hko => by
    refine ⟨o, rfl, ⟨EC.make hokR h.small h.ge (sp := sp) ?_, hW.2⟩, hko⟩
    rw [eR, show t.fall.c = c from htc, show t.fall.p = pz from htp]
    exact hW.1)
  have HKC : Hid (∀ l W, CP w0 w xp sp c pz l (2 * top) W → C3 xp sp c pz W) := Lib.hid (fun l W hW => hW.1.cells)
  have HK1 : Hid (∀ W, CP w0 w xp sp c s.p (q11 s) (2 * top) W → (C3 xp sp c s.p W ∧ W.frozen? ⟨xp, 0, none⟩ = false ∧ W.frozen? ⟨xp, 1, none⟩ = false ∧ W.frozen? ⟨xp, 2, none⟩ = false) ∧ xp < W.heap.size) := Lib.hid (fun W hW => ⟨c3_at hW.1.box, hW.1.lt⟩)
  have hbox := c3_at hx.box
  obtain ⟨p, hp⟩ : ∃ p, s.p = p := ⟨_, rfl⟩
  have hpc := h.ok.pc
  have hcap := h.ok.cap
  have hlt := h.lt
  generalize EPo w0 w xp (s.resize n) top (s.resizeOut n) = R at HFI ⊢
  generalize s.resizeOut n = out at HEV HC2 HC3 HFI
  generalize q11 t.fall = l4 at HC3 HFI
  generalize quad t.t1 t.t2 (t.b1.take (c - m0)) t.b2 = l3 at HC2 HC3 HL2
  generalize q11 t = l2 at HEV HC2 HL0
  generalize q11 s = l1 at HEV HCS HCX HK1
  generalize s.c = c0 at hbox hpc hcap
  rw [hp] at hbox hpc hpz HCS HCX HK1
  obtain ⟨⟨x0, x1, x2⟩, f0, f1, f2⟩ := hbox
  have hcI : (c : Int) ≤ 1048576 := by omega
  have hc1 : (1 : Int) ≤ (c : Int) := by omega
  have hpI : (p : Int) ≤ 1048576 := by omega
  have hp0 : (0 : Int) ≤ (p : Int) := by omega
  have hm0I : (m0 : Int) ≤ (c : Int) := by omega
  have hm1I : (m1 : Int) ≤ (c : Int) := by omega
  have hm00 : (0 : Int) ≤ (m0 : Int) := by omega
  have hm10 : (0 : Int) ≤ (m1 : Int) := by omega
  clear h hx hcc hokR ht htc htp eR eO hm0 hm1 hm0c hm1c hm hge hcp hp hpc hcap
  go_enter Try.func27, Try.ntmps27
  go_wp2_with fail
  refine (hE.out w).mono ?_
  rintro e w1 ⟨rfl, rfl⟩
  go_wp2_with fail
  refine HB.out.mono ?_
  rintro e w1 ⟨rfl, rfl⟩
  go_upto_region 3 with fail
  generalize w.setCell ⟨xp, 1, none⟩ (.int .i64 (c : Nat)) = W at HCX ⊢
  clear x0 x1 x2 f0 f1 f2 hlt
  obtain ⟨⟨⟨x0, x1, x2⟩, f0, f1, f2⟩, hlt⟩ := HK1.out W HCX.out
  have HW2 := Lib.hid (HCS.out W HCX.out)
  clear HCS HCX HK1 HB
  go_cut [] (fun wx => wx = (W.setCell ⟨xp, 2, none⟩ (.int .i64 (pz : Nat))).drew)
  case first =>
    rcases Nat.lt_trichotomy p c with hlt2 | hlt2 | hlt2
    · have hz : (pz : Int) = (p : Int) := by omega
      have hmm : (p : Int) < (c : Int) := by omega
      have HZ := Lib.hid hz
      clear hz hlt2 hpz
      go_region
      all_goals
        go_wp2_with fail
        go_meet
        (rw [HZ.out]) <;> first | rfl | simp | simp [hmm]
    · have hz : (pz : Int) = (c : Int) := by omega
      have hmm : (p : Int) = (c : Int) := by omega
      have HZ := Lib.hid hz
      clear hz hlt2 hpz
      go_region
      all_goals
        go_wp2_with fail
        go_meet
        (rw [HZ.out]) <;> first | rfl | simp | simp [hmm]
    · have hz : (pz : Int) = (c : Int) := by omega
      have hmm : (c : Int) < (p : Int) := by omega
      have HZ := Lib.hid hz
      clear hz hlt2 hpz
      go_region
      all_goals
        go_wp2_with fail
        go_meet
        (rw [HZ.out]) <;> first | rfl | simp | simp [hmm]
  case rest =>
    obtain ⟨wx, hwx⟩ : ∃ x, x = wc := ⟨_, rfl⟩
    subst hwx
    have HX : Hid (CP w0 w xp sp c pz l1 (2 * top) wx) := Lib.hid (by rw [hcut]; exact HW2.out)
    clear hcut HW2 x0 x1 x2 f0 f1 f2 hlt hpz
    obtain ⟨x0, x1, x2⟩ := HKC.out _ wx HX.out
    have HE8 := Lib.hid (HEV.out wx HX.out)
    clear HEV HX
    go_wp2_with fail
    refine HE8.out.mono ?_
    rintro e w8 ⟨o, rfl, h8, ho8⟩
    have H8 := Lib.hid (And.intro h8 ho8)
    clear h8 ho8 HE8 x0 x1 x2
    obtain ⟨x0, x1, x2⟩ := HKC.out _ w8 H8.out.1
    have hw0 : IntKind.i64.wrap ((c : Int) - (m0 : Int)) = (c : Int) - (m0 : Int) := IntWalk.i64_in _ (by omega)
    have hw1 : IntKind.i64.wrap ((c : Int) - (m1 : Int)) = (c : Int) - (m1 : Int) := IntWalk.i64_in _ (by omega)
    go_upto_region 5 with fail
    go_region_held3 (fun w' => w'.cell? ⟨xp, 0, none⟩ = some (ptr sp) ∧ w'.cell? ⟨xp, 1, none⟩ = some (.int .i64 (c : Nat)) ∧ w'.cell? ⟨xp, 2, none⟩ = some (.int .i64 (pz : Nat))) (first | with_reducible exact kk9 | with_reducible exact kka | go_keep)
      (first
        | (go_at_call 48; refine (HC2.out _ _ o h9.1 h9.2 (by first | rfl | exact hw0)).mono ?_; rintro e wa ⟨oa, rfl, ha, hoa⟩; have kka := HKC.out _ wa ha)
        | (go_at_call 41; refine (HL0.out _ (CP.still H8.out.1 (below_drewn (Below.refl _ _) _))).mono ?_; rintro e w9 ⟨rfl, hb9⟩; have h9 := And.intro (CP.still H8.out.1 (below_drewn (Below.refl _ _) _ |>.trans hb9)) (H8.out.2.below (below_drewn (Below.refl _ _) _ |>.trans hb9)); have kk9 := HKC.out _ w9 h9.1))
    have HA := Lib.hid (And.intro ha hoa)
    clear kk9 kka h9 hb9 ha hoa HL0 HC2 H8 x0 x1 x2
    obtain ⟨y0, y1, y2⟩ := HKC.out _ wa HA.out.1
    go_upto_region 6 with fail
    go_region_held3 (fun w' => w'.cell? ⟨xp, 0, none⟩ = some (ptr sp) ∧ w'.cell? ⟨xp, 1, none⟩ = some (.int .i64 (c : Nat)) ∧ w'.cell? ⟨xp, 2, none⟩ = some (.int .i64 (pz : Nat))) (first | with_reducible exact kkb | with_reducible exact kkc | go_keep)
      (first
        | (go_at_call 48; refine (HC3.out _ _ o hb.1 hb.2 (by first | rfl | exact hw1)).mono ?_; rintro e wd ⟨od, rfl, hd, hod⟩; have kkc := HKC.out _ wd hd)
        | (go_at_call 41; refine (HL2.out _ (CP.still HA.out.1 (below_drewn (Below.refl _ _) _))).mono ?_; rintro e wb ⟨rfl, hbb⟩; have hb := And.intro (CP.still HA.out.1 (below_drewn (Below.refl _ _) _ |>.trans hbb)) (HA.out.2.below (below_drewn (Below.refl _ _) _ |>.trans hbb)); have kkb := HKC.out _ wb hb.1))
    have HR := Lib.hid (HFI.out wd o hd hod)
    clear kkb kkc hb hbb hd hod HL2 HC3 HA HFI y0 y1 y2
    go_wp2
    exact HR.out
end
section
variable {w0 w w' : World} {xp top : Nat} {s : L11}
theorem x_keys {sp : Nat} (h : EC w0 w xp s top) (hx : CX w0 w xp sp s.c s.p (q11 s) (2 * top)) {W : World} (hb : Below w.heap.size w W) {t : Nat} (ht : t < 4) :
    Calls Try.prog 38 #[ptr sp, .int .i64 (t : Nat)] W fun e w' => ∃ F n d, e = .returned (.slice F n d) ∧ Below w.heap.size w w' ∧ KV w' (.slice F n d) (q11 s t) ∧ Below W.heap.size W w' := by
  refine (m_keys (hx.still hb).sk (by have := h.small; omega) ht).mono ?_
  rintro e w' ⟨v, rfl, g1, g2⟩
  obtain ⟨F, n, d, rfl⟩ := g2.kv.form
  exact ⟨F, n, d, rfl, hb.trans (g1.mono hb.size), g2.kv, g1⟩
set_option maxHeartbeats 4000000 in
set_option maxRecDepth 4000 in
theorem ekeys_walk (h : EC w0 w xp s top) :
    Calls Try.prog 16 #[ptr xp] w (RetK w s.keys) := by
  obtain ⟨sp, hx⟩ := h.mem
  have hE := Lib.hid (fun (W : World) => eopen_walk (w := W) xp)
  obtain ⟨x0, x1, x2⟩ := hx.cells
  have HKC : Hid (∀ W, Below w.heap.size w W → C3 xp sp s.c s.p W) := Lib.hid (fun W hb => (hx.still hb).cells)
  have HK0 : Hid (∀ W, Below w.heap.size w W → Calls Try.prog 38 #[ptr sp, .int .i64 0] W fun e w' => ∃ F n d, e = .returned (.slice F n d) ∧ Below w.heap.size w w' ∧ KV w' (.slice F n d) s.t1 ∧ Below W.heap.size W w') := Lib.hid (fun W hb => x_keys h hx hb (t := 0) (by decide))
  have HK1 : Hid (∀ W, Below w.heap.size w W → Calls Try.prog 38 #[ptr sp, .int .i64 1] W fun e w' => ∃ F n d, e = .returned (.slice F n d) ∧ Below w.heap.size w w' ∧ KV w' (.slice F n d) s.t2 ∧ Below W.heap.size W w') := Lib.hid (fun W hb => x_keys h hx hb (t := 1) (by decide))
  have hkl : s.keys.length ≤ 100000000 := by
    have h1 := h.ok.len
    have h2 := h.ok.cap
    unfold L11.keys
    rw [List.length_append]
    omega
  have HF : Hid ([s.t1, s.t2].flatten = s.keys ∧ s.keys.length ≤ 100000000) := Lib.hid ⟨by simp [L11.keys], hkl⟩
  clear h hx hkl
  go_enter Try.func16, Try.ntmps16
  go_wp2_with fail
  refine (hE.out w).mono ?_
  rintro e w1 ⟨rfl, rfl⟩
  go_upto_region 2 with fail
  go_region_held3 (fun w' => w'.cell? ⟨xp, 0, none⟩ = some (ptr sp) ∧ w'.cell? ⟨xp, 1, none⟩ = some (.int .i64 (s.c : Nat)) ∧ w'.cell? ⟨xp, 2, none⟩ = some (.int .i64 (s.p : Nat))) (first | with_reducible exact kk5 | with_reducible exact kk6 | with_reducible exact kk8 | go_keep)
    (first
      | (go_at_call 39; refine (concat_walk (KVV.two hv5b hv6 26) (by simp) (by rw [HF.out.1]; exact HF.out.2)).mono ?_; rintro e w7 ⟨v7, rfl, hk7⟩; have kk8 := HKC.out w7 ((hb6.trans ((low_one w6 _).mono hb6.size)).trans (hk7.low.mono (Nat.le_trans hb6.size (by simp)))))
      | (go_at_call 38; refine (HK1.out _ hb5).mono ?_; rintro e w6 ⟨F6, n6, d6, rfl, hb6, hv6, hb6b⟩; have kk6 := HKC.out w6 hb6; have hv5b := hv5.below hb6b)
      | (go_at_call 38; refine (HK0.out _ (below_drewn (Below.refl _ _) _)).mono ?_; rintro e w5 ⟨F5, n5, d5, rfl, hb5, hv5, hb5b⟩; have kk5 := HKC.out w5 hb5))
  all_goals
    rw [HF.out.1] at hk7
    have HL : Hid (Below w.heap.size w w7 ∧ KV w7 v7 s.keys) := Lib.hid ⟨(hb6.trans ((low_one w6 _).mono hb6.size)).trans (hk7.low.mono (Nat.le_trans hb6.size (by simp))), hk7.kv⟩
    clear hb5 hb6 hv5 hv6 hv5b hk7 hb6b hb5b kk5 kk6 kk8
    go_wp2
    go_ret
    exact ⟨_, rfl, HL.out.1, HL.out.2⟩
set_option maxHeartbeats 8000000 in
set_option maxRecDepth 8000 in
theorem estate_walk (h : EC w0 w xp s top) :
    Calls Try.prog 14 #[ptr xp] w (P11 w s) := by
  obtain ⟨sp, hx⟩ := h.mem
  have hlow := low_one w (.cells z11 PT11)
  have hltx := hx.lt
  have HR0 := Lib.hid (heap_alloc_new w (.cells z11 PT11))
  have HL0 := Lib.hid hlow
  have hE := Lib.hid (fun (W : World) => eopen_walk (w := W) xp)
  have HKC : Hid (∀ W, Below w.heap.size w W → C3 xp sp s.c s.p W) := Lib.hid (fun W hb => (hx.still hb).cells)
  have HK : Hid (∀ t, t < 4 → ∀ W, Below w.heap.size w W → Calls Try.prog 38 #[ptr sp, .int .i64 (t : Nat)] W fun e w' => ∃ F n d, e = .returned (.slice F n d) ∧ Below w.heap.size w w' ∧ KV w' (.slice F n d) (q11 s t) ∧ Below W.heap.size W w') := Lib.hid (fun t ht W hb => x_keys h hx hb ht)
  obtain ⟨c, p, l1, l2, l3, l4⟩ := s
  clear h hx hlow
  go_enter Try.func14, Try.ntmps14
  go_wp2_with fail
  refine (hE.out _).mono ?_
  rintro e w1 ⟨rfl, rfl⟩
  go_upto_region 2 with fail
  generalize hW : w.alloc (.cells z11 PT11) = X at HL0 HR0 ⊢
  clear hW
  obtain ⟨c0, c1, c2⟩ := HKC.out X HL0.out
  obtain ⟨⟨r0, r1, r2, r3, r4, r5⟩, rf0, rf1, rf2, rf3, rf4, rf5⟩ := c6_at HR0.out
  have hrX := (head_row HR0.out).lt
  generalize hrb : w.heap.size = rb at HR0 hrX hltx r0 r1 r2 r3 r4 r5 rf0 rf1 rf2 rf3 rf4 rf5 ⊢
  have hne : xp ≠ rb := by omega
  have hltX : xp < X.heap.size := by omega
  have HKG : Hid (∀ t, t < 4 → ∀ W, Below X.heap.size X W → Calls Try.prog 38 #[ptr sp, .int .i64 (t : Nat)] W fun e w' => ∃ F n d, e = .returned (.slice F n d) ∧ Below X.heap.size X w' ∧ KV w' (.slice F n d) (q11 ⟨c, p, l1, l2, l3, l4⟩ t) ∧ Below W.heap.size W w' ∧ C3 xp sp c p w' ∧ w'.heap[rb]? = some (.cells z11 PT11 (0, 0))) := Lib.hid (fun t ht W hb => by
    have hbw := HL0.out.trans (hb.mono HL0.out.size)
    rw [hrb] at hbw
    refine (HK.out t ht W (by rw [hrb]; exact hbw)).mono ?_
    rintro e w' ⟨F, n, d, rfl, g1, g2, g3⟩
    have hb2 := hb.trans (g3.mono hb.size)
    exact ⟨F, n, d, rfl, hb2, g2, g3, HKC.out w' g1, (hb2.block rb hrX).trans HR0.out⟩)
  have HK0 : Hid (∀ W, Below X.heap.size X W → Calls Try.prog 38 #[ptr sp, .int .i64 0] W fun e w' => ∃ F n d, e = .returned (.slice F n d) ∧ Below X.heap.size X w' ∧ KV w' (.slice F n d) l1 ∧ Below W.heap.size W w' ∧ C3 xp sp c p w' ∧ w'.heap[rb]? = some (.cells z11 PT11 (0, 0))) := Lib.hid (HKG.out 0 (by decide))
  have HK1 : Hid (∀ W, Below X.heap.size X W → Calls Try.prog 38 #[ptr sp, .int .i64 1] W fun e w' => ∃ F n d, e = .returned (.slice F n d) ∧ Below X.heap.size X w' ∧ KV w' (.slice F n d) l2 ∧ Below W.heap.size W w' ∧ C3 xp sp c p w' ∧ w'.heap[rb]? = some (.cells z11 PT11 (0, 0))) := Lib.hid (HKG.out 1 (by decide))
  have HK2 : Hid (∀ W, Below X.heap.size X W → Calls Try.prog 38 #[ptr sp, .int .i64 2] W fun e w' => ∃ F n d, e = .returned (.slice F n d) ∧ Below X.heap.size X w' ∧ KV w' (.slice F n d) l3 ∧ Below W.heap.size W w' ∧ C3 xp sp c p w' ∧ w'.heap[rb]? = some (.cells z11 PT11 (0, 0))) := Lib.hid (HKG.out 2 (by decide))
  have HK3 : Hid (∀ W, Below X.heap.size X W → Calls Try.prog 38 #[ptr sp, .int .i64 3] W fun e w' => ∃ F n d, e = .returned (.slice F n d) ∧ Below X.heap.size X w' ∧ KV w' (.slice F n d) l4 ∧ Below W.heap.size W w' ∧ C3 xp sp c p w' ∧ w'.heap[rb]? = some (.cells z11 PT11 (0, 0))) := Lib.hid (HKG.out 3 (by decide))
  have HRB := Lib.hid hrb
  clear HK HKG hrb HKC
  go_region_held3 (fun w' => w'.cell? ⟨xp, 0, none⟩ = some (ptr sp) ∧ w'.cell? ⟨xp, 1, none⟩ = some (.int .i64 (c : Nat)) ∧ w'.cell? ⟨xp, 2, none⟩ = some (.int .i64 (p : Nat))) (first | with_reducible exact kk5 | with_reducible exact kk6 | with_reducible exact kk7 | with_reducible exact kk8 | with_reducible exact KK1 _ (c6_set HR8.out _ _ _ _ _ _).2 | go_keep)
    (first
      | (go_at_call 38; refine (HK3.out _ hb7).mono ?_; rintro e w8 ⟨F8, n8, d8, rfl, hb8, hv8, hb8b, kk8, hr8⟩; obtain ⟨⟨y0, y1, y2, y3, y4, y5⟩, yf0, yf1, yf2, yf3, yf4, yf5⟩ := c6_at hr8; have HV8 := Lib.hid (And.intro (hv5.below (hb6b.trans ((hb7b.mono hb6b.size).trans (hb8b.mono (Nat.le_trans hb6b.size hb7b.size))))) (And.intro (hv6.below (hb7b.trans (hb8b.mono hb7b.size))) (And.intro (hv7.below hb8b) hv8))); have HB8 := Lib.hid hb8; have HR8 := Lib.hid hr8; clear hr8; have hX8 := hb8.size; have KK1 := fun (W : World) (ho : Only [rb] w8 W) => (⟨(World.cell?_of_block (w := w8) (ho.block xp (by omega) (by simp; omega))).trans kk8.1, (World.cell?_of_block (w := w8) (ho.block xp (by omega) (by simp; omega))).trans kk8.2.1, (World.cell?_of_block (w := w8) (ho.block xp (by omega) (by simp; omega))).trans kk8.2.2⟩ : W.cell? ⟨xp, 0, none⟩ = some (ptr sp) ∧ W.cell? ⟨xp, 1, none⟩ = some (.int .i64 (c : Nat)) ∧ W.cell? ⟨xp, 2, none⟩ = some (.int .i64 (p : Nat))))
      | (go_at_call 38; refine (HK2.out _ hb6).mono ?_; rintro e w7 ⟨F7, n7, d7, rfl, hb7, hv7, hb7b, kk7, hr7⟩)
      | (go_at_call 38; refine (HK1.out _ hb5).mono ?_; rintro e w6 ⟨F6, n6, d6, rfl, hb6, hv6, hb6b, kk6, hr6⟩)
      | (go_at_call 38; refine (HK0.out _ (below_drewn (Below.refl _ _) _)).mono ?_; rintro e w5 ⟨F5, n5, d5, rfl, hb5, hv5, hb5b, kk5, hr5⟩))
  all_goals
    clear hb5 hb6 hb7 hb8 hv5 hv6 hv7 hv8 hb5b hb6b hb7b hb8b hr5 hr6 hr7
    go_wp2_with fail
    have HO : Hid (Only [rb] w8 ((((((w8.setCell ⟨rb, 0, none⟩ (.int .i64 (c : Nat))).setCell ⟨rb, 1, none⟩ (.int .i64 (p : Nat))).setCell ⟨rb, 2, none⟩ (.slice F5 n5 d5)).setCell ⟨rb, 3, none⟩ (.slice F6 n6 d6)).setCell ⟨rb, 4, none⟩ (.slice F7 n7 d7)).setCell ⟨rb, 5, none⟩ (.slice F8 n8 d8))) := Lib.hid (((((((Only.refl _ _).setCell (by simp) _).setCell (by simp) _).setCell (by simp) _).setCell (by simp) _).setCell (by simp) _).setCell (by simp) _)
    have HF := Lib.hid (HL0.out.trans (HB8.out.mono HL0.out.size))
    have hS : ∀ g ∈ [rb], Bx w8 g := fun g hg => by
      simp only [List.mem_singleton] at hg
      subst hg
      exact ⟨_, _, HR8.out, rfl, by decide⟩
    exact bodyPost_ret (v := .agg (l11C c p (.slice F5 n5 d5) (.slice F6 n6 d6) (.slice F7 n7 d7) (.slice F8 n8 d8))) (by simp [results, Try.results14, go_sem, y0, y1, y2, y3, y4, y5]) rfl ⟨_, _, _, _, rfl, HF.out.trans (HO.out.below (by have := HRB.out; simp; omega) HF.out.size), ⟨HV8.out.1.only HO.out hS, HV8.out.2.1.only HO.out hS, HV8.out.2.2.1.only HO.out hS, HV8.out.2.2.2.only HO.out hS⟩⟩
end
abbrev actT : TypeId := 34
section
variable {w0 w : World} {xp top : Nat} {s : L11}
set_option maxHeartbeats 8000000 in
set_option maxRecDepth 4000 in
theorem edo_walk (h : EC w0 w xp s top) (hct : s.c ≤ top) (x : Act8) (wf : x.Ok) : Calls Try.prog 10 #[ptr xp, .agg (act8C x)] w (EPo w0 w xp (s.act x) top (s.actOut x)) := by
  have hlow := low_one w (.cells (act8C x) actT)
  have HA := Lib.hid (heap_alloc_new w (.cells (act8C x) actT))
  have HB := Lib.hid hlow
  have hc := L11.act_cases s x
  have hz := sizeA_is x
  obtain ⟨q, hq⟩ : ∃ q, kindA x (decide (x.key ∈ s.keys)) = q := ⟨_, rfl⟩
  have KH : Hid (∀ W, Below w.heap.size w W → Calls Try.prog 17 #[ptr xp, .int .u64 (x.key : Nat)] W (RetB W (decide (x.key ∈ s.keys)))) := Lib.hid (fun W hb => ehas_walk (h.still hb) x.key wf.key)
  have KK : Hid (∀ W, Calls Try.prog 31 #[.agg (act8C x), .bool (decide (x.key ∈ s.keys))] W fun e w' => e = .returned (.int .i64 (q : Nat)) ∧ Below W.heap.size W w') := Lib.hid (fun W => by rw [← hq]; exact rkind_walk x wf _)
  have KS : Hid (∀ W, Calls Try.prog 32 #[.agg (act8C x)] W fun e w' => e = .returned (.int .i64 (sizeA x : Nat)) ∧ Below W.heap.size W w') := Lib.hid (fun W => rsize_walk x wf)
  have KT : Hid (∀ W, Below w.heap.size w W → Calls Try.prog 24 #[ptr xp, .int .u64 (x.key : Nat)] W fun e w' => e = .returned (.tuple #[]) ∧ EPo w0 w xp (s.touch x.key) top [] (.returned (.slice none 0 0)) w') := Lib.hid (fun W hb => (etouch_walk (h.still hb) x.key wf.key).mono (fun e w' ⟨he, g1, g2⟩ => ⟨he, _, rfl, ⟨g1, (Kn.below hb).trans g2⟩, KV.nil _⟩))
  have KD : Hid (∀ W, Below w.heap.size w W → Calls Try.prog 25 #[ptr xp, .int .u64 (x.key : Nat)] W fun e w' => e = .returned (.tuple #[]) ∧ EPo w0 w xp (s.drop x.key) top [] (.returned (.slice none 0 0)) w') := Lib.hid (fun W hb => (edrop_walk (h.still hb) x.key wf.key).mono (fun e w' ⟨he, g1, g2⟩ => ⟨he, _, rfl, ⟨g1, (Kn.below hb).trans g2⟩, KV.nil _⟩))
  have KA : Hid (∀ W, Below w.heap.size w W → Calls Try.prog 26 #[ptr xp, .int .u64 (x.key : Nat)] W fun e w' => ∃ o, e = .returned o ∧ EPo w0 w xp (s.adm x.key) top (s.admitOut x.key) (.returned o) w') := Lib.hid (fun W hb => (eadmit_walk (h.still hb) hct x.key wf.key).mono (fun e w' ⟨o, he, ⟨g1, g2⟩, g3⟩ => ⟨o, he, o, rfl, ⟨g1, (Kn.below hb).trans g2⟩, g3⟩))
  have KR : Hid (∀ W, Below w.heap.size w W → Calls Try.prog 27 #[ptr xp, .int .i64 (sizeA x : Nat)] W fun e w' => ∃ o, e = .returned o ∧ EPo w0 w xp (s.resize (sizeA x : Nat)) top (s.resizeOut (sizeA x : Nat)) (.returned o) w') := Lib.hid (fun W hb => (eresize_walk (h.still hb) _ (by omega) (by omega)).mono (fun e w' ⟨o, he, ⟨g1, g2⟩, g3⟩ => ⟨o, he, o, rfl, ⟨g1, (Kn.below hb).trans g2⟩, g3⟩))
  rw [hq] at hc
  generalize decide (x.key ∈ s.keys) = bb at KH KK hq
  generalize sizeA x = z at KS KR hz hc
  have hR : Hid (q = 1 ∧ EPo w0 w xp (s.act x) top (s.actOut x) = EPo w0 w xp (s.touch x.key) top [] ∨ q = 2 ∧ EPo w0 w xp (s.act x) top (s.actOut x) = EPo w0 w xp (s.adm x.key) top (s.admitOut x.key) ∨ q = 3 ∧ EPo w0 w xp (s.act x) top (s.actOut x) = EPo w0 w xp (s.drop x.key) top [] ∨ q = 4 ∧ EPo w0 w xp (s.act x) top (s.actOut x) = EPo w0 w xp (s.resize z) top (s.resizeOut z)) := Lib.hid (by
    rcases hc with ⟨h1, e1, e2⟩ | ⟨h1, e1, e2⟩ | ⟨h1, e1, e2⟩ | ⟨h1, e1, e2⟩
    · exact .inl ⟨h1, by rw [e1, e2]⟩
    · exact .inr (.inl ⟨h1, by rw [e1, e2]⟩)
    · exact .inr (.inr (.inl ⟨h1, by rw [e1, e2]⟩))
    · exact .inr (.inr (.inr ⟨h1, by rw [e1, e2]⟩)))
  generalize EPo w0 w xp (s.act x) top (s.actOut x) = R at hR ⊢
  generalize EPo w0 w xp (s.touch x.key) top [] = RT at hR KT
  generalize EPo w0 w xp (s.adm x.key) top (s.admitOut x.key) = RA at hR KA
  generalize EPo w0 w xp (s.drop x.key) top [] = RD at hR KD
  generalize EPo w0 w xp (s.resize z) top (s.resizeOut z) = RR at hR KR
  clear hq hc hlow h hct hz wf
  obtain ⟨⟨a0, a1, a2⟩, _⟩ := c3_at HA.out
  have hAt := (head_row HA.out).lt
  have KH2 : Hid (∀ W, Below (w.alloc (.cells (act8C x) actT)).heap.size (w.alloc (.cells (act8C x) actT)) W → Calls Try.prog 17 #[ptr xp, .int .u64 (x.key : Nat)] W fun e w' => e = .returned (.bool bb) ∧ Below (w.alloc (.cells (act8C x) actT)).heap.size (w.alloc (.cells (act8C x) actT)) w') := Lib.hid (fun W hb => (KH.out W (HB.out.trans (hb.mono HB.out.size))).mono (fun e w' ⟨he, hb'⟩ => ⟨he, hb.trans (hb'.mono hb.size)⟩))
  have KC : Hid (∀ W, Below (w.alloc (.cells (act8C x) actT)).heap.size (w.alloc (.cells (act8C x) actT)) W → W.cell? ⟨w.heap.size, 0, none⟩ = some (.int .u8 (x.kind : Nat)) ∧ W.cell? ⟨w.heap.size, 1, none⟩ = some (.int .u64 (x.key : Nat)) ∧ W.cell? ⟨w.heap.size, 2, none⟩ = some (.int .u16 (x.n : Nat))) := Lib.hid (fun W hb => (c3_at ((hb.block _ hAt).trans HA.out)).1)
  clear KH
  generalize hW0 : w.alloc (.cells (act8C x) actT) = W0 at HB HA KH2 KC hAt a0 a1 a2
  have HW0 := Lib.hid hW0
  clear hW0
  rcases hR.out with ⟨rfl, e1⟩ | ⟨rfl, e1⟩ | ⟨rfl, e1⟩ | ⟨rfl, e1⟩
  all_goals
    subst e1
    clear hR
    go_enter Try.func10, Try.ntmps10
    go_upto_region 1 with fail
    rw [HW0.out]
    clear HW0
    go_region_held3 (fun w' => w'.cell? ⟨w.heap.size, 0, none⟩ = some (.int .u8 (x.kind : Nat)) ∧ w'.cell? ⟨w.heap.size, 1, none⟩ = some (.int .u64 (x.key : Nat)) ∧ w'.cell? ⟨w.heap.size, 2, none⟩ = some (.int .u16 (x.n : Nat))) (first | with_reducible exact kk5 | with_reducible exact kk6 | go_keep)
      (first
        | (go_at_call 17; refine (KH2.out _ (below_drewn (Below.refl _ _) _)).mono ?_; rintro e w5 ⟨rfl, hb5⟩; have kk5 := KC.out w5 hb5)
        | (go_at_call 31; refine (KK.out _).mono ?_; rintro e w6 ⟨rfl, hb6⟩; have hb7 := hb5.trans (hb6.mono hb5.size); have kk6 := KC.out w6 hb7))
    have HB7 := Lib.hid (HB.out.trans (hb7.mono HB.out.size))
    obtain ⟨x0, x1, x2⟩ := kk6
    clear hb7 hb5 hb6 KH2 KK KC HB HA hAt a0 a1 a2
    go_wp2_with fail
    first
      | (refine (KT.out w6 HB7.out).mono ?_; rintro e w7 ⟨rfl, hR⟩; have HR := Lib.hid hR; clear hR KT KA KD KR KS; go_wp2; first | exact HR.out | (go_ret; exact HR.out))
      | (refine (KD.out w6 HB7.out).mono ?_; rintro e w7 ⟨rfl, hR⟩; have HR := Lib.hid hR; clear hR KT KA KD KR KS; go_wp2; first | exact HR.out | (go_ret; exact HR.out))
      | (refine (KA.out w6 HB7.out).mono ?_; rintro e w7 ⟨o, rfl, hR⟩; have HR := Lib.hid hR; clear hR KT KA KD KR KS; go_wp2; first | exact HR.out | (go_ret; exact HR.out))
      | (refine (KS.out w6).mono ?_; rintro e w7 ⟨rfl, hb⟩; have HB8 := Lib.hid (HB7.out.trans (hb.mono HB7.out.size)); clear hb HB7; go_wp2_with fail; refine (KR.out w7 HB8.out).mono ?_; rintro e w8 ⟨o, rfl, hR⟩; have HR := Lib.hid hR; clear hR KT KA KD KR KS; go_wp2; first | exact HR.out | (go_ret; exact HR.out))
end
section
variable {w : World} {u1 u2 u3 u4 v1 v2 v3 v4 : Value} {s : L11}
set_option maxHeartbeats 2000000 in
set_option maxRecDepth 4000 in
theorem esame_walk (h : St11 w s u1 u2 u3 u4) (h' : St11 w s v1 v2 v3 v4) (ok : s.Ok) : Calls Try.prog 13 #[.agg (l11C s.c s.p u1 u2 u3 u4), .agg (l11C s.c s.p v1 v2 v3 v4)] w (RetB w true) := by
  obtain ⟨Fa1, na1, da1, rfl⟩ := h.form1
  obtain ⟨Fa2, na2, da2, rfl⟩ := h.form2
  obtain ⟨Fa3, na3, da3, rfl⟩ := h.form3
  obtain ⟨Fa4, na4, da4, rfl⟩ := h.form4
  obtain ⟨Fb1, nb1, db1, rfl⟩ := h'.form1
  obtain ⟨Fb2, nb2, db2, rfl⟩ := h'.form2
  obtain ⟨Fb3, nb3, db3, rfl⟩ := h'.form3
  obtain ⟨Fb4, nb4, db4, rfl⟩ := h'.form4
  have hb := low_two w (.cells (l11C s.c s.p (.slice Fa1 na1 da1) (.slice Fa2 na2 da2) (.slice Fa3 na3 da3) (.slice Fa4 na4 da4)) PT11) (.cells (l11C s.c s.p (.slice Fb1 nb1 db1) (.slice Fb2 nb2 db2) (.slice Fb3 nb3 db3) (.slice Fb4 nb4 db4)) T11)
  have H := Lib.hid (h.below hb)
  have H' := Lib.hid (h'.below hb)
  have HB := Lib.hid hb
  obtain ⟨_, ht1, ht2, ht3⟩ := two_blocks (c := (l11C s.c s.p (.slice Fa1 na1 da1) (.slice Fa2 na2 da2) (.slice Fa3 na3 da3) (.slice Fa4 na4 da4))) (t := PT11) (d := (l11C s.c s.p (.slice Fb1 nb1 db1) (.slice Fb2 nb2 db2) (.slice Fb3 nb3 db3) (.slice Fb4 nb4 db4))) (u := T11) (w := w) (Below.refl _ _)
  have HT := Lib.hid (And.intro ht2 ht3)
  clear ht1 ht2 ht3
  have hl_t1 := Lib.hid ok.len_t1
  have hl_t2 := Lib.hid ok.len_t2
  have hl_b1 := Lib.hid ok.len_b1
  have hl_b2 := Lib.hid ok.len_b2
  obtain ⟨c, p, t1, t2, b1, b2⟩ := s
  clear h h' hb ok
  go_enter Try.func13, Try.ntmps13
  go_wp2_with fail
  refine (same_walk (ks := t1) (js := t1) H.out.g1 H'.out.g1 hl_t1.out).mono ?_
  rintro e w1 ⟨rfl, hb⟩
  rw [decide_eq_true rfl]
  have H1 := Lib.hid (H.out.below hb)
  have H1' := Lib.hid (H'.out.below hb)
  have HB1 := Lib.hid (HB.out.trans (hb.mono HB.out.size))
  have HT1 := Lib.hid (And.intro ((hb.block _ (head_row HT.out.1).lt).trans HT.out.1) ((hb.block _ (head_row HT.out.2).lt).trans HT.out.2))
  clear hb HT
  obtain ⟨⟨x0, x1, x2, x3, x4, x5⟩, xf0, xf1, xf2, xf3, xf4, xf5⟩ := c6_at HT1.out.1
  obtain ⟨⟨z0, z1, z2, z3, z4, z5⟩, zf0, zf1, zf2, zf3, zf4, zf5⟩ := c6_at HT1.out.2
  go_wp2_with fail
  refine (same_walk (ks := t2) (js := t2) H1.out.g2 H1'.out.g2 hl_t2.out).mono ?_
  rintro e w2 ⟨rfl, hb⟩
  rw [decide_eq_true rfl]
  have H2 := Lib.hid (H1.out.below hb)
  have H2' := Lib.hid (H1'.out.below hb)
  have HB2 := Lib.hid (HB1.out.trans (hb.mono HB1.out.size))
  have HT2 := Lib.hid (And.intro ((hb.block _ (head_row HT1.out.1).lt).trans HT1.out.1) ((hb.block _ (head_row HT1.out.2).lt).trans HT1.out.2))
  clear hb HT1 x0 x1 x2 x3 x4 x5 xf0 xf1 xf2 xf3 xf4 xf5 z0 z1 z2 z3 z4 z5 zf0 zf1 zf2 zf3 zf4 zf5
  obtain ⟨⟨x0, x1, x2, x3, x4, x5⟩, xf0, xf1, xf2, xf3, xf4, xf5⟩ := c6_at HT2.out.1
  obtain ⟨⟨z0, z1, z2, z3, z4, z5⟩, zf0, zf1, zf2, zf3, zf4, zf5⟩ := c6_at HT2.out.2
  go_wp2_with fail
  refine (same_walk (ks := b1) (js := b1) H2.out.g3 H2'.out.g3 hl_b1.out).mono ?_
  rintro e w3 ⟨rfl, hb⟩
  rw [decide_eq_true rfl]
  have H3 := Lib.hid (H2.out.below hb)
  have H3' := Lib.hid (H2'.out.below hb)
  have HB3 := Lib.hid (HB2.out.trans (hb.mono HB2.out.size))
  have HT3 := Lib.hid (And.intro ((hb.block _ (head_row HT2.out.1).lt).trans HT2.out.1) ((hb.block _ (head_row HT2.out.2).lt).trans HT2.out.2))
  clear hb HT2 x0 x1 x2 x3 x4 x5 xf0 xf1 xf2 xf3 xf4 xf5 z0 z1 z2 z3 z4 z5 zf0 zf1 zf2 zf3 zf4 zf5
  obtain ⟨⟨x0, x1, x2, x3, x4, x5⟩, xf0, xf1, xf2, xf3, xf4, xf5⟩ := c6_at HT3.out.1
  obtain ⟨⟨z0, z1, z2, z3, z4, z5⟩, zf0, zf1, zf2, zf3, zf4, zf5⟩ := c6_at HT3.out.2
  go_wp2_with fail
  refine (same_walk (ks := b2) (js := b2) H3.out.g4 H3'.out.g4 hl_b2.out).mono ?_
  rintro e w4 ⟨rfl, hb⟩
  rw [decide_eq_true rfl]
  have H4 := Lib.hid (H3.out.below hb)
  have H4' := Lib.hid (H3'.out.below hb)
  have HB4 := Lib.hid (HB3.out.trans (hb.mono HB3.out.size))
  have HT4 := Lib.hid (And.intro ((hb.block _ (head_row HT3.out.1).lt).trans HT3.out.1) ((hb.block _ (head_row HT3.out.2).lt).trans HT3.out.2))
  clear hb HT3 x0 x1 x2 x3 x4 x5 xf0 xf1 xf2 xf3 xf4 xf5 z0 z1 z2 z3 z4 z5 zf0 zf1 zf2 zf3 zf4 zf5
  obtain ⟨⟨x0, x1, x2, x3, x4, x5⟩, xf0, xf1, xf2, xf3, xf4, xf5⟩ := c6_at HT4.out.1
  obtain ⟨⟨z0, z1, z2, z3, z4, z5⟩, zf0, zf1, zf2, zf3, zf4, zf5⟩ := c6_at HT4.out.2
  go_wp2
  go_ret
  exact ⟨rfl, HB4.out⟩
end
set_option maxHeartbeats 4000000 in
set_option maxRecDepth 4000 in
theorem awake17_walk (w : World) : Calls Try.prog 7 #[] w (RetB w true) := by
  have HN : Hid (Calls Try.prog 8 #[.int .i64 2] w fun e w' => ∃ xp, e = .returned (ptr xp) ∧ EC w w' xp ⟨2, 0, [], [], [], []⟩ 2) := Lib.hid ((enew_walk (Below.refl _ _) 2 (by decide) (by decide)).mono (fun e w' ⟨xp, he, h, _⟩ => ⟨xp, he, h.more (by decide) (by decide)⟩))
  go_enter Try.func7, Try.ntmps7
  go_wp2_with fail
  refine HN.out.mono ?_
  rintro e w1 ⟨xp, rfl, h⟩
  have H1 := Lib.hid h
  clear h HN
  go_wp2_with fail
  refine (eadmit_walk H1.out (by decide) 1 (by decide)).mono ?_
  rintro e w2 ⟨o, rfl, h, ho⟩
  have h' : EC w w2 xp ⟨2, 0, [1], [], [], []⟩ 2 := h.1
  have H2 := Lib.hid h'
  clear h ho h' H1
  go_wp2_with fail
  refine (eadmit_walk H2.out (by decide) 2 (by decide)).mono ?_
  rintro e w3 ⟨o, rfl, h, ho⟩
  have h' : EC w w3 xp ⟨2, 0, [2, 1], [], [], []⟩ 2 := h.1
  have H3 := Lib.hid h'
  clear h ho h' H2
  go_wp2_with fail
  refine (etouch_walk H3.out 1 (by decide)).mono ?_
  rintro e w3b ⟨rfl, h⟩
  have h' : EC w w3b xp ⟨2, 0, [2], [1], [], []⟩ 2 := h.1
  have H3b := Lib.hid h'
  clear h h' H3
  go_wp2_with fail
  refine (eadmit_walk H3b.out (by decide) 3 (by decide)).mono ?_
  rintro e w4 ⟨o, rfl, h, ho⟩
  have h' : EC w w4 xp ⟨2, 0, [3], [1], [2], []⟩ 2 := h.1
  have ho' : KV w4 o [2] := ho
  obtain ⟨Fb, db, rfl, _⟩ := ho'.mem
  have H4 := Lib.hid h'
  have HO4 := Lib.hid ho'
  clear h ho h' ho' H3b
  have HB := Lib.hid (eadmit_walk H4.out (by decide) 2 (by decide))
  go_wp2_with fail
  refine HB.out.mono ?_
  rintro e w5 ⟨o, rfl, h, ho⟩
  have h' : EC w w5 xp ⟨2, 1, [3], [2], [], [1]⟩ 2 := h.1
  have ho' : KV w5 o [1] := ho
  obtain ⟨Fc, dc, rfl, _⟩ := ho'.mem
  have H5 := Lib.hid h'
  have HO5 := Lib.hid (And.intro (HO4.out.kn h.2) ho')
  clear h ho h' ho' H4 HB HO4
  go_wp2_with fail
  have HL5 := Lib.hid (KV.one w5 2)
  have hl5 := low_one w5 (.cells #[.int .u64 2] 31)
  have HO6 := Lib.hid (And.intro (HO5.out.1.below hl5) (HO5.out.2.below hl5))
  have H6 := Lib.hid (H5.out.still hl5)
  clear hl5 HO5 H5
  refine (same_walk (js := [2]) HO6.out.1 HL5.out (by simp)).mono ?_
  rintro e w6 ⟨rfl, hb⟩
  rw [decide_eq_true rfl]
  have H7 := Lib.hid (H6.out.still hb)
  have HO7 := Lib.hid (HO6.out.2.below hb)
  clear hb HO6 H6 HL5
  go_wp2_with fail
  have HL7 := Lib.hid (KV.one w6 1)
  have hl7 := low_one w6 (.cells #[.int .u64 1] 31)
  have HO8 := Lib.hid (HO7.out.below hl7)
  have H8 := Lib.hid (H7.out.still hl7)
  clear hl7 HO7 H7
  refine (same_walk (js := [1]) HO8.out HL7.out (by simp)).mono ?_
  rintro e w8 ⟨rfl, hb⟩
  rw [decide_eq_true rfl]
  have H9 := Lib.hid (H8.out.still hb)
  clear hb HO8 H8 HL7
  go_wp2_with fail
  refine (estate_walk H9.out).mono ?_
  rintro e w8b ⟨u1, u2, u3, u4, rfl, hb, hs⟩
  have H9b := Lib.hid (H9.out.still hb)
  have hfld : ∀ w : World, (Instr.field PT11 (.agg (l11C 2 1 u1 u2 u3 u4)) 1).run Try.prog w = .ok (.int .i64 1) w := fun _ => by kernel_rfl
  clear hb H9 hs
  go_wp2_with fail
  refine (ehas_walk H9b.out 3 (by decide)).mono ?_
  rintro e w9 ⟨rfl, hb⟩
  rw [decide_eq_true (show 3 ∈ L11.keys ⟨2, 1, [3], [2], [], [1]⟩ by decide)]
  have HA := Lib.hid (H9b.out.still hb)
  clear hb H9b hfld
  go_wp2_with fail
  refine (ehas_walk HA.out 1 (by decide)).mono ?_
  rintro e wa ⟨rfl, hb⟩
  rw [decide_eq_false (show 1 ∉ L11.keys ⟨2, 1, [3], [2], [], [1]⟩ by decide)]
  have HB := Lib.hid (HA.out.still hb)
  clear hb HA
  go_wp2_with fail
  refine (eghosts_walk HB.out).mono ?_
  rintro e wb ⟨he, hb⟩
  have he' : e = .returned (.int .i64 1) := he
  subst he'
  have HE := Lib.hid (HB.out.still hb)
  clear hb HB he
  go_wp2_with fail
  refine (ekeys_walk HE.out).mono ?_
  rintro e we ⟨v, rfl, hb, hv⟩
  have hv' : KV we v [3, 2] := hv
  obtain ⟨F4, d4, rfl, _⟩ := hv'.mem
  have HF := Lib.hid (HE.out.still hb)
  have HV := Lib.hid hv'
  clear hb hv hv' HE
  go_wp2_with fail
  have HLe := Lib.hid (KV.lit (w := we) [3, 2] (by decide))
  have hle := low_one we (.cells #[.int .u64 3, .int .u64 2] 31)
  have HVe := Lib.hid (HV.out.below hle)
  have HFe := Lib.hid (HF.out.still hle)
  clear hle HV HF
  refine (same_walk (js := [3, 2]) HVe.out HLe.out (by simp)).mono ?_
  rintro e wf ⟨rfl, hb⟩
  rw [decide_eq_true rfl]
  have HC := Lib.hid (HFe.out.still hb).below
  clear hb HVe HFe HLe
  go_wp2
  go_ret
  exact ⟨rfl, HC.out⟩
end Go.Proofs.Ytgkblelgcikafaa
