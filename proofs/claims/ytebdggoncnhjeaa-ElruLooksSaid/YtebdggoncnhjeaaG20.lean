/- Words and walks: ErX ErY ErD ErK ErU. -/
import Derived.Test.YtebdggoncnhjeaaG1
import Derived.Test.YtebdggoncnhjeaaG18
import Derived.Test.YtebdggoncnhjeaaG19
import Derived.Deep.RegionWith
namespace Go.Proofs.Ytebdggoncnhjeaa
open Go Go.RowKit Go.Deep
section
variable {w0 w w' : World} {xp top : Nat} {s : L8}
def EPo (w0 w : World) (xp : Nat) (s : L8) (top : Nat) (out : List Nat) (e : Ending) (w' : World) : Prop := ∃ o, e = .returned o ∧ EP w0 w xp s top w' ∧ KV w' o out
set_option maxHeartbeats 4000000 in
theorem eadmit_walk (h : EC w0 w xp s top) (hc : s.c ≤ top) (k : Nat) (h64 : k < 18446744073709551616) :
    Calls Try.prog 37 #[ptr xp, .int .u64 (k : Nat)] w (EPo w0 w xp (s.adm k) top (s.admitOut k)) := by
  have HH := Lib.hid (ehas_walk h k h64)
  by_cases hk : k ∈ s.l
  · have e1 : s.adm k = s := by unfold L8.adm; rw [if_pos hk]
    have e2 : s.admitOut k = [] := by unfold L8.admitOut; rw [if_pos hk]
    have e3 : decide (k ∈ s.keys) = true := decide_eq_true hk
    rw [e1, e2]
    rw [e3] at HH
    have H := Lib.hid h
    clear h hk e1 e2 e3
    go_enter Try.func37, Try.ntmps37
    go_wp2_with fail
    refine HH.out.mono ?_
    rintro e w1 ⟨rfl, hb⟩
    have HF : Hid (EPo w0 w xp s top [] (.returned (.slice none 0 0)) w1) := Lib.hid ⟨_, rfl, ⟨H.out.still hb, Kn.below hb⟩, KV.nil _⟩
    clear hb
    go_wp2
    go_ret
    exact HF.out
  · have e3 : decide (k ∈ s.keys) = false := decide_eq_false hk
    rw [e3] at HH
    obtain ⟨sp, h1, h2⟩ := h.open
    have hpos := h.ok.pos
    have hcap := h.ok.cap
    have HO : Hid (∀ W, Below w.heap.size w W → Calls Try.prog 46 #[ptr xp] W fun e w' => e = .returned (.agg (cacheC sp s.c)) ∧ Below w.heap.size w w') := Lib.hid (fun W hb => (eopen_walk ((hb.block xp h.lt).trans h1)).mono (fun e w' ⟨he, hb'⟩ => ⟨he, hb.trans (hb'.mono hb.size)⟩))
    have HEV : Hid (∀ W, Below w.heap.size w W → Calls Try.prog 58 #[.agg (cacheC sp s.c), .int .i64 ((s.c : Int) - 1)] W fun e w' => ∃ o, e = .returned o ∧ SK w0 w' sp (s.l.take (s.c - 1)) top [xp] ∧ w'.heap[xp]? = some (.cells (cacheC sp s.c) CaT (0, 0)) ∧ Kn W w' ∧ KV w' o (s.l.drop (s.c - 1)).reverse) := Lib.hid (fun W hb => by
      have hx := (hb.block xp h.lt).trans h1
      refine (eevict_walk (h2.still hb) (fun q hq => ?_) h.small s.c _ (s.c - 1) (by omega) (by omega) (by omega)).mono ?_
      · simp only [List.mem_singleton] at hq
        rw [hq]
        exact (head_row hx).lt
      · rintro e w' ⟨o, rfl, g1, g2, g3, g4⟩
        exact ⟨o, rfl, g1, (g2 xp (by simp)).trans hx, g3, g4.kv⟩)
    have HPU : Hid (∀ W, SK w0 W sp (s.l.take (s.c - 1)) top [xp] → w.heap.size ≤ W.heap.size → W.heap[xp]? = some (.cells (cacheC sp s.c) CaT (0, 0)) → Kn w W → ∀ o, KV W o (s.l.drop (s.c - 1)).reverse → Calls Try.prog 59 #[ptr sp, .int .i64 0, .int .u64 (k : Nat)] W fun e w' => e = .returned (.bool true) ∧ EPo w0 w xp (s.adm k) top (s.admitOut k) (.returned o) w') := Lib.hid (fun W hs hz hx hn o ho => by
      have hkt : k ∉ s.l.take (s.c - 1) := fun q => hk (List.mem_of_mem_take q)
      refine (k_push hs h.small k h64 hkt (Nat.le_refl top) (by rw [List.length_take]; omega)).mono ?_
      rintro e w' ⟨rfl, g1, g2, g3⟩
      refine ⟨rfl, o, rfl, ⟨EC.make (h.ok.adm k h64) h.small h.ge (sp := sp) ?_ ?_, hn.trans g3⟩, ?_⟩
      · have e : (s.adm k).c = s.c := by unfold L8.adm; rw [if_neg hk]
        rw [e]
        exact (g2 xp (by simp)).trans hx
      · have e : (s.adm k).l = k :: s.l.take (s.c - 1) := by
          unfold L8.adm
          rw [if_neg hk]
          show fr k (s.l.take (s.c - 1)) = _
          unfold fr
          rw [wo_none8 hkt]
        rw [e]
        exact g1
      · have e : s.admitOut k = (s.l.drop (s.c - 1)).reverse := by unfold L8.admitOut; rw [if_neg hk]
        rw [e]
        exact ho.kn g3)
    generalize EPo w0 w xp (s.adm k) top (s.admitOut k) = R at HPU ⊢
    generalize (s.l.drop (s.c - 1)).reverse = out at HEV HPU
    generalize s.l.take (s.c - 1) = l1 at HEV HPU
    obtain ⟨c, hcc⟩ : ∃ c, s.c = c := ⟨_, rfl⟩
    rw [hcc] at HO HEV HPU hpos hcap
    clear h hk e3 h1 h2 hc hcc
    go_enter Try.func37, Try.ntmps37
    go_wp2_with fail
    refine HH.out.mono ?_
    rintro e w1 ⟨rfl, hb1⟩
    go_wp2_with fail
    refine (HO.out w1 hb1).mono ?_
    rintro e w2 ⟨rfl, hb2⟩
    have HB3 := Lib.hid (hb2.alloc hb2.size (.cells (cacheC sp c) paT))
    have hbox := heap_alloc_new w2 (.cells (cacheC sp c) paT)
    have HX := Lib.hid hbox
    have hz2 := hb2.size
    clear hb1 hb2 hbox
    go_wp2_with fail
    refine (HEV.out _ HB3.out).mono ?_
    rintro e w4 ⟨o, rfl, hs, hx, hn, ho⟩
    have hbx := (hn w2.heap.size (NP.cells HX.out (by decide))).trans HX.out
    have hlt := (head_row hbx).lt
    have HP := Lib.hid (HPU.out w4 hs (by omega) hx ((Kn.below HB3.out).trans hn) o ho)
    obtain ⟨⟨c0, c1⟩, _⟩ := c2_at hbx
    clear hs hx hn ho hbx HEV HPU HX HB3 HO HH
    go_wp2_with fail
    refine HP.out.mono ?_
    rintro e w5 ⟨rfl, hR⟩
    have HR := Lib.hid hR
    clear hR HP
    go_wp2
    exact HR.out
set_option maxHeartbeats 4000000 in
theorem eresize_walk (h : EC w0 w xp s top) (n : Int) (hn1 : -9223372036854775808 ≤ n) (hn2 : n ≤ 9223372036854775807) :
    Calls Try.prog 38 #[ptr xp, .int .i64 n] w (EPo w0 w xp (s.resize n) top (s.resizeOut n)) := by
  obtain ⟨sp, h1, h2⟩ := h.open
  have HB := Lib.hid (ebounded_walk (w := w) n hn1 hn2)
  have hcp := capI_pos n
  obtain ⟨c, hcc⟩ : ∃ c, capI n = c := ⟨_, rfl⟩
  have HE : Hid (s.resize n = ⟨c, s.l.take c⟩ ∧ s.resizeOut n = (s.l.drop c).reverse) := Lib.hid ⟨by rw [← hcc]; rfl, by rw [← hcc]; rfl⟩
  have hok := h.ok.resize n
  rw [HE.out.1] at hok
  rw [HE.out.1, HE.out.2]
  rw [hcc] at HB hcp
  have hx := h.lt
  have HEV : Hid (∀ W, W = w.setCell ⟨xp, 1, none⟩ (.int .i64 (c : Nat)) → ∀ W2, Below W.heap.size W W2 → Calls Try.prog 58 #[.agg (cacheC sp c), .int .i64 (c : Nat)] W2 fun e w' => ∃ o, e = .returned o ∧ EPo w0 w xp ⟨c, s.l.take c⟩ top (s.l.drop c).reverse (.returned o) w' ∧ (w'.cell? ⟨xp, 0, none⟩ = some (ptr sp) ∧ w'.cell? ⟨xp, 1, none⟩ = some (.int .i64 (c : Nat)))) := Lib.hid (fun W hW W2 hb => by
    subst hW
    have hset := set_one (i := 1) (v := .int .i64 (c : Nat)) h1
    have ho : Only [xp] w (w.setCell ⟨xp, 1, none⟩ (.int .i64 (c : Nat))) := (Only.refl _ _).setCell (by simp) _
    have hs : SK w0 (w.setCell ⟨xp, 1, none⟩ (.int .i64 (c : Nat))) sp s.l top [xp] := h2.styK (h2.below.trans (ho.below (by simp; exact h.ge) h2.below.size)) (fun g hg hn => ho.block g hg.lt hn) ho.size
    have hx2 := (hb.block xp (head_row hset).lt).trans hset
    have hk : Kn w (w.setCell ⟨xp, 1, none⟩ (.int .i64 (c : Nat))) := fun g hg => ho.block g hg.lt (fun q => by
      simp only [List.mem_singleton] at q
      subst q
      exact h.styB.not hg)
    refine (eevict_walk (hs.still hb) (fun q hq => ?_) h.small c _ c (by omega) (by omega) (by omega)).mono ?_
    · simp only [List.mem_singleton] at hq
      rw [hq]
      exact (head_row hx2).lt
    · rintro e w' ⟨o, rfl, g1, g2, g3, g4⟩
      exact ⟨o, rfl, ⟨o, rfl, ⟨EC.make hok h.small h.ge (sp := sp) ((g2 xp (by simp)).trans hx2) g1, (hk.trans (Kn.below hb)).trans g3⟩, g4.kv⟩, (c2_at ((g2 xp (by simp)).trans hx2)).1⟩)
  obtain ⟨⟨c0, c1⟩, f0, f1⟩ := c2_at h1
  generalize EPo w0 w xp ⟨c, s.l.take c⟩ top (s.l.drop c).reverse = R at HEV ⊢
  generalize s.c = cs at c1 h1
  have HX1 := Lib.hid h1
  clear h h1 h2 hcc HE hok
  go_enter Try.func38, Try.ntmps38
  go_wp2_with fail
  refine HB.out.mono ?_
  rintro e w1 ⟨rfl, rfl⟩
  go_upto_region 4 with fail
  have hW : Hid (∀ W2, Below (w.setCell ⟨xp, 1, none⟩ (.int .i64 (c : Nat))).heap.size (w.setCell ⟨xp, 1, none⟩ (.int .i64 (c : Nat))) W2 → Calls Try.prog 58 #[.agg (cacheC sp c), .int .i64 (c : Nat)] W2 fun e w' => ∃ o, e = .returned o ∧ R (.returned o) w' ∧ (w'.cell? ⟨xp, 0, none⟩ = some (ptr sp) ∧ w'.cell? ⟨xp, 1, none⟩ = some (.int .i64 (c : Nat)))) := Lib.hid (HEV.out _ rfl)
  have hs := set_one (i := 1) (v := .int .i64 (c : Nat)) HX1.out
  obtain ⟨⟨d0, d1⟩, _⟩ := c2_at hs
  have hxs := (head_row hs).lt
  clear HEV HX1 hs c0 c1 f0 f1 HB
  generalize w.setCell ⟨xp, 1, none⟩ (.int .i64 (c : Nat)) = W at hW d0 d1 hxs ⊢
  go_region_held3 (fun w' => w'.cell? ⟨xp, 0, none⟩ = some (ptr sp) ∧ w'.cell? ⟨xp, 1, none⟩ = some (.int .i64 (c : Nat))) (first | with_reducible exact kk5 | go_keep)
    (first
      | (go_at_call 58; refine (hW.out _ (below_drewn (Below.refl _ _) _)).mono ?_; rintro e w5 ⟨o5, rfl, hR, kk5⟩; have HR := Lib.hid hR; clear hR))
  all_goals
    go_wp2
    exact HR.out
end
section
variable {w0 w w' : World} {xp top : Nat} {s : L8}
set_option maxHeartbeats 4000000 in
theorem estate_walk (h : EC w0 w xp s top) :
    Calls Try.prog 15 #[ptr xp] w (P8 w s) := by
  obtain ⟨sp, h1, h2⟩ := h.open
  have hlow := low_one w (.cells z8 PT8)
  have HR0 := Lib.hid (heap_alloc_new w (.cells z8 PT8))
  have HL0 := Lib.hid hlow
  have HO : Hid (∀ W, Below w.heap.size w W → Calls Try.prog 46 #[ptr xp] W fun e w' => e = .returned (.agg (cacheC sp s.c)) ∧ Below W.heap.size W w') := Lib.hid (fun W hb => eopen_walk ((hb.block xp h.lt).trans h1))
  have HM : Hid (∀ W, Below w.heap.size w W → Calls Try.prog 47 #[ptr sp, .int .i64 0] W fun e w' => ∃ F n d, e = .returned (.slice F n d) ∧ Below W.heap.size W w' ∧ KV w' (.slice F n d) s.l) := Lib.hid (fun W hb => by
    refine (k_keys (h2.still hb) h.small).mono ?_
    rintro e w' ⟨v, rfl, g1, g2⟩
    obtain ⟨F, n, d, rfl⟩ := g2.kv.form
    exact ⟨F, n, d, rfl, g1, g2.kv⟩)
  obtain ⟨c, l⟩ := s
  clear h h1 h2 hlow
  go_enter Try.func15, Try.ntmps15
  go_wp2_with fail
  refine (HO.out _ HL0.out).mono ?_
  rintro e w1 ⟨rfl, hb1⟩
  have hl1 := HL0.out.trans (hb1.mono HL0.out.size)
  have hr1 := (hb1.block w.heap.size (by simp)).trans HR0.out
  have hlt := (head_row hr1).lt
  have hz := hl1.size
  have hb2 := low_one w1 (.cells (cacheC sp c) paT)
  have HB2 := Lib.hid (hl1.trans (hb2.mono hz))
  have HX2 := Lib.hid (heap_alloc_new w1 (.cells (cacheC sp c) paT))
  have HR2 := Lib.hid ((hb2.block w.heap.size hlt).trans hr1)
  clear hb1 hl1 hr1 hb2 HR0 HL0 HO
  go_upto_region 2 with fail
  generalize hW : w1.alloc (.cells (cacheC sp c) paT) = X at HB2 HX2 HR2 ⊢
  clear hW
  have hne : w.heap.size ≠ w1.heap.size := by omega
  generalize w1.heap.size = bx at HX2 hlt hne ⊢
  clear hz
  obtain ⟨⟨c0, c1⟩, _⟩ := c2_at HX2.out
  obtain ⟨⟨r0, r1⟩, rf0, rf1⟩ := c2_at HR2.out
  have hbx := (head_row HX2.out).lt
  have HK : Hid (∀ W, Below X.heap.size X W → Calls Try.prog 47 #[ptr sp, .int .i64 0] W fun e w' => ∃ F n d, e = .returned (.slice F n d) ∧ Below X.heap.size X w' ∧ KV w' (.slice F n d) l ∧ (w'.cell? ⟨bx, 0, none⟩ = some (ptr sp) ∧ w'.cell? ⟨bx, 1, none⟩ = some (.int .i64 (c : Nat))) ∧ w'.heap[w.heap.size]? = some (.cells z8 PT8 (0, 0))) := Lib.hid (fun W hb => by
    refine (HM.out W (HB2.out.trans (hb.mono HB2.out.size))).mono ?_
    rintro e w' ⟨F, n, d, rfl, hb', hv⟩
    have hb2 := hb.trans (hb'.mono hb.size)
    exact ⟨F, n, d, rfl, hb2, hv, (c2_at ((hb2.block bx hbx).trans HX2.out)).1, (hb2.block _ (Nat.lt_trans hlt hbx)).trans HR2.out⟩)
  go_region_held3 (fun w' => w'.cell? ⟨bx, 0, none⟩ = some (ptr sp) ∧ w'.cell? ⟨bx, 1, none⟩ = some (.int .i64 (c : Nat))) (first | with_reducible exact kk5 | go_keep)
    (first
      | (go_at_call 47; refine (HK.out _ (below_drewn (Below.refl _ _) _)).mono ?_; rintro e w5 ⟨F5, n5, d5, rfl, hb5, hv5, kk5, hr5⟩; obtain ⟨⟨y0, y1⟩, yf0, yf1⟩ := c2_at hr5; have HV5 := Lib.hid hv5; have HB5 := Lib.hid hb5; have HR5 := Lib.hid hr5; clear hv5 hb5 hr5))
  all_goals
    go_wp2_with fail
    have HO : Hid (Only [w.heap.size] w5 ((w5.setCell ⟨w.heap.size, 0, none⟩ (.int .i64 (c : Nat))).setCell ⟨w.heap.size, 1, none⟩ (.slice F5 n5 d5))) := Lib.hid (((Only.refl _ _).setCell (by simp) _).setCell (by simp) _)
    have HF := Lib.hid (HB2.out.trans (HB5.out.mono HB2.out.size))
    exact bodyPost_ret (v := .agg (l8C c (.slice F5 n5 d5))) (by simp [results, Try.results15, go_sem, y0, y1]) rfl ⟨_, rfl, HF.out.trans (HO.out.below (by simp) HF.out.size), ⟨HV5.out.only HO.out (fun g hg => by
      simp only [List.mem_singleton] at hg
      subst hg
      exact ⟨_, _, HR5.out, rfl, by decide⟩)⟩⟩
end
abbrev actT : TypeId := 34
section
variable {w0 w : World} {xp top : Nat} {s : L8}
set_option maxHeartbeats 8000000 in
set_option maxRecDepth 4000 in
theorem edo_walk (h : EC w0 w xp s top) (hct : s.c ≤ top) (x : Act8) (wf : x.Ok) : Calls Try.prog 11 #[ptr xp, .agg (act8C x)] w (EPo w0 w xp (s.act x) top (s.actOut x)) := by
  have hlow := low_one w (.cells (act8C x) actT)
  have HA := Lib.hid (heap_alloc_new w (.cells (act8C x) actT))
  have HB := Lib.hid hlow
  have hc := L8.act_cases s x
  have hz := sizeA_is x
  obtain ⟨q, hq⟩ : ∃ q, kindA x (decide (x.key ∈ s.keys)) = q := ⟨_, rfl⟩
  have KH : Hid (∀ W, Below w.heap.size w W → Calls Try.prog 18 #[ptr xp, .int .u64 (x.key : Nat)] W (RetB W (decide (x.key ∈ s.keys)))) := Lib.hid (fun W hb => ehas_walk (h.still hb) x.key wf.key)
  have KK : Hid (∀ W, Calls Try.prog 23 #[.agg (act8C x), .bool (decide (x.key ∈ s.keys))] W fun e w' => e = .returned (.int .i64 (q : Nat)) ∧ Below W.heap.size W w') := Lib.hid (fun W => by rw [← hq]; exact rkind_walk x wf _)
  have KS : Hid (∀ W, Calls Try.prog 29 #[.agg (act8C x)] W fun e w' => e = .returned (.int .i64 (sizeA x : Nat)) ∧ Below W.heap.size W w') := Lib.hid (fun W => rsize_walk x wf)
  have KT : Hid (∀ W, Below w.heap.size w W → Calls Try.prog 35 #[ptr xp, .int .u64 (x.key : Nat)] W fun e w' => e = .returned (.tuple #[]) ∧ EPo w0 w xp (s.touch x.key) top [] (.returned (.slice none 0 0)) w') := Lib.hid (fun W hb => (etouch_walk (h.still hb) x.key wf.key).mono (fun e w' ⟨he, g1, g2⟩ => ⟨he, _, rfl, ⟨g1, (Kn.below hb).trans g2⟩, KV.nil _⟩))
  have KD : Hid (∀ W, Below w.heap.size w W → Calls Try.prog 36 #[ptr xp, .int .u64 (x.key : Nat)] W fun e w' => e = .returned (.tuple #[]) ∧ EPo w0 w xp (s.drop x.key) top [] (.returned (.slice none 0 0)) w') := Lib.hid (fun W hb => (edrop_walk (h.still hb) x.key wf.key).mono (fun e w' ⟨he, g1, g2⟩ => ⟨he, _, rfl, ⟨g1, (Kn.below hb).trans g2⟩, KV.nil _⟩))
  have KA : Hid (∀ W, Below w.heap.size w W → Calls Try.prog 37 #[ptr xp, .int .u64 (x.key : Nat)] W fun e w' => ∃ o, e = .returned o ∧ EPo w0 w xp (s.adm x.key) top (s.admitOut x.key) (.returned o) w') := Lib.hid (fun W hb => (eadmit_walk (h.still hb) hct x.key wf.key).mono (fun e w' ⟨o, he, ⟨g1, g2⟩, g3⟩ => ⟨o, he, o, rfl, ⟨g1, (Kn.below hb).trans g2⟩, g3⟩))
  have KR : Hid (∀ W, Below w.heap.size w W → Calls Try.prog 38 #[ptr xp, .int .i64 (sizeA x : Nat)] W fun e w' => ∃ o, e = .returned o ∧ EPo w0 w xp (s.resize (sizeA x : Nat)) top (s.resizeOut (sizeA x : Nat)) (.returned o) w') := Lib.hid (fun W hb => (eresize_walk (h.still hb) _ (by omega) (by omega)).mono (fun e w' ⟨o, he, ⟨g1, g2⟩, g3⟩ => ⟨o, he, o, rfl, ⟨g1, (Kn.below hb).trans g2⟩, g3⟩))
  rw [hq] at hc
  generalize decide (x.key ∈ s.keys) = bb at KH KK hq
  generalize sizeA x = z at KS KR hz hc
  have hR : Hid (q = 1 ∧ EPo w0 w xp (s.act x) top (s.actOut x) = EPo w0 w xp (s.touch x.key) top [] ∨ q = 2 ∧ EPo w0 w xp (s.act x) top (s.actOut x) = EPo w0 w xp (s.adm x.key) top (s.admitOut x.key) ∨ q = 3 ∧ EPo w0 w xp (s.act x) top (s.actOut x) = EPo w0 w xp (s.drop x.key) top [] ∨ q = 4 ∧ EPo w0 w xp (s.act x) top (s.actOut x) = EPo w0 w xp (s.resize z) top (s.resizeOut z)) := Lib.hid (by
    rcases hc with ⟨h1, e1, e2⟩ | ⟨h1, e1, e2⟩ | ⟨h1, e1, e2⟩ | ⟨h1, e1, e2⟩
    · exact .inl ⟨h1, by rw [e1, e2]⟩
    · exact .inr (.inl ⟨h1, by rw [e1, e2]⟩)
    · exact .inr (.inr (.inl ⟨h1, by rw [e1, e2]⟩))
    · exact .inr (.inr (.inr ⟨h1, by rw [e1, e2]⟩)))
  generalize EPo w0 w xp (s.act x) top (s.actOut x) = R at hR ⊢
  generalize EPo w0 w xp (s.touch x.key) top [] = RT at hR KT
  generalize EPo w0 w xp (s.adm x.key) top (s.admitOut x.key) = RA at hR KA
  generalize EPo w0 w xp (s.drop x.key) top [] = RD at hR KD
  generalize EPo w0 w xp (s.resize z) top (s.resizeOut z) = RR at hR KR
  clear hq hc hlow h hct hz wf
  obtain ⟨⟨a0, a1, a2⟩, _⟩ := c3_at HA.out
  have hAt := (head_row HA.out).lt
  have KH2 : Hid (∀ W, Below (w.alloc (.cells (act8C x) actT)).heap.size (w.alloc (.cells (act8C x) actT)) W → Calls Try.prog 18 #[ptr xp, .int .u64 (x.key : Nat)] W fun e w' => e = .returned (.bool bb) ∧ Below (w.alloc (.cells (act8C x) actT)).heap.size (w.alloc (.cells (act8C x) actT)) w') := Lib.hid (fun W hb => (KH.out W (HB.out.trans (hb.mono HB.out.size))).mono (fun e w' ⟨he, hb'⟩ => ⟨he, hb.trans (hb'.mono hb.size)⟩))
  have KC : Hid (∀ W, Below (w.alloc (.cells (act8C x) actT)).heap.size (w.alloc (.cells (act8C x) actT)) W → W.cell? ⟨w.heap.size, 0, none⟩ = some (.int .u8 (x.kind : Nat)) ∧ W.cell? ⟨w.heap.size, 1, none⟩ = some (.int .u64 (x.key : Nat)) ∧ W.cell? ⟨w.heap.size, 2, none⟩ = some (.int .u16 (x.n : Nat))) := Lib.hid (fun W hb => (c3_at ((hb.block _ hAt).trans HA.out)).1)
  clear KH
  generalize hW0 : w.alloc (.cells (act8C x) actT) = W0 at HB HA KH2 KC hAt a0 a1 a2
  have HW0 := Lib.hid hW0
  clear hW0
  rcases hR.out with ⟨rfl, e1⟩ | ⟨rfl, e1⟩ | ⟨rfl, e1⟩ | ⟨rfl, e1⟩
  all_goals
    subst e1
    clear hR
    go_enter Try.func11, Try.ntmps11
    go_upto_region 1 with fail
    rw [HW0.out]
    clear HW0
    go_region_held3 (fun w' => w'.cell? ⟨w.heap.size, 0, none⟩ = some (.int .u8 (x.kind : Nat)) ∧ w'.cell? ⟨w.heap.size, 1, none⟩ = some (.int .u64 (x.key : Nat)) ∧ w'.cell? ⟨w.heap.size, 2, none⟩ = some (.int .u16 (x.n : Nat))) (first | with_reducible exact kk5 | with_reducible exact kk6 | go_keep)
      (first
        | (go_at_call 18; refine (KH2.out _ (below_drewn (Below.refl _ _) _)).mono ?_; rintro e w5 ⟨rfl, hb5⟩; have kk5 := KC.out w5 hb5)
        | (go_at_call 23; refine (KK.out _).mono ?_; rintro e w6 ⟨rfl, hb6⟩; have hb7 := hb5.trans (hb6.mono hb5.size); have kk6 := KC.out w6 hb7))
    have HB7 := Lib.hid (HB.out.trans (hb7.mono HB.out.size))
    obtain ⟨x0, x1, x2⟩ := kk6
    clear hb7 hb5 hb6 KH2 KK KC HB HA hAt a0 a1 a2
    go_wp2_with fail
    first
      | (refine (KT.out w6 HB7.out).mono ?_; rintro e w7 ⟨rfl, hR⟩; have HR := Lib.hid hR; clear hR KT KA KD KR KS; go_wp2; first | exact HR.out | (go_ret; exact HR.out))
      | (refine (KD.out w6 HB7.out).mono ?_; rintro e w7 ⟨rfl, hR⟩; have HR := Lib.hid hR; clear hR KT KA KD KR KS; go_wp2; first | exact HR.out | (go_ret; exact HR.out))
      | (refine (KA.out w6 HB7.out).mono ?_; rintro e w7 ⟨o, rfl, hR⟩; have HR := Lib.hid hR; clear hR KT KA KD KR KS; go_wp2; first | exact HR.out | (go_ret; exact HR.out))
      | (refine (KS.out w6).mono ?_; rintro e w7 ⟨rfl, hb⟩; have HB8 := Lib.hid (HB7.out.trans (hb.mono HB7.out.size)); clear hb HB7; go_wp2_with fail; refine (KR.out w7 HB8.out).mono ?_; rintro e w8 ⟨o, rfl, hR⟩; have HR := Lib.hid hR; clear hR KT KA KD KR KS; go_wp2; first | exact HR.out | (go_ret; exact HR.out))
end
section
variable {w : World} {u1 v1 : Value} {s : L8}
set_option maxHeartbeats 2000000 in
set_option maxRecDepth 4000 in
theorem esame_walk (h : St8 w s u1) (h' : St8 w s v1) (ok : s.Ok) : Calls Try.prog 14 #[.agg (l8C s.c u1), .agg (l8C s.c v1)] w (RetB w true) := by
  obtain ⟨Fa1, na1, da1, rfl⟩ := h.form1
  obtain ⟨Fb1, nb1, db1, rfl⟩ := h'.form1
  have hb := low_two w (.cells (l8C s.c (.slice Fa1 na1 da1)) PT8) (.cells (l8C s.c (.slice Fb1 nb1 db1)) T8)
  have H := Lib.hid (h.below hb)
  have H' := Lib.hid (h'.below hb)
  have HB := Lib.hid hb
  have hl_l := Lib.hid ok.len_l
  obtain ⟨c, l⟩ := s
  clear h h' hb ok
  go_enter Try.func14, Try.ntmps14
  go_wp2_with fail
  refine (same_walk (ks := l) (js := l) H.out.g1 H'.out.g1 hl_l.out).mono ?_
  rintro e w1 ⟨rfl, hb⟩
  rw [decide_eq_true rfl]
  have H1 := Lib.hid (H.out.below hb)
  have H1' := Lib.hid (H'.out.below hb)
  have HB1 := Lib.hid (HB.out.trans (hb.mono HB.out.size))
  clear hb
  go_wp2
  go_ret
  exact ⟨rfl, HB1.out⟩
end
set_option maxHeartbeats 4000000 in
set_option maxRecDepth 4000 in
theorem awake14_walk (w : World) : Calls Try.prog 8 #[] w (RetB w true) := by
  have HN : Hid (Calls Try.prog 9 #[.int .i64 1] w fun e w' => ∃ xp, e = .returned (ptr xp) ∧ EC w w' xp ⟨1, []⟩ 1) := Lib.hid ((enew_walk (Below.refl _ _) 1 (by decide) (by decide)).mono (fun e w' ⟨xp, he, h, _⟩ => ⟨xp, he, h.more (by decide) (by decide)⟩))
  go_enter Try.func8, Try.ntmps8
  go_wp2_with fail
  refine HN.out.mono ?_
  rintro e w1 ⟨xp, rfl, h⟩
  have H1 := Lib.hid h
  clear h HN
  go_wp2_with fail
  refine (eadmit_walk H1.out (by decide) 1 (by decide)).mono ?_
  rintro e w2 ⟨o, rfl, h, ho⟩
  have h' : EC w w2 xp ⟨1, [1]⟩ 1 := h.1
  have ho' : KV w2 o [] := ho
  obtain ⟨F1, d1, rfl, _⟩ := ho'.mem
  have H2 := Lib.hid h'
  clear h ho h' ho' H1
  go_wp2_with fail
  refine (eadmit_walk H2.out (by decide) 2 (by decide)).mono ?_
  rintro e w3 ⟨o, rfl, h, ho⟩
  have h' : EC w w3 xp ⟨1, [2]⟩ 1 := h.1
  have ho' : KV w3 o [1] := ho
  obtain ⟨F2, d2, rfl, _⟩ := ho'.mem
  have H3 := Lib.hid h'
  have HO := Lib.hid ho'
  clear h ho h' ho' H2
  go_wp2_with fail
  refine (erooms_walk H3.out).mono ?_
  rintro e w4 ⟨a, b, rfl, hb, _, _, ha, hbb, ha8, hb8⟩
  obtain rfl := ha8.small (by omega)
  obtain rfl := hb8.small (by omega)
  have H4 := Lib.hid (H3.out.still hb)
  have HO4 := Lib.hid (HO.out.below hb)
  clear hb H3 HO ha hbb ha8 hb8
  go_wp2_with fail
  have HO5 := Lib.hid (HO4.out.below (low_one w4 (.cells #[.int .u64 1] 31)))
  have H5 := Lib.hid (H4.out.still (low_one w4 (.cells #[.int .u64 1] 31)))
  have HL5 := Lib.hid (KV.one w4 1)
  refine (same_walk (js := [1]) HO5.out HL5.out (by simp)).mono ?_
  rintro e w6 ⟨rfl, hb⟩
  rw [decide_eq_true rfl]
  have H6 := Lib.hid (H5.out.still hb)
  clear hb H4 HO4 HO5 H5 HL5
  go_wp2_with fail
  refine (ehas_walk H6.out 2 (by decide)).mono ?_
  rintro e w7 ⟨rfl, hb⟩
  rw [decide_eq_true (show 2 ∈ L8.keys ⟨1, [2]⟩ by decide)]
  have H7 := Lib.hid (H6.out.still hb)
  clear hb H6
  go_wp2_with fail
  refine (ehas_walk H7.out 1 (by decide)).mono ?_
  rintro e w8 ⟨rfl, hb⟩
  rw [decide_eq_false (show 1 ∉ L8.keys ⟨1, [2]⟩ by decide)]
  have H8 := Lib.hid (H7.out.still hb)
  clear hb H7
  go_wp2_with fail
  refine (estate_walk H8.out).mono ?_
  rintro e w9 ⟨u, rfl, hb, _⟩
  have H9 := Lib.hid (H8.out.still hb)
  have hfld : ∀ w : World, (Instr.field PT8 (.agg (l8C 1 u)) 0).run Try.prog w = .ok (.int .i64 1) w := fun _ => by kernel_rfl
  clear hb H8
  go_wp2_with fail
  refine (ekeys_walk H9.out).mono ?_
  rintro e wa ⟨v, rfl, hb, hv⟩
  have hv' : KV wa v [2] := hv
  obtain ⟨F3, d3, rfl, _⟩ := hv'.mem
  have HA := Lib.hid (H9.out.still hb)
  have HV := Lib.hid hv'
  clear hb hv hv' H9 hfld
  go_wp2_with fail
  have HVb := Lib.hid (HV.out.below (low_one wa (.cells #[.int .u64 2] 31)))
  have HAb := Lib.hid (HA.out.still (low_one wa (.cells #[.int .u64 2] 31)))
  have HLb := Lib.hid (KV.one wa 2)
  refine (same_walk (js := [2]) HVb.out HLb.out (by simp)).mono ?_
  rintro e wc ⟨rfl, hb⟩
  rw [decide_eq_true rfl]
  have HC := Lib.hid (HAb.out.still hb).below
  clear hb HA HV HVb HAb HLb
  go_wp2
  go_ret
  exact ⟨rfl, HC.out⟩
theorem L8.act_c {s : L8} (h : s.c ≤ 14) (x : Act8) : (s.act x).c ≤ 14 := by
  have hz := sizeA_is x
  unfold L8.act
  split
  · have e : (s.touch x.key).c = s.c := by unfold L8.touch; split <;> rfl
    rw [e]; exact h
  · have e : (s.adm x.key).c = s.c := by unfold L8.adm; split <;> rfl
    rw [e]; exact h
  · exact h
  · show capI (sizeA x : Nat) ≤ 14
    unfold capI
    split
    · omega
    · split
      · omega
      · omega
theorem L8.runS_c {s : L8} : ∀ (l : List Act8), s.c ≤ 14 → (s.runS l).c ≤ 14
  | [], h => h
  | x :: l, h => L8.runS_c l (L8.act_c h x)
theorem L8.new_c (m : Nat) (h1 : 1 ≤ m) (h : m ≤ 12) : (L8.new (m : Int)).c = m := by
  show capI (m : Int) = m
  unfold capI
  rw [if_neg (by omega), if_neg (by omega)]
  omega
structure ES (w wr : World) (xp b : Nat) (T : TypeId) (s : L8) (F : Option Addr) (n d : Nat) : Prop where
  ec : EC w wr xp s 14
  box : wr.heap[b]? = some (.cells (l8C s.c (.slice F n d)) T (0, 0))
  st : St8 wr s (.slice F n d)
  ge : w.heap.size ≤ b
theorem St8.kn {w w' : World} {s : L8} {u : Value} (h : St8 w s u) (hk : Kn w w') : St8 w' s u := ⟨h.g1.kn hk⟩
section
variable {w wr w2 : World} {xp b n d : Nat} {T : TypeId} {s : L8} {F : Option Addr}
theorem ES.low (h : ES w wr xp b T s F n d) (hb : Below wr.heap.size wr w2) : ES w w2 xp b T s F n d :=
  ⟨h.ec.still hb, (hb.block b (head_row h.box).lt).trans h.box, h.st.below hb, h.ge⟩
theorem ES.bx (h : ES w wr xp b T s F n d) (hT : T ≠ 31) : ∀ g ∈ [b], Bx wr g := fun g hg => by
  simp only [List.mem_singleton] at hg
  subst hg
  exact ⟨_, _, h.box, rfl, hT⟩
theorem ES.cells (h : ES w wr xp b T s F n d) : wr.cell? ⟨b, 0, none⟩ = some (.int .i64 (s.c : Nat)) ∧ wr.cell? ⟨b, 1, none⟩ = some (.slice F n d) := (c2_at h.box).1
end
theorem es_store {w wc : World} {xp b : Nat} {T : TypeId} {s s' : L8} {F F' : Option Addr} {n d n' d' : Nat} (hec : EC w wc xp s' 14) (hbox : wc.heap[b]? = some (.cells (l8C s.c (.slice F n d)) T (0, 0))) (hst : St8 wc s' (.slice F' n' d')) (hge : w.heap.size ≤ b) (hT : T ≠ 31) (hTo : okT T = true) :
    ES w ((wc.setCell ⟨b, 0, none⟩ (.int .i64 (s'.c : Nat))).setCell ⟨b, 1, none⟩ (.slice F' n' d')) xp b T s' F' n' d' ∧ Only [b] wc ((wc.setCell ⟨b, 0, none⟩ (.int .i64 (s'.c : Nat))).setCell ⟨b, 1, none⟩ (.slice F' n' d')) := by
  obtain ⟨h1, h2⟩ := c2_set hbox (.int .i64 (s'.c : Nat)) (.slice F' n' d')
  refine ⟨⟨hec.only h2 (fun g hg => ?_), h1, ⟨hst.g1.only h2 (fun g hg => ?_)⟩, hge⟩, h2⟩
  · simp only [List.mem_singleton] at hg
    subst hg
    exact ⟨hge, (NP.cells hbox hTo).not_sty⟩
  · simp only [List.mem_singleton] at hg
    subst hg
    exact ⟨_, _, hbox, rfl, hT⟩
end Go.Proofs.Ytebdggoncnhjeaa
