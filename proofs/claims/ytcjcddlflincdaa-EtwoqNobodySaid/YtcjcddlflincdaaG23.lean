/- Words and walks: EtX EtY EtD EtK. -/
import Derived.Test.YtcjcddlflincdaaG1
import Derived.Test.YtcjcddlflincdaaG18
import Derived.Test.YtcjcddlflincdaaG22
import Derived.Deep.RegionWith
namespace Go.Proofs.Ytcjcddlflincdaa
open Go Go.RowKit Go.Deep
section
variable {w0 w w' : World} {xp top : Nat} {s : L9}
theorem adm_come {t : L9} {k : Nat} (hi : k ∉ t.inn) (hm : k ∉ t.main) (b : Bool) : q9 (t.come k b) = if b then tri t.inn t.out (k :: t.main) else tri (k :: t.inn) t.out t.main := by
  cases b
  · show tri (fr k t.inn) t.out t.main = _
    rw [fr, wo_none8 hi]
    rfl
  · show tri t.inn t.out (fr k t.main) = _
    rw [fr, wo_none8 hm]
    rfl
set_option maxHeartbeats 4000000 in
theorem eadmit_walk (h : EC w0 w xp s top) (hc : s.c ≤ top) (k : Nat) (h64 : k < 18446744073709551616) :
    Calls Try.prog 26 #[ptr xp, .int .u64 (k : Nat)] w (EPo w0 w xp (s.adm k) top (s.admitOut k)) := by
  have HH := Lib.hid (ehas_walk h k h64)
  have hE := Lib.hid (fun (W : World) => eopen_walk (w := W) xp)
  by_cases hk : k ∈ s.keys
  · have e1 : s.adm k = s := by unfold L9.adm; rw [if_pos hk]
    have e2 : s.admitOut k = [] := by unfold L9.admitOut; rw [if_pos hk]
    have e3 : decide (k ∈ s.keys) = true := decide_eq_true hk
    rw [e1, e2]
    rw [e3] at HH
    have H := Lib.hid h
    clear h hk e1 e2 e3
    go_enter Try.func26, Try.ntmps26
    go_wp2_with fail
    refine (hE.out w).mono ?_
    rintro e w0 ⟨rfl, rfl⟩
    go_wp2_with fail
    refine HH.out.mono ?_
    rintro e w1 ⟨rfl, hb⟩
    have HF : Hid (EPo w0 w xp s top [] (.returned (.slice none 0 0)) w1) := Lib.hid ⟨_, rfl, ⟨H.out.still hb, Kn.below hb⟩, KV.nil _⟩
    clear hb
    go_wp2
    go_ret
    exact HF.out
  · have e3 : decide (k ∈ s.keys) = false := decide_eq_false hk
    rw [e3] at HH
    obtain ⟨sp, hx⟩ := h.mem
    have hm : top + top / 2 ≤ 10000 := by have := h.small; omega
    have hpos := h.ok.pos
    have hcap := h.ok.cap
    have hki : k ∉ s.inn ∧ k ∉ s.main := by
      unfold L9.keys at hk
      simp only [List.mem_append, not_or] at hk
      exact hk
    have eA : s.adm k = ((s.forget k).shr (s.c - 1)).come k (decide (k ∈ s.out)) := by unfold L9.adm; rw [if_neg hk]
    have eO : s.admitOut k = (s.forget k).shrOut (s.c - 1) := by unfold L9.admitOut; rw [if_neg hk]
    have hokA := h.ok.adm k h64
    have hqf : q9 (s.drop k) = q9 (s.forget k) := by
      show tri (wo k s.inn) (wo k s.out) (wo k s.main) = tri s.inn (wo k s.out) s.main
      rw [wo_none8 hki.1, wo_none8 hki.2]
    have hdec : decide (k ∈ s.inn ∨ k ∈ s.out ∨ k ∈ s.main) = decide (k ∈ s.out) := by
      by_cases q : k ∈ s.out
      · rw [decide_eq_true (.inr (.inl q)), decide_eq_true q]
      · rw [decide_eq_false (by rintro (p | p | p); exact hki.1 p; exact q p; exact hki.2 p), decide_eq_false q]
    have HRM : Hid (∀ W, Below w.heap.size w W → Calls Try.prog 44 #[ptr sp, .int .u64 (k : Nat)] W fun e w' => e = .returned (.bool (decide (k ∈ s.out))) ∧ CP w0 w xp sp s.c (q9 (s.forget k)) (top + top / 2) w') := Lib.hid (fun W hb => by
      refine (x_remove h.ok.fine (hx.still hb) hm h64).mono ?_
      rintro e w' ⟨rfl, g1, g2⟩
      rw [hqf] at g1
      exact ⟨by rw [hdec], g1, (Kn.below hb).trans g2⟩)
    have HRC : Hid (∀ W, CP w0 w xp sp s.c (q9 (s.forget k)) (top + top / 2) W → Calls Try.prog 45 #[ptr xp, .int .i64 ((s.c : Int) - 1)] W fun e w' => ∃ o, e = .returned o ∧ CP w0 w xp sp s.c (q9 ((s.forget k).shr (s.c - 1))) (top + top / 2) w' ∧ KV w' o ((s.forget k).shrOut (s.c - 1))) := Lib.hid (fun W hW => by
      refine (reclaim_walk (s := s.forget k) hW.1 (h.ok.fine.forget k) hm hcap ((s.c : Int) - 1) (s.c - 1) (by omega) (by omega) (by omega)).mono ?_
      rintro e w' ⟨o, rfl, g1, g2⟩
      refine ⟨o, rfl, ⟨g1.1.congr (fun t _ => ?_), hW.2.trans g1.2⟩, g2.kv⟩
      have hoX : ((s.forget k).outX ((s.forget k).li (s.c - 1))).take ((s.forget k).c / 2) = (s.forget k).outX ((s.forget k).li (s.c - 1)) := by
        have hol : (wo k s.out).length ≤ s.c / 2 := Nat.le_trans (wo_len k s.out) h.ok.olen
        unfold L9.outX
        split
        · exact List.take_of_length_le hol
        · rw [List.take_take, Nat.min_self]
      rw [L9.shr_q, hoX])
    have HPU : Hid (∀ W, CP w0 w xp sp s.c (q9 ((s.forget k).shr (s.c - 1))) (top + top / 2) W → ∀ o, KV W o ((s.forget k).shrOut (s.c - 1)) → Calls Try.prog 46 #[ptr sp, .int .i64 (if k ∈ s.out then 2 else 0), .int .u64 (k : Nat)] W fun e w' => e = .returned (.bool true) ∧ EPo w0 w xp (s.adm k) top (s.admitOut k) (.returned o) w') := Lib.hid (fun W hW o ho => by
      have hok : ((s.forget k).shr (s.c - 1)).Ok := L9.ok_shr (h.ok.fine.forget k) h.ok.pos h.ok.cap _ (by show s.c - 1 ≤ s.c; omega)
      have hnot : k ∉ ((s.forget k).shr (s.c - 1)).inn ++ ((s.forget k).shr (s.c - 1)).out ++ ((s.forget k).shr (s.c - 1)).main := fun hm => L9.forget_not hk (L9.shr_mem hm)
      have hlen := (s.forget k).shr_len (s.c - 1)
      have hmy : (s.forget k).many (s.c - 1) = (s.forget k).inn.length + (s.forget k).main.length - (s.c - 1) := rfl
      have hcc : ((s.forget k).shr (s.c - 1)).c = s.c := rfl
      have hcA := L9.adm_c s k
      rw [eA] at hokA hcA
      rw [eA, eO]
      generalize (s.forget k).shr (s.c - 1) = t at hW hok hnot hlen hcc hokA hcA ⊢
      have hol := hok.olen
      simp only [List.mem_append, not_or] at hnot
      obtain ⟨⟨n1, n2⟩, n3⟩ := hnot
      have hsl : t.inn.length + t.out.length + t.main.length + 1 ≤ top + top / 2 := by
        have : t.inn.length + t.main.length ≤ s.c - 1 := by omega
        rw [hcc] at hol
        omega
      by_cases q : k ∈ s.out
      · rw [if_pos q, decide_eq_true q] at *
        refine (x_push2 hW.1 hm h64 n1 n2 n3 hsl).mono ?_
        rintro e w' ⟨rfl, g1, g2⟩
        refine ⟨rfl, o, rfl, ⟨EC.make hokA h.small h.ge (sp := sp) ?_, hW.2.trans g2⟩, ho.kn g2⟩
        rw [hcA, adm_come n1 n3]
        exact g1
      · rw [if_neg q, decide_eq_false q] at *
        refine (x_push0 hW.1 hm h64 n1 n2 n3 hsl).mono ?_
        rintro e w' ⟨rfl, g1, g2⟩
        refine ⟨rfl, o, rfl, ⟨EC.make hokA h.small h.ge (sp := sp) ?_, hW.2.trans g2⟩, ho.kn g2⟩
        rw [hcA, adm_come n1 n3]
        exact g1)
    have HKC : Hid (∀ l W, CP w0 w xp sp s.c l (top + top / 2) W → W.cell? ⟨xp, 0, none⟩ = some (ptr sp) ∧ W.cell? ⟨xp, 1, none⟩ = some (.int .i64 (s.c : Nat))) := Lib.hid (fun l W hW => hW.1.cells)
    have HK1 : Hid (∀ W, Below w.heap.size w W → W.cell? ⟨xp, 0, none⟩ = some (ptr sp) ∧ W.cell? ⟨xp, 1, none⟩ = some (.int .i64 (s.c : Nat))) := Lib.hid (fun W hb => (hx.still hb).cells)
    generalize EPo w0 w xp (s.adm k) top (s.admitOut k) = R at HPU ⊢
    generalize (s.forget k).shrOut (s.c - 1) = out at HRC HPU
    generalize q9 ((s.forget k).shr (s.c - 1)) = l2 at HRC HPU
    generalize q9 (s.forget k) = l1 at HRM HRC
    obtain ⟨c, hcc⟩ : ∃ c, s.c = c := ⟨_, rfl⟩
    rw [hcc] at HRM HRC HPU HKC HK1 hpos hcap
    have hc1 : (c : Int) ≤ 1048576 := by omega
    have hc2 : (1 : Int) ≤ (c : Int) := by omega
    have hb : (k ∈ s.out) ∨ ¬ (k ∈ s.out) := by by_cases q : k ∈ s.out; exact .inl q; exact .inr q
    rcases hb with q | q
    · rw [decide_eq_true q] at HRM
      rw [if_pos q] at HPU
      clear h hk e3 hx hc hcc hdec hqf hki eA eO hokA q
      go_enter Try.func26, Try.ntmps26
      go_wp2_with fail
      refine (hE.out w).mono ?_
      rintro e w1 ⟨rfl, rfl⟩
      go_wp2_with fail
      refine HH.out.mono ?_
      rintro e w1 ⟨rfl, hb1⟩
      obtain ⟨x0, x1⟩ := HK1.out w1 hb1
      have HR := Lib.hid (HRM.out w1 hb1)
      clear hb1 HRM HK1 HH
      go_wp2_with fail
      refine HR.out.mono ?_
      rintro e w2 ⟨rfl, h2⟩
      obtain ⟨x0, x1⟩ := HKC.out _ w2 h2
      have HC2 := Lib.hid (HRC.out w2 h2)
      clear h2 HR HRC
      go_wp2_with fail
      refine HC2.out.mono ?_
      rintro e w3 ⟨o, rfl, h3, ho⟩
      obtain ⟨x0, x1⟩ := HKC.out _ w3 h3
      have HP3 := Lib.hid (HPU.out w3 h3 o ho)
      clear h3 ho HC2 HPU HKC
      go_wp2_with fail
      refine HP3.out.mono ?_
      rintro e w5 ⟨rfl, hR⟩
      have HR := Lib.hid hR
      clear hR HP3 x0 x1
      go_wp2
      exact HR.out
    · rw [decide_eq_false q] at HRM
      rw [if_neg q] at HPU
      clear h hk e3 hx hc hcc hdec hqf hki eA eO hokA q
      go_enter Try.func26, Try.ntmps26
      go_wp2_with fail
      refine (hE.out w).mono ?_
      rintro e w1 ⟨rfl, rfl⟩
      go_wp2_with fail
      refine HH.out.mono ?_
      rintro e w1 ⟨rfl, hb1⟩
      obtain ⟨x0, x1⟩ := HK1.out w1 hb1
      have HR := Lib.hid (HRM.out w1 hb1)
      clear hb1 HRM HK1 HH
      go_wp2_with fail
      refine HR.out.mono ?_
      rintro e w2 ⟨rfl, h2⟩
      obtain ⟨x0, x1⟩ := HKC.out _ w2 h2
      have HC2 := Lib.hid (HRC.out w2 h2)
      clear h2 HR HRC
      go_wp2_with fail
      refine HC2.out.mono ?_
      rintro e w3 ⟨o, rfl, h3, ho⟩
      obtain ⟨x0, x1⟩ := HKC.out _ w3 h3
      have HP3 := Lib.hid (HPU.out w3 h3 o ho)
      clear h3 ho HC2 HPU HKC
      go_wp2_with fail
      refine HP3.out.mono ?_
      rintro e w5 ⟨rfl, hR⟩
      have HR := Lib.hid hR
      clear hR HP3 x0 x1
      go_wp2
      exact HR.out
set_option maxHeartbeats 4000000 in
theorem eresize_walk (h : EC w0 w xp s top) (n : Int) (hn1 : -9223372036854775808 ≤ n) (hn2 : n ≤ 9223372036854775807) :
    Calls Try.prog 27 #[ptr xp, .int .i64 n] w (EPo w0 w xp (s.resize n) top (s.resizeOut n)) := by
  obtain ⟨sp, hx⟩ := h.mem
  have hm : top + top / 2 ≤ 10000 := by have := h.small; omega
  have hE := Lib.hid (fun (W : World) => eopen_walk (w := W) xp)
  have HB := Lib.hid (ebounded_walk (w := w) n hn1 hn2)
  have hcp := capI_pos n
  have hcap : capI n ≤ 1048576 := hcp.2
  obtain ⟨c, hcc⟩ : ∃ c, capI n = c := ⟨_, rfl⟩
  have hok := h.ok.resize n
  have eR : s.resize n = (s.sized c).shr c := by rw [← hcc]; rfl
  have eO : s.resizeOut n = (s.sized c).shrOut c := by rw [← hcc]; rfl
  rw [eR] at hok
  rw [eR, eO]
  rw [hcc] at HB hcp hcap
  have h1 := hx.box
  have hset := set_one (i := 1) (v := .int .i64 (c : Nat)) h1
  have ho : Only [xp] w (w.setCell ⟨xp, 1, none⟩ (.int .i64 (c : Nat))) := (Only.refl _ _).setCell (by simp) _
  have HCX : Hid (CP w0 w xp sp c (q9 (s.sized c)) (top + top / 2) (w.setCell ⟨xp, 1, none⟩ (.int .i64 (c : Nat)))) := Lib.hid ⟨⟨hset, hx.sk.styK (hx.sk.below.trans (ho.below (by simp; exact h.ge) hx.sk.below.size)) (fun g hg hn => ho.block g hg.lt hn) ho.size⟩, fun g hg => ho.block g hg.lt (fun q => by
      simp only [List.mem_singleton] at q
      subst q
      exact h.styB.not hg)⟩
  have HRC : Hid (∀ W, CP w0 w xp sp c (q9 (s.sized c)) (top + top / 2) W → Calls Try.prog 45 #[ptr xp, .int .i64 (c : Nat)] W fun e w' => ∃ o, e = .returned o ∧ CP w0 w xp sp c (tri (s.inn.take ((s.sized c).li c)) ((s.sized c).outX ((s.sized c).li c)) (s.main.take ((s.sized c).lm c))) (top + top / 2) w' ∧ KV w' o ((s.sized c).shrOut c)) := Lib.hid (fun W hW => by
    refine (reclaim_walk (s := s.sized c) hW.1 (h.ok.fine.sized c) hm hcap (c : Nat) c (by omega) (by omega) (by omega)).mono ?_
    rintro e w' ⟨o, rfl, g1, g2⟩
    exact ⟨o, rfl, ⟨g1.1, hW.2.trans g1.2⟩, g2.kv⟩)
  have HFG : Hid (∀ W, CP w0 w xp sp c (tri (s.inn.take ((s.sized c).li c)) ((s.sized c).outX ((s.sized c).li c)) (s.main.take ((s.sized c).lm c))) (top + top / 2) W → ∀ o, KV W o ((s.sized c).shrOut c) → Calls Try.prog 47 #[ptr xp] W fun e w' => e = .returned (.tuple #[]) ∧ EPo w0 w xp ((s.sized c).shr c) top ((s.sized c).shrOut c) (.returned o) w') := Lib.hid (fun W hW o hko => by
    refine (forget_walk hW.1 hm hcap).mono ?_
    rintro e w' ⟨rfl, g1, g2⟩
    exact ⟨rfl, o, rfl, ⟨EC.make hok h.small h.ge (sp := sp) (g1.congr (fun t _ => by rw [L9.shr_q]; rfl)), hW.2.trans g2⟩, hko.kn g2⟩)
  obtain ⟨⟨x0, x1⟩, f0, f1⟩ := c2_at h1
  generalize EPo w0 w xp ((s.sized c).shr c) top ((s.sized c).shrOut c) = R at HFG ⊢
  generalize tri (s.inn.take ((s.sized c).li c)) ((s.sized c).outX ((s.sized c).li c)) (s.main.take ((s.sized c).lm c)) = l2 at HRC HFG
  generalize (s.sized c).shrOut c = out at HRC HFG
  generalize q9 (s.sized c) = l1 at HCX HRC
  have HKC : Hid (∀ l W, CP w0 w xp sp c l (top + top / 2) W → W.cell? ⟨xp, 0, none⟩ = some (ptr sp) ∧ W.cell? ⟨xp, 1, none⟩ = some (.int .i64 (c : Nat))) := Lib.hid (fun l W hW => hW.1.cells)
  clear h hx h1 hset ho hcc hok eR eO
  go_enter Try.func27, Try.ntmps27
  go_wp2_with fail
  refine (hE.out w).mono ?_
  rintro e w1 ⟨rfl, rfl⟩
  go_wp2_with fail
  refine HB.out.mono ?_
  rintro e w1 ⟨rfl, rfl⟩
  go_upto_region 3 with fail
  generalize w.setCell ⟨xp, 1, none⟩ (.int .i64 (c : Nat)) = W at HCX ⊢
  clear x0 x1 f0 f1
  obtain ⟨x0, x1⟩ := HKC.out _ W HCX.out
  go_wp2_with fail
  refine (HRC.out W HCX.out).mono ?_
  rintro e w3 ⟨o, rfl, h3, ho⟩
  have HP3 := Lib.hid (HFG.out w3 h3 o ho)
  clear h3 ho HRC HFG HKC HCX x0 x1
  go_wp2_with fail
  refine HP3.out.mono ?_
  rintro e w5 ⟨rfl, hR⟩
  have HR := Lib.hid hR
  clear hR HP3
  go_wp2
  exact HR.out
end
section
variable {w0 w w' : World} {xp top : Nat} {s : L9}
theorem x_keys {sp : Nat} (h : EC w0 w xp s top) (hx : CX w0 w xp sp s.c (q9 s) (top + top / 2)) {W : World} (hb : Below w.heap.size w W) {t : Nat} (ht : t < 3) :
    Calls Try.prog 38 #[ptr sp, .int .i64 (t : Nat)] W fun e w' => ∃ F n d, e = .returned (.slice F n d) ∧ Below w.heap.size w w' ∧ KV w' (.slice F n d) (q9 s t) ∧ Below W.heap.size W w' := by
  refine (m_keys (hx.still hb).sk (by have := h.small; omega) ht).mono ?_
  rintro e w' ⟨v, rfl, g1, g2⟩
  obtain ⟨F, n, d, rfl⟩ := g2.kv.form
  exact ⟨F, n, d, rfl, hb.trans (g1.mono hb.size), g2.kv, g1⟩
set_option maxHeartbeats 4000000 in
theorem ekeys_walk (h : EC w0 w xp s top) :
    Calls Try.prog 16 #[ptr xp] w (RetK w s.keys) := by
  obtain ⟨sp, hx⟩ := h.mem
  have hE := Lib.hid (fun (W : World) => eopen_walk (w := W) xp)
  obtain ⟨x0, x1⟩ := hx.cells
  have HKC : Hid (∀ W, Below w.heap.size w W → W.cell? ⟨xp, 0, none⟩ = some (ptr sp) ∧ W.cell? ⟨xp, 1, none⟩ = some (.int .i64 (s.c : Nat))) := Lib.hid (fun W hb => (hx.still hb).cells)
  have HK0 : Hid (∀ W, Below w.heap.size w W → Calls Try.prog 38 #[ptr sp, .int .i64 0] W fun e w' => ∃ F n d, e = .returned (.slice F n d) ∧ Below w.heap.size w w' ∧ KV w' (.slice F n d) s.inn ∧ Below W.heap.size W w') := Lib.hid (fun W hb => x_keys h hx hb (t := 0) (by decide))
  have HK2 : Hid (∀ W, Below w.heap.size w W → Calls Try.prog 38 #[ptr sp, .int .i64 2] W fun e w' => ∃ F n d, e = .returned (.slice F n d) ∧ Below w.heap.size w w' ∧ KV w' (.slice F n d) s.main ∧ Below W.heap.size W w') := Lib.hid (fun W hb => x_keys h hx hb (t := 2) (by decide))
  have hkl := h.ok.keysLen
  have HF : Hid ([s.inn, s.main].flatten = s.keys ∧ s.keys.length ≤ 100000000) := Lib.hid ⟨by simp [L9.keys], hkl⟩
  clear h hx hkl
  go_enter Try.func16, Try.ntmps16
  go_wp2_with fail
  refine (hE.out w).mono ?_
  rintro e w1 ⟨rfl, rfl⟩
  go_upto_region 2 with fail
  go_region_held3 (fun w' => w'.cell? ⟨xp, 0, none⟩ = some (ptr sp) ∧ w'.cell? ⟨xp, 1, none⟩ = some (.int .i64 (s.c : Nat))) (first | with_reducible exact kk5 | with_reducible exact kk6 | with_reducible exact kk8 | go_keep)
    (first
      | (go_at_call 39; refine (concat_walk (KVV.two hv5b hv6 26) (by simp) (by rw [HF.out.1]; exact HF.out.2)).mono ?_; rintro e w7 ⟨v7, rfl, hk7⟩; have kk8 := HKC.out w7 ((hb6.trans ((low_one w6 _).mono hb6.size)).trans (hk7.low.mono (Nat.le_trans hb6.size (by simp)))))
      | (go_at_call 38; refine (HK2.out _ hb5).mono ?_; rintro e w6 ⟨F6, n6, d6, rfl, hb6, hv6, hb6b⟩; have kk6 := HKC.out w6 hb6; have hv5b := hv5.below hb6b)
      | (go_at_call 38; refine (HK0.out _ (below_drewn (Below.refl _ _) _)).mono ?_; rintro e w5 ⟨F5, n5, d5, rfl, hb5, hv5, hb5b⟩; have kk5 := HKC.out w5 hb5))
  all_goals
    rw [HF.out.1] at hk7
    have HL : Hid (Below w.heap.size w w7 ∧ KV w7 v7 s.keys) := Lib.hid ⟨(hb6.trans ((low_one w6 _).mono hb6.size)).trans (hk7.low.mono (Nat.le_trans hb6.size (by simp))), hk7.kv⟩
    clear hb5 hb6 hv5 hv6 hv5b hk7 hb6b hb5b kk5 kk6 kk8
    go_wp2
    go_ret
    exact ⟨_, rfl, HL.out.1, HL.out.2⟩
set_option maxHeartbeats 4000000 in
theorem estate_walk (h : EC w0 w xp s top) :
    Calls Try.prog 14 #[ptr xp] w (P9 w s) := by
  obtain ⟨sp, hx⟩ := h.mem
  have hlow := low_one w (.cells z9 PT9)
  have hltx := hx.lt
  have HR0 := Lib.hid (heap_alloc_new w (.cells z9 PT9))
  have HL0 := Lib.hid hlow
  have hE := Lib.hid (fun (W : World) => eopen_walk (w := W) xp)
  have HKC : Hid (∀ W, Below w.heap.size w W → W.cell? ⟨xp, 0, none⟩ = some (ptr sp) ∧ W.cell? ⟨xp, 1, none⟩ = some (.int .i64 (s.c : Nat))) := Lib.hid (fun W hb => (hx.still hb).cells)
  have HK : Hid (∀ t, t < 3 → ∀ W, Below w.heap.size w W → Calls Try.prog 38 #[ptr sp, .int .i64 (t : Nat)] W fun e w' => ∃ F n d, e = .returned (.slice F n d) ∧ Below w.heap.size w w' ∧ KV w' (.slice F n d) (q9 s t) ∧ Below W.heap.size W w') := Lib.hid (fun t ht W hb => x_keys h hx hb ht)
  obtain ⟨c, l1, l2, l3⟩ := s
  clear h hx hlow
  go_enter Try.func14, Try.ntmps14
  go_wp2_with fail
  refine (hE.out _).mono ?_
  rintro e w1 ⟨rfl, rfl⟩
  go_upto_region 2 with fail
  generalize hW : w.alloc (.cells z9 PT9) = X at HL0 HR0 ⊢
  clear hW
  obtain ⟨c0, c1⟩ := HKC.out X HL0.out
  obtain ⟨⟨r0, r1, r2, r3⟩, rf0, rf1, rf2, rf3⟩ := c4_at HR0.out
  have hrX := (head_row HR0.out).lt
  generalize hrb : w.heap.size = rb at HR0 hrX hltx r0 r1 r2 r3 rf0 rf1 rf2 rf3 ⊢
  have hne : xp ≠ rb := by omega
  have hltX : xp < X.heap.size := by omega
  have HK3 : Hid (∀ t, t < 3 → ∀ W, Below X.heap.size X W → Calls Try.prog 38 #[ptr sp, .int .i64 (t : Nat)] W fun e w' => ∃ F n d, e = .returned (.slice F n d) ∧ Below X.heap.size X w' ∧ KV w' (.slice F n d) (q9 ⟨c, l1, l2, l3⟩ t) ∧ Below W.heap.size W w' ∧ (w'.cell? ⟨xp, 0, none⟩ = some (ptr sp) ∧ w'.cell? ⟨xp, 1, none⟩ = some (.int .i64 (c : Nat))) ∧ w'.heap[rb]? = some (.cells z9 PT9 (0, 0))) := Lib.hid (fun t ht W hb => by
    have hbw := HL0.out.trans (hb.mono HL0.out.size)
    rw [hrb] at hbw
    refine (HK.out t ht W (by rw [hrb]; exact hbw)).mono ?_
    rintro e w' ⟨F, n, d, rfl, g1, g2, g3⟩
    have hb2 := hb.trans (g3.mono hb.size)
    exact ⟨F, n, d, rfl, hb2, g2, g3, HKC.out w' g1, (hb2.block rb hrX).trans HR0.out⟩)
  have HK0 : Hid (∀ W, Below X.heap.size X W → Calls Try.prog 38 #[ptr sp, .int .i64 0] W fun e w' => ∃ F n d, e = .returned (.slice F n d) ∧ Below X.heap.size X w' ∧ KV w' (.slice F n d) l1 ∧ Below W.heap.size W w' ∧ (w'.cell? ⟨xp, 0, none⟩ = some (ptr sp) ∧ w'.cell? ⟨xp, 1, none⟩ = some (.int .i64 (c : Nat))) ∧ w'.heap[rb]? = some (.cells z9 PT9 (0, 0))) := Lib.hid (HK3.out 0 (by decide))
  have HK1 : Hid (∀ W, Below X.heap.size X W → Calls Try.prog 38 #[ptr sp, .int .i64 1] W fun e w' => ∃ F n d, e = .returned (.slice F n d) ∧ Below X.heap.size X w' ∧ KV w' (.slice F n d) l2 ∧ Below W.heap.size W w' ∧ (w'.cell? ⟨xp, 0, none⟩ = some (ptr sp) ∧ w'.cell? ⟨xp, 1, none⟩ = some (.int .i64 (c : Nat))) ∧ w'.heap[rb]? = some (.cells z9 PT9 (0, 0))) := Lib.hid (HK3.out 1 (by decide))
  have HK2 : Hid (∀ W, Below X.heap.size X W → Calls Try.prog 38 #[ptr sp, .int .i64 2] W fun e w' => ∃ F n d, e = .returned (.slice F n d) ∧ Below X.heap.size X w' ∧ KV w' (.slice F n d) l3 ∧ Below W.heap.size W w' ∧ (w'.cell? ⟨xp, 0, none⟩ = some (ptr sp) ∧ w'.cell? ⟨xp, 1, none⟩ = some (.int .i64 (c : Nat))) ∧ w'.heap[rb]? = some (.cells z9 PT9 (0, 0))) := Lib.hid (HK3.out 2 (by decide))
  have HRB := Lib.hid hrb
  clear HK HK3 hrb HKC
  go_region_held3 (fun w' => w'.cell? ⟨xp, 0, none⟩ = some (ptr sp) ∧ w'.cell? ⟨xp, 1, none⟩ = some (.int .i64 (c : Nat))) (first | with_reducible exact kk5 | with_reducible exact kk6 | with_reducible exact kk7 | with_reducible exact KK1 _ (c4_set HR7.out _ _ _ _).2 | go_keep)
    (first
      | (go_at_call 38; refine (HK2.out _ hb6).mono ?_; rintro e w7 ⟨F7, n7, d7, rfl, hb7, hv7, hb7b, kk7, hr7⟩; obtain ⟨⟨y0, y1, y2, y3⟩, yf0, yf1, yf2, yf3⟩ := c4_at hr7; have HV7 := Lib.hid (And.intro (hv5.below (hb6b.trans (hb7b.mono hb6b.size))) (And.intro (hv6.below hb7b) hv7)); have HB7 := Lib.hid hb7; have HR7 := Lib.hid hr7; clear hr7; have hX7 := hb7.size; have KK1 := fun (W : World) (ho : Only [rb] w7 W) => (⟨(World.cell?_of_block (w := w7) (ho.block xp (by omega) (by simp; omega))).trans kk7.1, (World.cell?_of_block (w := w7) (ho.block xp (by omega) (by simp; omega))).trans kk7.2⟩ : W.cell? ⟨xp, 0, none⟩ = some (ptr sp) ∧ W.cell? ⟨xp, 1, none⟩ = some (.int .i64 (c : Nat))))
      | (go_at_call 38; refine (HK1.out _ hb5).mono ?_; rintro e w6 ⟨F6, n6, d6, rfl, hb6, hv6, hb6b, kk6, hr6⟩)
      | (go_at_call 38; refine (HK0.out _ (below_drewn (Below.refl _ _) _)).mono ?_; rintro e w5 ⟨F5, n5, d5, rfl, hb5, hv5, hb5b, kk5, hr5⟩))
  all_goals
    clear hb5 hb6 hb7 hv5 hv6 hv7 hb5b hb6b hb7b hr5 hr6
    go_wp2_with fail
    have HO : Hid (Only [rb] w7 ((((w7.setCell ⟨rb, 0, none⟩ (.int .i64 (c : Nat))).setCell ⟨rb, 1, none⟩ (.slice F5 n5 d5)).setCell ⟨rb, 2, none⟩ (.slice F6 n6 d6)).setCell ⟨rb, 3, none⟩ (.slice F7 n7 d7))) := Lib.hid (((((Only.refl _ _).setCell (by simp) _).setCell (by simp) _).setCell (by simp) _).setCell (by simp) _)
    have HF := Lib.hid (HL0.out.trans (HB7.out.mono HL0.out.size))
    have hS : ∀ g ∈ [rb], Bx w7 g := fun g hg => by
      simp only [List.mem_singleton] at hg
      subst hg
      exact ⟨_, _, HR7.out, rfl, by decide⟩
    exact bodyPost_ret (v := .agg (l9C c (.slice F5 n5 d5) (.slice F6 n6 d6) (.slice F7 n7 d7))) (by simp [results, Try.results14, go_sem, y0, y1, y2, y3]) rfl ⟨_, _, _, rfl, HF.out.trans (HO.out.below (by have := HRB.out; simp; omega) HF.out.size), ⟨HV7.out.1.only HO.out hS, HV7.out.2.1.only HO.out hS, HV7.out.2.2.only HO.out hS⟩⟩
end
abbrev actT : TypeId := 34
section
variable {w0 w : World} {xp top : Nat} {s : L9}
set_option maxHeartbeats 8000000 in
set_option maxRecDepth 4000 in
theorem edo_walk (h : EC w0 w xp s top) (hct : s.c ≤ top) (x : Act8) (wf : x.Ok) : Calls Try.prog 10 #[ptr xp, .agg (act8C x)] w (EPo w0 w xp (s.act x) top (s.actOut x)) := by
  have hlow := low_one w (.cells (act8C x) actT)
  have HA := Lib.hid (heap_alloc_new w (.cells (act8C x) actT))
  have HB := Lib.hid hlow
  have hc := L9.act_cases s x
  have hz := sizeA_is x
  obtain ⟨q, hq⟩ : ∃ q, kindA x (decide (x.key ∈ s.keys)) = q := ⟨_, rfl⟩
  have KH : Hid (∀ W, Below w.heap.size w W → Calls Try.prog 17 #[ptr xp, .int .u64 (x.key : Nat)] W (RetB W (decide (x.key ∈ s.keys)))) := Lib.hid (fun W hb => ehas_walk (h.still hb) x.key wf.key)
  have KK : Hid (∀ W, Calls Try.prog 31 #[.agg (act8C x), .bool (decide (x.key ∈ s.keys))] W fun e w' => e = .returned (.int .i64 (q : Nat)) ∧ Below W.heap.size W w') := Lib.hid (fun W => by rw [← hq]; exact rkind_walk x wf _)
  have KS : Hid (∀ W, Calls Try.prog 32 #[.agg (act8C x)] W fun e w' => e = .returned (.int .i64 (sizeA x : Nat)) ∧ Below W.heap.size W w') := Lib.hid (fun W => rsize_walk x wf)
  have KT : Hid (∀ W, Below w.heap.size w W → Calls Try.prog 24 #[ptr xp, .int .u64 (x.key : Nat)] W fun e w' => e = .returned (.tuple #[]) ∧ EPo w0 w xp (s.touch x.key) top [] (.returned (.slice none 0 0)) w') := Lib.hid (fun W hb => (etouch_walk (h.still hb) x.key wf.key).mono (fun e w' ⟨he, g1, g2⟩ => ⟨he, _, rfl, ⟨g1, (Kn.below hb).trans g2⟩, KV.nil _⟩))
  have KD : Hid (∀ W, Below w.heap.size w W → Calls Try.prog 25 #[ptr xp, .int .u64 (x.key : Nat)] W fun e w' => e = .returned (.tuple #[]) ∧ EPo w0 w xp (s.drop x.key) top [] (.returned (.slice none 0 0)) w') := Lib.hid (fun W hb => (edrop_walk (h.still hb) x.key wf.key).mono (fun e w' ⟨he, g1, g2⟩ => ⟨he, _, rfl, ⟨g1, (Kn.below hb).trans g2⟩, KV.nil _⟩))
  have KA : Hid (∀ W, Below w.heap.size w W → Calls Try.prog 26 #[ptr xp, .int .u64 (x.key : Nat)] W fun e w' => ∃ o, e = .returned o ∧ EPo w0 w xp (s.adm x.key) top (s.admitOut x.key) (.returned o) w') := Lib.hid (fun W hb => (eadmit_walk (h.still hb) hct x.key wf.key).mono (fun e w' ⟨o, he, ⟨g1, g2⟩, g3⟩ => ⟨o, he, o, rfl, ⟨g1, (Kn.below hb).trans g2⟩, g3⟩))
  have KR : Hid (∀ W, Below w.heap.size w W → Calls Try.prog 27 #[ptr xp, .int .i64 (sizeA x : Nat)] W fun e w' => ∃ o, e = .returned o ∧ EPo w0 w xp (s.resize (sizeA x : Nat)) top (s.resizeOut (sizeA x : Nat)) (.returned o) w') := Lib.hid (fun W hb => (eresize_walk (h.still hb) _ (by omega) (by omega)).mono (fun e w' ⟨o, he, ⟨g1, g2⟩, g3⟩ => ⟨o, he, o, rfl, ⟨g1, (Kn.below hb).trans g2⟩, g3⟩))
  rw [hq] at hc
  generalize decide (x.key ∈ s.keys) = bb at KH KK hq
  generalize sizeA x = z at KS KR hz hc
  have hR : Hid (q = 1 ∧ EPo w0 w xp (s.act x) top (s.actOut x) = EPo w0 w xp (s.touch x.key) top [] ∨ q = 2 ∧ EPo w0 w xp (s.act x) top (s.actOut x) = EPo w0 w xp (s.adm x.key) top (s.admitOut x.key) ∨ q = 3 ∧ EPo w0 w xp (s.act x) top (s.actOut x) = EPo w0 w xp (s.drop x.key) top [] ∨ q = 4 ∧ EPo w0 w xp (s.act x) top (s.actOut x) = EPo w0 w xp (s.resize z) top (s.resizeOut z)) := Lib.hid (by
    rcases hc with ⟨h1, e1, e2⟩ | ⟨h1, e1, e2⟩ | ⟨h1, e1, e2⟩ | ⟨h1, e1, e2⟩
    · exact .inl ⟨h1, by rw [e1, e2]⟩
    · exact .inr (.inl ⟨h1, by rw [e1, e2]⟩)
    · exact .inr (.inr (.inl ⟨h1, by rw [e1, e2]⟩))
    · exact .inr (.inr (.inr ⟨h1, by rw [e1, e2]⟩)))
  generalize EPo w0 w xp (s.act x) top (s.actOut x) = R at hR ⊢
  generalize EPo w0 w xp (s.touch x.key) top [] = RT at hR KT
  generalize EPo w0 w xp (s.adm x.key) top (s.admitOut x.key) = RA at hR KA
  generalize EPo w0 w xp (s.drop x.key) top [] = RD at hR KD
  generalize EPo w0 w xp (s.resize z) top (s.resizeOut z) = RR at hR KR
  clear hq hc hlow h hct hz wf
  obtain ⟨⟨a0, a1, a2⟩, _⟩ := c3_at HA.out
  have hAt := (head_row HA.out).lt
  have KH2 : Hid (∀ W, Below (w.alloc (.cells (act8C x) actT)).heap.size (w.alloc (.cells (act8C x) actT)) W → Calls Try.prog 17 #[ptr xp, .int .u64 (x.key : Nat)] W fun e w' => e = .returned (.bool bb) ∧ Below (w.alloc (.cells (act8C x) actT)).heap.size (w.alloc (.cells (act8C x) actT)) w') := Lib.hid (fun W hb => (KH.out W (HB.out.trans (hb.mono HB.out.size))).mono (fun e w' ⟨he, hb'⟩ => ⟨he, hb.trans (hb'.mono hb.size)⟩))
  have KC : Hid (∀ W, Below (w.alloc (.cells (act8C x) actT)).heap.size (w.alloc (.cells (act8C x) actT)) W → W.cell? ⟨w.heap.size, 0, none⟩ = some (.int .u8 (x.kind : Nat)) ∧ W.cell? ⟨w.heap.size, 1, none⟩ = some (.int .u64 (x.key : Nat)) ∧ W.cell? ⟨w.heap.size, 2, none⟩ = some (.int .u16 (x.n : Nat))) := Lib.hid (fun W hb => (c3_at ((hb.block _ hAt).trans HA.out)).1)
  clear KH
  generalize hW0 : w.alloc (.cells (act8C x) actT) = W0 at HB HA KH2 KC hAt a0 a1 a2
  have HW0 := Lib.hid hW0
  clear hW0
  rcases hR.out with ⟨rfl, e1⟩ | ⟨rfl, e1⟩ | ⟨rfl, e1⟩ | ⟨rfl, e1⟩
  all_goals
    subst e1
    clear hR
    go_enter Try.func10, Try.ntmps10
    go_upto_region 1 with fail
    rw [HW0.out]
    clear HW0
    go_region_held3 (fun w' => w'.cell? ⟨w.heap.size, 0, none⟩ = some (.int .u8 (x.kind : Nat)) ∧ w'.cell? ⟨w.heap.size, 1, none⟩ = some (.int .u64 (x.key : Nat)) ∧ w'.cell? ⟨w.heap.size, 2, none⟩ = some (.int .u16 (x.n : Nat))) (first | with_reducible exact kk5 | with_reducible exact kk6 | go_keep)
      (first
        | (go_at_call 17; refine (KH2.out _ (below_drewn (Below.refl _ _) _)).mono ?_; rintro e w5 ⟨rfl, hb5⟩; have kk5 := KC.out w5 hb5)
        | (go_at_call 31; refine (KK.out _).mono ?_; rintro e w6 ⟨rfl, hb6⟩; have hb7 := hb5.trans (hb6.mono hb5.size); have kk6 := KC.out w6 hb7))
    have HB7 := Lib.hid (HB.out.trans (hb7.mono HB.out.size))
    obtain ⟨x0, x1, x2⟩ := kk6
    clear hb7 hb5 hb6 KH2 KK KC HB HA hAt a0 a1 a2
    go_wp2_with fail
    first
      | (refine (KT.out w6 HB7.out).mono ?_; rintro e w7 ⟨rfl, hR⟩; have HR := Lib.hid hR; clear hR KT KA KD KR KS; go_wp2; first | exact HR.out | (go_ret; exact HR.out))
      | (refine (KD.out w6 HB7.out).mono ?_; rintro e w7 ⟨rfl, hR⟩; have HR := Lib.hid hR; clear hR KT KA KD KR KS; go_wp2; first | exact HR.out | (go_ret; exact HR.out))
      | (refine (KA.out w6 HB7.out).mono ?_; rintro e w7 ⟨o, rfl, hR⟩; have HR := Lib.hid hR; clear hR KT KA KD KR KS; go_wp2; first | exact HR.out | (go_ret; exact HR.out))
      | (refine (KS.out w6).mono ?_; rintro e w7 ⟨rfl, hb⟩; have HB8 := Lib.hid (HB7.out.trans (hb.mono HB7.out.size)); clear hb HB7; go_wp2_with fail; refine (KR.out w7 HB8.out).mono ?_; rintro e w8 ⟨o, rfl, hR⟩; have HR := Lib.hid hR; clear hR KT KA KD KR KS; go_wp2; first | exact HR.out | (go_ret; exact HR.out))
end
section
variable {w : World} {u1 u2 u3 v1 v2 v3 : Value} {s : L9}
set_option maxHeartbeats 2000000 in
set_option maxRecDepth 4000 in
theorem esame_walk (h : St9 w s u1 u2 u3) (h' : St9 w s v1 v2 v3) (ok : s.Ok) : Calls Try.prog 13 #[.agg (l9C s.c u1 u2 u3), .agg (l9C s.c v1 v2 v3)] w (RetB w true) := by
  obtain ⟨Fa1, na1, da1, rfl⟩ := h.form1
  obtain ⟨Fa2, na2, da2, rfl⟩ := h.form2
  obtain ⟨Fa3, na3, da3, rfl⟩ := h.form3
  obtain ⟨Fb1, nb1, db1, rfl⟩ := h'.form1
  obtain ⟨Fb2, nb2, db2, rfl⟩ := h'.form2
  obtain ⟨Fb3, nb3, db3, rfl⟩ := h'.form3
  have hb := low_two w (.cells (l9C s.c (.slice Fa1 na1 da1) (.slice Fa2 na2 da2) (.slice Fa3 na3 da3)) PT9) (.cells (l9C s.c (.slice Fb1 nb1 db1) (.slice Fb2 nb2 db2) (.slice Fb3 nb3 db3)) T9)
  have H := Lib.hid (h.below hb)
  have H' := Lib.hid (h'.below hb)
  have HB := Lib.hid hb
  obtain ⟨_, ht1, ht2, ht3⟩ := two_blocks (c := (l9C s.c (.slice Fa1 na1 da1) (.slice Fa2 na2 da2) (.slice Fa3 na3 da3))) (t := PT9) (d := (l9C s.c (.slice Fb1 nb1 db1) (.slice Fb2 nb2 db2) (.slice Fb3 nb3 db3))) (u := T9) (w := w) (Below.refl _ _)
  have HT := Lib.hid (And.intro ht2 ht3)
  clear ht1 ht2 ht3
  have hl_inn := Lib.hid ok.len_inn
  have hl_out := Lib.hid ok.len_out
  have hl_main := Lib.hid ok.len_main
  obtain ⟨c, inn, out, main⟩ := s
  clear h h' hb ok
  go_enter Try.func13, Try.ntmps13
  go_wp2_with fail
  refine (same_walk (ks := inn) (js := inn) H.out.g1 H'.out.g1 hl_inn.out).mono ?_
  rintro e w1 ⟨rfl, hb⟩
  rw [decide_eq_true rfl]
  have H1 := Lib.hid (H.out.below hb)
  have H1' := Lib.hid (H'.out.below hb)
  have HB1 := Lib.hid (HB.out.trans (hb.mono HB.out.size))
  have HT1 := Lib.hid (And.intro ((hb.block _ (head_row HT.out.1).lt).trans HT.out.1) ((hb.block _ (head_row HT.out.2).lt).trans HT.out.2))
  clear hb HT
  obtain ⟨⟨x0, x1, x2, x3⟩, xf0, xf1, xf2, xf3⟩ := c4_at HT1.out.1
  obtain ⟨⟨z0, z1, z2, z3⟩, zf0, zf1, zf2, zf3⟩ := c4_at HT1.out.2
  go_wp2_with fail
  refine (same_walk (ks := out) (js := out) H1.out.g2 H1'.out.g2 hl_out.out).mono ?_
  rintro e w2 ⟨rfl, hb⟩
  rw [decide_eq_true rfl]
  have H2 := Lib.hid (H1.out.below hb)
  have H2' := Lib.hid (H1'.out.below hb)
  have HB2 := Lib.hid (HB1.out.trans (hb.mono HB1.out.size))
  have HT2 := Lib.hid (And.intro ((hb.block _ (head_row HT1.out.1).lt).trans HT1.out.1) ((hb.block _ (head_row HT1.out.2).lt).trans HT1.out.2))
  clear hb HT1 x0 x1 x2 x3 xf0 xf1 xf2 xf3 z0 z1 z2 z3 zf0 zf1 zf2 zf3
  obtain ⟨⟨x0, x1, x2, x3⟩, xf0, xf1, xf2, xf3⟩ := c4_at HT2.out.1
  obtain ⟨⟨z0, z1, z2, z3⟩, zf0, zf1, zf2, zf3⟩ := c4_at HT2.out.2
  go_wp2_with fail
  refine (same_walk (ks := main) (js := main) H2.out.g3 H2'.out.g3 hl_main.out).mono ?_
  rintro e w3 ⟨rfl, hb⟩
  rw [decide_eq_true rfl]
  have H3 := Lib.hid (H2.out.below hb)
  have H3' := Lib.hid (H2'.out.below hb)
  have HB3 := Lib.hid (HB2.out.trans (hb.mono HB2.out.size))
  have HT3 := Lib.hid (And.intro ((hb.block _ (head_row HT2.out.1).lt).trans HT2.out.1) ((hb.block _ (head_row HT2.out.2).lt).trans HT2.out.2))
  clear hb HT2 x0 x1 x2 x3 xf0 xf1 xf2 xf3 z0 z1 z2 z3 zf0 zf1 zf2 zf3
  go_wp2
  go_ret
  exact ⟨rfl, HB3.out⟩
end
set_option maxHeartbeats 4000000 in
set_option maxRecDepth 4000 in
theorem awake15_walk (w : World) : Calls Try.prog 7 #[] w (RetB w true) := by
  have HN : Hid (Calls Try.prog 8 #[.int .i64 2] w fun e w' => ∃ xp, e = .returned (ptr xp) ∧ EC w w' xp ⟨2, [], [], []⟩ 2) := Lib.hid ((enew_walk (Below.refl _ _) 2 (by decide) (by decide)).mono (fun e w' ⟨xp, he, h, _⟩ => ⟨xp, he, h.more (by decide) (by decide)⟩))
  go_enter Try.func7, Try.ntmps7
  go_wp2_with fail
  refine HN.out.mono ?_
  rintro e w1 ⟨xp, rfl, h⟩
  have H1 := Lib.hid h
  clear h HN
  go_wp2_with fail
  refine (eadmit_walk H1.out (by decide) 1 (by decide)).mono ?_
  rintro e w2 ⟨o, rfl, h, ho⟩
  have h' : EC w w2 xp ⟨2, [1], [], []⟩ 2 := h.1
  have H2 := Lib.hid h'
  clear h ho h' H1
  go_wp2_with fail
  refine (eadmit_walk H2.out (by decide) 2 (by decide)).mono ?_
  rintro e w3 ⟨o, rfl, h, ho⟩
  have h' : EC w w3 xp ⟨2, [2, 1], [], []⟩ 2 := h.1
  have H3 := Lib.hid h'
  clear h ho h' H2
  go_wp2_with fail
  refine (eadmit_walk H3.out (by decide) 3 (by decide)).mono ?_
  rintro e w4 ⟨o, rfl, h, ho⟩
  have h' : EC w w4 xp ⟨2, [3, 2], [1], []⟩ 2 := h.1
  have ho' : KV w4 o [1] := ho
  obtain ⟨Fb, db, rfl, _⟩ := ho'.mem
  have H4 := Lib.hid h'
  have HO4 := Lib.hid ho'
  clear h ho h' ho' H3
  have HB := Lib.hid (eadmit_walk H4.out (by decide) 1 (by decide))
  go_wp2_with fail
  refine HB.out.mono ?_
  rintro e w5 ⟨o, rfl, h, ho⟩
  have h' : EC w w5 xp ⟨2, [3], [2], [1]⟩ 2 := h.1
  have ho' : KV w5 o [2] := ho
  obtain ⟨Fc, dc, rfl, _⟩ := ho'.mem
  have H5 := Lib.hid h'
  have HO5 := Lib.hid (And.intro (HO4.out.kn h.2) ho')
  clear h ho h' ho' H4 HB HO4
  go_wp2_with fail
  have HL5 := Lib.hid (KV.one w5 1)
  have hl5 := low_one w5 (.cells #[.int .u64 1] 31)
  have HO6 := Lib.hid (And.intro (HO5.out.1.below hl5) (HO5.out.2.below hl5))
  have H6 := Lib.hid (H5.out.still hl5)
  clear hl5 HO5 H5
  refine (same_walk (js := [1]) HO6.out.1 HL5.out (by simp)).mono ?_
  rintro e w6 ⟨rfl, hb⟩
  rw [decide_eq_true rfl]
  have H7 := Lib.hid (H6.out.still hb)
  have HO7 := Lib.hid (HO6.out.2.below hb)
  clear hb HO6 H6 HL5
  go_wp2_with fail
  have HL7 := Lib.hid (KV.one w6 2)
  have hl7 := low_one w6 (.cells #[.int .u64 2] 31)
  have HO8 := Lib.hid (HO7.out.below hl7)
  have H8 := Lib.hid (H7.out.still hl7)
  clear hl7 HO7 H7
  refine (same_walk (js := [2]) HO8.out HL7.out (by simp)).mono ?_
  rintro e w8 ⟨rfl, hb⟩
  rw [decide_eq_true rfl]
  have H9 := Lib.hid (H8.out.still hb)
  clear hb HO8 H8 HL7
  go_wp2_with fail
  refine (ehas_walk H9.out 1 (by decide)).mono ?_
  rintro e w9 ⟨rfl, hb⟩
  rw [decide_eq_true (show 1 ∈ L9.keys ⟨2, [3], [2], [1]⟩ by decide)]
  have HA := Lib.hid (H9.out.still hb)
  clear hb H9
  go_wp2_with fail
  refine (ehas_walk HA.out 2 (by decide)).mono ?_
  rintro e wa ⟨rfl, hb⟩
  rw [decide_eq_false (show 2 ∉ L9.keys ⟨2, [3], [2], [1]⟩ by decide)]
  have HB := Lib.hid (HA.out.still hb)
  clear hb HA
  go_wp2_with fail
  refine (eghosts_walk HB.out).mono ?_
  rintro e wb ⟨he, hb⟩
  have he' : e = .returned (.int .i64 1) := he
  subst he'
  have HC := Lib.hid (HB.out.still hb)
  clear hb HB he
  go_wp2_with fail
  refine (estate_walk HC.out).mono ?_
  rintro e wc ⟨u1, u2, u3, rfl, hb, hs⟩
  have HD := Lib.hid (HC.out.still hb)
  have hv : KV wc u3 [1] := hs.g3
  obtain ⟨F3, d3, rfl, _⟩ := hv.mem
  have HV := Lib.hid hv
  have hfld : ∀ w : World, (Instr.field PT9 (.agg (l9C 2 u1 u2 (.slice F3 1 d3))) 3).run Try.prog w = .ok (.slice F3 1 d3) w := fun _ => by kernel_rfl
  clear hb HC hs hv
  go_wp2_with fail
  have HLd := Lib.hid (KV.one wc 1)
  have hld := low_one wc (.cells #[.int .u64 1] 31)
  have HVd := Lib.hid (HV.out.below hld)
  have HDd := Lib.hid (HD.out.still hld)
  clear hld HV HD
  refine (same_walk (js := [1]) HVd.out HLd.out (by simp)).mono ?_
  rintro e wd ⟨rfl, hb⟩
  rw [decide_eq_true rfl]
  have HE := Lib.hid (HDd.out.still hb)
  clear hb HVd HDd HLd hfld
  go_wp2_with fail
  refine (ekeys_walk HE.out).mono ?_
  rintro e we ⟨v, rfl, hb, hv⟩
  have hv' : KV we v [3, 1] := hv
  obtain ⟨F4, d4, rfl, _⟩ := hv'.mem
  have HF := Lib.hid (HE.out.still hb)
  have HV := Lib.hid hv'
  clear hb hv hv' HE
  go_wp2_with fail
  have HLe := Lib.hid (KV.lit (w := we) [3, 1] (by decide))
  have hle := low_one we (.cells #[.int .u64 3, .int .u64 1] 31)
  have HVe := Lib.hid (HV.out.below hle)
  have HFe := Lib.hid (HF.out.still hle)
  clear hle HV HF
  refine (same_walk (js := [3, 1]) HVe.out HLe.out (by simp)).mono ?_
  rintro e wf ⟨rfl, hb⟩
  rw [decide_eq_true rfl]
  have HC := Lib.hid (HFe.out.still hb).below
  clear hb HVe HFe HLe
  go_wp2
  go_ret
  exact ⟨rfl, HC.out⟩
end Go.Proofs.Ytcjcddlflincdaa
