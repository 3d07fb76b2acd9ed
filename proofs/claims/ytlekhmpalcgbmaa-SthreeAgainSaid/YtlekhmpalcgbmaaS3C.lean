/- Three simple queues: the program's own, to evict one. -/
import Derived.Test.YtlekhmpalcgbmaaS3L
import Derived.Deep.QuietTactic
import Derived.BigQuiet
namespace Go.Proofs.Ytlekhmpalcgbmaa
open Go Go.RowKit Go.Deep

/- Whether what is evicted is remembered. -/
def remB (s : L10) : Bool := if tgt s.c ≤ s.small.length ∨ s.main.length = 0 then (fsR s.small.reverse s.main).2.2.2 else false
theorem evict_small {s : L10} (h : tgt s.c ≤ s.small.length ∨ s.main.length = 0) : s.evict = s.fromSmall := by unfold L10.evict; rw [if_pos h]
theorem evict_main {s : L10} (h : ¬ (tgt s.c ≤ s.small.length ∨ s.main.length = 0)) : s.evict = s.fromMain := by unfold L10.evict; rw [if_neg h]
theorem evict_c (s : L10) : s.evict.1.c = s.c := by
  unfold L10.evict
  split <;> rfl
theorem evict_ghost (s : L10) : s.evict.1.ghost = if remB s then (fr s.evict.2 s.ghost).take (room s.c) else s.ghost := by
  by_cases h : tgt s.c ≤ s.small.length ∨ s.main.length = 0
  · rw [evict_small h, remB, if_pos h]
    rfl
  · rw [evict_main h, remB, if_neg h]
    rfl
def remL (s : L10) : List Nat := if remB s then [s.evict.2] else []
section
variable {w0 w : World} {ev gh : List Nat} {v1 v2 v3 v4 : Value} {b : Nat} {s : L10}
def EoP (w0 : World) (b t : Nat) (s : L10) (ev gh : List Nat) (e : Ending) (w' : World) : Prop := ∃ v1 v2 v3 v4, e = .returned (.tuple #[]) ∧ Lr w0 w' s.evict.1.small s.evict.1.main.reverse (ev ++ [s.evict.2]) (gh ++ remL s) v1 v2 v3 v4 ∧ Bl w0 w' b t v1 v2 v3 v4
/- From Small, and where it has none to give, from Main. -/
theorem eo_some {wx : World} {t k : Nat} {q : List It × List It × Option Nat} (h : tgt s.c ≤ s.small.length ∨ s.main.length = 0) (hq : fsP s.small.reverse s.main = q) (hk : q.2.2 = some k)
    (hl : Lr w0 wx q.1.reverse q.2.1.reverse (ev ++ q.2.2.toList) (gh ++ q.2.2.toList) v1 v2 v3 v4) (hb : Bl w0 wx b t v1 v2 v3 v4) : EoP w0 b t s ev gh (.returned (.tuple #[])) wx := by
  have hr := fsR_some s.small.reverse s.main (by rw [hq]; exact hk)
  rw [hq] at hr
  rw [hk] at hl
  refine ⟨v1, v2, v3, v4, rfl, ?_, hb⟩
  have e1 : remB s = true := by rw [remB, if_pos h, hr]
  rw [remL, e1, if_pos rfl, evict_small h]
  unfold L10.fromSmall
  rw [hr]
  exact hl
theorem eo_none {wx : World} {t : Nat} {q : List It × List It × Option Nat} (h : tgt s.c ≤ s.small.length ∨ s.main.length = 0) (hq : fsP s.small.reverse s.main = q) (hk : q.2.2 = none)
    (hl : Lr w0 wx q.1.reverse (fm q.2.1).1.reverse (ev ++ [(fm q.2.1).2]) gh v1 v2 v3 v4) (hb : Bl w0 wx b t v1 v2 v3 v4) : EoP w0 b t s ev gh (.returned (.tuple #[])) wx := by
  obtain ⟨hr, h1⟩ := fsR_none s.small.reverse s.main (by rw [hq]; exact hk)
  rw [hq] at hr h1
  rw [h1] at hl
  refine ⟨v1, v2, v3, v4, rfl, ?_, hb⟩
  have e1 : remB s = false := by rw [remB, if_pos h, hr]
  rw [remL, e1, if_neg (by decide), List.append_nil, evict_small h]
  unfold L10.fromSmall
  rw [hr]
  exact hl
theorem eo_main {wx : World} {t : Nat} (h : ¬ (tgt s.c ≤ s.small.length ∨ s.main.length = 0)) (hl : Lr w0 wx s.small (fm s.main).1.reverse (ev ++ [(fm s.main).2]) gh v1 v2 v3 v4) (hb : Bl w0 wx b t v1 v2 v3 v4) : EoP w0 b t s ev gh (.returned (.tuple #[])) wx := by
  refine ⟨v1, v2, v3, v4, rfl, ?_, hb⟩
  have e1 : remB s = false := by rw [remB, if_neg h]
  rw [remL, e1, if_neg (by decide), List.append_nil, evict_main h]
  exact hl
set_option maxHeartbeats 2000000 in
theorem eone_walk (hL : Lr w0 w s.small s.main.reverse ev gh v1 v2 v3 v4) (hB : Bl w0 w b (tgt s.c) v1 v2 v3 v4) (hp : 0 < s.total) (ht : s.total ≤ 1048576) (hc : s.c ≤ 1048576) (hf : ∀ x ∈ s.main, x.f ≤ 3) (hel : ev.length ≤ 100000000) (hgl : gh.length ≤ 100000000) :
    Calls Try.prog 63 #[.pointer (some ⟨b, 0, none⟩)] w (EoP w0 b (tgt s.c) s ev gh) := by
  obtain ⟨F1, c1, rfl, -⟩ := hL.sm.mem
  obtain ⟨F2, c2, rfl, -⟩ := hL.mn.form
  obtain ⟨F3, n3, c3, rfl⟩ := hL.ev.kv.form
  obtain ⟨F4, n4, c4, rfl⟩ := hL.gh.kv.form
  have htt : s.total = s.small.length + s.main.length := rfl
  have HSM : Hid (∀ W, Below w.heap.size w W → Calls Try.prog 72 #[.pointer (some ⟨b, 0, none⟩)] W (EsP w0 b (tgt s.c) ev gh (fsP s.small.reverse s.main))) := Lib.hid (fun W hb => by
    have h := esmall_walk (hL.below hb) (hB.below hb) (by rw [List.length_reverse]; omega) hel hgl
    rw [List.reverse_reverse] at h
    exact h)
  have HMN : Hid (s.main ≠ [] → ∀ W, Below w.heap.size w W → Calls Try.prog 73 #[.pointer (some ⟨b, 0, none⟩)] W (EmP w0 b (tgt s.c) s.small ev gh (.slice F1 s.small.length c1) (.slice F4 n4 c4) (fm s.main))) := Lib.hid (fun hm W hb => by
    have h := emain_walk (hL.below hb) (hB.below hb) (by simpa using hm) (by rw [List.length_reverse]; omega) hel (fun x hx => hf x (by simpa using hx))
    rw [List.reverse_reverse] at h
    exact h)
  have HEL := Lib.hid hel
  have HFF := Lib.hid hf
  have HTP := Lib.hid (And.intro hp ht)
  obtain ⟨n1, hn1⟩ : ∃ n, s.small.length = n := ⟨_, rfl⟩
  obtain ⟨n2, hn2⟩ : ∃ n, s.main.length = n := ⟨_, rfl⟩
  obtain ⟨q, hq⟩ : ∃ q, tgt s.c = q := ⟨_, rfl⟩
  have hqc : q ≤ 1048576 := by
    have : tgt s.c ≤ max 1 s.c := by unfold tgt; split <;> omega
    omega
  rw [List.length_reverse] at hB hL
  rw [hn1, hn2] at htt hB hL
  rw [hn1] at HMN
  rw [hq] at hB HSM HMN ⊢
  have HN := Lib.hid (And.intro hn1 (And.intro hn2 hq))
  have hqI : (q : Int) ≤ 1048576 := by omega
  have hn1I : (n1 : Int) ≤ 1048576 := by omega
  have hn2I : (n2 : Int) ≤ 1048576 := by omega
  have HTT := Lib.hid htt
  obtain ⟨⟨x0, x1, x2, x3, x4⟩, xf0, xf1, xf2, xf3, xf4⟩ := hB.cells
  have hbb := hB.lt
  clear hL hB hel hgl hf hp ht htt hn1 hn2 hq hqc
  by_cases hA : q ≤ n1
  · have hAI : ((q : Nat) : Int) ≤ ((n1 : Nat) : Int) := by omega
    have hAd : decide (((q : Nat) : Int) ≤ ((n1 : Nat) : Int)) = true := decide_eq_true hAI
    have HC : Hid (tgt s.c ≤ s.small.length ∨ s.main.length = 0) := Lib.hid (by rw [HN.out.1, HN.out.2.1, HN.out.2.2]; exact .inl hA)
    have KR := Lib.hid (fun m : Nat => HSM.out (w.drewN m) (below_drewn (Below.refl _ _) m))
    obtain ⟨Q, hQ⟩ : ∃ Q, fsP s.small.reverse s.main = Q := ⟨_, rfl⟩
    rw [hQ] at KR
    have HQ := Lib.hid hQ
    clear HSM HMN hQ
    go_enter Try.func63, Try.ntmps63
    go_wp2_with fail
    go_quiet (fail)
    go_wp2_with fail
    refine (KR.out _).mono ?_
    rintro e w5 ⟨u1, u2, u3, u4, rfl, hl5, hb5⟩
    obtain ⟨ko, hko⟩ : ∃ ko, Q.2.2 = ko := ⟨_, rfl⟩
    rw [hko]
    cases ko with
    | some k =>
      have HF := Lib.hid (eo_some HC.out HQ.out hko hl5 hb5)
      clear hl5 hb5 hko KR x0 x1 x2 x3 x4 xf0 xf1 xf2 xf3 xf4 hbb
      go_wp2
      exact bodyPost_ret (v := .tuple #[]) (by simp [results, Try.results63, go_sem]) rfl (by rw [← HN.out.2.2]; rw [← HN.out.2.2] at HF; exact HF.out)
    | none =>
      have hl6 := hl5
      rw [hko] at hl6
      obtain ⟨hln, hfl⟩ := fsP_len s.small.reverse s.main (by rw [HQ.out]; exact hko)
      rw [HQ.out] at hln hfl
      rw [List.length_reverse] at hln
      have KM := Lib.hid (emain_walk (ev := ev) (gh := gh) (by simpa using hl6) hb5 (by
        intro e
        rw [List.reverse_eq_nil_iff] at e
        rw [e] at hln
        have h1 := HTP.out.1
        have h2 := HTT.out
        have h3 := HN.out
        simp at hln
        omega) (by rw [List.length_reverse, hln]; have h1 := HTP.out.2; have h2 := HTT.out; have h3 := HN.out; omega) HEL.out (fun x hx => hfl HFF.out x (by simpa using hx)))
      rw [List.reverse_reverse] at KM
      have HKO := Lib.hid hko
      clear hl5 hl6 hb5 hko hln hfl KR x0 x1 x2 x3 x4 xf0 xf1 xf2 xf3 xf4 hbb
      go_wp2_with fail
      refine KM.out.mono ?_
      rintro e w7 ⟨u2', u3', rfl, hl7, hb7⟩
      have HF := Lib.hid (eo_none HC.out HQ.out HKO.out hl7 hb7)
      clear hl7 hb7 KM
      go_wp2
      first
        | exact bodyPost_ret (v := .tuple #[]) (by simp [results, Try.results63, go_sem]) rfl HF.out
        | (go_end0; exact HF.out)
  · have hAI : ¬ ((q : Nat) : Int) ≤ ((n1 : Nat) : Int) := by omega
    have hAd : decide (((q : Nat) : Int) ≤ ((n1 : Nat) : Int)) = false := decide_eq_false hAI
    by_cases hB : n2 = 0
    · obtain rfl : n2 = 0 := hB
      have HC : Hid (tgt s.c ≤ s.small.length ∨ s.main.length = 0) := Lib.hid (by rw [HN.out.1, HN.out.2.1, HN.out.2.2]; exact .inr rfl)
      have KR := Lib.hid (fun m : Nat => HSM.out (w.drewN m) (below_drewn (Below.refl _ _) m))
      obtain ⟨Q, hQ⟩ : ∃ Q, fsP s.small.reverse s.main = Q := ⟨_, rfl⟩
      rw [hQ] at KR
      have HQ := Lib.hid hQ
      clear HSM HMN hQ
      go_enter Try.func63, Try.ntmps63
      go_wp2_with fail
      go_quiet (fail)
      go_wp2_with fail
      refine (KR.out _).mono ?_
      rintro e w5 ⟨u1, u2, u3, u4, rfl, hl5, hb5⟩
      obtain ⟨ko, hko⟩ : ∃ ko, Q.2.2 = ko := ⟨_, rfl⟩
      rw [hko]
      cases ko with
      | some k =>
        have HF := Lib.hid (eo_some HC.out HQ.out hko hl5 hb5)
        clear hl5 hb5 hko KR x0 x1 x2 x3 x4 xf0 xf1 xf2 xf3 xf4 hbb
        go_wp2
        exact bodyPost_ret (v := .tuple #[]) (by simp [results, Try.results63, go_sem]) rfl (by rw [← HN.out.2.2]; rw [← HN.out.2.2] at HF; exact HF.out)
      | none =>
        have hl6 := hl5
        rw [hko] at hl6
        obtain ⟨hln, hfl⟩ := fsP_len s.small.reverse s.main (by rw [HQ.out]; exact hko)
        rw [HQ.out] at hln hfl
        rw [List.length_reverse] at hln
        have KM := Lib.hid (emain_walk (ev := ev) (gh := gh) (by simpa using hl6) hb5 (by
          intro e
          rw [List.reverse_eq_nil_iff] at e
          rw [e] at hln
          have h1 := HTP.out.1
          have h2 := HTT.out
          have h3 := HN.out
          simp at hln
          omega) (by rw [List.length_reverse, hln]; have h1 := HTP.out.2; have h2 := HTT.out; have h3 := HN.out; omega) HEL.out (fun x hx => hfl HFF.out x (by simpa using hx)))
        rw [List.reverse_reverse] at KM
        have HKO := Lib.hid hko
        clear hl5 hl6 hb5 hko hln hfl KR x0 x1 x2 x3 x4 xf0 xf1 xf2 xf3 xf4 hbb
        go_wp2_with fail
        refine KM.out.mono ?_
        rintro e w7 ⟨u2', u3', rfl, hl7, hb7⟩
        have HF := Lib.hid (eo_none HC.out HQ.out HKO.out hl7 hb7)
        clear hl7 hb7 KM
        go_wp2
        first
          | exact bodyPost_ret (v := .tuple #[]) (by simp [results, Try.results63, go_sem]) rfl HF.out
          | (go_end0; exact HF.out)
    · have hBd : ((((n2 : Nat) : Int)) == 0) = false := by rw [beq_eq_false_iff_ne]; omega
      have HC : Hid (¬ (tgt s.c ≤ s.small.length ∨ s.main.length = 0)) := Lib.hid (by rw [HN.out.1, HN.out.2.1, HN.out.2.2]; omega)
      have KR := Lib.hid (fun m : Nat => HMN.out (fun e => HC.out (.inr (by rw [e]; rfl))) (w.drewN m) (below_drewn (Below.refl _ _) m))
      clear HSM HMN
      go_enter Try.func63, Try.ntmps63
      go_wp2_with fail
      go_quiet (fail)
      go_wp2_with fail
      refine (KR.out _).mono ?_
      rintro e w7 ⟨u2', u3', rfl, hl7, hb7⟩
      have HF := Lib.hid (eo_main HC.out hl7 hb7)
      clear hl7 hb7 KR x0 x1 x2 x3 x4 xf0 xf1 xf2 xf3 xf4 hbb
      go_wp2
      first
        | exact bodyPost_ret (v := .tuple #[]) (by simp [results, Try.results63, go_sem]) rfl HF.out
        | (go_end0; exact HF.out)
end
end Go.Proofs.Ytlekhmpalcgbmaa
