/- IlistKeeps, walked. -/
import Derived.Test.YtlmcodmglcmmoaaBeg
namespace Go.Proofs.Ytlmcodmglcmmoaa
open Go Go.RowKit Go.Deep

/- How many of six slots are in a list. -/
def inUp (f : Nat → Bool) : Nat → Nat
  | 0 => 0
  | k + 1 => inUp f k + (if f k then 1 else 0)
def sumUp (f : Nat → Nat) : Nat → Nat
  | 0 => 0
  | k + 1 => sumUp f k + f k
theorem inUp_le (f : Nat → Bool) : ∀ k, inUp f k ≤ k
  | 0 => Nat.le_refl _
  | k + 1 => by have := inUp_le f k; unfold inUp; split <;> omega
theorem inUp_congr {f g : Nat → Bool} : ∀ k, (∀ j, j < k → f j = g j) → inUp f k = inUp g k
  | 0, _ => rfl
  | k + 1, h => by unfold inUp; rw [inUp_congr k (fun j hj => h j (by omega)), h k (by omega)]
theorem inUp_add {f g h : Nat → Bool} : ∀ k, (∀ j, j < k → f j = (g j || h j)) → (∀ j, j < k → (g j && h j) = false) → inUp f k = inUp g k + inUp h k
  | 0, _, _ => rfl
  | k + 1, h1, h2 => by
    unfold inUp
    rw [inUp_add k (fun j hj => h1 j (by omega)) (fun j hj => h2 j (by omega)), h1 k (by omega)]
    have := h2 k (by omega)
    cases hg : g k <;> cases hh : h k <;> simp_all <;> omega
theorem inUp_one (a : Nat) : ∀ k, inUp (fun j => decide (j + 1 = a)) k = if 1 ≤ a ∧ a ≤ k then 1 else 0
  | 0 => by rw [if_neg (by omega)]; rfl
  | k + 1 => by
    show inUp (fun j => decide (j + 1 = a)) k + (if decide (k + 1 = a) = true then 1 else 0) = _
    rw [inUp_one a k]
    by_cases h : k + 1 = a
    · rw [decide_eq_true h, if_neg (by omega), if_pos rfl, if_pos (show 1 ≤ a ∧ a ≤ k + 1 by omega)]
    · rw [decide_eq_false h]
      by_cases h1 : 1 ≤ a ∧ a ≤ k
      · rw [if_pos h1, if_pos (show 1 ≤ a ∧ a ≤ k + 1 by omega)]; rfl
      · rw [if_neg h1, if_neg (show ¬ (1 ≤ a ∧ a ≤ k + 1) by omega)]; rfl
theorem inUp_none : ∀ k, inUp (fun _ => false) k = 0
  | 0 => rfl
  | k + 1 => by unfold inUp; rw [inUp_none k]; rfl
theorem inUp_len (m : Nat) : ∀ (L : List Nat), L.Nodup → (∀ i ∈ L, 1 ≤ i ∧ i ≤ m) → inUp (fun j => decide (j + 1 ∈ L)) m = L.length
  | [], _, _ => by
    have := inUp_none m
    simpa using this
  | a :: r, hn, hb => by
    have hn' := List.nodup_cons.1 hn
    rw [inUp_add (g := fun j => decide (j + 1 = a)) (h := fun j => decide (j + 1 ∈ r)) m (fun j _ => by simp) (fun j _ => by
      cases hg : decide (j + 1 = a)
      · rfl
      · have : j + 1 = a := by simpa using hg
        rw [this]
        simpa using hn'.1), inUp_one, inUp_len m r hn'.2 (fun i hi => hb i (by simp [hi])), if_pos (hb a (by simp))]
    simp; omega

section
variable {w0 w : World} {p b n : Nat} {l : Nat → List Nat} {A : St} {K : List Nat}
/- As many are in lists as the lists are long. -/
theorem HL.sum (h : HL w0 w p b n l A K) (m : Nat) (hA : ∀ i, A.tk i = true → i ≤ m) : ∀ k, k ≤ n → inUp (fun j => decide (∃ t, t < k ∧ j + 1 ∈ l t)) m = sumUp (fun t => (l t).length) k
  | 0, _ => by
    have := inUp_none m
    simpa [sumUp] using this
  | k + 1, hk => by
    unfold sumUp
    rw [← HL.sum h m hA k (by omega), ← inUp_len m (l k) (h.nodup (by omega)) (fun i hi => by
      have := tk_bounds (h.taken (t := k) (by omega) hi)
      have := hA i (h.taken (t := k) (by omega) hi)
      omega)]
    refine inUp_add m (fun j _ => ?_) (fun j _ => ?_)
    · rw [← Bool.decide_or, decide_eq_decide]
      constructor
      · rintro ⟨t, ht, hm⟩
        by_cases e : t = k
        · subst e; exact .inr hm
        · exact .inl ⟨t, by omega, hm⟩
      · rintro (⟨t, ht, hm⟩ | hm)
        · exact ⟨t, by omega, hm⟩
        · exact ⟨k, by omega, hm⟩
    · cases hg : decide (j + 1 ∈ l k)
      · simp
      · have hm : j + 1 ∈ l k := by simpa using hg
        rw [Bool.and_true, decide_eq_false_iff_not]
        rintro ⟨t, ht, hm'⟩
        have := h.apart (by omega) (by omega) hm' hm
        omega
theorem sum_lens (n : Nat) (l : Nat → List Nat) : ∀ k, sumUp (fun t => lenL n l (t : Nat)) k = sumUp (fun t => (l t).length) (min k n)
  | 0 => by simp [sumUp]
  | k + 1 => by
    have ih := sum_lens n l k
    by_cases h : k < n
    · rw [show min (k + 1) n = k + 1 by omega]
      rw [show min k n = k by omega] at ih
      unfold sumUp
      rw [ih]
      unfold lenL
      rw [hasT_of h]
      simp
    · rw [show min (k + 1) n = n by omega]
      rw [show min k n = n by omega] at ih
      rw [← ih]
      show sumUp _ k + lenL n l (k : Nat) = sumUp _ k
      have : hasT n (k : Int) = false := by unfold hasT; rw [decide_eq_false (by omega : ¬ (k : Int) < n)]; simp
      unfold lenL
      rw [this]
      rfl
theorem tag_in (h : HL w0 w p b n l A K) (j : Nat) : decide (0 ≤ tagI n l ((j : Int) + 1)) = decide (∃ t, t < n ∧ j + 1 ∈ l t) := by
  rw [decide_eq_decide]
  have e : ((j : Int) + 1) = ((j + 1 : Nat) : Int) := by omega
  rw [e]
  constructor
  · intro hp
    refine Classical.byContradiction fun hne => ?_
    have := tagI_out (n := n) (l := l) (i := ((j + 1 : Nat) : Int)) (fun t ht hm => hne ⟨t, ht, by simpa using hm.2⟩)
    omega
  · rintro ⟨t, ht, hm⟩
    rw [h.tagI_at ht hm]
    omega
theorem many_in (h : HL w0 w p b n l A K) (hn : n ≤ 3) (hA : ∀ i, A.tk i = true → i ≤ 6) : sumUp (fun t => lenL n l (t : Nat)) 3 = inUp (fun j => decide (0 ≤ tagI n l ((j : Int) + 1))) 6 := by
  rw [sum_lens, show min 3 n = n by omega, ← h.sum 6 hA n (Nat.le_refl _)]
  exact inUp_congr 6 (fun j _ => (tag_in h j).symm)

/- What a node has beside its list. -/
theorem hl_at (h : HL w0 w p b n l A K) (i : Int) (h32 : i ≤ 2147483647) : ∃ y : Nd, y.key = (A.at_ i).key ∧ y.val = (A.at_ i).val ∧ y.flag = (A.at_ i).flag ∧
    Calls Try.prog 25 #[.pointer (some ⟨b, 0, none⟩), .int .i32 i] w fun e w' => e = .returned y.v ∧ Below w.heap.size w w' := by
  obtain ⟨x, h1, h2, rfl, h4⟩ := h
  have hr := h4.rest i.toNat
  have his := h4.is i
  refine ⟨x.st.at_ i, ?_, ?_, ?_, heldl_at h1 i h32⟩
  · unfold St.at_
    rw [his]
    split
    · exact hr.1
    · rfl
  · unfold St.at_
    rw [his]
    split
    · exact hr.2.1
    · rfl
  · unfold St.at_
    rw [his]
    split
    · exact hr.2.2
    · rfl
end
theorem begF_at : ∀ k : Nat, k < 6 → k ≠ 3 → (begF.at_ ((k : Int) + 1)).key = 10 * (k : Int) ∧ (begF.at_ ((k : Int) + 1)).val = (k : Int) ∧ (begF.at_ ((k : Int) + 1)).flag = (k : Int)
  | 0, _, _ => by decide
  | 1, _, _ => by decide
  | 2, _, _ => by decide
  | 3, _, h => absurd rfl h
  | 4, _, _ => by decide
  | 5, _, _ => by decide
  | k + 6, h, _ => absurd h (by omega)
theorem begF_tk (i : Nat) (h : begF.tk i = true) : i ≤ 6 := by
  have := tk_bounds h
  have e : begF.used = 6 := by decide
  omega
theorem begF_four : begF.tk 4 = false := by decide
theorem tag_four {w0 w : World} {p b n : Nat} {l : Nat → List Nat} {K : List Nat} (h : HL w0 w p b n l begF K) : tagI n l 4 = -1 := by
  refine tagI_out (fun t ht hm => ?_)
  have h1 : begF.tk 4 = true := h.taken ht hm.2
  rw [begF_four] at h1
  cases h1

theorem keeps_long (w : World) (r : Int) (A : Option Addr) (n c : Nat) (hn : 40 < n) (hm : n ≤ maxLen) :
    Calls Try.prog 6 #[.int .u8 r, .slice A n c] w fun e w' => e = .returned (.bool true) ∧ Below w.heap.size w w' := by
  unfold maxLen at hm
  go_enter Try.func6, Try.ntmps6
  go_wp2_with fail
  refine (awake_walk _).mono ?_
  rintro e w1 ⟨rfl, h⟩
  have B1 := Lib.hid h; clear h
  go_wp2
  go_ret
  exact ⟨rfl, B1.out⟩

set_option maxHeartbeats 1000000 in
theorem keeps_short (w : World) (r : Nat) (hr : r < 256) (A : Option Addr) (n c : Nat) (l : Nat → Actl) (hn : n ≤ 40) (ha : Actls w A n l) :
    Calls Try.prog 6 #[.int .u8 r, .slice A n c] w fun e w' => e = .returned (.bool true) ∧ Below w.heap.size w w' := by
  have HA := Lib.hid ha
  clear ha
  go_enter Try.func6, Try.ntmps6
  go_wp2_with fail
  refine (awake_walk _).mono ?_
  rintro e w1 ⟨rfl, h⟩
  have B1 := Lib.hid h; clear h
  go_wp2_with fail
  refine (begin_walk B1.out r hr).mono ?_
  rintro e w2 ⟨b, p, v, K, rfl, h, hv⟩
  obtain ⟨Fo, fc, nb, nc, o, oc, rfl, _⟩ := hv
  have H2 := Lib.hid (h.still ((Below.refl w2.heap.size w2).alloc (Nat.le_refl _) (.cells #[.int .i64 begF.n, .int .i64 begF.used, .slice Fo begF.freed.length fc, .slice (some ⟨nb, 0, none⟩) (begF.used + 1) nc, .slice (some ⟨o, 0, none⟩) (1 + r % 3) oc] 32))).1
  clear h
  obtain ⟨q, hq, hq3⟩ : ∃ q : Nat, 1 + r % 3 = q ∧ q ≤ 3 := ⟨_, rfl, by omega⟩
  rw [hq] at H2 ⊢
  clear hq
  go_wp2_with fail
  go_loopg [9] n (fun g s9 wr => ∃ (k : Nat) (ls : Nat → List Nat), k + g = n ∧ s9 = .int .i64 k ∧ Hid (HL w wr p b q ls begF K))
  case atStart => exact ⟨0, _, by omega, rfl, Lib.hid H2.out⟩
  case round =>
    obtain ⟨k, ls, hk, rfl, HI⟩ := hrel
    by_cases hlt : k < n
    · obtain ⟨wf, g, off, hA, hg, c0, c1, c2⟩ := (HA.out.below HI.out.below) k hlt
      have HD := Lib.hid (do_walk HI.out (l k) wf)
      clear HI
      go_wp2_with fail
      refine HD.out.mono ?_
      rintro e w3 ⟨rfl, h, _⟩
      have H3 := Lib.hid h
      clear h c0 c1 c2 hA hg wf HD
      go_wp2
      go_roundg (gk - 1)
      case measure => omega
      case rel => exact ⟨k + 1, _, by omega, by go_num, H3⟩
    · have hlI : ¬ (k : Int) < (n : Int) := by omega
      have hlen : ∀ t : Nat, lenL q ls t ≤ 1000000 := fun t => by
        unfold lenL
        split
        · rename_i ht
          obtain ⟨t', e, htn⟩ := hasT_nat ht
          have := HI.out.len htn
          rw [e]
          simpa using this
        · omega
      have HLE := Lib.hid hlen
      clear hlen
      go_wp2_with fail
      go_loopg [10, 11] 3 (fun g s10 s11 wr2 => ∃ t s : Nat, t + g = 3 ∧ s10 = .int .i64 s ∧ s11 = .int .i64 t ∧ wr2 = wr ∧ s ≤ t * 1000000 ∧ Hid (s = sumUp (fun t => lenL q ls (t : Nat)) t))
      case atStart => exact ⟨0, 0, by omega, rfl, rfl, rfl, by omega, rfl⟩
      case round =>
        obtain ⟨t, s, ht, rfl, rfl, rfl, hsb, HS⟩ := hrel
        by_cases hlt3 : t < 3
        · have hltI : (t : Int) < 3 := by omega
          have hl0 := hl_len HI.out (t : Int)
          have hm2 := HLE.out t
          obtain ⟨m, hm⟩ : ∃ m, lenL q ls t = m := ⟨_, rfl⟩
          rw [hm] at hl0 hm2
          have HL0 := Lib.hid hl0
          have HM := Lib.hid hm
          clear hl0 hm
          go_wp2_with fail
          refine HL0.out.mono ?_
          rintro e w' ⟨rfl, rfl⟩
          go_wp2
          go_roundg (gk - 1)
          case measure => omega
          case rel => exact ⟨t + 1, s + m, by omega, by go_num, by go_num, rfl, by omega, Lib.hid (by
            show s + m = sumUp (fun t => lenL q ls (t : Nat)) t + lenL q ls (t : Nat)
            rw [← HS.out, HM.out])⟩
        · have hltI : ¬ (t : Int) < 3 := by omega
          obtain rfl : t = 3 := by omega
          go_wp2_with fail
          go_loopg [12, 13] 6 (fun g s12 s13 wr3 => ∃ k2 m2 : Nat, k2 + g = 6 ∧ s12 = .int .i64 m2 ∧ s13 = .int .i32 ((k2 : Int) + 1) ∧ m2 ≤ k2 ∧ Hid (m2 = inUp (fun j => decide (0 ≤ tagI q ls ((j : Int) + 1))) k2) ∧ Hid (HL w wr3 p b q ls begF K))
          case atStart => exact ⟨0, 0, by omega, rfl, rfl, by omega, rfl, HI⟩
          case round =>
            obtain ⟨k2, m2, hk2, rfl, rfl, hmb, HM2, HI3⟩ := hrel
            by_cases hlt6 : k2 < 6
            · have hltI6 : (k2 : Int) < 6 := by omega
              obtain ⟨y, y1, y2, y3, hat⟩ := hl_at HI3.out ((k2 : Int) + 1) (by omega)
              have HAT := Lib.hid hat
              have HTG := Lib.hid (fun w' hb => hl_tag (HI3.out.still (w' := w') hb).1 ((k2 : Int) + 1) (by omega))
              obtain ⟨g, hg⟩ : ∃ g, tagI q ls ((k2 : Int) + 1) = g := ⟨_, rfl⟩
              rw [hg] at HTG
              have HG := Lib.hid hg
              clear hat hg
              by_cases h3 : k2 = 3
              · subst h3
                clear y1 y2 y3
                obtain ⟨yk, yv, yf, yt, yp, yn⟩ := y
                go_wp2_with fail
                refine (show Calls _ _ _ wr fun e w' => e = .returned (Nd.v ⟨yk, yv, yf, yt, yp, yn⟩) ∧ Below wr.heap.size wr w' from HAT.out).mono ?_
                rintro e w4 ⟨rfl, hb4⟩
                have HB4 := Lib.hid (hb4.alloc hb4.size (.cells #[.int .u64 yk, .int .u64 yv, .int .i64 yf, .int .i64 yt, .int .i32 yp, .int .i32 yn] 56))
                clear hb4
                by_cases hg0 : 0 ≤ g
                · go_wp2_with fail
                  refine (show Calls _ _ _ _ fun e w' => e = .returned (.int .i64 g) ∧ Below _ _ w' from HTG.out _ HB4.out).mono ?_
                  rintro e w5 ⟨rfl, hb5⟩
                  have H5 := Lib.hid (HI3.out.still (HB4.out.trans (hb5.mono HB4.out.size))).1
                  clear hb5
                  go_wp2
                  go_roundg (gk - 1)
                  case measure => omega
                  case rel => exact ⟨3 + 1, m2 + 1, by omega, by go_num, by go_num, by omega, Lib.hid (by
                    show m2 + 1 = inUp (fun j => decide (0 ≤ tagI q ls ((j : Int) + 1))) 3 + (if decide (0 ≤ tagI q ls (((3 : Nat) : Int) + 1)) = true then 1 else 0)
                    rw [← HM2.out, HG.out, decide_eq_true hg0]; rfl), H5⟩
                · have hg1 : decide (0 ≤ g) = false := decide_eq_false hg0
                  go_wp2_with fail
                  refine (show Calls _ _ _ _ fun e w' => e = .returned (.int .i64 g) ∧ Below _ _ w' from HTG.out _ HB4.out).mono ?_
                  rintro e w5 ⟨rfl, hb5⟩
                  have H5 := Lib.hid (HI3.out.still (HB4.out.trans (hb5.mono HB4.out.size))).1
                  clear hb5
                  go_wp2
                  go_roundg (gk - 1)
                  case measure => omega
                  case rel => exact ⟨3 + 1, m2, by omega, rfl, by go_num, by omega, Lib.hid (by
                    show m2 = inUp (fun j => decide (0 ≤ tagI q ls ((j : Int) + 1))) 3 + (if decide (0 ≤ tagI q ls (((3 : Nat) : Int) + 1)) = true then 1 else 0)
                    rw [← HM2.out, HG.out, decide_eq_false (by omega : ¬ 0 ≤ g)]; rfl), H5⟩
              · obtain ⟨z1, z2, z3⟩ := begF_at k2 hlt6 h3
                rw [z1] at y1
                rw [z2] at y2
                rw [z3] at y3
                clear z1 z2 z3
                obtain ⟨yk, yv, yf, yt, yp, yn⟩ := y
                simp only at y1 y2 y3
                subst y1 y2 y3
                have h4 : ¬ ((k2 : Int) + 1 = 4) := by omega
                go_wp2_with fail
                refine HAT.out.mono ?_
                rintro e w4 ⟨rfl, hb4⟩
                have HB4 := Lib.hid (hb4.alloc hb4.size (.cells #[.int .u64 (10 * (k2 : Int)), .int .u64 (k2 : Int), .int .i64 (k2 : Int), .int .i64 yt, .int .i32 yp, .int .i32 yn] 56))
                clear hb4
                by_cases hg0 : 0 ≤ g
                · go_wp2_with fail
                  refine (HTG.out _ HB4.out).mono ?_
                  rintro e w5 ⟨rfl, hb5⟩
                  have H5 := Lib.hid (HI3.out.still (HB4.out.trans (hb5.mono HB4.out.size))).1
                  clear hb5
                  go_wp2
                  go_roundg (gk - 1)
                  case measure => omega
                  case rel => exact ⟨k2 + 1, m2 + 1, by omega, by go_num, by go_num, by omega, Lib.hid (by
                    show m2 + 1 = inUp (fun j => decide (0 ≤ tagI q ls ((j : Int) + 1))) k2 + (if decide (0 ≤ tagI q ls (((k2 : Nat) : Int) + 1)) = true then 1 else 0)
                    rw [← HM2.out, HG.out, decide_eq_true hg0]; rfl), H5⟩
                · have hg1 : decide (0 ≤ g) = false := decide_eq_false hg0
                  go_wp2_with fail
                  refine (HTG.out _ HB4.out).mono ?_
                  rintro e w5 ⟨rfl, hb5⟩
                  have H5 := Lib.hid (HI3.out.still (HB4.out.trans (hb5.mono HB4.out.size))).1
                  clear hb5
                  go_wp2
                  go_roundg (gk - 1)
                  case measure => omega
                  case rel => exact ⟨k2 + 1, m2, by omega, rfl, by go_num, by omega, Lib.hid (by
                    show m2 = inUp (fun j => decide (0 ≤ tagI q ls ((j : Int) + 1))) k2 + (if decide (0 ≤ tagI q ls (((k2 : Nat) : Int) + 1)) = true then 1 else 0)
                    rw [← HM2.out, HG.out, decide_eq_false (by omega : ¬ 0 ≤ g)]; rfl), H5⟩
            · have hltI6 : ¬ (k2 : Int) < 6 := by omega
              obtain rfl : k2 = 6 := by omega
              have hsm : s = m2 := by
                rw [HS.out, HM2.out]
                exact many_in HI3.out hq3 begF_tk
              subst hsm
              have ht4 := hl_tag HI3.out 4 (by decide)
              rw [tag_four HI3.out] at ht4
              have HT4 := Lib.hid ht4
              clear ht4
              go_wp2_with fail
              refine HT4.out.mono ?_
              rintro e w5 ⟨rfl, hb5⟩
              have H5 := Lib.hid (HI3.out.still hb5).1.below
              clear hb5
              go_wp2
              go_ret
              exact ⟨rfl, H5.out⟩
theorem ilistKeeps_walk (w : World) (r : Int) (hr : (Lit.int .u8 r).wf = true) (A : Option Addr) (n c : Nat) (l : Nat → Actl) (hm : n ≤ maxLen) (ha : Actls w A n l) :
    Calls Try.prog 6 #[.int .u8 r, .slice A n c] w fun e w' => e = .returned (.bool true) ∧ Below w.heap.size w w' := by
  by_cases hn : n ≤ 40
  · simp only [Lit.wf, Bool.and_eq_true, decide_eq_true_eq] at hr
    have m1 : IntKind.u8.min = 0 := rfl
    have m2 : IntKind.u8.max = 255 := rfl
    obtain ⟨k, rfl⟩ : ∃ k : Nat, r = k := ⟨r.toNat, by omega⟩
    exact keeps_short w k (by omega) A n c l hn ha
  · exact keeps_long w r A n c (by omega) hm
end Go.Proofs.Ytlmcodmglcmmoaa
