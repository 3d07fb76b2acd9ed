/- The document's own lists of keys: Same, Front, Fall, Apart. -/
import Derived.Test.YtjfhapobbglbpaaSqR
namespace Go.Proofs.Ytjfhapobbglbpaa
open Go Go.RowKit Go.Deep

section
variable {w : World} {v : Value} {ks : List Nat}
theorem same_walk {a b : Value} {js : List Nat} (ha : KV w a ks) (hb : KV w b js) (hl : ks.length ≤ 100000000) :
    Calls Try.prog 15 #[a, b] w fun e w' => e = .returned (.bool (decide (ks = js))) ∧ Below w.heap.size w w' := by
  obtain ⟨F, c, rfl, _, _, h1⟩ := ha.mem
  obtain ⟨G, d, rfl, _, _, h2⟩ := hb.mem
  obtain ⟨r, hr⟩ : ∃ r, decide (ks = js) = r := ⟨_, rfl⟩
  have HR := Lib.hid hr
  rw [hr]
  by_cases hlen : ks.length = js.length
  · have H1 := Lib.hid h1
    have H2 := Lib.hid h2
    have HL := Lib.hid hlen
    rw [← hlen]
    clear ha hb h1 h2 hr hlen
    obtain ⟨n, hn⟩ : ∃ n, ks.length = n := ⟨_, rfl⟩
    rw [hn] at hl ⊢
    have HN := Lib.hid hn
    clear hn
    go_enter Try.func15, Try.ntmps15
    go_wp2_with fail
    go_loopg [5] n (fun gg s5 wr => ∃ i : Nat, i + gg = n ∧ s5 = .int .i64 (i : Nat) ∧ Hid (Below w.heap.size w wr ∧ ∀ j (hj : j < ks.length) (hj2 : j < js.length), j < i → ks[j] = js[j]))
    case atStart => exact ⟨0, by omega, rfl, Lib.hid ⟨Below.refl _ _, fun j _ _ hj => by omega⟩⟩
    case round =>
      obtain ⟨i, hi, rfl, HB⟩ := hrel
      by_cases hlt : i < n
      · have hltI : (i : Int) < (n : Int) := by omega
        have hk : i < ks.length := by rw [HN.out]; exact hlt
        have hj : i < js.length := by rw [← HL.out]; exact hk
        obtain ⟨b1, hF, l1, q1⟩ := H1.out i hk
        obtain ⟨b2, hG, l2, q2⟩ := H2.out i hj
        subst hF hG
        have q1 := (HB.out.1.cell (p := b1.add i) (by rw [ad_block]; exact l1)).trans q1
        have q2 := (HB.out.1.cell (p := b2.add i) (by rw [ad_block]; exact l2)).trans q2
        have HB2 := Lib.hid HB.out.1
        by_cases he : ks[i] = js[i]
        · have HNX : Hid (∀ j (hj : j < ks.length) (hj2 : j < js.length), j < i + 1 → ks[j] = js[j]) := Lib.hid (fun j h h' hji => by
            rcases Nat.lt_or_ge j i with h2 | h2
            · exact HB.out.2 j h h' h2
            · have : j = i := by omega
              subst this
              exact he)
          rw [he] at q1
          generalize js[i] = x at q1 q2
          clear l1 l2 he HB
          go_wp2_with fail
          go_quiet (fail)
          go_wp2
          go_roundg (gk - 1)
          case measure => omega
          case rel => exact ⟨i + 1, by omega, by go_num, Lib.hid ⟨below_drewn HB2.out _, HNX.out⟩⟩
        · have HF : Hid (r = false) := Lib.hid (by
            rw [← HR.out]
            refine decide_eq_false (fun e => he ?_)
            subst e
            rfl)
          have hne : (((ks[i] : Nat) : Int) != ((js[i] : Nat) : Int)) = true := by
            rw [bne_iff_ne]
            omega
          have hne2 : (((ks[i] : Nat) : Int) == ((js[i] : Nat) : Int)) = false := by
            rw [beq_eq_false_iff_ne]
            omega
          generalize ks[i] = x at q1 hne hne2
          generalize js[i] = y at q2 hne hne2
          clear l1 l2 he HB
          go_wp2_with fail
          go_quiet (fail)
          go_wp2
          go_ret
          exact ⟨congrArg (fun x : Bool => Ending.returned (Value.bool x)) HF.out.symm, below_drewn HB2.out _⟩
      · have hltI : ¬ (i : Int) < (n : Int) := by omega
        have HT : Hid (r = true) := Lib.hid (by
          rw [← HR.out]
          refine decide_eq_true (List.ext_getElem HL.out (fun j h h' => HB.out.2 j h h' ?_))
          have := HN.out
          omega)
        go_wp2
        go_ret
        exact ⟨congrArg (fun x : Bool => Ending.returned (Value.bool x)) HT.out.symm, HB.out.1⟩
  · have HF : Hid (r = false) := Lib.hid (by
      rw [← hr]
      exact decide_eq_false (fun e => hlen (congrArg List.length e)))
    have hne : (((ks.length : Nat) : Int) != ((js.length : Nat) : Int)) = true := by
      rw [bne_iff_ne]
      omega
    have hne2 : (((ks.length : Nat) : Int) == ((js.length : Nat) : Int)) = false := by
      rw [beq_eq_false_iff_ne]
      omega
    clear h1 h2 hr ha hb
    generalize ks.length = x at *
    generalize js.length = y at *
    go_enter Try.func15, Try.ntmps15
    go_wp2
    go_ret
    exact ⟨congrArg (fun x : Bool => Ending.returned (Value.bool x)) HF.out.symm, Below.refl _ _⟩
end
end Go.Proofs.Ytjfhapobbglbpaa
