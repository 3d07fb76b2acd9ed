/- The program's lists of keys: Apart, over a map of the keys that were seen. -/
import Derived.Test.YtmghbdmbflefpaaSqP2
import Derived.Maps.OwnSet
namespace Go.Proofs.Ytmghbdmbflefpaa
open Go Go.RowKit Go.Deep

theorem keyed64 : Maps.Keyed Try.prog 23 := Maps.int_keyed Try.underlying23
theorem zeroB (w : World) : (zeroValue 4).run Try.prog w = .ok (.bool false) w := by kernel_rfl
theorem key64 {k : Nat} (hk : k < 18446744073709551616) : keyOf Try.prog 23 (.int .u64 (k : Nat)) = some (.int .u64 (k : Nat)) := by
  refine Maps.keyOf_int_mk Try.underlying23 ?_
  have m1 : IntKind.u64.min = 0 := rfl
  have m2 : IntKind.u64.max = 18446744073709551615 := rfl
  simp only [Lit.wf, Bool.and_eq_true, decide_eq_true_eq, m1, m2]
  omega
/- The map in block b has the keys L. -/
structure Seen (w0 w : World) (b : Nat) (L : List Nat) : Prop where
  low : Below w0.heap.size w0 w
  lo : w0.heap.size ≤ b
  own : ∃ D : DataW Unit, w.ownsMap Try.prog 23 (plainElem Try.prog 4) b L.length D ∧ Maps.IsMap D ∧ ∀ k : Nat, k < 18446744073709551616 → D.atKey (.int .u64 (k : Nat)) (.lit (.bool false)) = .lit (.bool (decide (k ∈ L)))
theorem Seen.made {w0 w : World} (h : Below w0.heap.size w0 w) : Seen w0 (w.alloc (.map #[] 0)) w.heap.size [] :=
  ⟨h.alloc h.size _, h.size, ⟨.map [], World.ownsMap_made _ _ _ _, ⟨_, rfl⟩, fun k _ => by simp [DataW.atKey]⟩⟩
theorem Seen.look {w0 w : World} {b : Nat} {L : List Nat} (h : Seen w0 w b L) {k : Nat} (hk : k < 18446744073709551616) :
    (Instr.lookup 41 (.map (some b)) (.int .u64 (k : Nat)) false).run Try.prog w = .ok (.bool (decide (k ∈ L))) w := by
  obtain ⟨D, h1, _, h3⟩ := h.own
  obtain ⟨v, ps, hrun, hv⟩ := h1.lookup keyed64 Try.underlying41 (zeroB w) (plainElem_bool Try.underlying4 false) (key64 hk)
  rw [h3 k hk] at hv
  rw [hrun]
  unfold plainElem at hv
  rw [Try.underlying4] at hv
  cases v <;> simp at hv
  rw [hv.1]
theorem wpList_seen {w0 w : World} {ops : Array Oper} {rest : List Oper} {o : Oper} {a : Act} {Q : Exit → Act → World → Prop} (hg : o.guard = none) (m x v : Operand) (hop : o.op = Op.mapUpdate 41 m x v)
    (b : Nat) (L : List Nat) (hm : a.eval m = .map (some b)) (h : Seen w0 w b L) (hn : L.length ≤ 1000000000) (k : Nat) (hk : k < 18446744073709551616) (hx : a.eval x = .int .u64 (k : Nat)) (hv : a.eval v = .bool true)
    (hK : ∀ w', Seen w0 w' b (L ++ [k]) → wpList Try.prog ops Q rest (a.put o.dst undef) w') : wpList Try.prog ops Q (o :: rest) a w := by
  obtain ⟨hlow, hlo, ⟨D, h1, h2, h3⟩⟩ := h
  refine wpList_mapUpdate_own w hg m x v _ hop 23 4 keyed64 Try.underlying41 _ b L.length D hm h1 (by unfold maxLen; omega) _ _ _ hx hv (key64 hk) _ [] (plainElem_bool Try.underlying4 true) ?_
  intro w' h5 h6
  refine hK w' ⟨?_, hlo, ⟨_, by rw [List.length_append]; exact h5, ?_, fun j hj => ?_⟩⟩
  · exact hlow.grown h6 hlow.size (fun j hj => by cases hj; exact hlo)
  · obtain ⟨es, rfl⟩ := h2
    exact ⟨_, rfl⟩
  · by_cases e : j = k
    · subst e
      rw [Maps.atKey_put_same h2 (by simp [WideAt.IsKeyLit])]
      simp
    · rw [Maps.atKey_put_other (by
        intro e2
        injection e2 with _ e3
        exact e (by omega)), h3 j hj]
      simp [e]
section
variable {w : World} {v : Value} {kss : List (List Nat)}
set_option maxHeartbeats 2000000 in
theorem apart_walk (h : KVV w v kss) (hl : kss.length ≤ 1000) (hl2 : kss.flatten.length ≤ 100000000) (hkb : ∀ k ∈ kss.flatten, k < 18446744073709551616) :
    Calls Try.prog 21 #[v] w (RetB w (decide kss.flatten.Nodup)) := by
  obtain ⟨F, c, rfl, h2⟩ := h.mem
  have HM := Lib.hid h2
  obtain ⟨r, hr⟩ : ∃ r, decide kss.flatten.Nodup = r := ⟨_, rfl⟩
  have HR := Lib.hid hr
  have HL2 := Lib.hid hl2
  have HKB := Lib.hid hkb
  rw [hr]
  obtain ⟨n, hn⟩ : ∃ n, kss.length = n := ⟨_, rfl⟩
  have HNN := Lib.hid hn
  rw [hn] at hl ⊢
  have hmm := @run_makeMap Try.prog
  clear h h2 hr hl2 hkb hn
  go_enter Try.func21, Try.ntmps21
  go_wp2_with fail
  go_loopg [11] n (fun gg s11 wr => ∃ (i : Nat), i + gg = n ∧ s11 = .int .i64 (i : Nat) ∧ Hid (Seen w wr w.heap.size (gone kss i 0) ∧ (gone kss i 0).Nodup))
  case atStart => exact ⟨0, by omega, rfl, Lib.hid ⟨by rw [gone_zero]; exact Seen.made (Below.refl _ _), by simp [gone]⟩⟩
  case round =>
    obtain ⟨i, hi, rfl, HI⟩ := hrel
    by_cases hlt : i < n
    · have hltI : (i : Int) < (n : Int) := by omega
      have hik : i < kss.length := by rw [HNN.out]; exact hlt
      obtain ⟨m, hm⟩ : ∃ m, kss[i].length = m := ⟨_, rfl⟩
      have HMM := Lib.hid hm
      have hm6 : m ≤ 100000000 := by
        rw [← hm]
        refine Nat.le_trans ?_ HL2.out
        obtain ⟨r, e⟩ := gone_pre (j := kss[i].length) hik
        rw [e, gone, List.getD_eq_getElem?_getD, List.getElem?_eq_getElem hik]
        simp
        omega
      clear hm
      obtain ⟨ad, u, hF, hadb, hc, hkv⟩ := HM.out i hik
      subst hF
      have HKV := Lib.hid hkv
      obtain ⟨G, d, hu, _, _, _⟩ := hkv.mem
      subst hu
      have q0 := (HI.out.1.low.cell (p := ad.add i) (by rw [ad_block]; exact hadb)).trans hc
      rw [HMM.out] at q0 HKV
      clear hkv hc
      go_wp2_with fail
      go_loopg [17] m (fun gg s17 w2 => ∃ (j : Nat), j + gg = m ∧ s17 = .int .i64 (j : Nat) ∧ Hid (Seen w w2 w.heap.size (gone kss i j) ∧ (gone kss i j).Nodup))
      case atStart => exact ⟨0, by omega, rfl, HI⟩
      case round =>
        obtain ⟨j, hj, rfl, HJ⟩ := hrel
        obtain ⟨wB, hwB⟩ : ∃ x, x = wr := ⟨_, rfl⟩
        subst hwB
        by_cases hlj : j < m
        · have hljI : (j : Int) < (m : Int) := by omega
          have hjk : j < kss[i].length := by rw [HMM.out]; exact hlj
          obtain ⟨_, _, e, _, _, h3⟩ := (HKV.out.below HJ.out.1.low).mem
          injection e with e1 e2 e3
          subst e1 e3
          clear e2
          obtain ⟨ad2, hG, hadb2, q1⟩ := h3 j hjk
          subst hG
          have hlen : (gone kss i j).length ≤ 100000000 := Nat.le_trans (gone_len hik) HL2.out
          have HB := Lib.hid (fun h => gone_bad hik hjk h)
          have HG := Lib.hid (fun h => gone_good hik hjk h HJ.out.2)
          have HS := Lib.hid (gone_step hik hjk)
          have hxb : kss[i][j] < 18446744073709551616 := HKB.out _ (List.mem_flatten.2 ⟨_, List.getElem_mem hik, List.getElem_mem hjk⟩)
          clear h3
          obtain ⟨x, hx⟩ : ∃ x, kss[i][j] = x := ⟨_, rfl⟩
          rw [hx] at q1 HB HG HS hxb
          have q2 := HJ.out.1.look hxb
          clear hx
          by_cases hin : x ∈ gone kss i j
          · have HF : Hid (r = false) := Lib.hid (by
              rw [← HR.out]
              exact decide_eq_false (HB.out hin))
            rw [decide_eq_true hin] at q2
            clear HB HG hin
            go_wp2
            go_ret
            exact ⟨congrArg (fun x : Bool => Ending.returned (Value.bool x)) HF.out.symm, HJ.out.1.low⟩
          · rw [decide_eq_false hin] at q2
            have HGN := Lib.hid (HG.out hin)
            clear HB HG hin
            go_wp2_with (at_mapUpdate; refine wpList_seen rfl _ _ _ rfl w.heap.size (gone kss i j) rfl HJ.out.1 (by omega) x hxb rfl rfl ?_)
            intro w7 hown7
            rw [← HS.out] at hown7
            have HN := Lib.hid (And.intro hown7 HGN.out)
            clear hown7 q0 q1 q2
            go_wp2
            go_roundg (gk - 1)
            case measure => omega
            case rel => exact ⟨j + 1, by omega, by go_num, HN⟩
        · have hljI : ¬ (j : Int) < (m : Int) := by omega
          obtain rfl : j = m := by omega
          have HN : Hid (Seen w wB w.heap.size (gone kss (i + 1) 0) ∧ (gone kss (i + 1) 0).Nodup) := Lib.hid (by
            have h := HJ.out
            rw [← HMM.out, gone_next hik] at h
            exact h)
          go_wp2
          go_roundg (n - i - 1)
          case measure => omega
          case rel => exact ⟨i + 1, by omega, by go_num, HN⟩
    · have hltI : ¬ (i : Int) < (n : Int) := by omega
      obtain rfl : i = n := by omega
      have HT : Hid (r = true) := Lib.hid (by
        have h := HI.out.2
        rw [← HNN.out, gone_all] at h
        rw [← HR.out]
        exact decide_eq_true h)
      go_wp2
      go_ret
      exact ⟨congrArg (fun x : Bool => Ending.returned (Value.bool x)) HT.out.symm, HI.out.1.low⟩
end
end Go.Proofs.Ytmghbdmbflefpaa
