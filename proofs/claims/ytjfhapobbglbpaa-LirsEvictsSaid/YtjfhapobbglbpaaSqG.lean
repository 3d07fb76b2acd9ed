/- The document's own lists of keys: Apart; lists of lists. -/
import Derived.Test.YtjfhapobbglbpaaSqF
namespace Go.Proofs.Ytjfhapobbglbpaa
open Go Go.RowKit Go.Deep

/- The value v reads as the lists kss. -/
structure KVV (w : World) (v : Value) (kss : List (List Nat)) : Prop where
  mem : ∃ F c, v = .slice F kss.length c ∧ ∀ i (h : i < kss.length), ∃ ad u, F = some ad ∧ ad.block < w.heap.size ∧ w.cell? (ad.add i) = some u ∧ KV w u kss[i]
theorem KVV.below {w w' : World} {v : Value} {kss : List (List Nat)} (h : KVV w v kss) (hb : Below w.heap.size w w') : KVV w' v kss := by
  obtain ⟨F, c, e, h2⟩ := h.mem
  refine ⟨F, c, e, fun i h3 => ?_⟩
  obtain ⟨ad, u, e2, h5, h6, h7⟩ := h2 i h3
  exact ⟨ad, u, e2, Nat.lt_of_lt_of_le h5 hb.size, (hb.cell (p := ad.add i) (by rw [ad_block]; exact h5)).trans h6, h7.below hb⟩
/- What has been gone through: the first i lists, and j keys of the next one. -/
def gone (kss : List (List Nat)) (i j : Nat) : List Nat := (kss.take i).flatten ++ (kss.getD i []).take j
theorem gone_zero (kss : List (List Nat)) (i : Nat) : gone kss i 0 = (kss.take i).flatten := by simp [gone]
theorem gone_next {kss : List (List Nat)} {i : Nat} (hi : i < kss.length) : gone kss i kss[i].length = gone kss (i + 1) 0 := by
  rw [gone_zero, gone, List.take_succ_eq_append_getElem hi, List.flatten_append, List.getD_eq_getElem?_getD, List.getElem?_eq_getElem hi, Option.getD_some, List.take_length]
  simp
theorem gone_step {kss : List (List Nat)} {i j : Nat} (hi : i < kss.length) (hj : j < kss[i].length) : gone kss i (j + 1) = gone kss i j ++ [kss[i][j]] := by
  rw [gone, gone, List.getD_eq_getElem?_getD, List.getElem?_eq_getElem hi, Option.getD_some, List.take_succ_eq_append_getElem hj, List.append_assoc]
theorem gone_all (kss : List (List Nat)) : gone kss kss.length 0 = kss.flatten := by simp [gone]
theorem gone_pre {kss : List (List Nat)} {i j : Nat} (hi : i < kss.length) : ∃ r, kss.flatten = gone kss i j ++ r := by
  refine ⟨kss[i].drop j ++ (kss.drop (i + 1)).flatten, ?_⟩
  rw [gone, List.getD_eq_getElem?_getD, List.getElem?_eq_getElem hi, Option.getD_some, List.append_assoc, ← List.append_assoc (kss[i].take j), List.take_append_drop]
  conv => lhs; rw [← List.take_append_drop i kss, List.flatten_append, List.drop_eq_getElem_cons hi, List.flatten_cons]
theorem gone_len {kss : List (List Nat)} {i j : Nat} (hi : i < kss.length) : (gone kss i j).length ≤ kss.flatten.length := by
  obtain ⟨r, e⟩ := gone_pre (j := j) hi
  rw [e, List.length_append]
  omega
theorem gone_bad {kss : List (List Nat)} {i j : Nat} (hi : i < kss.length) (hj : j < kss[i].length) (hm : kss[i][j] ∈ gone kss i j) : ¬ kss.flatten.Nodup := by
  obtain ⟨r, e⟩ := gone_pre (j := j + 1) hi
  intro hn
  rw [e, gone_step hi hj] at hn
  have := (List.nodup_append.1 hn).1
  exact (List.nodup_append.1 this).2.2 _ hm _ (by simp) rfl
theorem gone_good {kss : List (List Nat)} {i j : Nat} (hi : i < kss.length) (hj : j < kss[i].length) (hm : kss[i][j] ∉ gone kss i j) (hn : (gone kss i j).Nodup) : (gone kss i (j + 1)).Nodup := by
  rw [gone_step hi hj]
  refine List.nodup_append.2 ⟨hn, by simp, fun a ha b hb e => ?_⟩
  simp at hb
  subst hb e
  exact hm ha
section
variable {w : World} {v : Value} {kss : List (List Nat)}
set_option maxHeartbeats 2000000 in
theorem rapart_walk (h : KVV w v kss) (hl : kss.length ≤ 1000) (hl2 : kss.flatten.length ≤ 100000000) :
    Calls Try.prog 25 #[v] w fun e w' => e = .returned (.bool (decide kss.flatten.Nodup)) ∧ Below w.heap.size w w' := by
  have H := Lib.hid h
  obtain ⟨F, c, rfl, h2⟩ := h.mem
  obtain ⟨r, hr⟩ : ∃ r, decide kss.flatten.Nodup = r := ⟨_, rfl⟩
  have HR := Lib.hid hr
  have HL2 := Lib.hid hl2
  rw [hr]
  clear h h2 hr hl2
  obtain ⟨n, hn⟩ : ∃ n, kss.length = n := ⟨_, rfl⟩
  have HNN := Lib.hid hn
  rw [hn] at hl ⊢
  have HX : Hid (∀ wr, Below w.heap.size w wr → ∀ i (hi : i < kss.length), ∃ ad u, F = some ad ∧ wr.cell? (ad.add i) = some u ∧ KV wr u kss[i]) := Lib.hid (fun wr hb i hi => by
    obtain ⟨F', c', e, h4⟩ := (H.out.below hb).mem
    injection e with e1 e2 e3
    subst e1 e3
    obtain ⟨ad, u, e4, _, h6, h7⟩ := h4 i hi
    exact ⟨ad, u, e4, h6, h7⟩)
  clear hn
  go_enter Try.func25, Try.ntmps25
  go_wp2_with fail
  go_loopg [3, 4, 5] n (fun gg s3 s4 s5 wr => ∃ (i : Nat) (v3 v5 : Value), i + gg = n ∧ v3 = s3 ∧ s4 = .int .i64 (i : Nat) ∧ v5 = s5 ∧ Hid (KO w.heap.size w wr v3 (gone kss i 0) ∧ (gone kss i 0).Nodup))
  case atStart => exact ⟨0, _, _, by omega, rfl, rfl, rfl, Lib.hid ⟨by rw [gone_zero]; exact KO.nil (Below.refl _ _), by simp [gone]⟩⟩
  case round =>
    obtain ⟨i, v3, v5, hi, rfl, rfl, rfl, HI⟩ := hrel
    by_cases hlt : i < n
    · have hltI : (i : Int) < (n : Int) := by omega
      have hik : i < kss.length := by rw [HNN.out]; exact hlt
      obtain ⟨m, hm⟩ : ∃ m, kss[i].length = m := ⟨_, rfl⟩
      have HM := Lib.hid hm
      have hm6 : m ≤ 100000000 := by
        rw [← hm]
        refine Nat.le_trans ?_ HL2.out
        obtain ⟨r, e⟩ := gone_pre (j := kss[i].length) hik
        rw [e, gone, List.getD_eq_getElem?_getD, List.getElem?_eq_getElem hik]
        simp
        omega
      clear hm
      go_wp2_with fail
      go_loopg [3, 5] m (fun gg s3 s5 w2 => ∃ (j : Nat) (v3 : Value), j + gg = m ∧ v3 = s3 ∧ s5 = .int .i64 (j : Nat) ∧ Hid (KO w.heap.size w w2 v3 (gone kss i j) ∧ (gone kss i j).Nodup))
      case atStart => exact ⟨0, v3, by omega, rfl, rfl, HI⟩
      case round =>
        obtain ⟨j, v3, hj, rfl, rfl, HJ⟩ := hrel
        obtain ⟨wB, hwB⟩ : ∃ x, x = wr := ⟨_, rfl⟩
        subst hwB
        obtain ⟨ad, u, hF, q0, hkv⟩ := HX.out _ HJ.out.1.low i hik
        subst hF
        obtain ⟨G, d, hu, _, _, h3⟩ := hkv.mem
        subst hu
        have hszw := HJ.out.1.low.size
        rw [HM.out] at q0
        clear hkv
        by_cases hlj : j < m
        · have hljI : (j : Int) < (m : Int) := by omega
          have hjk : j < kss[i].length := by rw [HM.out]; exact hlj
          obtain ⟨ad2, hG, _, q1⟩ := h3 j hjk
          subst hG
          have hlen : (gone kss i j).length ≤ 100000000 := Nat.le_trans (gone_len hik) HL2.out
          have KK := rhas_walk HJ.out.1.kv hlen kss[i][j]
          have HB := Lib.hid (fun h => gone_bad hik hjk h)
          have HG := Lib.hid (fun h => gone_good hik hjk h HJ.out.2)
          have HS := Lib.hid (gone_step hik hjk)
          clear h3
          obtain ⟨x, hx⟩ : ∃ x, kss[i][j] = x := ⟨_, rfl⟩
          rw [hx] at q1 KK HB HG HS
          clear hx
          by_cases hin : x ∈ gone kss i j
          · have HF : Hid (r = false) := Lib.hid (by
              rw [← HR.out]
              exact decide_eq_false (HB.out hin))
            rw [decide_eq_true hin] at KK
            clear HB HG hin
            go_wp2_with fail
            refine KK.mono ?_
            rintro e w3 ⟨rfl, rfl⟩
            go_wp2
            go_ret
            exact ⟨congrArg (fun x : Bool => Ending.returned (Value.bool x)) HF.out.symm, HJ.out.1.low⟩
          · rw [decide_eq_false hin] at KK
            have HGN := Lib.hid (HG.out hin)
            clear HB HG hin
            go_wp2_with fail
            refine KK.mono ?_
            rintro e w3 ⟨rfl, rfl⟩
            have HOW := Lib.hid (HJ.out.1.alloc hszw (.cells #[.int .u64 (x : Nat)] 35))
            have HSRC := Lib.hid (KV.one wB x)
            have hszA : w.heap.size ≤ (wB.alloc (.cells #[.int .u64 (x : Nat)] 35)).heap.size := by simp; omega
            clear KK
            go_wp2_with (at_builtin; refine wpList_append_kv rfl (.tmp 30) (.tmp 38) rfl w.heap.size (by kernel_rfl) (by kernel_rfl) v3 (gone kss i j) rfl HOW.out _ [x] rfl HSRC.out (by simp; omega) hszA ?_)
            intro v7 w7 hown7 _ _
            rw [← HS.out] at hown7
            have HN := Lib.hid (And.intro hown7 HGN.out)
            clear hown7 q0 q1
            go_wp2
            go_roundg (gk - 1)
            case measure => omega
            case rel => exact ⟨j + 1, v7, by omega, rfl, by go_num, HN⟩
        · have hljI : ¬ (j : Int) < (m : Int) := by omega
          obtain rfl : j = m := by omega
          have HN : Hid (KO w.heap.size w wB v3 (gone kss (i + 1) 0) ∧ (gone kss (i + 1) 0).Nodup) := Lib.hid (by
            have h := HJ.out
            rw [← HM.out, gone_next hik] at h
            exact h)
          go_wp2
          go_roundg (n - i - 1)
          case measure => omega
          case rel => exact ⟨i + 1, v3, _, by omega, rfl, by go_num, rfl, HN⟩
    · have hltI : ¬ (i : Int) < (n : Int) := by omega
      obtain rfl : i = n := by omega
      have HT : Hid (r = true) := Lib.hid (by
        have h := HI.out.2
        rw [← HNN.out, gone_all] at h
        rw [← HR.out]
        exact decide_eq_true h)
      go_wp2
      go_ret
      exact ⟨congrArg (fun x : Bool => Ending.returned (Value.bool x)) HT.out.symm, HI.out.1.low⟩
end
end Go.Proofs.Ytjfhapobbglbpaa
