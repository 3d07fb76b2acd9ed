/- Words and walks: LiXB. -/
import Derived.Test.YtkhikpnlpcankaaGreatG30
namespace Go.Proofs.YtkhikpnlpcankaaGreat
open Go Go.RowKit Go.Deep
set_option maxRecDepth 8000
theorem wpList_seen2 {w0 w : World} {ops : Array Oper} {rest : List Oper} {o : Oper} {a : Act} {Q : Exit → Act → World → Prop} (hg : o.guard = none) (m x v : Operand) (hop : o.op = Op.mapUpdate 127 m x v)
    (b : Nat) (L : List Nat) (hm : a.eval m = .map (some b)) (h : SeenK w0 w b L) (hn : L.length ≤ 1000000000) (k : Nat) (hk : k < 18446744073709551616) (hx : a.eval x = .int .u64 (k : Nat)) (hv : a.eval v = .bool true)
    (hK : ∀ w', SeenK w0 w' b (L ++ [k]) → (∀ g, g < w.heap.size → g ≠ b → w'.heap[g]? = w.heap[g]?) → w.heap.size ≤ w'.heap.size → wpList Tryz.prog ops Q rest (a.put o.dst undef) w') : wpList Tryz.prog ops Q (o :: rest) a w := by
  obtain ⟨hlow, hlo, ⟨D, h1, h2, h3⟩⟩ := h
  refine wpList_mapUpdate_own w hg m x v _ hop 32 4 keyed64 Tryz.underlying127 _ b L.length D hm h1 (by unfold maxLen; omega) _ _ _ hx hv (key64 hk) _ [] (plainElem_bool Tryz.underlying4 true) ?_
  intro w' h5 h6
  refine hK w' ⟨?_, hlo, ⟨_, by rw [List.length_append]; exact h5, ?_, fun j hj => ?_⟩⟩ (fun g hg hne => h6.block g hg (fun e => hne (by cases e; rfl))) h6.size
  · exact hlow.grown h6 hlow.size (fun j hj => by cases hj; exact hlo)
  · obtain ⟨es, rfl⟩ := h2
    exact ⟨_, rfl⟩
  · by_cases e : j = k
    · subst e
      rw [Maps.atKey_put_same h2 (by simp [WideAt.IsKeyLit])]
      simp
    · rw [Maps.atKey_put_other (by
        intro e2
        injection e2 with _ e3
        exact e (by omega)), h3 j hj]
      simp [e]
abbrev MT : TypeId := 127
section
variable {w w1 : World} {b r : Nat} {s : L12} {u1 u2 : Value}
set_option maxHeartbeats 1000000 in
set_option maxRecDepth 8000 in
theorem pevict_walk (hX : Bx12 w w1 PT12 b r s u1 u2) (hl : s.s.length ≤ 10000000) (hq : s.q.length ≤ 10000000) (hks : ∀ x ∈ s.s, x.key < 18446744073709551616) (hkq : ∀ k ∈ s.q, k < 18446744073709551616) (N : Nat) (hN : N ≤ 1048576) (hm : s.many N ≤ s.q.length) : Calls Tryz.prog 55 #[.pointer (some ⟨b, 0, none⟩), .int .i64 (N : Nat)] w1 fun e w2 => ∃ v1 v2 o, e = .returned o ∧ Bx12 w w2 PT12 b r (s.evP (s.many N)) v1 v2 ∧ KV w2 o (s.q.take (s.many N)) := by
  obtain ⟨F1, n1, d1, rfl⟩ := hX.st.form1
  obtain ⟨F2, d2, rfl, hcap, hnone, -⟩ := hX.st.g2.mem
  have HX := Lib.hid hX
  have HKS := Lib.hid hks
  have HKQ := Lib.hid hkq
  have HNK : Hid (nk 2 s.s ≤ s.s.length) := Lib.hid List.countP_le_length
  have KCN : Hid (∀ W, Below w1.heap.size w1 W → Calls Tryz.prog 56 #[.agg (l12C s.c (.slice F1 n1 d1) (.slice F2 s.q.length d2)), .int .i64 2] W fun e w' => e = .returned (.int .i64 (nk 2 s.s : Nat)) ∧ Below W.heap.size W w') := Lib.hid (fun W hW => licount_walk (HX.out.step hW).st hl 2)
  have hmn : s.many N = nk 2 s.s + s.q.length - N := rfl
  unfold L12.evP
  obtain ⟨c, xs, q⟩ := s
  simp only at *
  obtain ⟨M, hM⟩ : ∃ M, L12.many ⟨c, xs, q⟩ N = M := ⟨_, rfl⟩
  rw [hM] at hm hmn ⊢
  obtain ⟨nq, hnq⟩ : ∃ n, q.length = n := ⟨_, rfl⟩
  obtain ⟨n2, hn2⟩ : ∃ n, nk 2 xs = n := ⟨_, rfl⟩
  have HNQ := Lib.hid hnq
  have hn2l : n2 ≤ 10000000 := by have := HNK.out; omega
  rw [hn2, hnq] at hmn
  rw [hn2] at KCN
  rw [hnq] at hcap hq hm KCN HX
  have HLD : Hid (∀ W, Below w1.heap.size w1 W → W.cell? ⟨b, 0, none⟩ = some (.int .i64 (c : Nat)) ∧ W.cell? ⟨b, 1, none⟩ = some (.slice F1 n1 d1) ∧ W.cell? ⟨b, 2, none⟩ = some (.slice F2 nq d2)) := Lib.hid (fun W hb => (c3_at (HX.out.step hb).bo.box).1)
  obtain ⟨x0, x1, x2⟩ := HLD.out _ (Below.refl _ _)
  have hbb := (head_row HX.out.bo.box).lt
  have hqI : (nq : Int) ≤ 10000000 := by omega
  have hn2I : (n2 : Int) ≤ 10000000 := by omega
  have hNI : (N : Int) ≤ 1048576 := by omega
  have HMN := Lib.hid hmn
  clear hX hks hkq hM hnq hn2
  go_enter Tryz.func55, Tryz.ntmps55
  go_upto_region 1 with fail
  go_cut [5] (fun s5 wx => s5 = .int .i64 (M : Nat) ∧ Below w1.heap.size w1 wx)
  case first =>
    have hw1 : IntKind.i64.wrap ((n2 : Int) + (nq : Int)) = (n2 : Int) + (nq : Int) := by rw [IntKind.wrap_i64]; omega
    have h0q : (0 : Int) ≤ (nq : Int) := by omega
    rcases (by omega : n2 + nq < N ∨ n2 + nq = N ∨ N < n2 + nq) with h | h | h
    · obtain rfl : M = 0 := by omega
      obtain ⟨z, hz⟩ : ∃ z : Int, (n2 : Int) + (nq : Int) - (N : Int) = z := ⟨_, rfl⟩
      have hw2 : IntKind.i64.wrap ((n2 : Int) + (nq : Int) - (N : Int)) = z := by rw [IntKind.wrap_i64]; omega
      have hI : z < 0 := by omega
      clear hmn h hm hz
      go_region_held3 (fun W => W.cell? ⟨b, 0, none⟩ = some (.int .i64 (c : Nat)) ∧ W.cell? ⟨b, 1, none⟩ = some (.slice F1 n1 d1) ∧ W.cell? ⟨b, 2, none⟩ = some (.slice F2 nq d2))
        (first | with_reducible exact kk1 | go_keep)
        (first
          | (go_at_call 56; refine (KCN.out _ (below_drewn (Below.refl _ _) _)).mono ?_; rintro e wa ⟨rfl, hb0⟩; have hba := (below_drewn (Below.refl w1.heap.size w1) _).trans hb0; have kk1 := HLD.out wa hba))
      all_goals
        go_wp2_with fail
        go_meet
        exact ⟨by (first | rfl | (congr 1; omega)), hba⟩
    · obtain rfl : M = 0 := by omega
      have hw2 : IntKind.i64.wrap ((n2 : Int) + (nq : Int) - (N : Int)) = 0 := by rw [IntKind.wrap_i64]; omega
      clear hmn h hm
      go_region_held3 (fun W => W.cell? ⟨b, 0, none⟩ = some (.int .i64 (c : Nat)) ∧ W.cell? ⟨b, 1, none⟩ = some (.slice F1 n1 d1) ∧ W.cell? ⟨b, 2, none⟩ = some (.slice F2 nq d2))
        (first | with_reducible exact kk1 | go_keep)
        (first
          | (go_at_call 56; refine (KCN.out _ (below_drewn (Below.refl _ _) _)).mono ?_; rintro e wa ⟨rfl, hb0⟩; have hba := (below_drewn (Below.refl w1.heap.size w1) _).trans hb0; have kk1 := HLD.out wa hba))
      all_goals
        go_wp2_with fail
        go_meet
        exact ⟨by (first | rfl | (congr 1; omega)), hba⟩
    · have hw2 : IntKind.i64.wrap ((n2 : Int) + (nq : Int) - (N : Int)) = (M : Int) := by rw [IntKind.wrap_i64]; omega
      have hI : (0 : Int) < (M : Int) := by omega
      have hI2 : ¬ (M : Int) < 0 := by omega
      have hMq : (M : Int) ≤ (nq : Int) := by omega
      clear hmn h hm
      go_region_held3 (fun W => W.cell? ⟨b, 0, none⟩ = some (.int .i64 (c : Nat)) ∧ W.cell? ⟨b, 1, none⟩ = some (.slice F1 n1 d1) ∧ W.cell? ⟨b, 2, none⟩ = some (.slice F2 nq d2))
        (first | with_reducible exact kk1 | go_keep)
        (first
          | (go_at_call 56; refine (KCN.out _ (below_drewn (Below.refl _ _) _)).mono ?_; rintro e wa ⟨rfl, hb0⟩; have hba := (below_drewn (Below.refl w1.heap.size w1) _).trans hb0; have kk1 := HLD.out wa hba))
      all_goals
        go_wp2_with fail
        go_meet
        exact ⟨by (first | rfl | (congr 1; omega)), hba⟩
  case rest =>
    obtain ⟨rfl, hbw⟩ := hcut
    have hxc := HX.out.step hbw
    have HTK : Hid (KV wc (.slice F2 M d2) (q.take M)) := Lib.hid (by
      obtain ⟨F', d', e, hk⟩ := hxc.st.g2.take M (by show M ≤ q.length; rw [HNQ.out]; exact hm)
      injection e with e1 e2 e3
      subst e1 e3
      exact hk)
    have KCK := Lib.hid (copyK12_walk HTK.out (by rw [List.length_take]; omega))
    have HXC := Lib.hid hxc
    clear x0 x1 x2 hbb
    obtain ⟨⟨x0, x1, x2⟩, xf0, xf1, xf2⟩ := c3_at hxc.bo.box
    try dsimp only at x0 x1 x2
    have hbb := (head_row hxc.bo.box).lt
    have hMd : M ≤ d2 := by omega
    have hMdI : (M : Int) ≤ (d2 : Int) := by omega
    have hMqI : (M : Int) ≤ (nq : Int) := by omega
    have hnqd : (nq : Int) ≤ (d2 : Int) := by omega
    clear hxc hbw KCN HLD HX HNK hmn HMN HTK
    go_wp2_with fail
    refine KCK.out.mono ?_
    rintro e w3 ⟨v6, rfl, hk6⟩
    obtain ⟨F6, c6, rfl, -⟩ : ∃ F c, v6 = .slice F (q.take M).length c ∧ True := by
      obtain ⟨F, c, e, _⟩ := hk6.kv.mem
      exact ⟨F, c, e, trivial⟩
    have hx3 := HXC.out.step hk6.low
    have HX3 := Lib.hid hx3
    have HK6 := Lib.hid hk6.kv
    have hTM : (q.take M).length = M := by rw [List.length_take, HNQ.out]; omega
    have HTM := Lib.hid hTM
    rw [hTM] at HK6 ⊢
    have HTA : Hid (KV w3 (tailV F2 nq d2 M) (q.drop M)) := Lib.hid (by
      have h := hx3.st.g2
      rw [← HNQ.out] at h
      have h1 := KV.tail (ks := q) h (i := M) (by rw [HNQ.out]; exact hm)
      rw [HNQ.out] at h1
      exact h1)
    clear x0 x1 x2 xf0 xf1 xf2 hbb
    obtain ⟨⟨x0, x1, x2⟩, xf0, xf1, xf2⟩ := c3_at hx3.bo.box
    try dsimp only at x0 x1 x2
    have hbb := (head_row hx3.bo.box).lt
    clear hx3 hk6 KCK HXC hTM
    go_upto_region 3 with fail
    go_cut [] (fun wx => ∃ Fq nq' dq, Bx12 w wx PT12 b r ⟨c, xs, q.drop M⟩ (.slice F1 n1 d1) (.slice Fq nq' dq) ∧ KV wx (.slice F6 M c6) (q.take M))
    case first =>
      by_cases hd : d2 = M
      · obtain rfl : M = nq := by omega
        subst hd
        rw [show tailV F2 d2 d2 d2 = .slice F2 0 0 by simp [tailV]] at HTA
        have HF := Lib.hid (HX3.out.set2 HTA.out)
        have HK2 := Lib.hid (HX3.out.kv (i := 2) (x := .slice F2 0 0) HK6.out)
        go_wp2_with fail
        go_meet
        exact ⟨_, _, _, HF.out, HK2.out⟩
      · cases F2 with
        | none => have := hnone rfl; omega
        | some ad =>
          have hdI : ¬ (d2 : Int) = (M : Int) := by omega
          rw [show tailV (some ad) nq d2 M = .slice (some (ad.add M)) (nq - M) (d2 - M) by simp [tailV, hd]] at HTA
          have HF := Lib.hid (HX3.out.set2 HTA.out)
          have HK2 := Lib.hid (HX3.out.kv (i := 2) (x := .slice (some (ad.add M)) (nq - M) (d2 - M)) HK6.out)
          go_wp2_with fail
          go_meet
          exact ⟨_, _, _, HF.out, HK2.out⟩
    case rest =>
      obtain ⟨Fq, nq', dq, hxe, hke⟩ := hcut
      have hmm := @run_makeMap Tryz.prog
      obtain ⟨wE, hwE⟩ : ∃ W, W = wc := ⟨_, rfl⟩
      subst hwE
      have HXE := Lib.hid hxe
      have HKE := Lib.hid hke
      have hsn := (SeenK.made (Below.refl wE.heap.size wE))
      have HL2 := Lib.hid (low_two wE (.map #[] 0) (.cells #[.map (some wE.heap.size)] MT))
      have HS0 : Hid (SeenK wE ((wE.alloc (.map #[] 0)).alloc (.cells #[.map (some wE.heap.size)] MT)) wE.heap.size ((q.take M).take 0) ∧ ((wE.alloc (.map #[] 0)).alloc (.cells #[.map (some wE.heap.size)] MT)).heap[wE.heap.size + 1]? = some (.cells #[.map (some wE.heap.size)] MT (0, 0))) := Lib.hid ⟨by
        obtain ⟨D, h1, h2, h3⟩ := hsn.own
        exact ⟨HL2.out, Nat.le_refl _, D, h1.alloc _, h2, h3⟩, by
        have := heap_alloc_new (wE.alloc (.map #[] 0)) (.cells #[.map (some wE.heap.size)] MT)
        simpa using this⟩
      clear x0 x1 x2 xf0 xf1 xf2 hbb hxe hke hsn HX3 HK6 HTA
      have hbE := (head_row HXE.out.bo.box).lt
      have HBE := Lib.hid hbE
      have hMl : M ≤ 10000000 := by omega
      go_wp2_with fail
      go_loopg [48] M (fun gg s48 wr => ∃ (i : Nat), i + gg = M ∧ s48 = .int .i64 (i : Nat) ∧ Hid (SeenK wE wr wE.heap.size ((q.take M).take i) ∧ wr.heap[wE.heap.size + 1]? = some (.cells #[.map (some wE.heap.size)] MT (0, 0))))
      case atStart => exact ⟨0, by omega, rfl, HS0⟩
      case round =>
        clear HS0
        obtain ⟨i, hi, rfl, HI⟩ := hrel
        have hpb := (head_row HI.out.2).cell (i := 0) (by simp)
        have hplt := (head_row HI.out.2).lt
        by_cases hlt : i < M
        · have hltI : (i : Int) < (M : Int) := by omega
          have hik : i < (q.take M).length := by rw [HTM.out]; exact hlt
          obtain ⟨F', c', e, _, _, h3⟩ := (HKE.out.below HI.out.1.low).mem
          injection e with e1 e2 e3
          subst e1 e3
          obtain ⟨ad, hF, hadb, q1⟩ := h3 i hik
          subst hF
          have hxb : (q.take M)[i] < 18446744073709551616 := HKQ.out _ (List.mem_of_mem_take (List.getElem_mem hik))
          have HTS : Hid ((q.take M).take (i + 1) = (q.take M).take i ++ [(q.take M)[i]]) := Lib.hid (List.take_succ_eq_append_getElem hik)
          have hlen : ((q.take M).take i).length ≤ 100000000 := by rw [List.length_take]; omega
          obtain ⟨x, hx⟩ : ∃ x, (q.take M)[i] = x := ⟨_, rfl⟩
          rw [hx] at q1 hxb HTS
          have HPL : Hid (wE.heap.size + 1 < wr.heap.size) := Lib.hid hplt
          clear h3 e2 hx hik
          go_wp2_with (at_mapUpdate; refine wpList_seen2 rfl _ _ _ rfl wE.heap.size ((q.take M).take i) rfl HI.out.1 (by omega) x hxb rfl rfl ?_)
          intro w7 hown7 hoth7 hsz7
          rw [← HTS.out] at hown7
          have HN : Hid (SeenK wE w7 wE.heap.size ((q.take M).take (i + 1)) ∧ w7.heap[wE.heap.size + 1]? = some (.cells #[.map (some wE.heap.size)] MT (0, 0))) := Lib.hid ⟨hown7, (hoth7 _ HPL.out (by omega)).trans HI.out.2⟩
          clear hown7 hoth7 hsz7 q1 hpb hplt HI
          go_wp2
          go_roundg (gk - 1)
          case measure => omega
          case rel => exact ⟨i + 1, by omega, by go_num, HN⟩
        · have hltI : ¬ (i : Int) < (M : Int) := by omega
          obtain rfl : i = M := by omega
          have hsn := HI.out.1
          rw [show ((q.take i).take i) = q.take i by rw [List.take_take, Nat.min_self]] at hsn
          have hxr := HXE.out.step hsn.low
          have HXR := Lib.hid hxr
          have HKR := Lib.hid (HKE.out.below hsn.low)
          obtain ⟨⟨x0, x1, x2⟩, xf0, xf1, xf2⟩ := c3_at hxr.bo.box
          try dsimp only at x0 x1 x2
          have hbb := (head_row hxr.bo.box).lt
          have KG := Lib.hid (chg_gone hxr.st.g1 hl HKS.out hpb hplt hsn.has)
          clear hsn hxr HI
          go_wp2_with fail
          refine KG.out.mono ?_
          rintro e w8 ⟨v8, rfl, ho8⟩
          obtain ⟨F8, n8, d8, rfl⟩ := ho8.iv.form
          have hx8 := HXR.out.step ho8.low
          clear x0 x1 x2 xf0 xf1 xf2 hbb
          obtain ⟨⟨x0, x1, x2⟩, xf0, xf1, xf2⟩ := c3_at hx8.bo.box
          try dsimp only at x0 x1 x2
          have hbb := (head_row hx8.bo.box).lt
          have HF := Lib.hid (hx8.set1 ho8.iv)
          have HKF := Lib.hid (hx8.kv (i := 1) (x := .slice F8 n8 d8) (HKR.out.below ho8.low))
          clear hx8 ho8 KG HXR HKR hpb hplt
          go_wp2
          go_ret
          exact ⟨_, _, _, rfl, HF.out, HKF.out⟩
end
end Go.Proofs.YtkhikpnlpcankaaGreat
namespace Go.Proofs.YtkhikpnlpcankaaGreat
open Go Go.RowKit Go.Deep
theorem coolK_mem : ∀ {l : List It} {r : Nat} {x : It}, x ∈ coolK r l → ∃ y ∈ l, y.key = x.key
  | [], _, x, h => by simp [coolK] at h
  | y :: l, r, x, h => by
    rw [coolK] at h
    by_cases e : y.f = 2
    · rw [if_pos e] at h
      rcases List.mem_cons.1 h with h | h
      · refine ⟨y, by simp, ?_⟩
        rw [h]
        split <;> rfl
      · obtain ⟨z, hz, h2⟩ := coolK_mem h
        exact ⟨z, by simp [hz], h2⟩
    · rw [if_neg e] at h
      rcases List.mem_cons.1 h with h | h
      · exact ⟨y, by simp, by rw [h]⟩
      · obtain ⟨z, hz, h2⟩ := coolK_mem h
        exact ⟨z, by simp [hz], h2⟩
theorem coolO_mem : ∀ {l : List It} {r k : Nat}, k ∈ coolO r l → ∃ y ∈ l, y.key = k
  | [], _, k, h => by simp [coolO] at h
  | y :: l, r, k, h => by
    rw [coolO] at h
    by_cases e : y.f = 2
    · rw [if_pos e] at h
      rcases List.mem_append.1 h with h | h
      · refine ⟨y, by simp, ?_⟩
        split at h
        · exact (List.mem_singleton.1 h).symm
        · simp at h
      · obtain ⟨z, hz, h2⟩ := coolO_mem h
        exact ⟨z, by simp [hz], h2⟩
    · rw [if_neg e] at h
      obtain ⟨z, hz, h2⟩ := coolO_mem h
      exact ⟨z, by simp [hz], h2⟩
theorem L12.Fine.sb {s : L12} (h : s.Fine) : ∀ x ∈ s.s, x.key < 18446744073709551616 := fun x hx => by
  have h1 := h.at_ x.key
  have h2 : 0 < ct x.key x.f s.s := ct_in.1 hx
  have h3 := h.kinds x hx
  unfold L12.okA at h1
  refine h1.2.2.2 ?_
  rcases (by omega : x.f = 0 ∨ x.f = 1 ∨ x.f = 2) with e | e | e <;> rw [e] at h2 <;> omega
theorem L12.Fine.qb {s : L12} (h : s.Fine) : ∀ k ∈ s.q, k < 18446744073709551616 := fun k hk => by
  have h1 := h.at_ k
  have h2 := L12.q_in.1 hk
  unfold L12.okA at h1
  exact h1.2.2.2 (by omega)
section
variable {w w1 : World} {b r : Nat} {s : L12} {u1 u2 : Value}
set_option maxHeartbeats 1000000 in
theorem puse_walk (hX : Bx12 w w1 PT12 b r s u1 u2) (hl : s.s.length ≤ 8000000) (hq : s.q.length ≤ 8000000) (hc1 : 1 ≤ s.c) (hc : s.c ≤ 1048576) (k : Nat) (hot : Bool) : Calls Tryz.prog 53 #[.pointer (some ⟨b, 0, none⟩), .int .u64 (k : Nat), .bool hot] w1 fun e w2 => e = .returned (.tuple #[]) ∧ Only [b] w1 w2 ∧ ∃ v1 v2, Bx12 w w2 PT12 b r (s.useP k hot) v1 v2 := by
  obtain ⟨F1, n1, d1, rfl⟩ := hX.st.form1
  obtain ⟨F2, n2, d2, rfl⟩ := hX.st.form2
  have HX := Lib.hid hX
  have KW := Lib.hid (without_walk hX.st.g2 (by omega) k)
  have HLN : Hid (s.s.length ≤ 8000000 ∧ (wo k s.q).length ≤ 8000000 ∧ 1 ≤ s.c ∧ s.c ≤ 1048576 ∧ (wi k s.s).length ≤ s.s.length) := Lib.hid ⟨hl, Nat.le_trans (wo_len k s.q) hq, hc1, hc, wi_len⟩
  obtain ⟨⟨x0, x1, x2⟩, xf0, xf1, xf2⟩ := c3_at hX.bo.box
  have hbb := (head_row hX.bo.box).lt
  clear hX hl hq hc1 hc
  go_enter Tryz.func53, Tryz.ntmps53
  go_wp2_with fail
  refine KW.out.mono ?_
  rintro e w3 ⟨v3, rfl, ha⟩
  obtain ⟨Fw, nw, dw, rfl⟩ := ha.kv.form
  have hx3 := HX.out.step ha.low
  clear x0 x1 x2 xf0 xf1 xf2 hbb
  obtain ⟨⟨x0, x1, x2⟩, xf0, xf1, xf2⟩ := c3_at hx3.bo.box
  have hbb := (head_row hx3.bo.box).lt
  have hy3 := hx3.set2 ha.kv
  have hk3 := hx3.bo.own ((Only.refl _ _).setCell (by simp) (.slice Fw nw dw)) (by decide) ha.own (w2 := w3.setCell ⟨b, 2, none⟩ (.slice Fw nw dw))
  have hon3 := (Only.of_below (S := [b]) ha.low).setCell (p := ⟨b, 2, none⟩) (by simp) (.slice Fw nw dw)
  generalize hWa : w3.setCell ⟨b, 2, none⟩ (.slice Fw nw dw) = wa at hy3 hk3 hon3
  have HWa := Lib.hid hWa
  have HXa : Hid (Bx12 w wa PT12 b r ⟨s.c, s.s, wo k s.q⟩ (.slice F1 n1 d1) (.slice Fw nw dw)) := Lib.hid hy3
  have HKa := Lib.hid hk3
  have HON := Lib.hid hon3
  have HLT := Lib.hid (fun g hg => (ha.own.lt g hg).1)
  have HLW := Lib.hid HX.out.bo.low.size
  clear hx3 hy3 hk3 hWa ha KW HX hon3
  go_upto_region 1 with fail
  rw [HWa.out]
  clear HWa x0 x1 x2 xf0 xf1 xf2 hbb
  cases hot
  · have KST := Lib.hid (pstack_walk HXa.out HKa.out (by have := HLN.out.1; show s.s.length ≤ _; omega) k 1)
    clear HXa HKa
    go_wp2_with fail
    refine KST.out.mono ?_
    rintro e w4 ⟨rfl, hon4, v4, hx4, hk4, ho4⟩
    have HON4 := Lib.hid (HON.out.trans hon4 (by simp))
    have hsz1 := Nat.le_trans HON4.out.size (low_one w4 (.cells #[.int .u64 (k : Nat)] 32)).size
    obtain ⟨F4, n4, d4, rfl⟩ := hx4.st.form1
    have HX4 := Lib.hid hx4
    have HO4 := Lib.hid (ho4.alloc (.cells #[.int .u64 (k : Nat)] 32))
    have HK4 : Hid (KO w1.heap.size (w4.alloc (.cells #[.int .u64 (k : Nat)] 32)) (w4.alloc (.cells #[.int .u64 (k : Nat)] 32)) (.slice Fw nw dw) (wo k s.q)) := Lib.hid ⟨Below.refl _ _, hk4.alloc _⟩
    have HS4 := Lib.hid (KV.one w4 k)
    obtain ⟨⟨x0, x1, x2⟩, xf0, xf1, xf2⟩ := c3_at hx4.bo.box
    have hbb := (head_row hx4.bo.box).lt
    clear hx4 hk4 ho4 hon4 KST
    go_wp2_with (at_builtin; refine wpList_append_kv rfl (.tmp 28) (.tmp 30) rfl w1.heap.size (by kernel_rfl) (by kernel_rfl) _ (wo k s.q) rfl HK4.out _ [k] rfl HS4.out (by have := HLN.out.2.1; simp; omega) hsz1 ?_)
    intro v5 w5 hown5 _ hkt5
    obtain ⟨F5, n5, d5, rfl⟩ := hown5.kv.form
    have hb5 := (HX4.out.bo.step (low_one w4 (.cells #[.int .u64 (k : Nat)] 32))).kt hkt5 ((HX4.out.bo.step (low_one w4 (.cells #[.int .u64 (k : Nat)] 32))).low.trans (hown5.low.mono HLW.out))
    clear x0 x1 x2 xf0 xf1 xf2 hbb
    obtain ⟨⟨x0, x1, x2⟩, xf0, xf1, xf2⟩ := c3_at hb5.box
    have hbb := (head_row hb5.box).lt
    have hx5 : Bx12 w (w5.setCell ⟨b, 2, none⟩ (.slice F5 n5 d5)) PT12 b r ((s.stack k 1).last k) (.slice F4 n4 d4) (.slice F5 n5 d5) := by
      obtain ⟨h1, h2⟩ := hb5.set 2 (.slice F5 n5 d5) rfl
      exact ⟨h1, ⟨IV.of_own (hb5.own h2 (by decide) (own_kt HO4.out hkt5 (by decide))), hb5.kv h2 hown5.kv⟩⟩
    have hon5 := (only_then (HON4.out.alloc (.cells #[.int .u64 (k : Nat)] 32)) hown5.low).setCell (p := ⟨b, 2, none⟩) (by simp) (.slice F5 n5 d5)
    generalize hWb : w5.setCell ⟨b, 2, none⟩ (.slice F5 n5 d5) = wb at hx5 hon5
    have HON5 := Lib.hid hon5
    have HWb := Lib.hid hWb
    have KPR := Lib.hid (pprune_walk hx5 (by have h1 := HLN.out.1; have h2 := HLN.out.2.2.2.2; show (wi k s.s).length + 1 ≤ _; omega))
    clear hx5 hb5 hown5 hkt5 hWb hon5 HX4 HO4 HK4 HS4
    go_upto_region 6 with fail
    rw [HWb.out]
    clear HWb x0 x1 x2 xf0 xf1 xf2 hbb
    go_wp2_with fail
    refine KPR.out.mono ?_
    rintro e w6 ⟨rfl, hon6, v6, hx6⟩
    have HF := Lib.hid (And.intro hx6 (HON5.out.trans hon6 (by simp)))
    clear hx6 hon6 KPR
    go_wp2
    go_end0
    exact ⟨rfl, HF.out.2, _, _, HF.out.1⟩
  · have KST := Lib.hid (pstack_walk HXa.out HKa.out (by have := HLN.out.1; show s.s.length ≤ _; omega) k 2)
    clear HXa HKa
    go_wp2_with fail
    refine KST.out.mono ?_
    rintro e w4 ⟨rfl, hon4, v4, hx4, hk4, -⟩
    have HON4 := Lib.hid (HON.out.trans hon4 (by simp))
    have KCL := Lib.hid (pcool_walk hx4 ⟨hx4.bo.low, own_low hk4 HLW.out⟩ (by have h1 := HLN.out.1; have h2 := HLN.out.2.2.2.2; show (wi k s.s).length + 1 ≤ _; omega) (by have := HLN.out.2.1; show (wo k s.q).length ≤ _; omega) HLN.out.2.2.1 HLN.out.2.2.2.1)
    clear hx4 hk4 hon4 KST
    go_wp2_with fail
    refine KCL.out.mono ?_
    rintro e w5 ⟨rfl, hon5, v5, v5', hx5⟩
    have HON5 := Lib.hid (HON4.out.trans hon5 (fun g hg => by
      rcases List.mem_cons.1 hg with h | h
      · exact .inl (by simp [h])
      · exact .inr (HLT.out g (by unfold obl at h; simpa using h))))
    clear hon5
    have KPR := Lib.hid (pprune_walk hx5 (by
      have h1 := HLN.out.1
      have h2 := HLN.out.2.2.2.2
      show (coolK (roomH s.c) (⟨k, 2⟩ :: wi k s.s)).length ≤ _
      rw [coolK_len, List.length_cons]
      omega))
    clear hx5 KCL
    go_wp2_with fail
    refine KPR.out.mono ?_
    rintro e w6 ⟨rfl, hon6, v6, hx6⟩
    have HF := Lib.hid (And.intro hx6 (HON5.out.trans hon6 (by simp)))
    clear hx6 hon6 KPR
    go_wp2
    go_end0
    exact ⟨rfl, HF.out.2, _, _, HF.out.1⟩
end
section
variable {w : World} {s : L12} {u1 u2 : Value}
set_option maxHeartbeats 2000000 in
theorem p12touch_walk (hs : St12 w s u1 u2) (ok : s.Ok) (k : Nat) : Calls Tryz.prog 23 #[.agg (l12C s.c u1 u2), .int .u64 (k : Nat)] w (P12 w (s.touch k)) := by
  have HTP := Lib.hid (L12.touch_plain ok k)
  generalize s.touch k = τ at HTP ⊢
  obtain ⟨F1, n1, d1, rfl⟩ := hs.form1
  obtain ⟨F2, n2, d2, rfl⟩ := hs.form2
  have HX0 := Lib.hid (Bx12.start w PT12 (by decide) hs)
  have HOK := Lib.hid ok
  have KO1 := Lib.hid (owned_walk HX0.out.st (by have := ok.sl; omega) (by have := ok.ql; omega))
  generalize hW0 : World.alloc _ (.cells z12 PT12) = W0 at HX0 KO1
  have HW0 := Lib.hid hW0
  obtain ⟨⟨x0, x1, x2⟩, xf0, xf1, xf2⟩ := c3_at HX0.out.bo.box
  have hbb := (head_row HX0.out.bo.box).lt
  clear hW0 hs ok
  go_enter Tryz.func23, Tryz.ntmps23
  go_wp2_with fail
  rw [HW0.out]
  clear HW0
  go_wp2_with fail
  refine KO1.out.mono ?_
  rintro e wa ⟨va1, va2, rfl, ho1, ho2⟩
  obtain ⟨Fa1, na1, da1, rfl⟩ := ho1.iv.form
  obtain ⟨Fa2, na2, da2, rfl⟩ := ho2.kv.form
  have hba := HX0.out.bo.step ho2.low
  clear x0 x1 x2 xf0 xf1 xf2 hbb
  obtain ⟨⟨x0, x1, x2⟩, xf0, xf1, xf2⟩ := c3_at hba.box
  have hbb := (head_row hba.box).lt
  have hya := hba.put12 (t := s) ⟨ho1.iv, ho2.kv⟩ rfl
  have hka := hba.ko ((((Only.refl _ _).setCell (by simp) (.int .i64 (s.c : Nat))).setCell (by simp) (.slice Fa1 na1 da1)).setCell (by simp) (.slice Fa2 na2 da2)) ⟨hba.low, own_low ho2.own HX0.out.bo.low.size⟩ (w2 := (((wa.setCell ⟨w.heap.size, 0, none⟩ (.int .i64 (s.c : Nat))).setCell ⟨w.heap.size, 1, none⟩ (.slice Fa1 na1 da1)).setCell ⟨w.heap.size, 2, none⟩ (.slice Fa2 na2 da2)))
  generalize hWa : ((wa.setCell ⟨w.heap.size, 0, none⟩ (.int .i64 (s.c : Nat))).setCell ⟨w.heap.size, 1, none⟩ (.slice Fa1 na1 da1)).setCell ⟨w.heap.size, 2, none⟩ (.slice Fa2 na2 da2) = wb at hya hka
  have HWa := Lib.hid hWa
  have HXa := Lib.hid hya
  have HKa := Lib.hid hka
  clear hba hya hka hWa ho1 ho2 KO1 HX0
  go_upto_region 2 with fail
  rw [HWa.out]
  clear HWa x0 x1 x2 xf0 xf1 xf2 hbb
  obtain ⟨⟨x0, x1, x2⟩, xf0, xf1, xf2⟩ := c3_at HXa.out.bo.box
  have hbb := (head_row HXa.out.bo.box).lt
  have KH := Lib.hid (p12has_walk HXa.out.st HOK.out k)
  go_wp2_with fail
  refine KH.out.mono ?_
  rintro e wh ⟨rfl, hbh⟩
  have HXh := Lib.hid (HXa.out.step hbh)
  clear hbh KH HXa HKa x0 x1 x2 xf0 xf1 xf2 hbb
  obtain ⟨⟨x0, x1, x2⟩, xf0, xf1, xf2⟩ := c3_at HXh.out.bo.box
  have hbb := (head_row HXh.out.bo.box).lt
  by_cases hin : k ∈ s.keys
  · rw [decide_eq_true hin]
    have htp := HTP.out
    rw [if_pos hin] at htp
    have KS := Lib.hid (stacked_walk HXh.out.st (by have := HOK.out.sl; omega) k)
    clear hin
    go_wp2_with fail
    refine KS.out.mono ?_
    rintro e w3 ⟨rfl, hb3⟩
    have HX3 := Lib.hid (HXh.out.step hb3)
    have KU := Lib.hid (puse_walk HX3.out (by have := HOK.out.sl; omega) (by have := HOK.out.ql; omega) HOK.out.pos HOK.out.cap k (decide (0 < tot k s.s)))
    have hcu : (s.useP k (decide (0 < tot k s.s))).c = s.c := by cases decide (0 < tot k s.s) <;> rfl
    generalize decide (0 < tot k s.s) = hot at *
    have HTQ := Lib.hid htp
    clear htp
    clear hb3 KS HXh x0 x1 x2 xf0 xf1 xf2 hbb
    go_wp2_with fail
    refine KU.out.mono ?_
    rintro e w4 ⟨rfl, -, v4, v4', hx4⟩
    obtain ⟨F4, n4, d4, rfl⟩ := hx4.st.form1
    obtain ⟨F5, n5, d5, rfl⟩ := hx4.st.form2
    have HX4 := Lib.hid hx4
    have HCU := Lib.hid hcu
    obtain ⟨⟨x0, x1, x2⟩, xf0, xf1, xf2⟩ := c3_at hx4.bo.box
    rw [hcu] at x0
    have hbb := (head_row hx4.bo.box).lt
    obtain ⟨⟨y0, y1, y2⟩, yf0, yf1, yf2⟩ := c3_at hx4.bo.res
    have hrr := (head_row hx4.bo.res).lt
    clear hx4 KU HX3 hcu
    go_wp2
    exact bodyPost_ret (v := .agg (l12C s.c (.slice F4 n4 d4) (.slice F5 n5 d5))) (by simp [results, Tryz.results23, go_sem, y0, y1, y2]) rfl (by rw [HTQ.out]; exact HX4.out.bo.tell12 HX4.out.st HCU.out)
  · rw [decide_eq_false hin]
    have htp := HTP.out
    rw [if_neg hin] at htp
    have HTQ := Lib.hid htp
    clear htp
    obtain ⟨⟨y0, y1, y2⟩, yf0, yf1, yf2⟩ := c3_at HXh.out.bo.res
    have hrr := (head_row HXh.out.bo.res).lt
    clear hin
    go_wp2
    exact bodyPost_ret (v := .agg (l12C s.c (.slice Fa1 na1 da1) (.slice Fa2 na2 da2))) (by simp [results, Tryz.results23, go_sem, y0, y1, y2]) rfl (by rw [HTQ.out]; exact HXh.out.done)
set_option maxHeartbeats 2000000 in
theorem p12drop_walk (hs : St12 w s u1 u2) (ok : s.Ok) (k : Nat) : Calls Tryz.prog 25 #[.agg (l12C s.c u1 u2), .int .u64 (k : Nat)] w (P12 w (s.drop k)) := by
  obtain ⟨F1, n1, d1, rfl⟩ := hs.form1
  obtain ⟨F2, n2, d2, rfl⟩ := hs.form2
  have HX0 := Lib.hid (Bx12.start w PT12 (by decide) hs)
  have HOK := Lib.hid ok
  generalize hW0 : World.alloc _ (.cells z12 PT12) = W0 at HX0
  have HW0 := Lib.hid hW0
  have KI := Lib.hid (pwithout_walk HX0.out.st.g1 (by have := ok.sl; omega) k)
  obtain ⟨⟨x0, x1, x2⟩, xf0, xf1, xf2⟩ := c3_at HX0.out.bo.box
  have hbb := (head_row HX0.out.bo.box).lt
  clear hW0 hs ok
  go_enter Tryz.func25, Tryz.ntmps25
  go_wp2_with fail
  rw [HW0.out]
  clear HW0
  go_wp2_with fail
  refine KI.out.mono ?_
  rintro e wa ⟨va, rfl, ha⟩
  obtain ⟨Fa, na, da, rfl⟩ := ha.iv.form
  have hxa := HX0.out.step ha.low
  clear x0 x1 x2 xf0 xf1 xf2 hbb
  obtain ⟨⟨x0, x1, x2⟩, xf0, xf1, xf2⟩ := c3_at hxa.bo.box
  have hbb := (head_row hxa.bo.box).lt
  have hya := hxa.set1 ha.iv
  generalize hWa : wa.setCell ⟨w.heap.size, 1, none⟩ (.slice Fa na da) = wb at hya
  have HWa := Lib.hid hWa
  have HXa := Lib.hid hya
  have KK := Lib.hid (without_walk HXa.out.st.g2 (by have := HOK.out.ql; show s.q.length ≤ _; omega) k)
  clear hxa hya hWa ha KI HX0
  go_upto_region 2 with fail
  rw [HWa.out]
  clear HWa x0 x1 x2 xf0 xf1 xf2 hbb
  obtain ⟨⟨x0, x1, x2⟩, xf0, xf1, xf2⟩ := c3_at HXa.out.bo.box
  try dsimp only at x0 x1 x2
  have hbb := (head_row HXa.out.bo.box).lt
  go_wp2_with fail
  refine KK.out.mono ?_
  rintro e wc ⟨vc, rfl, hc⟩
  obtain ⟨Fc, nc, dc, rfl⟩ := hc.kv.form
  have hxc := HXa.out.step hc.low
  clear x0 x1 x2 xf0 xf1 xf2 hbb
  obtain ⟨⟨x0, x1, x2⟩, xf0, xf1, xf2⟩ := c3_at hxc.bo.box
  try dsimp only at x0 x1 x2
  have hbb := (head_row hxc.bo.box).lt
  have hyc := hxc.set2 hc.kv
  generalize hWc : wc.setCell ⟨w.heap.size, 2, none⟩ (.slice Fc nc dc) = wd at hyc
  have HWc := Lib.hid hWc
  have KP := Lib.hid (pprune_walk hyc (by have := HOK.out.sl; have := wi_len (k := k) (s := s.s); show (wi k s.s).length ≤ _; omega))
  clear hxc hyc hWc hc KK HXa
  go_upto_region 3 with fail
  rw [HWc.out]
  clear HWc x0 x1 x2 xf0 xf1 xf2 hbb
  go_wp2_with fail
  refine KP.out.mono ?_
  rintro e we ⟨rfl, -, ve, hxe⟩
  obtain ⟨Fe, ne_, de, rfl⟩ := hxe.st.form1
  have HXe := Lib.hid hxe
  obtain ⟨⟨x0, x1, x2⟩, xf0, xf1, xf2⟩ := c3_at hxe.bo.box
  have x0' : we.cell? ⟨w.heap.size, 0, none⟩ = some (.int .i64 (s.c : Nat)) := x0
  have hbb := (head_row hxe.bo.box).lt
  obtain ⟨⟨y0, y1, y2⟩, yf0, yf1, yf2⟩ := c3_at hxe.bo.res
  have hrr := (head_row hxe.bo.res).lt
  clear hxe KP x0
  go_wp2
  exact bodyPost_ret (v := .agg (l12C s.c (.slice Fe ne_ de) (.slice Fc nc dc))) (by simp [results, Tryz.results25, go_sem, y0, y1, y2]) rfl (HXe.out.bo.tell12 HXe.out.st rfl)
end
end Go.Proofs.YtkhikpnlpcankaaGreat
