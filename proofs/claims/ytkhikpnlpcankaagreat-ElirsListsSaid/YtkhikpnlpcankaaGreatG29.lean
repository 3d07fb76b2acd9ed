/- Words and walks: LiG2. -/
import Derived.Test.YtkhikpnlpcankaaGreatG26
namespace Go.Proofs.YtkhikpnlpcankaaGreat
open Go Go.RowKit Go.Deep
set_option maxRecDepth 8000
section
variable {w : World} {u u1 u2 : Value} {xs : List It} {s : L12}
set_option maxHeartbeats 1000000 in
theorem idxf_walk (h : IV w u xs) (hl : xs.length ≤ 10000000) {kb k : Nat} (hk : w.cell? ⟨kb, 0, none⟩ = some (.int .u64 (k : Nat))) (hkb : kb < w.heap.size) : Calls Tryz.prog 120 #[u, .func (.func 99) #[] #[.pointer (some ⟨kb, 0, none⟩)]] w fun e w' => ∃ p : Int, e = .returned (.int .i64 p) ∧ Below w.heap.size w w' ∧ ((p = -1 ∧ k ∉ keysI xs) ∨ (0 ≤ p ∧ k ∈ keysI xs)) := by
  obtain ⟨F, c, rfl, -⟩ := h.mem
  have H := Lib.hid h
  have KI : Hid (∀ (W : World) (_ : Below w.heap.size w W) (x : It), Calls Tryz.prog 99 #[.agg #[.int .u64 (x.key : Nat), .int .i64 (x.f : Nat)], .pointer (some ⟨kb, 0, none⟩)] W fun e w' => e = .returned (.bool (decide (x.key = k))) ∧ Below W.heap.size W w') := Lib.hid (fun W hb x => is12_walk ((hb.cell (p := ⟨kb, 0, none⟩) hkb).trans hk) (Nat.lt_of_lt_of_le hkb hb.size) x)
  obtain ⟨n, hn⟩ : ∃ n, xs.length = n := ⟨_, rfl⟩
  have HN := Lib.hid hn
  rw [hn] at hl H ⊢
  have hnI : (n : Int) ≤ 10000000 := by omega
  clear h hn hk hkb
  go_enter Tryz.func120, Tryz.ntmps120
  go_wp2_with fail
  go_loopg [8] n (fun gg s8 wr => ∃ (i : Nat), i + gg = n ∧ s8 = .int .i64 (i : Nat) ∧ Hid (Below w.heap.size w wr) ∧ Hid (∀ j (hj : j < xs.length), j < i → xs[j].key ≠ k))
  case atStart => exact ⟨0, by omega, rfl, Lib.hid (Below.refl _ _), Lib.hid (fun j _ hj => by omega)⟩
  case round =>
    obtain ⟨i, hi, rfl, HB, HM⟩ := hrel
    by_cases hlt : i < n
    · have hltI : (i : Int) < (n : Int) := by omega
      have hil : i < xs.length := by rw [HN.out]; exact hlt
      obtain ⟨F', d', e, _, _, h3⟩ := (H.out.below HB.out).mem
      injection e with e1 e2 e3
      subst e1 e3
      obtain ⟨g, off, hF, hg, q0, q1⟩ := h3 i hil
      subst hF
      have KX := Lib.hid (KI.out wr HB.out xs[i])
      obtain ⟨x, hx⟩ : ∃ x, xs[i] = x := ⟨_, rfl⟩
      have HX := Lib.hid hx
      rw [hx] at q0 q1 KX
      obtain ⟨kx, fx⟩ := x
      dsimp only at q0 q1 KX
      clear h3 e2 hx
      go_wp2_with fail
      refine KX.out.mono ?_
      rintro e w2 ⟨rfl, hb2⟩
      have HB2 := Lib.hid (HB.out.trans (hb2.mono HB.out.size))
      clear hb2 KX
      by_cases he : kx = k
      · rw [decide_eq_true he]
        have HK : Hid (k ∈ keysI xs) := Lib.hid (by
          rw [← he]
          have := List.mem_map_of_mem (f := It.key) (List.getElem_mem hil)
          rw [HX.out] at this
          exact this)
        clear he
        go_wp2
        go_ret
        exact ⟨_, rfl, HB2.out, .inr ⟨by omega, HK.out⟩⟩
      · rw [decide_eq_false he]
        have HY : Hid (∀ j (hj : j < xs.length), j < i + 1 → xs[j].key ≠ k) := Lib.hid (fun j hj hji => by
          rcases Nat.lt_or_ge j i with h | h
          · exact HM.out j hj h
          · obtain rfl : j = i := by omega
            rw [HX.out]
            exact he)
        clear he
        go_wp2
        go_roundg (gk - 1)
        case measure => omega
        case rel => exact ⟨i + 1, by omega, by go_num, HB2, HY⟩
    · have hltI : ¬ (i : Int) < (n : Int) := by omega
      have HX : Hid (k ∉ keysI xs) := Lib.hid (fun hm => by
        obtain ⟨x, hx, e⟩ := List.mem_map.1 hm
        obtain ⟨j, hj, rfl⟩ := List.getElem_of_mem hx
        exact HM.out j hj (by rw [HN.out] at hj; omega) e)
      go_wp2
      go_ret
      exact ⟨_, rfl, HB.out, .inl ⟨rfl, HX.out⟩⟩
theorem containsf_walk (h : IV w u xs) (hl : xs.length ≤ 10000000) {kb k : Nat} (hk : w.cell? ⟨kb, 0, none⟩ = some (.int .u64 (k : Nat))) (hkb : kb < w.heap.size) : Calls Tryz.prog 98 #[u, .func (.func 99) #[] #[.pointer (some ⟨kb, 0, none⟩)]] w (RetB w (decide (0 < tot k xs))) := by
  have KF := Lib.hid (idxf_walk h hl hk hkb)
  have HT : Hid (k ∈ keysI xs ↔ 0 < tot k xs) := Lib.hid tot_in
  obtain ⟨F, n, c, rfl⟩ := h.form
  clear h hk hkb
  go_enter Tryz.func98, Tryz.ntmps98
  go_wp2_with fail
  refine KF.out.mono ?_
  rintro e w2 ⟨p, rfl, hb, ⟨rfl, hno⟩ | ⟨hp, hin⟩⟩
  · have HF : Hid (decide (0 < tot k xs) = false ∧ Below w.heap.size w w2) := Lib.hid ⟨decide_eq_false (fun h => hno (HT.out.2 h)), hb⟩
    clear hno hb
    go_wp2
    go_ret
    exact ⟨by rw [HF.out.1]; rfl, HF.out.2⟩
  · have HF : Hid (decide (0 < tot k xs) = true ∧ Below w.heap.size w w2) := Lib.hid ⟨decide_eq_true (HT.out.1 hin), hb⟩
    clear hin hb
    go_wp2
    go_ret
    exact ⟨by rw [HF.out.1]; rfl, HF.out.2⟩
theorem stacked_walk (hs : St12 w s u1 u2) (hl : s.s.length ≤ 10000000) (k : Nat) : Calls Tryz.prog 54 #[.agg (l12C s.c u1 u2), .int .u64 (k : Nat)] w (RetB w (decide (0 < tot k s.s))) := by
  obtain ⟨F1, n1, d1, rfl⟩ := hs.form1
  obtain ⟨F2, n2, d2, rfl⟩ := hs.form2
  have hb := low_two w (.cells (l12C s.c (.slice F1 n1 d1) (.slice F2 n2 d2)) PT12) (.cells #[.int .u64 (k : Nat)] 32)
  have hk : ((w.alloc (.cells (l12C s.c (.slice F1 n1 d1) (.slice F2 n2 d2)) PT12)).alloc (.cells #[.int .u64 (k : Nat)] 32)).cell? ⟨w.heap.size + 1, 0, none⟩ = some (.int .u64 (k : Nat)) := by
    simp
  have KF := Lib.hid (containsf_walk (hs.g1.below hb) hl hk (by simp))
  have HB := Lib.hid hb
  clear hs hb hk
  obtain ⟨c, xs, q⟩ := s
  simp only at *
  go_enter Tryz.func54, Tryz.ntmps54
  go_wp2_with fail
  refine KF.out.mono ?_
  rintro e w2 ⟨rfl, hb2⟩
  have HF := Lib.hid (HB.out.trans (hb2.mono HB.out.size))
  clear hb2 KF
  go_wp2
  go_ret
  exact ⟨rfl, HF.out⟩
set_option maxHeartbeats 1000000 in
theorem idxi_walk (h : IV w u xs) (hl : xs.length ≤ 10000000) (k : Nat) : Calls Tryz.prog 93 #[u, .agg #[.int .u64 (k : Nat), .int .i64 2]] w fun e w' => ∃ p : Int, e = .returned (.int .i64 p) ∧ Below w.heap.size w w' ∧ ((p = -1 ∧ (⟨k, 2⟩ : It) ∉ xs) ∨ (0 ≤ p ∧ (⟨k, 2⟩ : It) ∈ xs)) := by
  obtain ⟨F, c, rfl, -⟩ := h.mem
  have hb := low_one w (.cells #[.int .u64 (k : Nat), .int .i64 2] PTI12)
  have HBX : Hid (∀ W, Below (w.alloc (.cells #[.int .u64 (k : Nat), .int .i64 2] PTI12)).heap.size (w.alloc (.cells #[.int .u64 (k : Nat), .int .i64 2] PTI12)) W → IV W (.slice F xs.length c) xs ∧ Below w.heap.size w W ∧ (W.cell? ⟨w.heap.size, 0, none⟩ = some (.int .u64 (k : Nat)) ∧ W.cell? ⟨w.heap.size, 1, none⟩ = some (.int .i64 2)) ∧ w.heap.size < W.heap.size) := Lib.hid (fun W hW => by
    have h2 := hb.trans (hW.mono hb.size)
    have h3 := (hW.block w.heap.size (by simp)).trans (heap_alloc_new w _)
    obtain ⟨x, _⟩ := c2_at h3
    exact ⟨h.below h2, h2, x, (head_row h3).lt⟩)
  obtain ⟨n, hn⟩ : ∃ n, xs.length = n := ⟨_, rfl⟩
  have HN := Lib.hid hn
  rw [hn] at hl HBX ⊢
  have hnI : (n : Int) ≤ 10000000 := by omega
  clear h hn hb
  go_enter Tryz.func93, Tryz.ntmps93
  go_wp2_with fail
  generalize World.alloc w _ = W0 at HBX ⊢
  go_loopg [8] n (fun gg s8 wr => ∃ (i : Nat), i + gg = n ∧ s8 = .int .i64 (i : Nat) ∧ Hid (Below W0.heap.size W0 wr) ∧ Hid (∀ j (hj : j < xs.length), j < i → xs[j] ≠ ⟨k, 2⟩))
  case atStart => exact ⟨0, by omega, rfl, Lib.hid (Below.refl _ _), Lib.hid (fun j _ hj => by omega)⟩
  case round =>
    obtain ⟨i, hi, rfl, HB, HM⟩ := hrel
    obtain ⟨hst, hbw, ⟨z0, z1⟩, hzz⟩ := HBX.out wr HB.out
    have HBW := Lib.hid hbw
    by_cases hlt : i < n
    · have hltI : (i : Int) < (n : Int) := by omega
      have hil : i < xs.length := by rw [HN.out]; exact hlt
      obtain ⟨F', d', e, _, _, h3⟩ := hst.mem
      injection e with e1 e2 e3
      subst e1 e3
      obtain ⟨g, off, hF, hg, q0, q1⟩ := h3 i hil
      subst hF
      obtain ⟨x, hx⟩ : ∃ x, xs[i] = x := ⟨_, rfl⟩
      have HX := Lib.hid hx
      rw [hx] at q0 q1
      obtain ⟨kx, fx⟩ := x
      dsimp only at q0 q1
      have HBN := fun m : Nat => Lib.hid (below_drewn HB.out m)
      have HBN2 := fun m : Nat => Lib.hid (below_drewn hbw m)
      clear h3 e2 hx hst hbw
      by_cases he : kx = k ∧ fx = 2
      · obtain ⟨rfl, rfl⟩ := he
        have HK : Hid ((⟨kx, 2⟩ : It) ∈ xs) := Lib.hid (by rw [← HX.out]; exact List.getElem_mem hil)
        go_wp2_with fail
        go_quiet (fail)
        go_wp2
        go_ret
        exact ⟨_, rfl, (HBN2 _).out, .inr ⟨by omega, HK.out⟩⟩
      · have HY : Hid (∀ j (hj : j < xs.length), j < i + 1 → xs[j] ≠ ⟨k, 2⟩) := Lib.hid (fun j hj hji => by
          rcases Nat.lt_or_ge j i with h | h
          · exact HM.out j hj h
          · obtain rfl : j = i := by omega
            rw [HX.out]
            intro e
            injection e with e1 e2
            exact he ⟨e1, e2⟩)
        by_cases hk1 : kx = k
        · subst hk1
          have h2 : fx ≠ 2 := fun h => he ⟨rfl, h⟩
          have h2I : ¬ (2 : Int) = (fx : Int) := by omega
          have h2b : ((2 : Int) == (fx : Int)) = false := by rw [beq_eq_false_iff_ne]; exact h2I
          clear he
          go_wp2_with fail
          go_quiet (fail)
          go_wp2
          go_roundg (gk - 1)
          case measure => omega
          case rel => exact ⟨i + 1, by omega, by go_num, HBN _, HY⟩
        · have h1I : ¬ (k : Int) = (kx : Int) := by omega
          have h1b : ((k : Int) == (kx : Int)) = false := by rw [beq_eq_false_iff_ne]; exact h1I
          clear he hk1
          go_wp2_with fail
          go_quiet (fail)
          go_wp2
          go_roundg (gk - 1)
          case measure => omega
          case rel => exact ⟨i + 1, by omega, by go_num, HBN _, HY⟩
    · have hltI : ¬ (i : Int) < (n : Int) := by omega
      have HX : Hid ((⟨k, 2⟩ : It) ∉ xs) := Lib.hid (fun hm => by
        obtain ⟨j, hj, e⟩ := List.getElem_of_mem hm
        exact HM.out j hj (by rw [HN.out] at hj; omega) e)
      clear hst hbw
      go_wp2
      go_ret
      exact ⟨_, rfl, HBW.out, .inl ⟨rfl, HX.out⟩⟩
theorem containsi_walk (h : IV w u xs) (hl : xs.length ≤ 10000000) (k : Nat) : Calls Tryz.prog 50 #[u, .agg #[.int .u64 (k : Nat), .int .i64 2]] w (RetB w (decide ((⟨k, 2⟩ : It) ∈ xs))) := by
  have hb := low_one w (.cells #[.int .u64 (k : Nat), .int .i64 2] PTI12)
  have KF := Lib.hid (idxi_walk (h.below hb) hl k)
  have HB := Lib.hid hb
  obtain ⟨F, n, c, rfl⟩ := h.form
  clear h hb
  go_enter Tryz.func50, Tryz.ntmps50
  go_wp2_with fail
  refine KF.out.mono ?_
  rintro e w2 ⟨p, rfl, hb, ⟨rfl, hno⟩ | ⟨hp, hin⟩⟩
  · have HF : Hid (decide ((⟨k, 2⟩ : It) ∈ xs) = false ∧ Below w.heap.size w w2) := Lib.hid ⟨decide_eq_false hno, HB.out.trans (hb.mono HB.out.size)⟩
    clear hno hb
    go_wp2
    go_ret
    exact ⟨by rw [HF.out.1]; rfl, HF.out.2⟩
  · have HF : Hid (decide ((⟨k, 2⟩ : It) ∈ xs) = true ∧ Below w.heap.size w w2) := Lib.hid ⟨decide_eq_true hin, HB.out.trans (hb.mono HB.out.size)⟩
    clear hin hb
    go_wp2
    go_ret
    exact ⟨by rw [HF.out.1]; rfl, HF.out.2⟩
theorem p12has_walk (hs : St12 w s u1 u2) (ok : s.Ok) (k : Nat) : Calls Tryz.prog 22 #[.agg (l12C s.c u1 u2), .int .u64 (k : Nat)] w (RetB w (decide (k ∈ s.keys))) := by
  obtain ⟨F1, n1, d1, rfl⟩ := hs.form1
  obtain ⟨F2, n2, d2, rfl⟩ := hs.form2
  have hb := low_one w (.cells (l12C s.c (.slice F1 n1 d1) (.slice F2 n2 d2)) PT12)
  have hbx := heap_alloc_new w (.cells (l12C s.c (.slice F1 n1 d1) (.slice F2 n2 d2)) PT12)
  have KF := Lib.hid (containsi_walk (hs.g1.below hb) (by have := ok.sl; omega) k)
  have HQ : Hid (∀ W, Below (w.alloc (.cells (l12C s.c (.slice F1 n1 d1) (.slice F2 n2 d2)) PT12)).heap.size (w.alloc (.cells (l12C s.c (.slice F1 n1 d1) (.slice F2 n2 d2)) PT12)) W → W.cell? ⟨w.heap.size, 2, none⟩ = some (.slice F2 n2 d2) ∧ w.heap.size < W.heap.size ∧ Below w.heap.size w W ∧ KV W (.slice F2 n2 d2) s.q) := Lib.hid (fun W hW => by
    have h3 := (hW.block w.heap.size (by simp)).trans hbx
    obtain ⟨⟨_, _, x2⟩, _⟩ := c3_at h3
    exact ⟨x2, (head_row h3).lt, hb.trans (hW.mono hb.size), hs.g2.below (hb.trans (hW.mono hb.size))⟩)
  have HQL := Lib.hid ok.ql
  have HK : Hid (k ∈ s.keys ↔ (⟨k, 2⟩ : It) ∈ s.s ∨ k ∈ s.q) := Lib.hid (by
    rw [L12.keys_in, ct_in, L12.q_in]
    omega)
  clear hs hb hbx ok
  obtain ⟨R, hR⟩ : ∃ R, decide (k ∈ s.keys) = R := ⟨_, rfl⟩
  have HR := Lib.hid hR
  rw [hR]
  clear hR
  go_enter Tryz.func22, Tryz.ntmps22
  go_wp2_with fail
  refine KF.out.mono ?_
  rintro e w2 ⟨rfl, hb2⟩
  obtain ⟨x2, hbb, hbw, hkv⟩ := HQ.out w2 hb2
  have HBW := Lib.hid hbw
  have KH := Lib.hid (has_walk hkv (by have := HQL.out; omega) k)
  clear hb2 hbw hkv KF HQ HQL
  by_cases hi : (⟨k, 2⟩ : It) ∈ s.s
  · rw [decide_eq_true hi]
    have HF : Hid (R = true) := Lib.hid (by rw [← HR.out]; exact decide_eq_true (HK.out.2 (.inl hi)))
    clear hi KH
    go_wp2
    go_ret
    exact ⟨by rw [HF.out]; rfl, HBW.out⟩
  · rw [decide_eq_false hi]
    have HF : Hid (R = decide (k ∈ s.q)) := Lib.hid (by
      rw [← HR.out]
      by_cases hq : k ∈ s.q
      · rw [decide_eq_true hq]
        exact decide_eq_true (HK.out.2 (.inr hq))
      · rw [decide_eq_false hq]
        exact decide_eq_false (fun h => (HK.out.1 h).elim hi hq))
    clear hi
    go_wp2_with fail
    refine KH.out.mono ?_
    rintro e w3 ⟨rfl, rfl⟩
    clear KH
    go_wp2
    go_ret
    exact ⟨by rw [HF.out]; rfl, HBW.out⟩
set_option maxHeartbeats 1000000 in
theorem p12keys_walk (hs : St12 w s u1 u2) (ok : s.Ok) : Calls Tryz.prog 28 #[.agg (l12C s.c u1 u2)] w (RetK w s.keys) := by
  obtain ⟨F1, d1, rfl, -⟩ := hs.g1.mem
  obtain ⟨F2, n2, d2, rfl⟩ := hs.form2
  have hsl := ok.sl
  have hql := ok.ql
  clear ok
  unfold L12.keys
  obtain ⟨c, xs, q⟩ := s
  simp only at *
  have HQL := Lib.hid hql
  obtain ⟨n, hn⟩ : ∃ n, xs.length = n := ⟨_, rfl⟩
  rw [hn] at hs hsl ⊢
  have HLD : Hid (∀ W, Below (w.alloc (.cells (l12C c (.slice F1 n d1) (.slice F2 n2 d2)) PT12)).heap.size (w.alloc (.cells (l12C c (.slice F1 n d1) (.slice F2 n2 d2)) PT12)) W → St12 W ⟨c, xs, q⟩ (.slice F1 n d1) (.slice F2 n2 d2) ∧ (W.cell? ⟨w.heap.size, 1, none⟩ = some (.slice F1 n d1) ∧ W.cell? ⟨w.heap.size, 2, none⟩ = some (.slice F2 n2 d2)) ∧ w.heap.size < W.heap.size ∧ Below w.heap.size w W) := Lib.hid (fun W hb => by
    have hlo := low_one w (.cells (l12C c (.slice F1 n d1) (.slice F2 n2 d2)) PT12)
    have h2 := hlo.trans (hb.mono hlo.size)
    have h3 := (hb.block w.heap.size (by simp)).trans (heap_alloc_new w (.cells (l12C c (.slice F1 n d1) (.slice F2 n2 d2)) PT12))
    obtain ⟨⟨x0, x1, x2⟩, _⟩ := c3_at h3
    exact ⟨hs.below h2, ⟨x1, x2⟩, (head_row h3).lt, h2⟩)
  have HN := Lib.hid hn
  have hnI : (n : Int) ≤ 2097152 := by omega
  clear hs hql hn
  go_enter Tryz.func28, Tryz.ntmps28
  go_wp2_with fail
  generalize World.alloc w _ = W0 at HLD ⊢
  go_loopg [3, 9] n (fun gg s3 s9 wr => ∃ (i : Nat) (v3 : Value), i + gg = n ∧ v3 = s3 ∧ s9 = .int .i64 (i : Nat) ∧ Hid (KO W0.heap.size W0 wr v3 (hotK (xs.take i))))
  case atStart => exact ⟨0, _, by omega, rfl, rfl, Lib.hid (by rw [List.take_zero]; exact KO.nil (Below.refl _ _))⟩
  case round =>
    obtain ⟨i, v3, hi, rfl, rfl, HI⟩ := hrel
    obtain ⟨hst, ⟨x1, x2⟩, hbb, hbw⟩ := HLD.out wr HI.out.low
    have HST := Lib.hid hst
    have HBW := Lib.hid hbw
    have HHL : Hid ((hotK (xs.take i)).length ≤ 2097152) := Lib.hid (by
      rw [hotK_len]
      have h1 : nk 2 (xs.take i) ≤ (xs.take i).length := List.countP_le_length
      rw [List.length_take, HN.out] at h1
      omega)
    clear hst hbw
    by_cases hlt : i < n
    · have hltI : (i : Int) < (n : Int) := by omega
      have hil : i < xs.length := by rw [HN.out]; exact hlt
      obtain ⟨F', d', e, _, _, h3⟩ := HST.out.g1.mem
      injection e with e1 e2 e3
      subst e1 e3
      obtain ⟨g, off, hF, hg, q0, q1⟩ := h3 i hil
      subst hF
      have hnx := hotK_next hil
      obtain ⟨kx, hkx⟩ : ∃ k, xs[i].key = k := ⟨_, rfl⟩
      obtain ⟨fx, hfx⟩ : ∃ f, xs[i].f = f := ⟨_, rfl⟩
      dsimp only at q0 q1
      rw [hkx] at q0 hnx
      rw [hfx] at q1 hnx
      clear h3 e2 hkx hfx
      have hi1 := HI.out.alloc HI.out.low.size (.cells #[.int .u64 (kx : Nat), .int .i64 (fx : Nat)] PTI12)
      have HI1 := Lib.hid hi1
      clear hi1
      by_cases he : fx = 2
      · subst he
        rw [if_pos rfl] at hnx
        have HNX := Lib.hid hnx
        have HOW := Lib.hid (HI1.out.alloc HI1.out.low.size (.cells #[.int .u64 (kx : Nat)] 32))
        have HSRC := Lib.hid (KV.one (wr.alloc (.cells #[.int .u64 (kx : Nat), .int .i64 ((2 : Nat) : Int)] PTI12)) kx)
        have hsz := HOW.out.low.size
        clear hnx
        go_wp2_with (at_builtin; refine wpList_append_kv rfl (.tmp 16) (.tmp 19) rfl W0.heap.size (by kernel_rfl) (by kernel_rfl) v3 (hotK (xs.take i)) rfl HOW.out _ [kx] rfl (by first | exact HSRC.out | (have h := HSRC.out; simp only [World.size_alloc] at h; exact h)) (by have := HHL.out; simp; omega) hsz ?_)
        intro v5 w5 hown5 _ _
        rw [← HNX.out] at hown5
        have HF := Lib.hid hown5
        clear hown5 HOW HSRC hsz q0 q1 x1 x2 hbb HI HI1 HST HBW HHL HNX
        go_wp2
        go_roundg (gk - 1)
        case measure => omega
        case rel => exact ⟨i + 1, v5, by omega, rfl, by go_num, HF⟩
      · have heI : ¬ (fx : Int) = 2 := by omega
        rw [if_neg he, List.append_nil] at hnx
        have HF : Hid (KO W0.heap.size W0 (wr.alloc (.cells #[.int .u64 (kx : Nat), .int .i64 (fx : Nat)] PTI12)) v3 (hotK (xs.take (i + 1)))) := Lib.hid (by rw [hnx]; exact HI1.out)
        clear hnx HI
        go_wp2
        go_roundg (gk - 1)
        case measure => omega
        case rel => exact ⟨i + 1, v3, by omega, rfl, by go_num, HF⟩
    · have hltI : ¬ (i : Int) < (n : Int) := by omega
      obtain rfl : i = n := by omega
      have hown := HI.out
      rw [← HN.out, List.take_length] at hown
      rw [← HN.out, List.take_length] at HHL
      have HOW := Lib.hid hown
      have HSRC := Lib.hid HST.out.g2
      have hsz := HI.out.low.size
      clear hown HI
      go_wp2_with (at_builtin; refine wpList_append_kv rfl (.tmp 22) (.tmp 24) rfl W0.heap.size (by kernel_rfl) (by kernel_rfl) v3 (hotK xs) rfl HOW.out _ q rfl HSRC.out (by have := HHL.out; have := HQL.out; omega) hsz ?_)
      intro v5 w5 hown5 _ _
      have HF := Lib.hid (And.intro (HLD.out w5 hown5.low).2.2.2 hown5.kv)
      clear hown5 HOW HSRC
      go_wp2
      go_ret
      exact ⟨_, rfl, HF.out.1, HF.out.2⟩
theorem Bo.own {w w1 w2 : World} {T : TypeId} {b r : Nat} {cs zs : Array Value} {B size n : Nat} {e : TypeId} {v : Value} {ys : List Value} (h : Bo w w1 T b r cs zs) (ho : Only [b, r] w1 w2) (hT : T ≠ e) (how : w1.ownsRow B e size v n ys) : w2.ownsRow B e size v n ys :=
  own_other how ho (fun g hg cs' he => by
    simp only [List.mem_cons, List.not_mem_nil, or_false] at hg
    rcases hg with rfl | rfl
    · rw [h.box] at he
      injection he with he
      injection he with _ he
      exact hT he
    · rw [h.res] at he
      injection he with he
      injection he with _ he
      exact hT he)
def P12w (w : World) (s : L12) (e : Ending) (w' : World) : Prop := ∃ u1 u2, e = .returned (.agg (l12C s.c u1 u2)) ∧ OwnI PTI12 w.heap.size w w' u1 s.s ∧ KO w.heap.size w w' u2 s.q
set_option maxHeartbeats 1000000 in
theorem owned_walk (hs : St12 w s u1 u2) (hl : s.s.length ≤ 10000000) (hq : s.q.length ≤ 10000000) : Calls Tryz.prog 52 #[.agg (l12C s.c u1 u2)] w (P12w w s) := by
  obtain ⟨F1, n1, d1, rfl⟩ := hs.form1
  obtain ⟨F2, n2, d2, rfl⟩ := hs.form2
  have HX0 := Lib.hid (Bx12.start w PT12 (by decide) hs)
  obtain ⟨c, xs, q⟩ := s
  simp only at *
  generalize hW0 : World.alloc _ (.cells z12 PT12) = W0 at HX0
  have HW0 := Lib.hid hW0
  have KI := Lib.hid (copyI12_walk HX0.out.st.g1 (by show xs.length ≤ _; omega))
  obtain ⟨⟨x0, x1, x2⟩, xf0, xf1, xf2⟩ := c3_at HX0.out.bo.box
  have hbb := (head_row HX0.out.bo.box).lt
  clear hW0 hs
  go_enter Tryz.func52, Tryz.ntmps52
  go_wp2_with fail
  rw [HW0.out]
  clear HW0
  go_wp2_with fail
  refine KI.out.mono ?_
  rintro e wa ⟨va, rfl, ha⟩
  obtain ⟨Fa, na, da, rfl⟩ := ha.iv.form
  have hxa := HX0.out.step ha.low
  clear x0 x1 x2 xf0 xf1 xf2 hbb
  obtain ⟨⟨x0, x1, x2⟩, xf0, xf1, xf2⟩ := c3_at hxa.bo.box
  try dsimp only at x0 x1 x2
  have hbb := (head_row hxa.bo.box).lt
  have hya := hxa.set1 ha.iv
  have hoa := hxa.bo.own ((Only.refl _ _).setCell (by simp) (.slice Fa na da)) (by decide) ha.own (w2 := wa.setCell ⟨w.heap.size, 1, none⟩ (.slice Fa na da))
  generalize hWa : wa.setCell ⟨w.heap.size, 1, none⟩ (.slice Fa na da) = w1 at hya hoa
  have HWa := Lib.hid hWa
  have HXa := Lib.hid hya
  have HOa := Lib.hid hoa
  have hsz0 := HX0.out.bo.low.size
  have HSZ := Lib.hid hsz0
  have KK := Lib.hid (copyK12_walk HXa.out.st.g2 (by show q.length ≤ _; omega))
  clear hxa hya hoa hWa ha KI HX0 hsz0
  go_upto_region 2 with fail
  rw [HWa.out]
  clear HWa x0 x1 x2 xf0 xf1 xf2 hbb
  obtain ⟨⟨x0, x1, x2⟩, xf0, xf1, xf2⟩ := c3_at HXa.out.bo.box
  try dsimp only at x0 x1 x2
  have hbb := (head_row HXa.out.bo.box).lt
  go_wp2_with fail
  refine KK.out.mono ?_
  rintro e wb ⟨vb, rfl, hb⟩
  obtain ⟨Fb, nb, db, rfl⟩ := hb.kv.form
  have hxb := HXa.out.step hb.low
  clear x0 x1 x2 xf0 xf1 xf2 hbb
  obtain ⟨⟨x0, x1, x2⟩, xf0, xf1, xf2⟩ := c3_at hxb.bo.box
  try dsimp only at x0 x1 x2
  have hbb := (head_row hxb.bo.box).lt
  obtain ⟨⟨y0, y1, y2⟩, yf0, yf1, yf2⟩ := c3_at hxb.bo.res
  have hrr := (head_row hxb.bo.res).lt
  have HO : Hid (Only [w.heap.size, w.heap.size + 1] wb ((((wb.setCell ⟨w.heap.size, 2, none⟩ (.slice Fb nb db)).setCell ⟨w.heap.size + 1, 0, none⟩ (.int .i64 (c : Nat))).setCell ⟨w.heap.size + 1, 1, none⟩ (.slice Fa na da)).setCell ⟨w.heap.size + 1, 2, none⟩ (.slice Fb nb db))) := Lib.hid (((((Only.refl _ _).setCell (by simp) _).setCell (by simp) _).setCell (by simp) _).setCell (by simp) _)
  have HF : Hid (P12w w ⟨c, xs, q⟩ (.returned (.agg (l12C c (.slice Fa na da) (.slice Fb nb db)))) ((((wb.setCell ⟨w.heap.size, 2, none⟩ (.slice Fb nb db)).setCell ⟨w.heap.size + 1, 0, none⟩ (.int .i64 (c : Nat))).setCell ⟨w.heap.size + 1, 1, none⟩ (.slice Fa na da)).setCell ⟨w.heap.size + 1, 2, none⟩ (.slice Fb nb db))) := Lib.hid ⟨_, _, rfl, ⟨hxb.bo.fin HO.out, hxb.bo.own HO.out (by decide) (own_low (own_below HOa.out hb.low) HSZ.out)⟩, ⟨hxb.bo.fin HO.out, hxb.bo.own HO.out (by decide) (own_low hb.own HXa.out.bo.low.size)⟩⟩
  clear hxb hb KK HXa HOa HO HSZ
  go_wp2
  exact bodyPost_ret (v := .agg (l12C c (.slice Fa na da) (.slice Fb nb db))) (by simp [results, Tryz.results52, go_sem, y0, y1, y2]) rfl HF.out
end
end Go.Proofs.YtkhikpnlpcankaaGreat
