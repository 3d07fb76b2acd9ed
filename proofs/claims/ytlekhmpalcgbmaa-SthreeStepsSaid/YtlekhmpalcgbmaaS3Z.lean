/- Three simple queues: the program's own New, Touch, Drop, Has, Keys, Ghosts. -/
import Derived.Test.YtlekhmpalcgbmaaS3Y
import Derived.Deep.RegionHeld3
namespace Go.Proofs.Ytlekhmpalcgbmaa
open Go Go.RowKit Go.Deep

section
variable {w : World} {u u1 u2 u3 : Value} {s : L10} {xs : List It} {ks : List Nat}
theorem flat_le {α : Type} (F : It → List α) (hF : ∀ x, (F x).length ≤ 1) : ∀ (xs : List It), (xs.flatMap F).length ≤ xs.length
  | [] => Nat.le_refl _
  | x :: xs => by
    have h1 := hF x
    have h2 := flat_le F hF xs
    rw [List.flatMap_cons, List.length_append, List.length_cons]
    omega
set_option maxHeartbeats 2000000 in
theorem throughU_walk (h : IV w u xs) (hl : xs.length ≤ 100000000) (hf : ∀ x ∈ xs, x.f ≤ 3) {kb k : Nat} (hk : w.cell? ⟨kb, 0, none⟩ = some (.int .u64 (k : Nat))) (hkb : kb < w.heap.size) : Calls Try.prog 48 #[u, .func (.func 47) #[] #[.pointer (some ⟨kb, 0, none⟩)]] w (RetI w (usI k xs)) := by
  rw [usI_flat]
  have H := Lib.hid h
  obtain ⟨F, c, rfl, hcap, -⟩ := h.mem
  have KC : Hid (∀ (W : World) (_ : Below w.heap.size w W) (x : It) (_ : x ∈ xs), Calls Try.prog 47 #[.agg #[.int .u64 (x.key : Nat), .int .i64 (x.f : Nat)], .pointer (some ⟨kb, 0, none⟩)] W fun e w' => e = .returned (.tuple #[.agg #[.int .u64 ((useI k x).key : Nat), .int .i64 ((useI k x).f : Nat)], .bool true]) ∧ Below W.heap.size W w') := Lib.hid (fun W hb x hx => use_walk ((hb.cell (p := ⟨kb, 0, none⟩) hkb).trans hk) (Nat.lt_of_lt_of_le hkb hb.size) x (hf x hx))
  obtain ⟨n, hn⟩ : ∃ n, xs.length = n := ⟨_, rfl⟩
  rw [hn] at hl H ⊢
  have HN := Lib.hid hn
  have HG := Lib.hid (growI_walk w n hl)
  clear h hn hcap hf hk hkb
  have hnI : (n : Int) ≤ 100000000 := by omega
  go_enter Try.func48, Try.ntmps48
  go_wp2_with fail
  refine HG.out.mono ?_
  rintro e w1 ⟨v1, rfl, hk1⟩
  have H1 := Lib.hid hk1
  clear hk1 HG
  go_wp2_with fail
  go_loopg [5, 15] n (fun gg s5 s15 wr => ∃ (i : Nat) (v0 : Value), i + gg = n ∧ v0 = s5 ∧ s15 = .int .i64 (i : Nat) ∧ Hid (OwnI QTI10 w.heap.size w wr v0 ((xs.take i).flatMap (fun t => [useI k t]))))
  case atStart => exact ⟨0, _, by omega, rfl, rfl, Lib.hid (by simpa using H1.out)⟩
  case round =>
    obtain ⟨i, v5, hi, rfl, rfl, HI⟩ := hrel
    by_cases hlt : i < n
    · have hltI : (i : Int) < (n : Int) := by omega
      obtain ⟨F', c', e, _, _, h3⟩ := (H.out.below HI.out.low).mem
      injection e with e1 e2 e3
      subst e1 e3
      have hix : i < xs.length := by have := HN.out; omega
      obtain ⟨g, off, hF, hg, q0, q1⟩ := h3 i hix
      subst hF
      have hFT := flatIt_take (fun t => [useI k t]) hix
      have hLL : ((xs.take i).flatMap (fun t => [useI k t])).length ≤ 100000000 := by
        have h5 := flat_le (fun t => [useI k t]) (by intro x; first | exact Nat.le_refl 1 | (split <;> simp)) (xs.take i)
        rw [List.length_take] at h5
        omega
      have hmem := List.getElem_mem hix
      obtain ⟨x, hx⟩ : ∃ x, xs[i] = x := ⟨_, rfl⟩
      rw [hx] at q0 q1 hFT hmem
      have KR := Lib.hid (fun W (hb : Below w.heap.size w W) => KC.out W hb x hmem)
      have HFT := Lib.hid hFT
      obtain ⟨zs, hzs⟩ : ∃ zs, (xs.take (i + 1)).flatMap (fun t => [useI k t]) = zs := ⟨_, rfl⟩
      obtain ⟨ys, hys⟩ : ∃ ys, (xs.take i).flatMap (fun t => [useI k t]) = ys := ⟨_, rfl⟩
      rw [hys, hzs] at HFT
      have HZS := Lib.hid hzs
      rw [hys] at HI hLL
      have HLL := Lib.hid hLL
      obtain ⟨kx, fx⟩ := x
      dsimp only at q0 q1 KR
      have hx1 := HI.out.alloc HI.out.low.size (.cells #[.int .u64 (kx : Nat), .int .i64 (fx : Nat)] QTI10)
      have KX := Lib.hid (KR.out _ hx1.low)
      have HX1 := Lib.hid hx1
      clear h3 hmem hzs hys hx hix hFT hLL hx1 e2 KR HI
      go_wp2_with fail
      refine KX.out.mono ?_
      rintro e w2 ⟨rfl, hb2⟩
      have HX2 := Lib.hid (HX1.out.below HX1.out.low.size hb2)
      clear hb2 HX1 KX q0 q1 hg

      obtain ⟨ky, hky⟩ : ∃ y, (useI k ⟨kx, fx⟩).key = y := ⟨_, rfl⟩
      obtain ⟨fy, hfy⟩ : ∃ y, (useI k ⟨kx, fx⟩).f = y := ⟨_, rfl⟩
      have HUE : Hid (useI k ⟨kx, fx⟩ = ⟨ky, fy⟩) := Lib.hid (by rw [← hky, ← hfy])
      rw [hky, hfy]
      clear hky hfy
      have hx3 := HX2.out.alloc HX2.out.low.size (.cells #[.int .u64 (ky : Nat), .int .i64 (fy : Nat)] QTI10)
      have hx4 := hx3.alloc hx3.low.size (.cells #[.int .u64 (ky : Nat), .int .i64 (fy : Nat)] QTI10)
      have HOW := Lib.hid hx4
      have HSRC := Lib.hid (IV.one (w2.alloc (.cells #[.int .u64 (ky : Nat), .int .i64 (fy : Nat)] QTI10)) QTI10 ⟨ky, fy⟩)
      have hszA := hx4.low.size
      clear hx3 hx4 HX2
      go_wp2_with (at_builtin; refine wpList_append_iv (e := QTI10) rfl (.tmp 26) (.tmp 28) rfl w.heap.size (by kernel_rfl) (by kernel_rfl) v5 ys rfl HOW.out _ [⟨ky, fy⟩] rfl (by first | exact HSRC.out | (have h := HSRC.out; simp only [World.size_alloc] at h; exact h)) (by have := HLL.out; simp; omega) hszA ?_)
      intro v6 w6 hown6 _ _
      have hHZ : ys ++ [(⟨ky, fy⟩ : It)] = zs := by rw [HFT.out, HUE.out]
      rw [hHZ, ← HZS.out] at hown6
      have HNX := Lib.hid hown6
      clear hown6 hHZ HOW HSRC hszA
      go_wp2
      go_roundg (gk - 1)
      case measure => omega
      case rel => exact ⟨i + 1, v6, by omega, rfl, by go_num, HNX⟩
    · have hltI : ¬ (i : Int) < (n : Int) := by omega
      have hfin := HI.out
      rw [List.take_of_length_le (by have := HN.out; omega)] at hfin
      have HF := Lib.hid hfin
      clear hfin HI
      go_wp2
      go_ret
      exact ⟨_, rfl, HF.out⟩
set_option maxHeartbeats 2000000 in
theorem throughO_walk (h : IV w u xs) (hl : xs.length ≤ 100000000) {kb k : Nat} (hk : w.cell? ⟨kb, 0, none⟩ = some (.int .u64 (k : Nat))) (hkb : kb < w.heap.size) : Calls Try.prog 48 #[u, .func (.func 50) #[] #[.pointer (some ⟨kb, 0, none⟩)]] w (RetI w (woI k xs)) := by
  rw [woI_flat]
  have H := Lib.hid h
  obtain ⟨F, c, rfl, hcap, -⟩ := h.mem
  have KC : Hid (∀ (W : World) (_ : Below w.heap.size w W) (x : It) (_ : x ∈ xs), Calls Try.prog 50 #[.agg #[.int .u64 (x.key : Nat), .int .i64 (x.f : Nat)], .pointer (some ⟨kb, 0, none⟩)] W fun e w' => e = .returned (.tuple #[.agg #[.int .u64 (x.key : Nat), .int .i64 (x.f : Nat)], .bool (!decide (x.key = k))]) ∧ Below W.heap.size W w') := Lib.hid (fun W hb x hx => other_walk ((hb.cell (p := ⟨kb, 0, none⟩) hkb).trans hk) (Nat.lt_of_lt_of_le hkb hb.size) x)
  obtain ⟨n, hn⟩ : ∃ n, xs.length = n := ⟨_, rfl⟩
  rw [hn] at hl H ⊢
  have HN := Lib.hid hn
  have HG := Lib.hid (growI_walk w n hl)
  clear h hn hcap hk hkb
  have hnI : (n : Int) ≤ 100000000 := by omega
  go_enter Try.func48, Try.ntmps48
  go_wp2_with fail
  refine HG.out.mono ?_
  rintro e w1 ⟨v1, rfl, hk1⟩
  have H1 := Lib.hid hk1
  clear hk1 HG
  go_wp2_with fail
  go_loopg [5, 15] n (fun gg s5 s15 wr => ∃ (i : Nat) (v0 : Value), i + gg = n ∧ v0 = s5 ∧ s15 = .int .i64 (i : Nat) ∧ Hid (OwnI QTI10 w.heap.size w wr v0 ((xs.take i).flatMap (fun t => if t.key = k then [] else [t]))))
  case atStart => exact ⟨0, _, by omega, rfl, rfl, Lib.hid (by simpa using H1.out)⟩
  case round =>
    obtain ⟨i, v5, hi, rfl, rfl, HI⟩ := hrel
    by_cases hlt : i < n
    · have hltI : (i : Int) < (n : Int) := by omega
      obtain ⟨F', c', e, _, _, h3⟩ := (H.out.below HI.out.low).mem
      injection e with e1 e2 e3
      subst e1 e3
      have hix : i < xs.length := by have := HN.out; omega
      obtain ⟨g, off, hF, hg, q0, q1⟩ := h3 i hix
      subst hF
      have hFT := flatIt_take (fun t => if t.key = k then [] else [t]) hix
      have hLL : ((xs.take i).flatMap (fun t => if t.key = k then [] else [t])).length ≤ 100000000 := by
        have h5 := flat_le (fun t => if t.key = k then [] else [t]) (by intro x; first | exact Nat.le_refl 1 | (split <;> simp)) (xs.take i)
        rw [List.length_take] at h5
        omega
      have hmem := List.getElem_mem hix
      obtain ⟨x, hx⟩ : ∃ x, xs[i] = x := ⟨_, rfl⟩
      rw [hx] at q0 q1 hFT hmem
      have KR := Lib.hid (fun W (hb : Below w.heap.size w W) => KC.out W hb x hmem)
      have HFT := Lib.hid hFT
      obtain ⟨zs, hzs⟩ : ∃ zs, (xs.take (i + 1)).flatMap (fun t => if t.key = k then [] else [t]) = zs := ⟨_, rfl⟩
      obtain ⟨ys, hys⟩ : ∃ ys, (xs.take i).flatMap (fun t => if t.key = k then [] else [t]) = ys := ⟨_, rfl⟩
      rw [hys, hzs] at HFT
      have HZS := Lib.hid hzs
      rw [hys] at HI hLL
      have HLL := Lib.hid hLL
      obtain ⟨kx, fx⟩ := x
      dsimp only at q0 q1 KR
      have hx1 := HI.out.alloc HI.out.low.size (.cells #[.int .u64 (kx : Nat), .int .i64 (fx : Nat)] QTI10)
      have KX := Lib.hid (KR.out _ hx1.low)
      have HX1 := Lib.hid hx1
      clear h3 hmem hzs hys hx hix hFT hLL hx1 e2 KR HI
      go_wp2_with fail
      refine KX.out.mono ?_
      rintro e w2 ⟨rfl, hb2⟩
      have HX2 := Lib.hid (HX1.out.below HX1.out.low.size hb2)
      clear hb2 HX1 KX q0 q1 hg
      by_cases he : kx = k
      · rw [decide_eq_true he]
        have hHZ : ys = zs := by rw [HFT.out, if_pos he, List.append_nil]
        have hx3 := HX2.out.alloc HX2.out.low.size (.cells #[.int .u64 (kx : Nat), .int .i64 (fx : Nat)] QTI10)
        rw [hHZ, ← HZS.out] at hx3
        have HNX := Lib.hid hx3
        clear hx3 hHZ he HX2
        go_wp2
        go_roundg (gk - 1)
        case measure => omega
        case rel => exact ⟨i + 1, v5, by omega, rfl, by go_num, HNX⟩
      · rw [decide_eq_false he]
        have HHE := Lib.hid he
        clear he
        have hx3 := HX2.out.alloc HX2.out.low.size (.cells #[.int .u64 (kx : Nat), .int .i64 (fx : Nat)] QTI10)
        have hx4 := hx3.alloc hx3.low.size (.cells #[.int .u64 (kx : Nat), .int .i64 (fx : Nat)] QTI10)
        have HOW := Lib.hid hx4
        have HSRC := Lib.hid (IV.one (w2.alloc (.cells #[.int .u64 (kx : Nat), .int .i64 (fx : Nat)] QTI10)) QTI10 ⟨kx, fx⟩)
        have hszA := hx4.low.size
        clear hx3 hx4 HX2
        go_wp2_with (at_builtin; refine wpList_append_iv (e := QTI10) rfl (.tmp 26) (.tmp 28) rfl w.heap.size (by kernel_rfl) (by kernel_rfl) v5 ys rfl HOW.out _ [⟨kx, fx⟩] rfl (by first | exact HSRC.out | (have h := HSRC.out; simp only [World.size_alloc] at h; exact h)) (by have := HLL.out; simp; omega) hszA ?_)
        intro v6 w6 hown6 _ _
        have hHZ : ys ++ [(⟨kx, fx⟩ : It)] = zs := by rw [HFT.out, if_neg HHE.out]
        rw [hHZ, ← HZS.out] at hown6
        have HNX := Lib.hid hown6
        clear hown6 hHZ HOW HSRC hszA
        go_wp2
        go_roundg (gk - 1)
        case measure => omega
        case rel => exact ⟨i + 1, v6, by omega, rfl, by go_num, HNX⟩
    · have hltI : ¬ (i : Int) < (n : Int) := by omega
      have hfin := HI.out
      rw [List.take_of_length_le (by have := HN.out; omega)] at hfin
      have HF := Lib.hid hfin
      clear hfin HI
      go_wp2
      go_ret
      exact ⟨_, rfl, HF.out⟩
set_option maxHeartbeats 2000000 in
theorem throughK_walk (h : IV w u xs) (hl : xs.length ≤ 100000000)  : Calls Try.prog 39 #[u, .func (.func 38) #[] #[]] w (OwnK w (keysI xs)) := by
  rw [keysI_flat]
  have H := Lib.hid h
  obtain ⟨F, c, rfl, hcap, -⟩ := h.mem
  have KC : Hid (∀ (W : World) (_ : Below w.heap.size w W) (x : It) (_ : x ∈ xs), Calls Try.prog 38 #[.agg #[.int .u64 (x.key : Nat), .int .i64 (x.f : Nat)]] W fun e w' => e = .returned (.tuple #[.int .u64 (x.key : Nat), .bool true]) ∧ Below W.heap.size W w') := Lib.hid (fun W hb x hx => key_walk x)
  obtain ⟨n, hn⟩ : ∃ n, xs.length = n := ⟨_, rfl⟩
  rw [hn] at hl H ⊢
  have HN := Lib.hid hn
  have HG := Lib.hid (grow_walk (KO.nil (B := w.heap.size) (w0 := w) (Below.refl _ _)) (Nat.le_refl _) n hl (by simp))
  clear h hn hcap 
  have hnI : (n : Int) ≤ 100000000 := by omega
  go_enter Try.func39, Try.ntmps39
  go_wp2_with fail
  refine HG.out.mono ?_
  rintro e w1 ⟨v1, rfl, hk1⟩
  have H1 := Lib.hid hk1
  clear hk1 HG
  go_wp2_with fail
  go_loopg [5, 15] n (fun gg s5 s15 wr => ∃ (i : Nat) (v0 : Value), i + gg = n ∧ v0 = s5 ∧ s15 = .int .i64 (i : Nat) ∧ Hid (KO w.heap.size w wr v0 ((xs.take i).flatMap (fun t => [t.key]))))
  case atStart => exact ⟨0, _, by omega, rfl, rfl, Lib.hid (by simpa using H1.out)⟩
  case round =>
    obtain ⟨i, v5, hi, rfl, rfl, HI⟩ := hrel
    by_cases hlt : i < n
    · have hltI : (i : Int) < (n : Int) := by omega
      obtain ⟨F', c', e, _, _, h3⟩ := (H.out.below HI.out.low).mem
      injection e with e1 e2 e3
      subst e1 e3
      have hix : i < xs.length := by have := HN.out; omega
      obtain ⟨g, off, hF, hg, q0, q1⟩ := h3 i hix
      subst hF
      have hFT := flatIt_take (fun t => [t.key]) hix
      have hLL : ((xs.take i).flatMap (fun t => [t.key])).length ≤ 100000000 := by
        have h5 := flat_le (fun t => [t.key]) (by intro x; first | exact Nat.le_refl 1 | (split <;> simp)) (xs.take i)
        rw [List.length_take] at h5
        omega
      have hmem := List.getElem_mem hix
      obtain ⟨x, hx⟩ : ∃ x, xs[i] = x := ⟨_, rfl⟩
      rw [hx] at q0 q1 hFT hmem
      have KR := Lib.hid (fun W (hb : Below w.heap.size w W) => KC.out W hb x hmem)
      have HFT := Lib.hid hFT
      obtain ⟨zs, hzs⟩ : ∃ zs, (xs.take (i + 1)).flatMap (fun t => [t.key]) = zs := ⟨_, rfl⟩
      obtain ⟨ys, hys⟩ : ∃ ys, (xs.take i).flatMap (fun t => [t.key]) = ys := ⟨_, rfl⟩
      rw [hys, hzs] at HFT
      have HZS := Lib.hid hzs
      rw [hys] at HI hLL
      have HLL := Lib.hid hLL
      obtain ⟨kx, fx⟩ := x
      dsimp only at q0 q1 KR
      have hx1 := HI.out.alloc HI.out.low.size (.cells #[.int .u64 (kx : Nat), .int .i64 (fx : Nat)] QTI10)
      have KX := Lib.hid (KR.out _ hx1.low)
      have HX1 := Lib.hid hx1
      clear h3 hmem hzs hys hx hix hFT hLL hx1 e2 KR HI
      go_wp2_with fail
      refine KX.out.mono ?_
      rintro e w2 ⟨rfl, hb2⟩
      have HX2 := Lib.hid (HX1.out.below HX1.out.low.size hb2)
      clear hb2 HX1 KX q0 q1 hg
      have hx4 := HX2.out.alloc HX2.out.low.size (.cells #[.int .u64 (kx : Nat)] 35)
      have HOW := Lib.hid hx4
      have HSRC := Lib.hid (KV.one w2 kx)
      have hszA := hx4.low.size
      clear hx4 HX2
      go_wp2_with (at_builtin; refine wpList_append_kv rfl (.tmp 26) (.tmp 28) rfl w.heap.size (by kernel_rfl) (by kernel_rfl) v5 ys rfl HOW.out _ [kx] rfl HSRC.out (by have := HLL.out; simp; omega) hszA ?_)
      intro v6 w6 hown6 _ _
      have hHZ : ys ++ [kx] = zs := HFT.out.symm
      rw [hHZ, ← HZS.out] at hown6
      have HNX := Lib.hid hown6
      clear hown6 hHZ HOW HSRC hszA
      go_wp2
      go_roundg (gk - 1)
      case measure => omega
      case rel => exact ⟨i + 1, v6, by omega, rfl, by go_num, HNX⟩
    · have hltI : ¬ (i : Int) < (n : Int) := by omega
      have hfin := HI.out
      rw [List.take_of_length_le (by have := HN.out; omega)] at hfin
      have HF := Lib.hid hfin
      clear hfin HI
      go_wp2
      go_ret
      exact ⟨_, rfl, HF.out⟩
end
end Go.Proofs.Ytlekhmpalcgbmaa
