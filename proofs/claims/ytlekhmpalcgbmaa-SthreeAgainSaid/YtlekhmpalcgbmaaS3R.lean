/- Three simple queues, the document's own: keys, without, used of a queue. -/
import Derived.Test.YtlekhmpalcgbmaaS3P
import Derived.IntWalk
import Derived.Deep.LoopGhost
namespace Go.Proofs.Ytlekhmpalcgbmaa
open Go Go.RowKit Go.Deep

abbrev TI10 : TypeId := 81
theorem keysI_take {xs : List It} {i : Nat} (h : i < xs.length) : keysI (xs.take (i + 1)) = keysI (xs.take i) ++ [xs[i].key] := by
  rw [List.take_succ_eq_append_getElem h, keysI_append]
  rfl
theorem woI_take {xs : List It} {k i : Nat} (h : i < xs.length) : woI k (xs.take (i + 1)) = woI k (xs.take i) ++ (if xs[i].key = k then [] else [xs[i]]) := by
  unfold woI
  rw [List.take_succ_eq_append_getElem h, List.filter_append]
  congr 1
  by_cases e : xs[i].key = k
  · rw [if_pos e]; simp [e]
  · rw [if_neg e]; simp [e]
theorem usI_take {xs : List It} {k i : Nat} (h : i < xs.length) : usI k (xs.take (i + 1)) = usI k (xs.take i) ++ [if xs[i].key = k ∧ xs[i].f < 3 then ⟨xs[i].key, xs[i].f + 1⟩ else xs[i]] := by
  unfold usI
  rw [List.take_succ_eq_append_getElem h, List.map_append]
  rfl
def ToldI (w : World) (e : TypeId) (xs : List It) (r : Ending) (w' : World) : Prop := ∃ v, r = .returned v ∧ OwnI e w.heap.size w w' v xs
section
variable {w : World} {v : Value} {xs : List It}
set_option maxHeartbeats 4000000 in
theorem rkeysI_walk (h : IV w v xs) (hl : xs.length ≤ 100000000) : Calls Try.prog 37 #[v] w (OwnK w (keysI xs)) := by
  have H := Lib.hid h
  obtain ⟨F, c, rfl, h1, h2, h3⟩ := h.mem
  clear h h3 h2 h1
  go_enter Try.func37, Try.ntmps37
  go_wp2_with fail
  go_loopg [3, 4] xs.length (fun gg s3 s4 wr => ∃ (i : Nat) (v3 : Value), i + gg = xs.length ∧ v3 = s3 ∧ s4 = .int .i64 (i : Nat) ∧ Hid (KO w.heap.size w wr v3 (keysI (xs.take i))))
  case atStart => exact ⟨0, _, by omega, rfl, rfl, Lib.hid (KO.nil (Below.refl _ _))⟩
  case round =>
    obtain ⟨i, v3, hi, rfl, rfl, HI⟩ := hrel
    by_cases hlt : i < xs.length
    · have hltI : (i : Int) < (xs.length : Int) := by omega
      obtain ⟨F', c', e, _, _, h3⟩ := (H.out.below HI.out.low).mem
      injection e with e1 e2 e3
      subst e1 e3
      obtain ⟨g, off, hF, hg, q0, q1⟩ := h3 i hlt
      subst hF
      have HW2 : Hid (keysI (xs.take i) ++ [xs[i].key] = keysI (xs.take (i + 1))) := Lib.hid (keysI_take hlt).symm
      have hszw := HI.out.low.size
      have hyl0 : (keysI (xs.take i)).length ≤ 100000000 := by rw [keysI_len, List.length_take]; omega
      clear h3 e2
      obtain ⟨ys, hys⟩ : ∃ ys, keysI (xs.take i) = ys := ⟨_, rfl⟩
      obtain ⟨zs, hzs⟩ : ∃ zs, keysI (xs.take (i + 1)) = zs := ⟨_, rfl⟩
      rw [hys] at HI HW2 hyl0
      rw [hzs] at HW2
      have HZS := Lib.hid hzs
      obtain ⟨x, hx⟩ : ∃ x, xs[i].key = x := ⟨_, rfl⟩
      rw [hx] at q0 HW2
      clear hys hzs hx
      have HOW := Lib.hid (HI.out.alloc hszw (.cells #[.int .u64 (x : Nat)] 35))
      have HSRC := Lib.hid (KV.one wr x)
      have hszA : w.heap.size ≤ (wr.alloc (.cells #[.int .u64 (x : Nat)] 35)).heap.size := by simp; omega
      go_wp2_with (at_builtin; refine wpList_append_kv rfl (.tmp 11) (.tmp 17) rfl w.heap.size (by kernel_rfl) (by kernel_rfl) v3 ys rfl HOW.out _ [x] rfl HSRC.out (by simp; omega) hszA ?_)
      intro v6 w6 hown6 _ _
      rw [HW2.out, ← HZS.out] at hown6
      have HN := Lib.hid hown6
      clear hown6 q0 q1 hg
      go_wp2
      go_roundg (gk - 1)
      case measure => omega
      case rel => exact ⟨i + 1, v6, by omega, rfl, by go_num, HN⟩
    · have hltI : ¬ (i : Int) < (xs.length : Int) := by omega
      obtain rfl : i = xs.length := by omega
      have hfin := HI.out
      rw [List.take_length] at hfin
      have HF := Lib.hid hfin
      clear hfin HI
      go_wp2
      go_ret
      exact ⟨_, rfl, HF.out⟩
set_option maxHeartbeats 4000000 in
theorem rwoI_walk (h : IV w v xs) (hl : xs.length ≤ 100000000) (k : Nat) : Calls Try.prog 54 #[v, .int .u64 (k : Nat)] w (ToldI w TI10 (woI k xs)) := by
  have H := Lib.hid h
  obtain ⟨F, c, rfl, h1, h2, h3⟩ := h.mem
  clear h h3 h2 h1
  go_enter Try.func54, Try.ntmps54
  go_wp2_with fail
  go_loopg [5, 6] xs.length (fun gg s5 s6 wr => ∃ (i : Nat) (v5 : Value), i + gg = xs.length ∧ v5 = s5 ∧ s6 = .int .i64 (i : Nat) ∧ Hid (OwnI TI10 w.heap.size w wr v5 (woI k (xs.take i))))
  case atStart => exact ⟨0, _, by omega, rfl, rfl, Lib.hid (OwnI.nil (Below.refl _ _))⟩
  case round =>
    obtain ⟨i, v5, hi, rfl, rfl, HI⟩ := hrel
    by_cases hlt : i < xs.length
    · have hltI : (i : Int) < (xs.length : Int) := by omega
      obtain ⟨F', c', e, _, _, h3⟩ := (H.out.below HI.out.low).mem
      injection e with e1 e2 e3
      subst e1 e3
      obtain ⟨g, off, hF, hg, q0, q1⟩ := h3 i hlt
      subst hF
      have HW := Lib.hid (woI_take (k := k) hlt)
      have hszw := HI.out.low.size
      have hyl0 : (woI k (xs.take i)).length ≤ 100000000 := by have := woI_len k (xs.take i); rw [List.length_take] at this; omega
      clear h3 e2
      by_cases he : xs[i].key = k
      · have HW2 : Hid (woI k (xs.take (i + 1)) = woI k (xs.take i)) := Lib.hid (by rw [HW.out, if_pos he, List.append_nil])
        rw [he] at q0
        have HN := HI.out
        rw [← HW2.out] at HN
        have HNX := Lib.hid HN
        clear he HN HI HW
        go_wp2
        go_roundg (gk - 1)
        case measure => omega
        case rel => exact ⟨i + 1, v5, by omega, rfl, by go_num, HNX⟩
      · have hne : (((xs[i].key : Nat) : Int) == (k : Int)) = false := by
          rw [beq_eq_false_iff_ne]
          omega
        have hne2 : (((xs[i].key : Nat) : Int) != (k : Int)) = true := by
          rw [bne_iff_ne]
          omega
        have HW2 : Hid (woI k (xs.take i) ++ [xs[i]] = woI k (xs.take (i + 1))) := Lib.hid (by rw [HW.out, if_neg he])
        clear he HW
        obtain ⟨ys, hys⟩ : ∃ ys, woI k (xs.take i) = ys := ⟨_, rfl⟩
        obtain ⟨zs, hzs⟩ : ∃ zs, woI k (xs.take (i + 1)) = zs := ⟨_, rfl⟩
        rw [hys] at HI HW2 hyl0
        rw [hzs] at HW2
        have HZS := Lib.hid hzs
        obtain ⟨x, hx⟩ : ∃ x, xs[i] = x := ⟨_, rfl⟩
        rw [hx] at q0 q1 HW2 hne hne2
        clear hys hzs hx
        obtain ⟨kx, fx⟩ := x
        simp only at q0 q1 HW2 hne hne2
        have HOW := Lib.hid (HI.out.alloc hszw (.cells #[.int .u64 (kx : Nat), .int .i64 (fx : Nat)] TI10))
        have HSRC := Lib.hid (IV.one wr TI10 ⟨kx, fx⟩)
        have hszA : w.heap.size ≤ (wr.alloc (.cells #[.int .u64 (kx : Nat), .int .i64 (fx : Nat)] TI10)).heap.size := by simp; omega
        go_wp2_with (at_builtin; refine wpList_append_iv (e := TI10) rfl (.tmp 20) (.tmp 25) rfl w.heap.size (by kernel_rfl) (by kernel_rfl) v5 ys rfl HOW.out _ [⟨kx, fx⟩] rfl HSRC.out (by simp; omega) hszA ?_)
        intro v6 w6 hown6 _ _
        rw [HW2.out, ← HZS.out] at hown6
        have HN := Lib.hid hown6
        clear hown6 q0 q1 hg
        go_wp2
        go_roundg (gk - 1)
        case measure => omega
        case rel => exact ⟨i + 1, v6, by omega, rfl, by go_num, HN⟩
    · have hltI : ¬ (i : Int) < (xs.length : Int) := by omega
      obtain rfl : i = xs.length := by omega
      have hfin := HI.out
      rw [List.take_length] at hfin
      have HF := Lib.hid hfin
      clear hfin HI
      go_wp2
      go_ret
      exact ⟨_, rfl, HF.out⟩
set_option maxHeartbeats 4000000 in
theorem rusI_walk (h : IV w v xs) (hl : xs.length ≤ 100000000) (k : Nat) : Calls Try.prog 51 #[v, .int .u64 (k : Nat)] w (ToldI w TI10 (usI k xs)) := by
  have H := Lib.hid h
  obtain ⟨F, c, rfl, h1, h2, h3⟩ := h.mem
  clear h h3 h2 h1
  go_enter Try.func51, Try.ntmps51
  go_wp2_with fail
  go_loopg [5, 6] xs.length (fun gg s5 s6 wr => ∃ (i : Nat) (v5 : Value), i + gg = xs.length ∧ v5 = s5 ∧ s6 = .int .i64 (i : Nat) ∧ Hid (OwnI TI10 w.heap.size w wr v5 (usI k (xs.take i))))
  case atStart => exact ⟨0, _, by omega, rfl, rfl, Lib.hid (OwnI.nil (Below.refl _ _))⟩
  case round =>
    obtain ⟨i, v5, hi, rfl, rfl, HI⟩ := hrel
    by_cases hlt : i < xs.length
    · have hltI : (i : Int) < (xs.length : Int) := by omega
      obtain ⟨F', c', e, _, _, h3⟩ := (H.out.below HI.out.low).mem
      injection e with e1 e2 e3
      subst e1 e3
      obtain ⟨g, off, hF, hg, q0, q1⟩ := h3 i hlt
      subst hF
      have HW := Lib.hid (usI_take (k := k) hlt)
      have hszw := HI.out.low.size
      have hyl0 : (usI k (xs.take i)).length ≤ 100000000 := by rw [usI_len, List.length_take]; omega
      clear h3 e2
      by_cases he : xs[i].key = k
      · by_cases hf : xs[i].f < 3
        · have hfI : ((xs[i].f : Nat) : Int) < 3 := by omega
          have HW2 : Hid (usI k (xs.take i) ++ [⟨xs[i].key, xs[i].f + 1⟩] = usI k (xs.take (i + 1))) := Lib.hid (by rw [HW.out, if_pos ⟨he, hf⟩])
          clear HW
          obtain ⟨ys, hys⟩ : ∃ ys, usI k (xs.take i) = ys := ⟨_, rfl⟩
          obtain ⟨zs, hzs⟩ : ∃ zs, usI k (xs.take (i + 1)) = zs := ⟨_, rfl⟩
          rw [hys] at HI HW2 hyl0
          rw [hzs] at HW2
          have HZS := Lib.hid hzs
          obtain ⟨x, hx⟩ : ∃ x, xs[i] = x := ⟨_, rfl⟩
          rw [hx] at q0 q1 HW2 hfI he hf
          clear hys hzs hx
          obtain ⟨kx, fx⟩ := x
          simp only at q0 q1 HW2 hfI he hf
          subst he
          obtain ⟨fy, hfy⟩ : ∃ fy, fx + 1 = fy := ⟨_, rfl⟩
          rw [hfy] at HW2
          have hfyI : (fx : Int) + 1 = (fy : Int) := by omega
          clear hfy
          have hti := HI.out.alloc hszw (.cells #[.int .u64 (kx : Nat), .int .i64 (fy : Nat)] TI10)
          have hszt : w.heap.size ≤ (wr.alloc (.cells #[.int .u64 (kx : Nat), .int .i64 (fy : Nat)] TI10)).heap.size := by simp; omega
          have HOW := Lib.hid (hti.alloc hszt (.cells #[.int .u64 (kx : Nat), .int .i64 (fy : Nat)] TI10))
          have hsrc := IV.one (wr.alloc (.cells #[.int .u64 (kx : Nat), .int .i64 (fy : Nat)] TI10)) TI10 ⟨kx, fy⟩
          rw [World.size_alloc] at hsrc
          have HSRC := Lib.hid hsrc
          have hszA : w.heap.size ≤ ((wr.alloc (.cells #[.int .u64 (kx : Nat), .int .i64 (fy : Nat)] TI10)).alloc (.cells #[.int .u64 (kx : Nat), .int .i64 (fy : Nat)] TI10)).heap.size := by simp; omega
          clear hti hsrc
          go_wp2_with (at_builtin; refine wpList_append_iv (e := TI10) rfl (.tmp 31) (.tmp 33) rfl w.heap.size (by kernel_rfl) (by kernel_rfl) v5 ys rfl HOW.out _ [⟨kx, fy⟩] rfl HSRC.out (by simp; omega) hszA ?_)
          intro v6 w6 hown6 _ _
          rw [HW2.out, ← HZS.out] at hown6
          have HN := Lib.hid hown6
          clear hown6 q0 q1 hg
          go_wp2
          go_roundg (gk - 1)
          case measure => omega
          case rel => exact ⟨i + 1, v6, by omega, rfl, by go_num, HN⟩
        · have hfI : ¬ ((xs[i].f : Nat) : Int) < 3 := by omega
          have HW2 : Hid (usI k (xs.take i) ++ [xs[i]] = usI k (xs.take (i + 1))) := Lib.hid (by rw [HW.out, if_neg (fun h => hf h.2)])
          clear HW
          obtain ⟨ys, hys⟩ : ∃ ys, usI k (xs.take i) = ys := ⟨_, rfl⟩
          obtain ⟨zs, hzs⟩ : ∃ zs, usI k (xs.take (i + 1)) = zs := ⟨_, rfl⟩
          rw [hys] at HI HW2 hyl0
          rw [hzs] at HW2
          have HZS := Lib.hid hzs
          obtain ⟨x, hx⟩ : ∃ x, xs[i] = x := ⟨_, rfl⟩
          rw [hx] at q0 q1 HW2 hfI he hf
          clear hys hzs hx
          obtain ⟨kx, fx⟩ := x
          simp only at q0 q1 HW2 hfI he hf
          subst he
          have hti := HI.out.alloc hszw (.cells #[.int .u64 (kx : Nat), .int .i64 (fx : Nat)] TI10)
          have hszt : w.heap.size ≤ (wr.alloc (.cells #[.int .u64 (kx : Nat), .int .i64 (fx : Nat)] TI10)).heap.size := by simp; omega
          have HOW := Lib.hid (hti.alloc hszt (.cells #[.int .u64 (kx : Nat), .int .i64 (fx : Nat)] TI10))
          have hsrc := IV.one (wr.alloc (.cells #[.int .u64 (kx : Nat), .int .i64 (fx : Nat)] TI10)) TI10 ⟨kx, fx⟩
          rw [World.size_alloc] at hsrc
          have HSRC := Lib.hid hsrc
          have hszA : w.heap.size ≤ ((wr.alloc (.cells #[.int .u64 (kx : Nat), .int .i64 (fx : Nat)] TI10)).alloc (.cells #[.int .u64 (kx : Nat), .int .i64 (fx : Nat)] TI10)).heap.size := by simp; omega
          clear hti hsrc
          go_wp2_with (at_builtin; refine wpList_append_iv (e := TI10) rfl (.tmp 31) (.tmp 33) rfl w.heap.size (by kernel_rfl) (by kernel_rfl) v5 ys rfl HOW.out _ [⟨kx, fx⟩] rfl HSRC.out (by simp; omega) hszA ?_)
          intro v6 w6 hown6 _ _
          rw [HW2.out, ← HZS.out] at hown6
          have HN := Lib.hid hown6
          clear hown6 q0 q1 hg
          go_wp2
          go_roundg (gk - 1)
          case measure => omega
          case rel => exact ⟨i + 1, v6, by omega, rfl, by go_num, HN⟩
      · have hne : (((xs[i].key : Nat) : Int) == (k : Int)) = false := by
          rw [beq_eq_false_iff_ne]
          omega
        have HW2 : Hid (usI k (xs.take i) ++ [xs[i]] = usI k (xs.take (i + 1))) := Lib.hid (by rw [HW.out, if_neg (fun h => he h.1)])
        clear HW
        obtain ⟨ys, hys⟩ : ∃ ys, usI k (xs.take i) = ys := ⟨_, rfl⟩
        obtain ⟨zs, hzs⟩ : ∃ zs, usI k (xs.take (i + 1)) = zs := ⟨_, rfl⟩
        rw [hys] at HI HW2 hyl0
        rw [hzs] at HW2
        have HZS := Lib.hid hzs
        obtain ⟨x, hx⟩ : ∃ x, xs[i] = x := ⟨_, rfl⟩
        rw [hx] at q0 q1 HW2 hne he
        clear hys hzs hx
        obtain ⟨kx, fx⟩ := x
        simp only at q0 q1 HW2 hne he
        have hti := HI.out.alloc hszw (.cells #[.int .u64 (kx : Nat), .int .i64 (fx : Nat)] TI10)
        have hszt : w.heap.size ≤ (wr.alloc (.cells #[.int .u64 (kx : Nat), .int .i64 (fx : Nat)] TI10)).heap.size := by simp; omega
        have HOW := Lib.hid (hti.alloc hszt (.cells #[.int .u64 (kx : Nat), .int .i64 (fx : Nat)] TI10))
        have hsrc := IV.one (wr.alloc (.cells #[.int .u64 (kx : Nat), .int .i64 (fx : Nat)] TI10)) TI10 ⟨kx, fx⟩
        rw [World.size_alloc] at hsrc
        have HSRC := Lib.hid hsrc
        have hszA : w.heap.size ≤ ((wr.alloc (.cells #[.int .u64 (kx : Nat), .int .i64 (fx : Nat)] TI10)).alloc (.cells #[.int .u64 (kx : Nat), .int .i64 (fx : Nat)] TI10)).heap.size := by simp; omega
        clear hti hsrc
        go_wp2_with (at_builtin; refine wpList_append_iv (e := TI10) rfl (.tmp 31) (.tmp 33) rfl w.heap.size (by kernel_rfl) (by kernel_rfl) v5 ys rfl HOW.out _ [⟨kx, fx⟩] rfl HSRC.out (by simp; omega) hszA ?_)
        intro v6 w6 hown6 _ _
        rw [HW2.out, ← HZS.out] at hown6
        have HN := Lib.hid hown6
        clear hown6 q0 q1 hg
        go_wp2
        go_roundg (gk - 1)
        case measure => omega
        case rel => exact ⟨i + 1, v6, by omega, rfl, by go_num, HN⟩
    · have hltI : ¬ (i : Int) < (xs.length : Int) := by omega
      obtain rfl : i = xs.length := by omega
      have hfin := HI.out
      rw [List.take_length] at hfin
      have HF := Lib.hid hfin
      clear hfin HI
      go_wp2
      go_ret
      exact ⟨_, rfl, HF.out⟩
end
end Go.Proofs.Ytlekhmpalcgbmaa
