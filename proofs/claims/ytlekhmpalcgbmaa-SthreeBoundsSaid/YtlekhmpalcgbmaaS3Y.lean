/- Three simple queues: the program's own ways through items. -/
import Derived.Test.YtlekhmpalcgbmaaS3O
import Derived.Test.YtlekhmpalcgbmaaS3V
import Derived.Test.YtlekhmpalcgbmaaPoC
import Derived.Test.YtlekhmpalcgbmaaSqP2
import Derived.IntWalk
namespace Go.Proofs.Ytlekhmpalcgbmaa
open Go Go.RowKit Go.Deep

abbrev QTI10 : TypeId := 58
def RetI (w : World) (xs : List It) (e : Ending) (w' : World) : Prop := ∃ v, e = .returned v ∧ OwnI QTI10 w.heap.size w w' v xs
theorem flatIt_take {α : Type} (F : It → List α) {xs : List It} {i : Nat} (h : i < xs.length) : (xs.take (i + 1)).flatMap F = (xs.take i).flatMap F ++ F xs[i] := by
  rw [← List.take_append_getElem h, List.flatMap_append, List.flatMap_singleton]
def useI (k : Nat) (t : It) : It := if t.key = k ∧ t.f < 3 then ⟨t.key, t.f + 1⟩ else t
theorem usI_flat (k : Nat) (xs : List It) : usI k xs = xs.flatMap (fun t => [useI k t]) := List.map_eq_flatMap
theorem woI_flat (k : Nat) : ∀ (xs : List It), woI k xs = xs.flatMap (fun t => if t.key = k then [] else [t])
  | [] => rfl
  | x :: xs => by
    have ih := woI_flat k xs
    unfold woI at ih ⊢
    rw [List.filter_cons, List.flatMap_cons, ih]
    by_cases h : x.key = k
    · simp [h]
    · simp [h]
theorem keysI_flat (xs : List It) : keysI xs = xs.flatMap (fun t => [t.key]) := List.map_eq_flatMap
/- Grow, of no row. -/
theorem growI_zero (w : World) : Calls Try.prog 68 #[.slice none 0 0, .int .i64 (0 : Nat)] w fun e w' => e = .returned (.slice none 0 0) ∧ w' = w := by
  go_enter Try.func68, Try.ntmps68
  go_wp2
  go_ret
  exact ⟨rfl, rfl⟩
set_option maxHeartbeats 2000000 in
set_option maxRecDepth 4000 in
theorem growI_new (n : Nat) (w : World) (hn0 : 0 < n) (hbig : n ≤ 100000000) :
    Calls Try.prog 68 #[.slice none 0 0, .int .i64 n] w fun e w' =>
      e = .returned (.slice (some ⟨w.heap.size, 0, none⟩) 0 (grownCap w n 0 QTI10)) ∧
      w' = w.drew.alloc (.cells (#[] ++ Builtin.zeroCells (Value.agg #[.int .u64 0, .int .i64 0]).cells n ++ Builtin.zeroCells (Value.agg #[.int .u64 0, .int .i64 0]).cells (grownCap w n 0 QTI10 - n)) QTI10) := by
  have hinfo : (Try.prog.info? QTI10).map (fun i => (i.zero, i.size, i.bytes)) = some (some (.agg #[.int .u64 0, .int .i64 0]), 2, 16) := by kernel_rfl
  obtain ⟨i0, hi0, hz0, hs0, hby⟩ := info_parts hinfo
  have ht : Try.prog.underlying 24 = some (.slice QTI10) := by kernel_rfl
  have htn : Try.prog.underlying 3 = some (.int .i64) := by kernel_rfl
  have hold : (Builtin.firstCells i0.size 0 (.slice none 0 0)).run Try.prog w.drew = .ok ([] : List Value).toArray w.drew := by
    rw [hs0]
    exact run_firstCells_none w.drew 2 0 0 0
  have hrz : ∀ ty, (Builtin.append_ #[24, 3] ty #[.slice none 0 0, .int .i64 ((n : Int) - 0)]).run Try.prog w =
      .ok (.slice (some ⟨w.heap.size, 0, none⟩) n (grownCap w n 0 QTI10)) (w.drew.alloc (.cells (#[] ++ Builtin.zeroCells (Value.agg #[.int .u64 0, .int .i64 0]).cells n ++ Builtin.zeroCells (Value.agg #[.int .u64 0, .int .i64 0]).cells (grownCap w n 0 QTI10 - n)) QTI10)) := fun ty => by
    have h := Lib.run_append_grow_zeros w 24 3 ty QTI10 i0 (.agg #[.int .u64 0, .int .i64 0]) .i64 .i64 ht htn hi0 hz0 none 0 0 [] hold n (by omega) (by omega) (by omega) (by omega)
      (by rw [hby]; omega) (by rw [Nat.zero_add, hby]; exact growslice_fits (by omega) (by omega))
    rw [Nat.zero_add] at h
    rw [show (n : Int) - 0 = ((n : Nat) : Int) by omega]
    exact h
  have hGn : n ≤ grownCap w n 0 QTI10 := grownCap_ge w _ _ _
  have hG63 : grownCap w n 0 QTI10 ≤ maxLen := grownCap_le_maxLen w n 0 QTI10 (by unfold maxLen; omega)
  unfold maxLen at hG63
  have h1 : ¬ ((n : Int) < 0) := by omega
  have h2 : wrap64 ((0 : Int) - 0) = (0 : Int) - 0 := by unfold wrap64; omega
  have h3 : wrap64 ((n : Int) - 0) = (n : Int) - 0 := by unfold wrap64; omega
  have h4 : (n : Int) > 0 := by omega
  generalize grownCap w n 0 QTI10 = G at hrz hGn hG63 ⊢
  clear hold hi0 hz0 hs0 hby hinfo i0
  go_enter Try.func68, Try.ntmps68
  go_wp2_with (at_builtin; refine Lib.wpList_append_run _ rfl _ _ _ _ rfl _ _ rfl rfl _ _ (hrz _) ?_)
  all_goals (go_ret; exact ⟨rfl, rfl⟩)
theorem growI_walk (w : World) (n : Nat) (hn : n ≤ 100000000) : Calls Try.prog 68 #[.slice none 0 0, .int .i64 n] w (RetI w []) := by
  rcases Nat.eq_zero_or_pos n with rfl | hp
  · refine (growI_zero w).mono ?_
    rintro e w' ⟨rfl, rfl⟩
    exact ⟨_, rfl, OwnI.nil (Below.refl _ _)⟩
  · refine (growI_new n w hp hn).mono ?_
    rintro e w' ⟨rfl, rfl⟩
    have hG := grownCap_ge w n 0 QTI10
    have hG2 := grownCap_le_maxLen w n 0 QTI10 (by unfold maxLen; omega)
    refine ⟨_, rfl, ⟨(below_drewn (Below.refl _ _) 1).alloc (by simp) _, ⟨by simp [itL], .inr ⟨w.heap.size, _, _, rfl, Nat.le_refl _, heap_alloc_new w.drew _, Nat.zero_le _, hG2, ?_, by simp [itL]⟩⟩⟩⟩
    simp [size_zeroCells, Value.cells]
    omega
section
variable {w : World} {u : Value} {xs : List It} {ks : List Nat}
theorem copyI_walk (h : IV w u xs) (hl : xs.length ≤ 100000000) : Calls Try.prog 58 #[u] w (RetI w xs) := by
  have H := Lib.hid h
  obtain ⟨F, n, c, rfl⟩ := h.form
  clear h
  go_enter Try.func58, Try.ntmps58
  go_wp2_with (at_builtin; refine wpList_append_iv (e := QTI10) rfl _ (.tmp 3) rfl w.heap.size (by kernel_rfl) (by kernel_rfl) (.slice none 0 0) [] rfl (OwnI.nil (w0 := w) (Below.refl _ _)) _ xs rfl H.out (by simp; omega) (Nat.le_refl _) ?_)
  intro v6 w6 hown6 _ _
  have HO : Hid (OwnI QTI10 w.heap.size w w6 v6 xs) := Lib.hid hown6
  clear hown6
  go_wp2
  go_ret
  exact ⟨_, rfl, HO.out⟩
theorem copyK_walk (h : KV w u ks) (hl : ks.length ≤ 100000000) : Calls Try.prog 49 #[u] w (OwnK w ks) := by
  have H := Lib.hid h
  obtain ⟨F, n, c, rfl⟩ := h.form
  clear h
  go_enter Try.func49, Try.ntmps49
  go_wp2_with (at_builtin; refine wpList_append_kv rfl _ (.tmp 3) rfl w.heap.size (by kernel_rfl) (by kernel_rfl) (.slice none 0 0) [] rfl (KO.nil (w0 := w) (Below.refl _ _)) _ ks rfl H.out (by simp; omega) (Nat.le_refl _) ?_)
  intro v6 w6 hown6 _ _
  have HO : Hid (KO w.heap.size w w6 v6 ks) := Lib.hid hown6
  clear hown6
  go_wp2
  go_ret
  exact ⟨_, rfl, HO.out⟩
theorem frontI_walk (h : IV w u xs) (hl : xs.length ≤ 100000000) (k : Nat) : Calls Try.prog 46 #[u, .int .u64 (k : Nat)] w (RetI w (⟨k, 0⟩ :: xs)) := by
  have how : OwnI QTI10 w.heap.size w (w.alloc (.cells #[.int .u64 (k : Nat), .int .i64 0] QTI10)) (.slice (some ⟨w.heap.size, 0, none⟩) 1 1) [⟨k, 0⟩] := OwnI.one (e := QTI10) (Nat.le_refl w.heap.size) (Below.refl _ w) ⟨k, 0⟩
  have HOW := Lib.hid how
  have H := Lib.hid (h.below (low_one w (.cells #[.int .u64 (k : Nat), .int .i64 0] QTI10)))
  obtain ⟨F, n, c, rfl⟩ := h.form
  clear h how
  go_enter Try.func46, Try.ntmps46
  go_wp2_with (at_builtin; refine wpList_append_iv (e := QTI10) rfl (.tmp 7) (.tmp 8) rfl w.heap.size (by kernel_rfl) (by kernel_rfl) _ [⟨k, 0⟩] rfl HOW.out _ xs rfl H.out (by simp; omega) (by simp) ?_)
  intro v6 w6 hown6 _ _
  have HO : Hid (OwnI QTI10 w.heap.size w w6 v6 (⟨k, 0⟩ :: xs)) := Lib.hid hown6
  clear hown6
  go_wp2
  go_ret
  exact ⟨_, rfl, HO.out⟩
/- The closures: the key lies in the box kb. -/
set_option maxHeartbeats 1000000 in
theorem use_walk {kb k : Nat} (hk : w.cell? ⟨kb, 0, none⟩ = some (.int .u64 (k : Nat))) (hkb : kb < w.heap.size) (x : It) (hf : x.f ≤ 3) :
    Calls Try.prog 47 #[.agg #[.int .u64 (x.key : Nat), .int .i64 (x.f : Nat)], .pointer (some ⟨kb, 0, none⟩)] w fun e w' => e = .returned (.tuple #[.agg #[.int .u64 ((useI k x).key : Nat), .int .i64 ((useI k x).f : Nat)], .bool true]) ∧ Below w.heap.size w w' := by
  obtain ⟨kx, fx⟩ := x
  dsimp only at hf ⊢
  have hne : kb ≠ w.heap.size := by omega
  have hne2 : w.heap.size ≠ kb := by omega
  have hne3 : kb ≠ w.heap.size + 1 := by omega
  have HB := Lib.hid (low_two w)
  by_cases he : kx = k
  · subst he
    rcases (by omega : fx = 0 ∨ fx = 1 ∨ fx = 2 ∨ fx = 3) with rfl | rfl | rfl | rfl
    · have hU : useI kx ⟨kx, 0⟩ = ⟨kx, 1⟩ := by simp [useI]
      rw [hU]
      clear hU hf
      go_enter Try.func47, Try.ntmps47
      go_wp2
      exact bodyPost_ret (v := .tuple #[.agg #[.int .u64 (kx : Nat), .int .i64 1], .bool true]) (by simp [results, Try.results47, go_sem]) rfl ⟨rfl, HB.out _ _⟩
    · have hU : useI kx ⟨kx, 1⟩ = ⟨kx, 2⟩ := by simp [useI]
      rw [hU]
      clear hU hf
      go_enter Try.func47, Try.ntmps47
      go_wp2
      exact bodyPost_ret (v := .tuple #[.agg #[.int .u64 (kx : Nat), .int .i64 2], .bool true]) (by simp [results, Try.results47, go_sem]) rfl ⟨rfl, HB.out _ _⟩
    · have hU : useI kx ⟨kx, 2⟩ = ⟨kx, 3⟩ := by simp [useI]
      rw [hU]
      clear hU hf
      go_enter Try.func47, Try.ntmps47
      go_wp2
      exact bodyPost_ret (v := .tuple #[.agg #[.int .u64 (kx : Nat), .int .i64 3], .bool true]) (by simp [results, Try.results47, go_sem]) rfl ⟨rfl, HB.out _ _⟩
    · have hU : useI kx ⟨kx, 3⟩ = ⟨kx, 3⟩ := by simp [useI]
      rw [hU]
      clear hU hf
      go_enter Try.func47, Try.ntmps47
      go_wp2
      exact bodyPost_ret (v := .tuple #[.agg #[.int .u64 (kx : Nat), .int .i64 3], .bool true]) (by simp [results, Try.results47, go_sem]) rfl ⟨rfl, HB.out _ _⟩
  · have hU : useI k ⟨kx, fx⟩ = ⟨kx, fx⟩ := by unfold useI; rw [if_neg (fun h => he h.1)]
    rw [hU]
    have hne4 : ((kx : Int) == (k : Int)) = false := by rw [beq_eq_false_iff_ne]; omega
    clear hU he hf
    go_enter Try.func47, Try.ntmps47
    go_wp2
    exact bodyPost_ret (v := .tuple #[.agg #[.int .u64 (kx : Nat), .int .i64 (fx : Nat)], .bool true]) (by simp [results, Try.results47, go_sem]) rfl ⟨rfl, HB.out _ _⟩
set_option maxHeartbeats 1000000 in
theorem other_walk {kb k : Nat} (hk : w.cell? ⟨kb, 0, none⟩ = some (.int .u64 (k : Nat))) (hkb : kb < w.heap.size) (x : It) :
    Calls Try.prog 50 #[.agg #[.int .u64 (x.key : Nat), .int .i64 (x.f : Nat)], .pointer (some ⟨kb, 0, none⟩)] w fun e w' => e = .returned (.tuple #[.agg #[.int .u64 (x.key : Nat), .int .i64 (x.f : Nat)], .bool (!decide (x.key = k))]) ∧ Below w.heap.size w w' := by
  obtain ⟨kx, fx⟩ := x
  dsimp only
  have hne : kb ≠ w.heap.size := by omega
  have hne2 : w.heap.size ≠ kb := by omega
  have hne3 : kb ≠ w.heap.size + 1 := by omega
  have HB := Lib.hid (low_two w)
  by_cases he : kx = k
  · subst he
    rw [decide_eq_true rfl]
    have hne4 : ((kx : Int) != (kx : Int)) = false := by simp
    go_enter Try.func50, Try.ntmps50
    go_wp2_with fail
    go_region
    go_wp2
    exact bodyPost_ret (v := .tuple #[.agg #[.int .u64 (kx : Nat), .int .i64 (fx : Nat)], .bool false]) (by simp [results, Try.results50, go_sem]) rfl ⟨rfl, below_drewn (HB.out _ _) 1⟩
  · rw [decide_eq_false he]
    have hne4 : ((kx : Int) != (k : Int)) = true := by rw [bne_iff_ne]; omega
    clear he
    go_enter Try.func50, Try.ntmps50
    go_wp2_with fail
    go_region
    go_wp2
    exact bodyPost_ret (v := .tuple #[.agg #[.int .u64 (kx : Nat), .int .i64 (fx : Nat)], .bool true]) (by simp [results, Try.results50, go_sem]) rfl ⟨rfl, below_drewn (HB.out _ _) 1⟩
theorem is_walk {kb k : Nat} (hk : w.cell? ⟨kb, 0, none⟩ = some (.int .u64 (k : Nat))) (hkb : kb < w.heap.size) (x : It) :
    Calls Try.prog 40 #[.agg #[.int .u64 (x.key : Nat), .int .i64 (x.f : Nat)], .pointer (some ⟨kb, 0, none⟩)] w fun e w' => e = .returned (.bool (decide (x.key = k))) ∧ Below w.heap.size w w' := by
  obtain ⟨kx, fx⟩ := x
  dsimp only
  have hne : kb ≠ w.heap.size := by omega
  have hne2 : w.heap.size ≠ kb := by omega
  have HB := Lib.hid (low_one w)
  by_cases he : kx = k
  · subst he
    rw [decide_eq_true rfl]
    go_enter Try.func40, Try.ntmps40
    go_wp2
    go_ret
    exact ⟨by simp, HB.out _⟩
  · rw [decide_eq_false he]
    have hne4 : ((kx : Int) == (k : Int)) = false := by rw [beq_eq_false_iff_ne]; omega
    clear he
    go_enter Try.func40, Try.ntmps40
    go_wp2
    go_ret
    exact ⟨by first | rfl | simp [hne4], HB.out _⟩
theorem key_walk (x : It) :
    Calls Try.prog 38 #[.agg #[.int .u64 (x.key : Nat), .int .i64 (x.f : Nat)]] w fun e w' => e = .returned (.tuple #[.int .u64 (x.key : Nat), .bool true]) ∧ Below w.heap.size w w' := by
  obtain ⟨kx, fx⟩ := x
  dsimp only
  have HB := Lib.hid (low_one w)
  go_enter Try.func38, Try.ntmps38
  go_wp2
  exact bodyPost_ret (v := .tuple #[.int .u64 (kx : Nat), .bool true]) (by simp [results, Try.results38, go_sem]) rfl ⟨rfl, HB.out _⟩
end
end Go.Proofs.Ytlekhmpalcgbmaa
