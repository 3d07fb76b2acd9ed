/- Inter-reference recency, the program's own: rows of items. -/
import Derived.Test.YtjfhapobbglbpaaLiO
import Derived.Test.YtjfhapobbglbpaaLiJ
import Derived.Test.YtjfhapobbglbpaaPoC
import Derived.Test.YtjfhapobbglbpaaSqP2
import Derived.IntWalk
namespace Go.Proofs.Ytjfhapobbglbpaa
open Go Go.RowKit Go.Deep

abbrev PTI12 : TypeId := 58
def RetP (w : World) (xs : List It) (e : Ending) (w' : World) : Prop := ∃ v, e = .returned v ∧ OwnI PTI12 w.heap.size w w' v xs
/- Grow, of no row. -/
theorem growI_zero (w : World) : Calls Try.prog 79 #[.slice none 0 0, .int .i64 (0 : Nat)] w fun e w' => e = .returned (.slice none 0 0) ∧ w' = w := by
  go_enter Try.func79, Try.ntmps79
  go_wp2
  go_ret
  exact ⟨rfl, rfl⟩
set_option maxHeartbeats 2000000 in
set_option maxRecDepth 4000 in
theorem growI_new (n : Nat) (w : World) (hn0 : 0 < n) (hbig : n ≤ 100000000) :
    Calls Try.prog 79 #[.slice none 0 0, .int .i64 n] w fun e w' =>
      e = .returned (.slice (some ⟨w.heap.size, 0, none⟩) 0 (grownCap w n 0 PTI12)) ∧
      w' = w.drew.alloc (.cells (#[] ++ Builtin.zeroCells (Value.agg #[.int .u64 0, .int .i64 0]).cells n ++ Builtin.zeroCells (Value.agg #[.int .u64 0, .int .i64 0]).cells (grownCap w n 0 PTI12 - n)) PTI12) := by
  have hinfo : (Try.prog.info? PTI12).map (fun i => (i.zero, i.size, i.bytes)) = some (some (.agg #[.int .u64 0, .int .i64 0]), 2, 16) := by kernel_rfl
  obtain ⟨i0, hi0, hz0, hs0, hby⟩ := info_parts hinfo
  have ht : Try.prog.underlying 24 = some (.slice PTI12) := by kernel_rfl
  have htn : Try.prog.underlying 3 = some (.int .i64) := by kernel_rfl
  have hold : (Builtin.firstCells i0.size 0 (.slice none 0 0)).run Try.prog w.drew = .ok ([] : List Value).toArray w.drew := by
    rw [hs0]
    exact run_firstCells_none w.drew 2 0 0 0
  have hrz : ∀ ty, (Builtin.append_ #[24, 3] ty #[.slice none 0 0, .int .i64 ((n : Int) - 0)]).run Try.prog w =
      .ok (.slice (some ⟨w.heap.size, 0, none⟩) n (grownCap w n 0 PTI12)) (w.drew.alloc (.cells (#[] ++ Builtin.zeroCells (Value.agg #[.int .u64 0, .int .i64 0]).cells n ++ Builtin.zeroCells (Value.agg #[.int .u64 0, .int .i64 0]).cells (grownCap w n 0 PTI12 - n)) PTI12)) := fun ty => by
    have h := Lib.run_append_grow_zeros w 24 3 ty PTI12 i0 (.agg #[.int .u64 0, .int .i64 0]) .i64 .i64 ht htn hi0 hz0 none 0 0 [] hold n (by omega) (by omega) (by omega) (by omega)
      (by rw [hby]; omega) (by rw [Nat.zero_add, hby]; exact growslice_fits (by omega) (by omega))
    rw [Nat.zero_add] at h
    rw [show (n : Int) - 0 = ((n : Nat) : Int) by omega]
    exact h
  have hGn : n ≤ grownCap w n 0 PTI12 := grownCap_ge w _ _ _
  have hG63 : grownCap w n 0 PTI12 ≤ maxLen := grownCap_le_maxLen w n 0 PTI12 (by unfold maxLen; omega)
  unfold maxLen at hG63
  have h1 : ¬ ((n : Int) < 0) := by omega
  have h2 : wrap64 ((0 : Int) - 0) = (0 : Int) - 0 := by unfold wrap64; omega
  have h3 : wrap64 ((n : Int) - 0) = (n : Int) - 0 := by unfold wrap64; omega
  have h4 : (n : Int) > 0 := by omega
  generalize grownCap w n 0 PTI12 = G at hrz hGn hG63 ⊢
  clear hold hi0 hz0 hs0 hby hinfo i0
  go_enter Try.func79, Try.ntmps79
  go_wp2_with (at_builtin; refine Lib.wpList_append_run _ rfl _ _ _ _ rfl _ _ rfl rfl _ _ (hrz _) ?_)
  all_goals (go_ret; exact ⟨rfl, rfl⟩)
theorem growI_walk (w : World) (n : Nat) (hn : n ≤ 100000000) : Calls Try.prog 79 #[.slice none 0 0, .int .i64 n] w (RetP w []) := by
  rcases Nat.eq_zero_or_pos n with rfl | hp
  · refine (growI_zero w).mono ?_
    rintro e w' ⟨rfl, rfl⟩
    exact ⟨_, rfl, OwnI.nil (Below.refl _ _)⟩
  · refine (growI_new n w hp hn).mono ?_
    rintro e w' ⟨rfl, rfl⟩
    have hG := grownCap_ge w n 0 PTI12
    have hG2 := grownCap_le_maxLen w n 0 PTI12 (by unfold maxLen; omega)
    refine ⟨_, rfl, ⟨(below_drewn (Below.refl _ _) 1).alloc (by simp) _, ⟨by simp [itL], .inr ⟨w.heap.size, _, _, rfl, Nat.le_refl _, heap_alloc_new w.drew _, Nat.zero_le _, hG2, ?_, by simp [itL]⟩⟩⟩⟩
    simp [size_zeroCells, Value.cells]
    omega
section
variable {w : World} {u : Value} {xs : List It} {ks : List Nat}
theorem copyI_walk (h : IV w u xs) (hl : xs.length ≤ 100000000) : Calls Try.prog 62 #[u] w (RetP w xs) := by
  have H := Lib.hid h
  obtain ⟨F, n, c, rfl⟩ := h.form
  clear h
  go_enter Try.func62, Try.ntmps62
  go_wp2_with (at_builtin; refine wpList_append_iv (e := PTI12) rfl _ (.tmp 3) rfl w.heap.size (by kernel_rfl) (by kernel_rfl) (.slice none 0 0) [] rfl (OwnI.nil (w0 := w) (Below.refl _ _)) _ xs rfl H.out (by simp; omega) (Nat.le_refl _) ?_)
  intro v6 w6 hown6 _ _
  have HO : Hid (OwnI PTI12 w.heap.size w w6 v6 xs) := Lib.hid hown6
  clear hown6
  go_wp2
  go_ret
  exact ⟨_, rfl, HO.out⟩
theorem copyK_walk (h : KV w u ks) (hl : ks.length ≤ 100000000) : Calls Try.prog 63 #[u] w (OwnK w ks) := by
  have H := Lib.hid h
  obtain ⟨F, n, c, rfl⟩ := h.form
  clear h
  go_enter Try.func63, Try.ntmps63
  go_wp2_with (at_builtin; refine wpList_append_kv rfl _ (.tmp 3) rfl w.heap.size (by kernel_rfl) (by kernel_rfl) (.slice none 0 0) [] rfl (KO.nil (w0 := w) (Below.refl _ _)) _ ks rfl H.out (by simp; omega) (Nat.le_refl _) ?_)
  intro v6 w6 hown6 _ _
  have HO : Hid (KO w.heap.size w w6 v6 ks) := Lib.hid hown6
  clear hown6
  go_wp2
  go_ret
  exact ⟨_, rfl, HO.out⟩
end
/- All blocks of a type are as they were. -/
structure KeepT (T : TypeId) (w w' : World) : Prop where
  size : w.heap.size ≤ w'.heap.size
  same : ∀ (g : Nat) (cs : Array Value), w.heap[g]? = some (.cells cs T (0, 0)) → w'.heap[g]? = some (.cells cs T (0, 0))
theorem KeepT.of_below {T : TypeId} {w w' : World} (h : Below w.heap.size w w') : KeepT T w w' := ⟨h.size, fun g _ hg => (h.block g (Array.getElem?_eq_some_iff.1 hg).1).trans hg⟩
theorem KeepT.own {T : TypeId} {w w' : World} {B size n : Nat} {v : Value} {xs : List Value} (h : KeepT T w w') (ho : w.ownsRow B T size v n xs) : w'.ownsRow B T size v n xs := by
  refine ⟨ho.1, ho.2.imp id ?_⟩
  rintro ⟨g, cap, cur, e1, e2, e3, e4⟩
  exact ⟨g, cap, cur, e1, e2, h.same g cur e3, e4⟩
/- What a way through items leaves, item by item: g tells what the i-th becomes, and whether it stays. -/
def res (g : Nat → It × Bool) : Nat → List It
  | 0 => []
  | i + 1 => res g i ++ (if (g i).2 then [(g i).1] else [])
theorem res_len (g : Nat → It × Bool) : ∀ i, (res g i).length ≤ i
  | 0 => Nat.le_refl _
  | i + 1 => by
    have := res_len g i
    rw [res, List.length_append]
    split <;> simp <;> omega
section
variable {w : World} {u : Value} {xs : List It}
/- A function's steps on items: what holds, step by step (Inv), stays where only new memory, and the way's own row, change. -/
structure ItSteps (w : World) (u : Value) (xs : List It) (fn : Nat) (caps : Array Value) (g : Nat → It × Bool) (Inv : Nat → World → Prop) : Prop where
  size : ∀ i W, Inv i W → w.heap.size ≤ W.heap.size
  src : ∀ i W, Inv i W → IV W u xs
  stay : ∀ i W W', Inv i W → Below w.heap.size W W' → Kt PTI12 W W' → Inv i W'
  ent : ∀ (args : Array Value) (W : World), (callFunc fn args).run Try.prog W = .ok (.enter fn args) W
  step : ∀ i (hi : i < xs.length) W, Inv i W → Calls Try.prog fn (#[.agg #[.int .u64 (xs[i].key : Nat), .int .i64 (xs[i].f : Nat)]] ++ caps) W fun e W' => e = .returned (.tuple #[.agg #[.int .u64 ((g i).1.key : Nat), .int .i64 ((g i).1.f : Nat)], .bool (g i).2]) ∧ Inv (i + 1) W' ∧ KeepT PTI12 W W'
theorem kt_alloc (e : TypeId) (w : World) (o : Obj) : Kt e w (w.alloc o) := fun g cs t m h _ => by
  rw [Below.heap_alloc w o g (Array.getElem?_eq_some_iff.1 h).1]
  exact h
set_option maxHeartbeats 2000000 in
theorem changed_walk {fn : Nat} {caps : Array Value} {g : Nat → It × Bool} {Inv : Nat → World → Prop} (hS : ItSteps w u xs fn caps g Inv) (hl : xs.length ≤ 10000000) (h0 : Inv 0 w) : Calls Try.prog 67 #[u, .func (.func fn) #[] caps] w fun e w' => ∃ v, e = .returned v ∧ w'.ownsRow w.heap.size PTI12 2 v (res g xs.length).length (itL (res g xs.length)) ∧ Inv xs.length w' := by
  obtain ⟨F, c, rfl, hcap, -⟩ := (hS.src 0 w h0).mem
  have HS := Lib.hid hS
  have H0 := Lib.hid h0
  obtain ⟨n, hn⟩ : ∃ n, xs.length = n := ⟨_, rfl⟩
  rw [hn] at hl HS ⊢
  have HN := Lib.hid hn
  have HG := Lib.hid (growI_walk w n (by omega))
  clear hS h0 hn hcap
  have hnI : (n : Int) ≤ 10000000 := by omega
  go_enter Try.func67, Try.ntmps67
  go_wp2_with fail
  refine HG.out.mono ?_
  rintro e w1 ⟨v1, rfl, hk1⟩
  have H1 : Hid (w1.ownsRow w.heap.size PTI12 2 v1 (res g 0).length (itL (res g 0)) ∧ Inv 0 w1) := Lib.hid ⟨hk1.own, HS.out.stay 0 w w1 H0.out hk1.low (fun g cs t m hg _ => (hk1.low.block g (Array.getElem?_eq_some_iff.1 hg).1).trans hg)⟩
  clear hk1 HG H0
  go_wp2_with fail
  go_loopg [5, 15] n (fun gg s5 s15 wr => ∃ (i : Nat) (v0 : Value), i + gg = n ∧ v0 = s5 ∧ s15 = .int .i64 (i : Nat) ∧ Hid (wr.ownsRow w.heap.size PTI12 2 v0 (res g i).length (itL (res g i)) ∧ Inv i wr))
  case atStart => exact ⟨0, _, by omega, rfl, rfl, H1⟩
  case round =>
    obtain ⟨i, v5, hi, rfl, rfl, HI⟩ := hrel
    by_cases hlt : i < n
    · have hltI : (i : Int) < (n : Int) := by omega
      obtain ⟨F', c', e, _, _, h3⟩ := (HS.out.src i wr HI.out.2).mem
      injection e with e1 e2 e3
      subst e1 e3
      have hix : i < xs.length := by have := HN.out; omega
      obtain ⟨gb, off, hF, hg, q0, q1⟩ := h3 i hix
      subst hF
      obtain ⟨x, hx⟩ : ∃ x, xs[i] = x := ⟨_, rfl⟩
      rw [hx] at q0 q1
      obtain ⟨kx, fx⟩ := x
      dsimp only at q0 q1
      have hB := HS.out.size i wr HI.out.2
      have hi1 := HS.out.stay i wr _ HI.out.2 ((Below.refl _ _).alloc hB (.cells #[.int .u64 (kx : Nat), .int .i64 (fx : Nat)] PTI12)) (kt_alloc _ _ _)
      have hst := HS.out.step i hix _ hi1
      rw [hx] at hst
      dsimp only at hst
      have KX := Lib.hid hst
      have HO1 := Lib.hid (HI.out.1.alloc (.cells #[.int .u64 (kx : Nat), .int .i64 (fx : Nat)] PTI12))
      clear h3 e2 hi1 hst hx HI hix
      go_wp2_with fail
      rw [HS.out.ent, Oper.upon_enter]
      refine KX.out.mono ?_
      rintro e w2 ⟨rfl, hi2, hkt⟩
      have hB2 := HS.out.size _ _ hi2
      have HO2 := Lib.hid (hkt.own HO1.out)
      have HI2 := Lib.hid hi2
      clear hi2 hkt KX HO1 q0 q1 hg hB
      obtain ⟨y, hy⟩ : ∃ y, g i = y := ⟨_, rfl⟩
      have HY := Lib.hid hy
      rw [hy]
      clear hy
      obtain ⟨⟨ky, fy⟩, by_⟩ := y
      dsimp only
      have HLN : Hid ((res g i).length ≤ 10000000) := Lib.hid (by have := res_len g i; omega)
      have hi3 := HS.out.stay _ _ _ HI2.out ((Below.refl _ _).alloc hB2 (.cells #[.int .u64 (ky : Nat), .int .i64 (fy : Nat)] PTI12)) (kt_alloc _ _ _)
      cases by_
      · have HF : Hid ((w2.alloc (.cells #[.int .u64 (ky : Nat), .int .i64 (fy : Nat)] PTI12)).ownsRow w.heap.size PTI12 2 v5 (res g (i + 1)).length (itL (res g (i + 1))) ∧ Inv (i + 1) (w2.alloc (.cells #[.int .u64 (ky : Nat), .int .i64 (fy : Nat)] PTI12))) := Lib.hid ⟨by
          rw [res, HY.out]
          simp only [Bool.false_eq_true, if_false, List.append_nil]
          exact HO2.out.alloc _, hi3⟩
        clear HO2 HI2 hi3
        go_wp2
        go_roundg (gk - 1)
        case measure => omega
        case rel => exact ⟨i + 1, v5, by omega, rfl, by go_num, HF⟩
      · have hB3 := HS.out.size _ _ hi3
        have hi4 := HS.out.stay _ _ _ hi3 ((Below.refl _ _).alloc hB3 (.cells #[.int .u64 (ky : Nat), .int .i64 (fy : Nat)] PTI12)) (kt_alloc _ _ _)
        have HI4 := Lib.hid hi4
        have HOW : Hid (OwnI PTI12 w.heap.size ((w2.alloc (.cells #[.int .u64 (ky : Nat), .int .i64 (fy : Nat)] PTI12)).alloc (.cells #[.int .u64 (ky : Nat), .int .i64 (fy : Nat)] PTI12)) ((w2.alloc (.cells #[.int .u64 (ky : Nat), .int .i64 (fy : Nat)] PTI12)).alloc (.cells #[.int .u64 (ky : Nat), .int .i64 (fy : Nat)] PTI12)) v5 (res g i)) := Lib.hid ⟨Below.refl _ _, (HO2.out.alloc _).alloc _⟩
        have HSRC := Lib.hid (IV.one (w2.alloc (.cells #[.int .u64 (ky : Nat), .int .i64 (fy : Nat)] PTI12)) PTI12 ⟨ky, fy⟩)
        have hszA := HS.out.size _ _ hi4
        clear HO2 HI2 hi3 hi4 hB3
        go_wp2_with (at_builtin; refine wpList_append_iv (e := PTI12) rfl (.tmp 26) (.tmp 28) rfl w.heap.size (by kernel_rfl) (by kernel_rfl) v5 (res g i) rfl HOW.out _ [⟨ky, fy⟩] rfl (by first | exact HSRC.out | (have h := HSRC.out; simp only [World.size_alloc] at h; exact h)) (by have := HLN.out; simp; omega) hszA ?_)
        intro v6 w6 hown6 _ hkt6
        have HF : Hid (w6.ownsRow w.heap.size PTI12 2 v6 (res g (i + 1)).length (itL (res g (i + 1))) ∧ Inv (i + 1) w6) := Lib.hid ⟨by
          rw [res, HY.out]
          simp only [if_true]
          exact hown6.own, HS.out.stay _ _ _ HI4.out hown6.low hkt6⟩
        clear hown6 hkt6 HOW HSRC hszA HI4
        go_wp2
        go_roundg (gk - 1)
        case measure => omega
        case rel => exact ⟨i + 1, v6, by omega, rfl, by go_num, HF⟩
    · have hltI : ¬ (i : Int) < (n : Int) := by omega
      obtain rfl : i = n := by omega
      have HF := Lib.hid HI.out
      clear HI
      go_wp2
      go_ret
      exact ⟨_, rfl, HF.out⟩
end
end Go.Proofs.Ytjfhapobbglbpaa
