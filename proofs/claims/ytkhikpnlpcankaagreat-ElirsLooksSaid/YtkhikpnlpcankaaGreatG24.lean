/- Words and walks: LiY LiC LiC2. -/
import Derived.Test.YtkhikpnlpcankaaGreatG16
import Derived.Test.YtkhikpnlpcankaaGreatG21
import Derived.Test.YtkhikpnlpcankaaGreatG23
import Derived.IntWalk
import Derived.Deep.RegionLaw
namespace Go.Proofs.YtkhikpnlpcankaaGreat
open Go Go.RowKit Go.Deep
set_option maxRecDepth 8000
abbrev PTI12 : TypeId := 74
def RetP (w : World) (xs : List It) (e : Ending) (w' : World) : Prop := ∃ v, e = .returned v ∧ OwnI PTI12 w.heap.size w w' v xs
theorem growI12_zero (w : World) : Calls Tryz.prog 121 #[.slice none 0 0, .int .i64 (0 : Nat)] w fun e w' => e = .returned (.slice none 0 0) ∧ w' = w := by
  go_enter Tryz.func121, Tryz.ntmps121
  go_wp2
  go_ret
  exact ⟨rfl, rfl⟩
set_option maxHeartbeats 2000000 in
set_option maxRecDepth 8000 in
theorem growI12_new (n : Nat) (w : World) (hn0 : 0 < n) (hbig : n ≤ 100000000) :
    Calls Tryz.prog 121 #[.slice none 0 0, .int .i64 n] w fun e w' =>
      e = .returned (.slice (some ⟨w.heap.size, 0, none⟩) 0 (grownCap w n 0 PTI12)) ∧
      w' = w.drew.alloc (.cells (#[] ++ Builtin.zeroCells (Value.agg #[.int .u64 0, .int .i64 0]).cells n ++ Builtin.zeroCells (Value.agg #[.int .u64 0, .int .i64 0]).cells (grownCap w n 0 PTI12 - n)) PTI12) := by
  have hinfo : (Tryz.prog.info? PTI12).map (fun i => (i.zero, i.size, i.bytes)) = some (some (.agg #[.int .u64 0, .int .i64 0]), 2, 16) := by kernel_rfl
  obtain ⟨i0, hi0, hz0, hs0, hby⟩ := info_parts hinfo
  have ht : Tryz.prog.underlying 40 = some (.slice PTI12) := by kernel_rfl
  have htn : Tryz.prog.underlying 3 = some (.int .i64) := by kernel_rfl
  have hold : (Builtin.firstCells i0.size 0 (.slice none 0 0)).run Tryz.prog w.drew = .ok ([] : List Value).toArray w.drew := by
    rw [hs0]
    exact run_firstCells_none w.drew 2 0 0 0
  have hrz : ∀ ty, (Builtin.append_ #[40, 3] ty #[.slice none 0 0, .int .i64 ((n : Int) - 0)]).run Tryz.prog w =
      .ok (.slice (some ⟨w.heap.size, 0, none⟩) n (grownCap w n 0 PTI12)) (w.drew.alloc (.cells (#[] ++ Builtin.zeroCells (Value.agg #[.int .u64 0, .int .i64 0]).cells n ++ Builtin.zeroCells (Value.agg #[.int .u64 0, .int .i64 0]).cells (grownCap w n 0 PTI12 - n)) PTI12)) := fun ty => by
    have h := Lib.run_append_grow_zeros w 40 3 ty PTI12 i0 (.agg #[.int .u64 0, .int .i64 0]) .i64 .i64 ht htn hi0 hz0 none 0 0 [] hold n (by omega) (by omega) (by omega) (by omega)
      (by rw [hby]; omega) (by rw [Nat.zero_add, hby]; exact growslice_fits (by omega) (by omega))
    rw [Nat.zero_add] at h
    rw [show (n : Int) - 0 = ((n : Nat) : Int) by omega]
    exact h
  have hGn : n ≤ grownCap w n 0 PTI12 := grownCap_ge w _ _ _
  have hG63 : grownCap w n 0 PTI12 ≤ maxLen := grownCap_le_maxLen w n 0 PTI12 (by unfold maxLen; omega)
  unfold maxLen at hG63
  have h1 : ¬ ((n : Int) < 0) := by omega
  have h2 : wrap64 ((0 : Int) - 0) = (0 : Int) - 0 := by unfold wrap64; omega
  have h3 : wrap64 ((n : Int) - 0) = (n : Int) - 0 := by unfold wrap64; omega
  have h4 : (n : Int) > 0 := by omega
  generalize grownCap w n 0 PTI12 = G at hrz hGn hG63 ⊢
  clear hold hi0 hz0 hs0 hby hinfo i0
  go_enter Tryz.func121, Tryz.ntmps121
  go_wp2_with (at_builtin; refine Lib.wpList_append_run _ rfl _ _ _ _ rfl _ _ rfl rfl _ _ (hrz _) ?_)
  all_goals (go_ret; exact ⟨rfl, rfl⟩)
theorem growI12_walk (w : World) (n : Nat) (hn : n ≤ 100000000) : Calls Tryz.prog 121 #[.slice none 0 0, .int .i64 n] w (RetP w []) := by
  rcases Nat.eq_zero_or_pos n with rfl | hp
  · refine (growI12_zero w).mono ?_
    rintro e w' ⟨rfl, rfl⟩
    exact ⟨_, rfl, OwnI.nil (Below.refl _ _)⟩
  · refine (growI12_new n w hp hn).mono ?_
    rintro e w' ⟨rfl, rfl⟩
    have hG := grownCap_ge w n 0 PTI12
    have hG2 := grownCap_le_maxLen w n 0 PTI12 (by unfold maxLen; omega)
    refine ⟨_, rfl, ⟨(below_drewn (Below.refl _ _) 1).alloc (by simp) _, ⟨by simp [itL], .inr ⟨w.heap.size, _, _, rfl, Nat.le_refl _, heap_alloc_new w.drew _, Nat.zero_le _, hG2, ?_, by simp [itL]⟩⟩⟩⟩
    simp [size_zeroCells, Value.cells]
    omega
section
variable {w : World} {u : Value} {xs : List It} {ks : List Nat}
theorem copyI12_walk (h : IV w u xs) (hl : xs.length ≤ 100000000) : Calls Tryz.prog 95 #[u] w (RetP w xs) := by
  have H := Lib.hid h
  obtain ⟨F, n, c, rfl⟩ := h.form
  clear h
  go_enter Tryz.func95, Tryz.ntmps95
  go_wp2_with (at_builtin; refine wpList_append_iv (e := PTI12) rfl _ (.tmp 3) rfl w.heap.size (by kernel_rfl) (by kernel_rfl) (.slice none 0 0) [] rfl (OwnI.nil (w0 := w) (Below.refl _ _)) _ xs rfl H.out (by simp; omega) (Nat.le_refl _) ?_)
  intro v6 w6 hown6 _ _
  have HO : Hid (OwnI PTI12 w.heap.size w w6 v6 xs) := Lib.hid hown6
  clear hown6
  go_wp2
  go_ret
  exact ⟨_, rfl, HO.out⟩
theorem copyK12_walk (h : KV w u ks) (hl : ks.length ≤ 100000000) : Calls Tryz.prog 96 #[u] w (OwnK w ks) := by
  have H := Lib.hid h
  obtain ⟨F, n, c, rfl⟩ := h.form
  clear h
  go_enter Tryz.func96, Tryz.ntmps96
  go_wp2_with (at_builtin; refine wpList_append_kv rfl _ (.tmp 3) rfl w.heap.size (by kernel_rfl) (by kernel_rfl) (.slice none 0 0) [] rfl (KO.nil (w0 := w) (Below.refl _ _)) _ ks rfl H.out (by simp; omega) (Nat.le_refl _) ?_)
  intro v6 w6 hown6 _ _
  have HO : Hid (KO w.heap.size w w6 v6 ks) := Lib.hid hown6
  clear hown6
  go_wp2
  go_ret
  exact ⟨_, rfl, HO.out⟩
end
structure KeepT (T : TypeId) (w w' : World) : Prop where
  size : w.heap.size ≤ w'.heap.size
  same : ∀ (g : Nat) (cs : Array Value), w.heap[g]? = some (.cells cs T (0, 0)) → w'.heap[g]? = some (.cells cs T (0, 0))
theorem KeepT.of_below {T : TypeId} {w w' : World} (h : Below w.heap.size w w') : KeepT T w w' := ⟨h.size, fun g _ hg => (h.block g (Array.getElem?_eq_some_iff.1 hg).1).trans hg⟩
theorem KeepT.own {T : TypeId} {w w' : World} {B size n : Nat} {v : Value} {xs : List Value} (h : KeepT T w w') (ho : w.ownsRow B T size v n xs) : w'.ownsRow B T size v n xs := by
  refine ⟨ho.1, ho.2.imp id ?_⟩
  rintro ⟨g, cap, cur, e1, e2, e3, e4⟩
  exact ⟨g, cap, cur, e1, e2, h.same g cur e3, e4⟩
def res (g : Nat → It × Bool) : Nat → List It
  | 0 => []
  | i + 1 => res g i ++ (if (g i).2 then [(g i).1] else [])
theorem res_len (g : Nat → It × Bool) : ∀ i, (res g i).length ≤ i
  | 0 => Nat.le_refl _
  | i + 1 => by
    have := res_len g i
    rw [res, List.length_append]
    split <;> simp <;> omega
section
variable {w : World} {u : Value} {xs : List It}
structure ItSteps (w : World) (u : Value) (xs : List It) (fn : Nat) (caps : Array Value) (g : Nat → It × Bool) (Inv : Nat → World → Prop) : Prop where
  size : ∀ i W, Inv i W → w.heap.size ≤ W.heap.size
  src : ∀ i W, Inv i W → IV W u xs
  stay : ∀ i W W', Inv i W → Below w.heap.size W W' → Kt PTI12 W W' → Inv i W'
  ent : ∀ (args : Array Value) (W : World), (callFunc fn args).run Tryz.prog W = .ok (.enter fn args) W
  step : ∀ i (hi : i < xs.length) W, Inv i W → Calls Tryz.prog fn (#[.agg #[.int .u64 (xs[i].key : Nat), .int .i64 (xs[i].f : Nat)]] ++ caps) W fun e W' => e = .returned (.tuple #[.agg #[.int .u64 ((g i).1.key : Nat), .int .i64 ((g i).1.f : Nat)], .bool (g i).2]) ∧ Inv (i + 1) W' ∧ KeepT PTI12 W W'
theorem kt_alloc (e : TypeId) (w : World) (o : Obj) : Kt e w (w.alloc o) := fun g cs t m h _ => by
  rw [Below.heap_alloc w o g (Array.getElem?_eq_some_iff.1 h).1]
  exact h
set_option maxHeartbeats 2000000 in
theorem changed_walk {fn : Nat} {caps : Array Value} {g : Nat → It × Bool} {Inv : Nat → World → Prop} (hS : ItSteps w u xs fn caps g Inv) (hl : xs.length ≤ 10000000) (h0 : Inv 0 w) : Calls Tryz.prog 100 #[u, .func (.func fn) #[] caps] w fun e w' => ∃ v, e = .returned v ∧ w'.ownsRow w.heap.size PTI12 2 v (res g xs.length).length (itL (res g xs.length)) ∧ Inv xs.length w' := by
  obtain ⟨F, c, rfl, hcap, -⟩ := (hS.src 0 w h0).mem
  have HS := Lib.hid hS
  have H0 := Lib.hid h0
  obtain ⟨n, hn⟩ : ∃ n, xs.length = n := ⟨_, rfl⟩
  rw [hn] at hl HS ⊢
  have HN := Lib.hid hn
  have HG := Lib.hid (growI12_walk w n (by omega))
  clear hS h0 hn hcap
  have hnI : (n : Int) ≤ 10000000 := by omega
  go_enter Tryz.func100, Tryz.ntmps100
  go_wp2_with fail
  refine HG.out.mono ?_
  rintro e w1 ⟨v1, rfl, hk1⟩
  have H1 : Hid (w1.ownsRow w.heap.size PTI12 2 v1 (res g 0).length (itL (res g 0)) ∧ Inv 0 w1) := Lib.hid ⟨hk1.own, HS.out.stay 0 w w1 H0.out hk1.low (fun g cs t m hg _ => (hk1.low.block g (Array.getElem?_eq_some_iff.1 hg).1).trans hg)⟩
  clear hk1 HG H0
  go_wp2_with fail
  go_loopg [5, 15] n (fun gg s5 s15 wr => ∃ (i : Nat) (v0 : Value), i + gg = n ∧ v0 = s5 ∧ s15 = .int .i64 (i : Nat) ∧ Hid (wr.ownsRow w.heap.size PTI12 2 v0 (res g i).length (itL (res g i)) ∧ Inv i wr))
  case atStart => exact ⟨0, _, by omega, rfl, rfl, H1⟩
  case round =>
    obtain ⟨i, v5, hi, rfl, rfl, HI⟩ := hrel
    by_cases hlt : i < n
    · have hltI : (i : Int) < (n : Int) := by omega
      obtain ⟨F', c', e, _, _, h3⟩ := (HS.out.src i wr HI.out.2).mem
      injection e with e1 e2 e3
      subst e1 e3
      have hix : i < xs.length := by have := HN.out; omega
      obtain ⟨gb, off, hF, hg, q0, q1⟩ := h3 i hix
      subst hF
      obtain ⟨x, hx⟩ : ∃ x, xs[i] = x := ⟨_, rfl⟩
      rw [hx] at q0 q1
      obtain ⟨kx, fx⟩ := x
      dsimp only at q0 q1
      have hB := HS.out.size i wr HI.out.2
      have hi1 := HS.out.stay i wr _ HI.out.2 ((Below.refl _ _).alloc hB (.cells #[.int .u64 (kx : Nat), .int .i64 (fx : Nat)] PTI12)) (kt_alloc _ _ _)
      have hst := HS.out.step i hix _ hi1
      rw [hx] at hst
      dsimp only at hst
      have KX := Lib.hid hst
      have HO1 := Lib.hid (HI.out.1.alloc (.cells #[.int .u64 (kx : Nat), .int .i64 (fx : Nat)] PTI12))
      clear h3 e2 hi1 hst hx HI hix
      go_wp2_with fail
      rw [HS.out.ent, Oper.upon_enter]
      refine KX.out.mono ?_
      rintro e w2 ⟨rfl, hi2, hkt⟩
      have hB2 := HS.out.size _ _ hi2
      have HO2 := Lib.hid (hkt.own HO1.out)
      have HI2 := Lib.hid hi2
      clear hi2 hkt KX HO1 q0 q1 hg hB
      obtain ⟨y, hy⟩ : ∃ y, g i = y := ⟨_, rfl⟩
      have HY := Lib.hid hy
      rw [hy]
      clear hy
      obtain ⟨⟨ky, fy⟩, by_⟩ := y
      dsimp only
      have HLN : Hid ((res g i).length ≤ 10000000) := Lib.hid (by have := res_len g i; omega)
      have hi3 := HS.out.stay _ _ _ HI2.out ((Below.refl _ _).alloc hB2 (.cells #[.int .u64 (ky : Nat), .int .i64 (fy : Nat)] PTI12)) (kt_alloc _ _ _)
      cases by_
      · have HF : Hid ((w2.alloc (.cells #[.int .u64 (ky : Nat), .int .i64 (fy : Nat)] PTI12)).ownsRow w.heap.size PTI12 2 v5 (res g (i + 1)).length (itL (res g (i + 1))) ∧ Inv (i + 1) (w2.alloc (.cells #[.int .u64 (ky : Nat), .int .i64 (fy : Nat)] PTI12))) := Lib.hid ⟨by
          rw [res, HY.out]
          simp only [Bool.false_eq_true, if_false, List.append_nil]
          exact HO2.out.alloc _, hi3⟩
        clear HO2 HI2 hi3
        go_wp2
        go_roundg (gk - 1)
        case measure => omega
        case rel => exact ⟨i + 1, v5, by omega, rfl, by go_num, HF⟩
      · have hB3 := HS.out.size _ _ hi3
        have hi4 := HS.out.stay _ _ _ hi3 ((Below.refl _ _).alloc hB3 (.cells #[.int .u64 (ky : Nat), .int .i64 (fy : Nat)] PTI12)) (kt_alloc _ _ _)
        have HI4 := Lib.hid hi4
        have HOW : Hid (OwnI PTI12 w.heap.size ((w2.alloc (.cells #[.int .u64 (ky : Nat), .int .i64 (fy : Nat)] PTI12)).alloc (.cells #[.int .u64 (ky : Nat), .int .i64 (fy : Nat)] PTI12)) ((w2.alloc (.cells #[.int .u64 (ky : Nat), .int .i64 (fy : Nat)] PTI12)).alloc (.cells #[.int .u64 (ky : Nat), .int .i64 (fy : Nat)] PTI12)) v5 (res g i)) := Lib.hid ⟨Below.refl _ _, (HO2.out.alloc _).alloc _⟩
        have HSRC := Lib.hid (IV.one (w2.alloc (.cells #[.int .u64 (ky : Nat), .int .i64 (fy : Nat)] PTI12)) PTI12 ⟨ky, fy⟩)
        have hszA := HS.out.size _ _ hi4
        clear HO2 HI2 hi3 hi4 hB3
        go_wp2_with (at_builtin; refine wpList_append_iv (e := PTI12) rfl (.tmp 26) (.tmp 28) rfl w.heap.size (by kernel_rfl) (by kernel_rfl) v5 (res g i) rfl HOW.out _ [⟨ky, fy⟩] rfl (by first | exact HSRC.out | (have h := HSRC.out; simp only [World.size_alloc] at h; exact h)) (by have := HLN.out; simp; omega) hszA ?_)
        intro v6 w6 hown6 _ hkt6
        have HF : Hid (w6.ownsRow w.heap.size PTI12 2 v6 (res g (i + 1)).length (itL (res g (i + 1))) ∧ Inv (i + 1) w6) := Lib.hid ⟨by
          rw [res, HY.out]
          simp only [if_true]
          exact hown6.own, HS.out.stay _ _ _ HI4.out hown6.low hkt6⟩
        clear hown6 hkt6 HOW HSRC hszA HI4
        go_wp2
        go_roundg (gk - 1)
        case measure => omega
        case rel => exact ⟨i + 1, v6, by omega, rfl, by go_num, HF⟩
    · have hltI : ¬ (i : Int) < (n : Int) := by omega
      obtain rfl : i = n := by omega
      have HF := Lib.hid HI.out
      clear HI
      go_wp2
      go_ret
      exact ⟨_, rfl, HF.out⟩
end
set_option maxRecDepth 8000
section
variable {w : World}
set_option maxHeartbeats 1000000 in
theorem other12_walk {kb k : Nat} (hk : w.cell? ⟨kb, 0, none⟩ = some (.int .u64 (k : Nat))) (hkb : kb < w.heap.size) (x : It) :
    Calls Tryz.prog 104 #[.agg #[.int .u64 (x.key : Nat), .int .i64 (x.f : Nat)], .pointer (some ⟨kb, 0, none⟩)] w fun e w' => e = .returned (.tuple #[.agg #[.int .u64 (x.key : Nat), .int .i64 (x.f : Nat)], .bool (!decide (x.key = k))]) ∧ Below w.heap.size w w' := by
  obtain ⟨kx, fx⟩ := x
  dsimp only
  have hne : kb ≠ w.heap.size := by omega
  have hne2 : w.heap.size ≠ kb := by omega
  have hne3 : kb ≠ w.heap.size + 1 := by omega
  have HB := Lib.hid (low_two w)
  by_cases he : kx = k
  · subst he
    rw [decide_eq_true rfl]
    have hne4 : ((kx : Int) != (kx : Int)) = false := by simp
    go_enter Tryz.func104, Tryz.ntmps104
    go_wp2_with fail
    go_region
    go_wp2
    exact bodyPost_ret (v := .tuple #[.agg #[.int .u64 (kx : Nat), .int .i64 (fx : Nat)], .bool false]) (by simp [results, Tryz.results104, go_sem]) rfl ⟨rfl, below_drewn (HB.out _ _) 1⟩
  · rw [decide_eq_false he]
    have hne4 : ((kx : Int) != (k : Int)) = true := by rw [bne_iff_ne]; omega
    clear he
    go_enter Tryz.func104, Tryz.ntmps104
    go_wp2_with fail
    go_region
    go_wp2
    exact bodyPost_ret (v := .tuple #[.agg #[.int .u64 (kx : Nat), .int .i64 (fx : Nat)], .bool true]) (by simp [results, Tryz.results104, go_sem]) rfl ⟨rfl, below_drewn (HB.out _ _) 1⟩
theorem is12_walk {kb k : Nat} (hk : w.cell? ⟨kb, 0, none⟩ = some (.int .u64 (k : Nat))) (hkb : kb < w.heap.size) (x : It) :
    Calls Tryz.prog 99 #[.agg #[.int .u64 (x.key : Nat), .int .i64 (x.f : Nat)], .pointer (some ⟨kb, 0, none⟩)] w fun e w' => e = .returned (.bool (decide (x.key = k))) ∧ Below w.heap.size w w' := by
  obtain ⟨kx, fx⟩ := x
  dsimp only
  have hne : kb ≠ w.heap.size := by omega
  have hne2 : w.heap.size ≠ kb := by omega
  have HB := Lib.hid (low_one w)
  by_cases he : kx = k
  · subst he
    rw [decide_eq_true rfl]
    go_enter Tryz.func99, Tryz.ntmps99
    go_wp2
    go_ret
    exact ⟨by simp, HB.out _⟩
  · rw [decide_eq_false he]
    have hne4 : ((kx : Int) == (k : Int)) = false := by rw [beq_eq_false_iff_ne]; omega
    clear he
    go_enter Tryz.func99, Tryz.ntmps99
    go_wp2
    go_ret
    exact ⟨by first | rfl | simp [hne4], HB.out _⟩
set_option maxHeartbeats 1000000 in
theorem forget1_walk (x : It) :
    Calls Tryz.prog 103 #[.agg #[.int .u64 (x.key : Nat), .int .i64 (x.f : Nat)]] w fun e w' => e = .returned (.tuple #[.agg #[.int .u64 (x.key : Nat), .int .i64 (x.f : Nat)], .bool false]) ∧ Below w.heap.size w w' := by
  obtain ⟨kx, fx⟩ := x
  dsimp only
  have HB := Lib.hid (low_two w)
  go_enter Tryz.func103, Tryz.ntmps103
  go_wp2
  exact bodyPost_ret (v := .tuple #[.agg #[.int .u64 (kx : Nat), .int .i64 (fx : Nat)], .bool false]) (by simp [results, Tryz.results103, go_sem]) rfl ⟨rfl, HB.out _ _⟩
def MapHas (w : World) (b : Nat) (L : List Nat) : Prop := ∃ (n : Nat) (D : DataW Unit), w.ownsMap Tryz.prog 32 (plainElem Tryz.prog 4) b n D ∧ ∀ k : Nat, k < 18446744073709551616 → D.atKey (.int .u64 (k : Nat)) (.lit (.bool false)) = .lit (.bool (decide (k ∈ L)))
theorem MapHas.keep {w w' : World} {b : Nat} {L : List Nat} (h : MapHas w b L) (e : w'.heap[b]? = w.heap[b]?) : MapHas w' b L := by
  obtain ⟨n, D, ⟨es, clock, h1, h2⟩, h3⟩ := h
  exact ⟨n, D, ⟨es, clock, e.trans h1, h2⟩, h3⟩
theorem MapHas.lt {w : World} {b : Nat} {L : List Nat} (h : MapHas w b L) : b < w.heap.size := by
  obtain ⟨n, D, h1, _⟩ := h
  exact h1.lt
theorem SeenK.has {w0 w : World} {b : Nat} {L : List Nat} (h : SeenK w0 w b L) : MapHas w b L := by
  obtain ⟨D, h1, _, h3⟩ := h.own
  exact ⟨_, D, h1, h3⟩
theorem MapHas.look {w : World} {b : Nat} {L : List Nat} (h : MapHas w b L) {k : Nat} (hk : k < 18446744073709551616) :
    (Instr.lookup 127 (.map (some b)) (.int .u64 (k : Nat)) false).run Tryz.prog w = .ok (.bool (decide (k ∈ L))) w := by
  obtain ⟨n, D, h1, h3⟩ := h
  obtain ⟨v, ps, hrun, hv⟩ := h1.lookup keyed64 Tryz.underlying127 (zeroB w) (plainElem_bool Tryz.underlying4 false) (key64 hk)
  rw [h3 k hk] at hv
  rw [hrun]
  unfold plainElem at hv
  rw [Tryz.underlying4] at hv
  cases v <;> simp at hv
  rw [hv.1]
set_option maxHeartbeats 1000000 in
theorem evict1_walk {mp mb : Nat} {L : List Nat} (hm : w.cell? ⟨mp, 0, none⟩ = some (.map (some mb))) (hmp : mp < w.heap.size) (hL : MapHas w mb L) (x : It) (hx : x.key < 18446744073709551616) :
    Calls Tryz.prog 101 #[.agg #[.int .u64 (x.key : Nat), .int .i64 (x.f : Nat)], .pointer (some ⟨mp, 0, none⟩)] w fun e w' => e = .returned (.tuple #[.agg #[.int .u64 ((if x.key ∈ L then (⟨x.key, 0⟩ : It) else x).key : Nat), .int .i64 ((if x.key ∈ L then (⟨x.key, 0⟩ : It) else x).f : Nat)], .bool true]) ∧ Below w.heap.size w w' := by
  obtain ⟨kx, fx⟩ := x
  dsimp only at hx ⊢
  have hne : mp ≠ w.heap.size := by omega
  have hne2 : w.heap.size ≠ mp := by omega
  have hne3 : mp ≠ w.heap.size + 1 := by omega
  have HB := Lib.hid (low_two w)
  have hmb := hL.lt
  have hlk := (hL.keep (w' := (w.alloc (.cells #[.int .u64 (kx : Nat), .int .i64 (fx : Nat)] PTI12)).alloc (.cells #[.int .u64 0, .int .i64 0] PTI12)) ((HB.out _ _).block mb hmb)).look hx
  clear hL hmb
  by_cases he : kx ∈ L
  · rw [decide_eq_true he] at hlk
    rw [if_pos he]
    clear he
    go_enter Tryz.func101, Tryz.ntmps101
    go_wp2
    exact bodyPost_ret (v := .tuple #[.agg #[.int .u64 (kx : Nat), .int .i64 0], .bool true]) (by simp [results, Tryz.results101, go_sem]) rfl ⟨rfl, HB.out _ _⟩
  · rw [decide_eq_false he] at hlk
    rw [if_neg he]
    clear he
    go_enter Tryz.func101, Tryz.ntmps101
    go_wp2
    exact bodyPost_ret (v := .tuple #[.agg #[.int .u64 (kx : Nat), .int .i64 (fx : Nat)], .bool true]) (by simp [results, Tryz.results101, go_sem]) rfl ⟨rfl, HB.out _ _⟩
end
set_option maxRecDepth 8000
theorem own_other {w w' : World} {S : List Nat} {B size n : Nat} {e : TypeId} {v : Value} {xs : List Value} (h : w.ownsRow B e size v n xs) (ho : Only S w w') (hS : ∀ g ∈ S, ∀ cs, w.heap[g]? ≠ some (.cells cs e (0, 0))) : w'.ownsRow B e size v n xs := by
  refine ⟨h.1, h.2.imp id ?_⟩
  rintro ⟨g, cap, cur, e1, e2, e3, e4⟩
  exact ⟨g, cap, cur, e1, e2, (ho.block g (Array.getElem?_eq_some_iff.1 e3).1 (fun hm => hS g hm cur e3)).trans e3, e4⟩
abbrev KT : TypeId := 27
abbrev FT12 : TypeId := 129
structure CB (w : World) (B gc : Nat) (cs : List Nat) : Prop where
  ge : B ≤ gc
  row : ∃ v, w.heap[gc]? = some (.cells #[v] KT (0, 0)) ∧ w.ownsRow B 32 1 v cs.length (u64L cs)
def KeepB (gc : Nat) (w w' : World) : Prop := ∀ (g : Nat) (cs : Array Value) (t : TypeId), w.heap[g]? = some (.cells cs t (0, 0)) → t ≠ 32 → g ≠ gc → w'.heap[g]? = some (.cells cs t (0, 0))
section
variable {w : World}
set_option maxHeartbeats 2000000 in
theorem cool1_walk {B gc : Nat} {cs : List Nat} (h : CB w B gc cs) (hB : B ≤ w.heap.size) (hl : cs.length ≤ 10000000) (x : It) :
    Calls Tryz.prog 106 #[.agg #[.int .u64 (x.key : Nat), .int .i64 (x.f : Nat)], .pointer (some ⟨gc, 0, none⟩)] w fun e w' => e = .returned (.tuple #[.agg #[.int .u64 (x.key : Nat), .int .i64 1], .bool true]) ∧ CB w' B gc (cs ++ [x.key]) ∧ Below B w w' ∧ KeepB gc w w' := by
  obtain ⟨kx, fx⟩ := x
  dsimp only
  obtain ⟨v, hbox, hown⟩ := h.row
  have hge := h.ge
  have hro := head_row hbox
  have hglt := hro.lt
  have hc0 := hro.cell (i := 0) (by simp)
  have hne : gc ≠ w.heap.size := by omega
  have hne2 : w.heap.size ≠ gc := by omega
  have hne3 : gc ≠ w.heap.size + 1 := by omega
  have hne5 : gc ≠ w.heap.size + 1 + 1 := by omega
  have hfr := hro.frozen 0
  obtain ⟨F, c, rfl, -⟩ : ∃ F c, v = .slice F cs.length c ∧ True := by
    obtain ⟨F, c, e, _⟩ := (KV.of_own hown).mem
    exact ⟨F, c, e, trivial⟩
  have HOWN := Lib.hid hown
  obtain ⟨n, hn⟩ : ∃ n, cs.length = n := ⟨_, rfl⟩
  have HN := Lib.hid hn
  rw [hn] at HOWN hc0 hbox
  have hW3 : ∀ g, g < w.heap.size → (((w.alloc (.cells #[.int .u64 (kx : Nat), .int .i64 (fx : Nat)] PTI12)).alloc (.cells #[.int .u64 0, .int .i64 0] PTI12)).alloc (.cells #[.int .u64 (kx : Nat)] 32)).heap[g]? = w.heap[g]? := fun g hg => ((low_two w _ _).alloc (by simp; omega) (.cells #[.int .u64 (kx : Nat)] 32)).block g hg
  have hbi : (((w.alloc (.cells #[.int .u64 (kx : Nat), .int .i64 (fx : Nat)] PTI12)).alloc (.cells #[.int .u64 0, .int .i64 0] PTI12)).alloc (.cells #[.int .u64 (kx : Nat)] 32)).heap[w.heap.size]? = some (.cells #[.int .u64 (kx : Nat), .int .i64 (fx : Nat)] PTI12 (0, 0)) := by
    rw [Below.heap_alloc _ _ _ (by simp; omega), Below.heap_alloc _ _ _ (by simp)]
    exact heap_alloc_new w _
  have hbr : (((w.alloc (.cells #[.int .u64 (kx : Nat), .int .i64 (fx : Nat)] PTI12)).alloc (.cells #[.int .u64 0, .int .i64 0] PTI12)).alloc (.cells #[.int .u64 (kx : Nat)] 32)).heap[w.heap.size + 1]? = some (.cells #[.int .u64 0, .int .i64 0] PTI12 (0, 0)) := by
    rw [Below.heap_alloc _ _ _ (by simp)]
    have := heap_alloc_new (w.alloc (.cells #[.int .u64 (kx : Nat), .int .i64 (fx : Nat)] PTI12)) (.cells #[.int .u64 0, .int .i64 0] PTI12)
    simpa using this
  have HOW : Hid (KO B (((w.alloc (.cells #[.int .u64 (kx : Nat), .int .i64 (fx : Nat)] PTI12)).alloc (.cells #[.int .u64 0, .int .i64 0] PTI12)).alloc (.cells #[.int .u64 (kx : Nat)] 32)) (((w.alloc (.cells #[.int .u64 (kx : Nat), .int .i64 (fx : Nat)] PTI12)).alloc (.cells #[.int .u64 0, .int .i64 0] PTI12)).alloc (.cells #[.int .u64 (kx : Nat)] 32)) (.slice F n c) cs) := Lib.hid ⟨Below.refl _ _, by rw [hn]; exact ((HOWN.out.alloc _).alloc _).alloc _⟩
  have HSRC := Lib.hid (KV.one ((w.alloc (.cells #[.int .u64 (kx : Nat), .int .i64 (fx : Nat)] PTI12)).alloc (.cells #[.int .u64 0, .int .i64 0] PTI12)) kx)
  have HL3 : Hid (Below B w (((w.alloc (.cells #[.int .u64 (kx : Nat), .int .i64 (fx : Nat)] PTI12)).alloc (.cells #[.int .u64 0, .int .i64 0] PTI12)).alloc (.cells #[.int .u64 (kx : Nat)] 32))) := Lib.hid (((low_two w _ _).alloc (by simp; omega) _).mono hB)
  have hszA := HL3.out.size
  have hsz2 : B ≤ (((w.alloc (.cells #[.int .u64 (kx : Nat), .int .i64 (fx : Nat)] PTI12)).alloc (.cells #[.int .u64 0, .int .i64 0] PTI12)).alloc (.cells #[.int .u64 (kx : Nat)] 32)).heap.size := by simp; omega
  have HW3 := Lib.hid hW3
  have HBI := Lib.hid hbi
  have HBR := Lib.hid hbr
  have HBX := Lib.hid hbox
  clear hW3 hbi hbr hbox hown h hn hro HOWN
  go_enter Tryz.func106, Tryz.ntmps106
  go_wp2_with (at_builtin; refine wpList_append_kv rfl (.tmp 5) (.tmp 8) rfl B (by kernel_rfl) (by kernel_rfl) _ cs rfl HOW.out _ [kx] rfl (by first | exact HSRC.out | (have h := HSRC.out; simp only [World.size_alloc] at h; exact h)) (by have := HN.out; simp; omega) hsz2 ?_)
  intro v5 w5 hown5 _ hkt5
  obtain ⟨F5, n5, d5, rfl⟩ := hown5.kv.form
  have hbi5 := hkt5 _ _ _ _ HBI.out (by decide)
  have hbr5 := hkt5 _ _ _ _ HBR.out (by decide)
  have hbx5 := hkt5 _ _ _ _ ((HW3.out gc hglt).trans HBX.out) (by decide)
  obtain ⟨⟨i0, i1⟩, if0, if1⟩ := c2_at hbi5
  obtain ⟨⟨r0, r1⟩, rf0, rf1⟩ := c2_at hbr5
  have hbb5 := (head_row hbi5).lt
  have hrr5 := (head_row hbr5).lt
  have hro5 := head_row hbx5
  have hgg5 := hro5.lt
  have hg0 := hro5.cell (i := 0) (by simp)
  have hgf := hro5.frozen 0
  have HO : Hid (Only [gc, w.heap.size + 1] w5 (((w5.setCell ⟨gc, 0, none⟩ (.slice F5 n5 d5)).setCell ⟨w.heap.size + 1, 0, none⟩ (.int .u64 (kx : Nat))).setCell ⟨w.heap.size + 1, 1, none⟩ (.int .i64 1))) := Lib.hid ((((Only.refl _ _).setCell (by simp) _).setCell (by simp) _).setCell (by simp) _)
  have HF : Hid (CB (((w5.setCell ⟨gc, 0, none⟩ (.slice F5 n5 d5)).setCell ⟨w.heap.size + 1, 0, none⟩ (.int .u64 (kx : Nat))).setCell ⟨w.heap.size + 1, 1, none⟩ (.int .i64 1)) B gc (cs ++ [kx]) ∧ Below B w (((w5.setCell ⟨gc, 0, none⟩ (.slice F5 n5 d5)).setCell ⟨w.heap.size + 1, 0, none⟩ (.int .u64 (kx : Nat))).setCell ⟨w.heap.size + 1, 1, none⟩ (.int .i64 1)) ∧ KeepB gc w (((w5.setCell ⟨gc, 0, none⟩ (.slice F5 n5 d5)).setCell ⟨w.heap.size + 1, 0, none⟩ (.int .u64 (kx : Nat))).setCell ⟨w.heap.size + 1, 1, none⟩ (.int .i64 1))) := Lib.hid ⟨⟨hge, .slice F5 n5 d5, by
      have ho2 : Only [w.heap.size + 1] (w5.setCell ⟨gc, 0, none⟩ (.slice F5 n5 d5)) (((w5.setCell ⟨gc, 0, none⟩ (.slice F5 n5 d5)).setCell ⟨w.heap.size + 1, 0, none⟩ (.int .u64 (kx : Nat))).setCell ⟨w.heap.size + 1, 1, none⟩ (.int .i64 1)) := ((Only.refl _ _).setCell (by simp) _).setCell (by simp) _
      exact (ho2.block gc (by simpa using hgg5) (by simp; omega)).trans (set_one hbx5), own_other hown5.own HO.out (fun g hg cs' he => by
        simp only [List.mem_cons, List.not_mem_nil, or_false] at hg
        rcases hg with rfl | rfl
        · rw [hbx5] at he
          injection he with he
          injection he with _ he
          exact absurd he (by decide)
        · rw [hbr5] at he
          injection he with he
          injection he with _ he
          exact absurd he (by decide))⟩, (HL3.out.trans hown5.low).trans (HO.out.below (by simp; omega) (Nat.le_trans hsz2 hown5.low.size)), fun g cs' t hg ht hgc => by
      have hlt := (Array.getElem?_eq_some_iff.1 hg).1
      have h5 := hkt5 _ _ _ _ ((HW3.out g hlt).trans hg) ht
      exact (HO.out.block g (head_row h5).lt (by simp; omega)).trans h5⟩
  clear hown5 hkt5 HOW HSRC HL3 HW3 HBI HBR HBX hro5 hbi5 hbr5 hbx5
  go_wp2
  exact bodyPost_ret (v := .tuple #[.agg #[.int .u64 (kx : Nat), .int .i64 1], .bool true]) (by simp [results, Tryz.results106, go_sem, r0, r1]) rfl ⟨rfl, HF.out⟩
structure Bh (w : World) (n : Nat) (kind seen most : Nat) (fv : Value) : Prop where
  k : w.heap[n]? = some (.cells #[.int .i64 (kind : Nat)] 3 (0, 0))
  m : w.heap[n + 1]? = some (.cells #[.int .i64 (most : Nat)] 3 (0, 0))
  f : w.heap[n + 1 + 1]? = some (.cells #[fv] FT12 (0, 0))
  s : w.heap[n + 1 + 1 + 1]? = some (.cells #[.int .i64 (seen : Nat)] 3 (0, 0))
abbrev capsB (n : Nat) : Array Value := #[.pointer (some ⟨n, 0, none⟩), .pointer (some ⟨n + 1 + 1 + 1, 0, none⟩), .pointer (some ⟨n + 1, 0, none⟩), .pointer (some ⟨n + 1 + 1, 0, none⟩)]
theorem Bh.below {w w' : World} {n kind seen most : Nat} {fv : Value} (h : Bh w n kind seen most fv) (hb : Below w.heap.size w w') : Bh w' n kind seen most fv :=
  ⟨(hb.block _ (head_row h.k).lt).trans h.k, (hb.block _ (head_row h.m).lt).trans h.m, (hb.block _ (head_row h.f).lt).trans h.f, (hb.block _ (head_row h.s).lt).trans h.s⟩
theorem libehind_walk (kind most fn : Nat) (caps : Array Value) : Calls Tryz.prog 102 #[.int .i64 (kind : Nat), .int .i64 (most : Nat), .func (.func fn) #[] caps] w fun e w' => e = .returned (.func (.func 122) #[] (capsB w.heap.size)) ∧ Below w.heap.size w w' ∧ w.heap.size + 1 + 1 + 1 < w'.heap.size ∧ Bh w' w.heap.size kind 0 most (.func (.func fn) #[] caps) := by
  have HB : Hid (Below w.heap.size w ((((w.alloc (.cells #[.int .i64 (kind : Nat)] 3)).alloc (.cells #[.int .i64 (most : Nat)] 3)).alloc (.cells #[.func (.func fn) #[] caps] FT12)).alloc (.cells #[.int .i64 0] 3))) := Lib.hid (((low_two w _ _).alloc (by simp <;> omega) _).alloc (by simp <;> omega) _)
  have HH : Hid (Bh ((((w.alloc (.cells #[.int .i64 (kind : Nat)] 3)).alloc (.cells #[.int .i64 (most : Nat)] 3)).alloc (.cells #[.func (.func fn) #[] caps] FT12)).alloc (.cells #[.int .i64 0] 3)) w.heap.size kind 0 most (.func (.func fn) #[] caps)) := Lib.hid ⟨by
      rw [Below.heap_alloc _ _ _ (by simp <;> omega), Below.heap_alloc _ _ _ (by simp <;> omega), Below.heap_alloc _ _ _ (by simp)]
      exact heap_alloc_new w _, by
      rw [Below.heap_alloc _ _ _ (by simp <;> omega), Below.heap_alloc _ _ _ (by simp)]
      have := heap_alloc_new (w.alloc (.cells #[.int .i64 (kind : Nat)] 3)) (.cells #[.int .i64 (most : Nat)] 3)
      simpa using this, by
      rw [Below.heap_alloc _ _ _ (by simp)]
      have := heap_alloc_new ((w.alloc (.cells #[.int .i64 (kind : Nat)] 3)).alloc (.cells #[.int .i64 (most : Nat)] 3)) (.cells #[.func (.func fn) #[] caps] FT12)
      simpa using this, by
      have := heap_alloc_new (((w.alloc (.cells #[.int .i64 (kind : Nat)] 3)).alloc (.cells #[.int .i64 (most : Nat)] 3)).alloc (.cells #[.func (.func fn) #[] caps] FT12)) (.cells #[.int .i64 0] 3)
      simpa using this⟩
  go_enter Tryz.func102, Tryz.ntmps102
  go_wp2
  go_ret
  exact ⟨rfl, HB.out, by simp, HH.out⟩
end
end Go.Proofs.YtkhikpnlpcankaaGreat
