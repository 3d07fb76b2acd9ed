/- Words and walks: HxI HxP HxX HxY. -/
import Derived.Test.YtkhikpnlpcankaaGreatG0
import Derived.Test.YtkhikpnlpcankaaGreatG8
import Derived.Laws.MakeOwn
import Derived.IntWalk
import Derived.StillTailTactics
namespace Go.Proofs.YtkhikpnlpcankaaGreat
open Go Go.RowKit Go.Deep
theorem apart_mask (n : Int) (i : Nat) (hi : i < 31) : bits .and .i64 n (2 ^ i - 1) = n % 2 ^ i := by
  have hp := pow_le30 i hi
  have hq := pow_pos2 i
  have hm : (BitVec.ofInt 64 ((2 : Int) ^ i - 1)).toNat = 2 ^ i - 1 := by
    rw [BitVec.toNat_ofInt]
    have e : ((2 : Int) ^ i) = ((2 ^ i : Nat) : Int) := by simp
    rw [e] at hp hq ⊢
    omega
  have key : (BitVec.ofInt 64 n &&& BitVec.ofInt 64 ((2 : Int) ^ i - 1)).toNat = (n % ((2 ^ 64 : Nat) : Int)).toNat % 2 ^ i := by
    rw [BitVec.toNat_and, BitVec.toNat_ofInt, hm, Nat.and_two_pow_sub_one_eq_mod]
  have e0 : 0 ≤ n % ((2 ^ 64 : Nat) : Int) := Int.emod_nonneg _ (by decide)
  have e1 : (((n % ((2 ^ 64 : Nat) : Int)).toNat % 2 ^ i : Nat) : Int) = n % 2 ^ i := by
    rw [Int.natCast_emod, Int.toNat_of_nonneg e0]
    have hd : ((2 ^ i : Nat) : Int) ∣ ((2 ^ 64 : Nat) : Int) := Int.natCast_dvd_natCast.2 (Nat.pow_dvd_pow 2 (by omega))
    rw [Int.emod_emod_of_dvd n hd]
    simp
  show IntKind.i64.wrap ((BitVec.ofInt 64 n &&& BitVec.ofInt 64 ((2 : Int) ^ i - 1)).toNat : Nat) = n % 2 ^ i
  rw [key, e1, IntKind.wrap_i64]
  have v0 : 0 ≤ n % 2 ^ i := Int.emod_nonneg _ (by omega)
  have v1 : n % 2 ^ i < 2 ^ i := Int.emod_lt_of_pos _ hq
  omega
theorem apart_is (w : World) (x y n : Nat) (h : isSz n = true) (hx : x < n) (hy : y < n) :
    Calls Tryz.prog 149 #[.int .i64 (x : Nat), .int .i64 (y : Nat), .int .i64 (n : Nat)] w fun e w' => e = .returned (.int .i64 (away x y n : Nat)) ∧ w = w' := by
  obtain ⟨h1, h2⟩ := isSz_bounds h
  have H := Lib.hid h
  clear h
  go_enter Tryz.func149, Tryz.ntmps149
  go_wp2_with fail
  refine (isSize_is _ _ true H.out).mono ?_
  rintro e w' ⟨rfl, rfl⟩
  go_wp2
  go_ret
  obtain ⟨i, hi, hn⟩ := (isSz_iff _).1 H.out
  have e1 : ((away x y n : Nat) : Int) = ((y : Int) - x) % n := by
    rw [away_eq hx hy]
    split
    · rw [Int.emod_eq_of_lt (by omega) (by omega)]; omega
    · rw [← Int.add_emod_right, Int.emod_eq_of_lt (by omega) (by omega)]; omega
  rw [e1, hn]
  exact ⟨congrArg (fun z => Ending.returned (Value.int .i64 z)) (apart_mask _ i hi), rfl⟩
def RowT (t : TypeId) (w : World) (g m : Nat) (sl : Nat → Sl) : Prop := ∃ (N : Nat) (F : Nat → Value), w.rowIs g t N F ∧ m * 3 ≤ N ∧ ∀ p, p < m * 3 → F p = slV sl p
theorem rowT_put {t : TypeId} {w : World} {g m : Nat} {sl : Nat → Sl} (h : RowT t w g m sl) (i : Nat) (s : Sl) :
    RowT t (((w.setCell ⟨g, i * 3, none⟩ (.int .u64 (s.key : Nat))).setCell ⟨g, i * 3 + 1, none⟩ (.int .i32 s.n)).setCell ⟨g, i * 3 + 2, none⟩ (.bool s.full)) g m (fun j => if j = i then s else sl j) ∧
    Only [g] w (((w.setCell ⟨g, i * 3, none⟩ (.int .u64 (s.key : Nat))).setCell ⟨g, i * 3 + 1, none⟩ (.int .i32 s.n)).setCell ⟨g, i * 3 + 2, none⟩ (.bool s.full)) := by
  obtain ⟨N, F, hF, hN, hv⟩ := h
  refine ⟨⟨N, _, ((hF.set _ _).set _ _).set _ _, hN, fun p hp => ?_⟩, ((((Only.refl [g] w).setCell (by simp) _).setCell (by simp) _).setCell (by simp) _)⟩
  have key : ∀ j, j < 3 → slV (fun j => if j = i then s else sl j) (i * 3 + j) = slotW s j := fun j hj => by rw [slV_at _ _ _ hj, if_pos rfl]
  rcases split3 p i with h1 | rfl | rfl | rfl
  · have e : slV (fun j => if j = i then s else sl j) p = slV sl p := by unfold slV; show slotW (if p / 3 = i then s else sl (p / 3)) (p % 3) = _; rw [if_neg h1]
    rw [e, ← hv p hp]
    rw [if_neg (by omega), if_neg (by omega), if_neg (by omega)]
  · rw [show i * 3 = i * 3 + 0 from rfl, key 0 (by decide)]; simp [slotW]
  · rw [key 1 (by decide)]; simp [slotW]
  · rw [key 2 (by decide)]; simp [slotW]
theorem RowT.only {t : TypeId} {S : List Nat} {w w' : World} {g m : Nat} {sl : Nat → Sl} (h : RowT t w g m sl) (ho : Only S w w') (hg : g ∉ S) : RowT t w' g m sl := by
  obtain ⟨N, F, hF, hN, hv⟩ := h
  exact ⟨N, F, ho.row hF hg, hN, hv⟩
theorem RowT.cell {t : TypeId} {w : World} {g m : Nat} {sl : Nat → Sl} (h : RowT t w g m sl) (p : Nat) (hp : p < m * 3) : w.cell? ⟨g, p, none⟩ = some (slV sl p) ∧ w.frozen? ⟨g, p, none⟩ = false := by
  obtain ⟨N, F, hF, hN, hv⟩ := h
  rw [← hv p hp]
  exact ⟨hF.cell (by omega), hF.frozen p⟩
theorem RowT.lt {t : TypeId} {w : World} {g m : Nat} {sl : Nat → Sl} (h : RowT t w g m sl) : g < w.heap.size := by obtain ⟨N, F, hF, _⟩ := h; exact hF.lt
theorem RowT.sl {t : TypeId} {w : World} {g m : Nat} {sl : Nat → Sl} (h : RowT t w g m sl) (i : Nat) (hi : i < m) : SlAt w g i (sl i) :=
  ⟨by have := (h.cell (i * 3 + 0) (by omega)).1; rw [slV_at _ _ _ (by decide)] at this; exact this, by have := (h.cell (i * 3 + 1) (by omega)).1; rw [slV_at _ _ _ (by decide)] at this; exact this, by have := (h.cell (i * 3 + 2) (by omega)).1; rw [slV_at _ _ _ (by decide)] at this; exact this⟩
theorem RowT.free {t : TypeId} {w : World} {g m : Nat} {sl : Nat → Sl} (h : RowT t w g m sl) (i : Nat) (hi : i < m) : w.frozen? ⟨g, i * 3, none⟩ = false ∧ w.frozen? ⟨g, i * 3 + 1, none⟩ = false ∧ w.frozen? ⟨g, i * 3 + 2, none⟩ = false :=
  ⟨(h.cell (i * 3) (by omega)).2, (h.cell (i * 3 + 1) (by omega)).2, (h.cell (i * 3 + 2) (by omega)).2⟩
structure IxT (w : World) (p : Nat) (T : Tb) (g c : Nat) : Prop where
  tab : w.heap[p]? = some (.cells #[.slice (some ⟨g, 0, none⟩) T.n T.n, .int .i64 (c : Nat)] 145 (0, 0))
  row : RowT 154 w g T.n T.sl
theorem IxT.plt {w : World} {p : Nat} {T : Tb} {g c : Nat} (h : IxT w p T g c) : p < w.heap.size := (head_row h.tab).lt
theorem IxT.lt {w : World} {p : Nat} {T : Tb} {g c : Nat} (h : IxT w p T g c) : g < w.heap.size := h.row.lt
theorem IxT.sl {w : World} {p : Nat} {T : Tb} {g c : Nat} (h : IxT w p T g c) (i : Nat) (hi : i < T.n) : SlAt w g i (T.sl i) := h.row.sl i hi
theorem IxT.ne {w : World} {p : Nat} {T : Tb} {g c : Nat} (h : IxT w p T g c) : p ≠ g := by
  obtain ⟨N, F, hF, _⟩ := h.row
  exact block_ne (head_row h.tab) hF (by decide)
theorem IxT.only {S : List Nat} {w w' : World} {p : Nat} {T : Tb} {g c : Nat} (h : IxT w p T g c) (ho : Only S w w') (hp : p ∉ S) (hg : g ∉ S) : IxT w' p T g c :=
  ⟨(ho.block p h.plt hp).trans h.tab, h.row.only ho hg⟩
theorem IxT.below {w w' : World} {p : Nat} {T : Tb} {g c : Nat} (h : IxT w p T g c) (hb : Below w.heap.size w w') : IxT w' p T g c :=
  h.only (Only.of_below (S := []) hb) (by simp) (by simp)
theorem IxT.cells {w : World} {p : Nat} {T : Tb} {g c : Nat} (h : IxT w p T g c) : w.cell? ⟨p, 0, none⟩ = some (.slice (some ⟨g, 0, none⟩) T.n T.n) ∧ w.cell? ⟨p, 1, none⟩ = some (.int .i64 (c : Nat)) :=
  ⟨(head_row h.tab).cell (i := 0) (by simp), (head_row h.tab).cell (i := 1) (by simp)⟩
abbrev ptr (p : Nat) : Value := .pointer (some ⟨p, 0, none⟩)
theorem next_walk {w : World} {p : Nat} {T : Tb} {g c : Nat} (h : IxT w p T g c) (hn : T.n ≤ 1073741824) (x : Nat) (hx : x < T.n) :
    Calls Tryz.prog 136 #[ptr p, .int .i64 (x : Nat)] w fun e w' => e = .returned (.int .i64 ((x + 1) % T.n : Nat)) ∧ w = w' := by
  obtain ⟨c0, _⟩ := h.cells
  clear h
  go_enter Tryz.func136, Tryz.ntmps136
  go_wp2
  go_ret
  exact ⟨congrArg (fun z => Ending.returned (Value.int .i64 z)) (by rw [Int.natCast_emod]; rfl), rfl⟩
theorem home_is (w : World) (k n : Nat) (h : isSz n = true) :
    Calls Tryz.prog 135 #[.int .u64 (k : Nat), .int .i64 (n : Nat)] w fun e w' => e = .returned (.int .i64 (hm k n : Nat)) ∧ w' = w.alloc box :=
  (home_yes w k n h).mono fun _ _ ⟨h1, h2⟩ => ⟨h1.trans (congrArg (fun z => Ending.returned (Value.int .i64 z)) (by rw [hm_mixN]; exact (Int.natCast_emod _ _).symm)), h2⟩
theorem fromHome_walk {w : World} {p : Nat} {T : Tb} {g c : Nat} (h : IxT w p T g c) (hs : isSz T.n = true) (k x : Nat) (hx : x < T.n) :
    Calls Tryz.prog 148 #[ptr p, .int .u64 (k : Nat), .int .i64 (x : Nat)] w fun e w' => e = .returned (.int .i64 (away (hm k T.n) x T.n : Nat)) ∧ Below w.heap.size w w' := by
  obtain ⟨c0, _⟩ := h.cells
  have HH := Lib.hid (fun w => home_is w k T.n hs)
  have HA := Lib.hid (fun w => apart_is w (hm k T.n) x T.n hs (hm_lt k (by omega)) hx)
  clear h hs
  go_enter Tryz.func148, Tryz.ntmps148
  go_wp2_with fail
  refine (HH.out _).mono ?_
  rintro e w' ⟨rfl, rfl⟩
  go_wp2_with fail
  refine (HA.out _).mono ?_
  rintro e w' ⟨rfl, rfl⟩
  go_wp2
  go_ret
  exact ⟨rfl, (Below.refl _ _).alloc (Nat.le_refl _) _⟩
set_option maxHeartbeats 1000000 in
theorem look_walk {w : World} {p : Nat} {T : Tb} {g c : Nat} (h : IxT w p T g c) (ok : T.Ok) (hs : isSz T.n = true) (k : Nat) (hk : k < 18446744073709551616) :
    Calls Tryz.prog 117 #[ptr p, .int .u64 (k : Nat)] w fun e w' => e = .returned (.tuple #[.int .i64 (T.look k : Nat), .bool (T.there k)]) ∧ Below w.heap.size w w' := by
  have hp := ok.pos
  obtain ⟨_, hsz⟩ := isSz_bounds hs
  have hsz' : T.n ≤ 1073741824 := by omega
  obtain ⟨c0, _⟩ := h.cells
  have HH := Lib.hid (fun w => home_is w k T.n hs)
  have HX := Lib.hid h
  have HOK := Lib.hid ok
  have HST := Lib.hid (ok.steps_lt k)
  have HLK : Hid (T.look k = T.go k (T.steps k)) := Lib.hid rfl
  have H0 : Hid (hm k T.n = T.go k 0) := Lib.hid (by unfold Tb.go; rw [Nat.add_zero, Nat.mod_eq_of_lt (hm_lt k hp)])
  clear h hs ok
  go_enter Tryz.func117, Tryz.ntmps117
  go_wp2_with fail
  go_step3
  go_wp2_with fail
  refine (HH.out _).mono ?_
  rintro e w' ⟨rfl, rfl⟩
  rw [H0.out]
  have HB1 := Lib.hid ((Below.refl w.heap.size w).alloc (Nat.le_refl _) box)
  generalize w.alloc box = w1 at HB1 ⊢
  clear c0
  go_wp2_with fail
  go_step3
  go_wp2_with fail
  go_loopg [4, 5] (T.steps k) (fun gg s4 s5 wr => ∃ i : Nat, i + gg = T.steps k ∧ s4 = .int .i64 (T.go k i : Nat) ∧ s5 = .bool false ∧ Hid (Below w.heap.size w wr))
  case atStart => exact ⟨0, by omega, rfl, rfl, HB1⟩
  case round =>
    obtain ⟨i, hi, rfl, rfl, HBR⟩ := hrel
    have hst := HST.out
    have hxr := HX.out.below HBR.out
    obtain ⟨c0, _⟩ := hxr.cells
    obtain ⟨x, hx⟩ : ∃ x, T.go k i = x := ⟨_, rfl⟩
    have hxn : x < T.n := hx ▸ T.go_lt hp k i
    obtain ⟨q0, q1, q2⟩ := hxr.sl x hxn
    by_cases hii : i = T.steps k
    · have hlk : T.look k = x := by rw [HLK.out, ← hii, hx]
      have hstp := HOK.out.look_stops k
      rw [hlk] at hstp
      have HE : Hid (T.look k = x ∧ T.there k = (T.sl x).full) := Lib.hid ⟨hlk, by unfold Tb.there; rw [hlk]⟩
      have HSP := Lib.hid hstp
      rw [hx]
      obtain ⟨sx, hsx⟩ : ∃ sx, T.sl x = sx := ⟨_, rfl⟩
      rw [hsx] at q0 q1 q2 HSP HE
      obtain ⟨sk, sn, sf⟩ := sx
      clear hsx hstp hlk hii hi hx hxr
      cases sf
      · simp only at q0 q1 q2
        go_wp2
        exact bodyPost_ret (v := .tuple #[.int .i64 (x : Nat), .bool false]) (by simp [results, Tryz.results117, go_sem]) rfl ⟨by rw [HE.out.1, HE.out.2], HBR.out.alloc HBR.out.size _⟩
      · obtain rfl : sk = k := by
          rcases HSP.out with q | q
          · exact absurd q (by simp)
          · exact q
        simp only at q0 q1 q2
        go_wp2
        exact bodyPost_ret (v := .tuple #[.int .i64 (x : Nat), .bool true]) (by simp [results, Tryz.results117, go_sem]) rfl ⟨by rw [HE.out.1, HE.out.2], HBR.out.alloc HBR.out.size _⟩
    · have hlt : i < T.steps k := by omega
      obtain ⟨hf, hne⟩ := T.path k hlt
      have hnx := go_succ T k i
      rw [hx] at hf hne hnx ⊢
      obtain ⟨sx, hsx⟩ : ∃ sx, T.sl x = sx := ⟨_, rfl⟩
      rw [hsx] at q0 q1 q2 hf hne
      obtain ⟨sk, sn, sf⟩ := sx
      simp only at q0 q1 q2 hf hne
      subst hf
      have HXR := Lib.hid hxr
      clear hsx hx hxr
      have hneI : ((sk : Int) == (k : Int)) = false := by rw [beq_eq_false_iff_ne]; omega
      go_wp2_with fail
      refine (next_walk (HXR.out.below ((Below.refl _ _).alloc (Nat.le_refl _) _)) hsz' x hxn).mono ?_
      rintro e w' ⟨rfl, rfl⟩
      rw [hnx]
      go_wp2
      go_roundg (gk - 1)
      case measure => omega
      case rel => exact ⟨i + 1, by omega, rfl, rfl, Lib.hid (HBR.out.alloc HBR.out.size _)⟩
theorem get_walk {w : World} {p : Nat} {T : Tb} {g c : Nat} (h : IxT w p T g c) (ok : T.Ok) (hs : isSz T.n = true) (k : Nat) (hk : k < 18446744073709551616) :
    Calls Tryz.prog 90 #[ptr p, .int .u64 (k : Nat)] w fun e w' => e = .returned (.tuple #[.int .i32 (T.get k).1, .bool (T.get k).2]) ∧ Below w.heap.size w w' := by
  have HL := Lib.hid (look_walk h ok hs k hk)
  have hlk := ok.look_lt k
  have HX := Lib.hid h
  have HGET : Hid (T.get k = ((T.sl (T.look k)).n, T.there k)) := Lib.hid rfl
  clear h ok hs
  go_enter Tryz.func90, Tryz.ntmps90
  go_wp2_with fail
  refine HL.out.mono ?_
  rintro e w1 ⟨rfl, hb⟩
  have hx := HX.out.below hb
  obtain ⟨c0, _⟩ := hx.cells
  obtain ⟨_, q1, _⟩ := hx.sl _ hlk
  have HB := Lib.hid hb
  clear hx hb
  obtain ⟨x, hx⟩ : ∃ x, T.look k = x := ⟨_, rfl⟩
  obtain ⟨b, hb⟩ : ∃ b, T.there k = b := ⟨_, rfl⟩
  rw [hx] at q1 hlk HGET ⊢
  rw [hb] at HGET ⊢
  clear hx hb
  go_wp2
  exact bodyPost_ret (v := .tuple #[.int .i32 (T.sl x).n, .bool b]) (by simp [results, Tryz.results90, go_sem]) rfl ⟨by rw [HGET.out], HB.out⟩
theorem one_heap {w1 : World} {g : Nat} {t : TypeId} {a0 : Value} (hB : w1.heap[g]? = some (.cells #[a0] t (0, 0))) (b0 : Value) :
    (w1.setCell ⟨g, 0, none⟩ b0).heap[g]? = some (.cells #[b0] t (0, 0)) ∧ Only [g] w1 (w1.setCell ⟨g, 0, none⟩ b0) :=
  ⟨by simp [World.setCell, Array.getElem?_modify, hB], (Only.refl [g] w1).setCell (by simp) _⟩
theorem RefT.only {S : List Nat} {w w' : World} {T : Tb} {g : Nat} (h : RefT w T g) (ho : Only S w w') (hg : g ∉ S) : RefT w' T g :=
  ⟨Nat.lt_of_lt_of_le h.lt ho.size, fun i hi => by
    obtain ⟨q0, q1, q2⟩ := h.sl i hi
    have e := fun (j : Nat) => World.cell?_of_block (w := w) (w' := w') (a := ⟨g, j, none⟩) (ho.block g h.lt hg)
    exact ⟨(e _).trans q0, (e _).trans q1, (e _).trans q2⟩⟩
theorem good_sz {n : Nat} (hp : ∃ p, n = 2 ^ p) (hn : n ≤ 1000000000) : isSz n = true := by
  obtain ⟨p, rfl⟩ := hp
  refine isSz_yes (k := p) ?_ (by simp)
  rcases Nat.lt_or_ge p 31 with h | h
  · exact h
  · have : 2 ^ 31 ≤ 2 ^ p := Nat.pow_le_pow_right (by decide) h
    omega
theorem Tb.growUp_n (T : Tb) : ∀ m, (T.growUp m).n = 2 * T.n
  | 0 => rfl
  | m + 1 => by
    unfold Tb.growUp
    split
    · rw [Tb.lay_n]; exact T.growUp_n m
    · exact T.growUp_n m
theorem make_ix (n : Nat) (hn : n ≤ 1000000000) (w : World) :
    ∃ cs : Array Value, (Instr.makeSlice 143 (.int .i64 n) (.int .i64 n)).run Tryz.prog w = .ok (.slice (some ⟨w.heap.size, 0, none⟩) n n) (w.alloc (.cells cs 154)) ∧
      cs.size = n * 3 ∧ ∀ p, p < cs.size → cs[p]? = some (slV (fun _ => Sl.no) p) := by
  have hinfo : (Tryz.prog.info? 154).map (fun i => (i.zero, i.size, i.bytes)) = some (some (.agg #[.int .u64 0, .int .i32 0, .bool false]), 3, 16) := by kernel_rfl
  obtain ⟨i, hi, hz0, hz1, hz2⟩ := info_parts hinfo
  have hr := run_make (P := Tryz.prog) w 143 154 i _ (by kernel_rfl) hi hz0 .i64 .i64 n n (by omega) (by omega) (by rw [hz2]; omega) (by omega)
  refine ⟨_, by simpa using hr, ?_⟩
  rw [hz1]
  refine ⟨size_madeCells _ _, fun p hp => ?_⟩
  rw [size_madeCells] at hp
  have hp3 : p % 3 < 3 := Nat.mod_lt _ (by decide)
  simp only [madeCells, Value.cells, Array.getElem?_map]
  rw [Array.getElem?_range, if_pos hp]
  simp only [Option.map_some, Option.some.injEq, slV]
  generalize p % 3 = j at hp3
  match j, hp3 with
  | 0, _ => rfl
  | 1, _ => rfl
  | 2, _ => rfl
theorem rowT_new {t : TypeId} {w : World} {g m : Nat} {cs : Array Value} (hb : w.heap[g]? = some (.cells cs t (0, 0))) (hsz : cs.size = m * 3) (hcs : ∀ p, p < cs.size → cs[p]? = some (slV (fun _ => Sl.no) p)) : RowT t w g m (fun _ => Sl.no) :=
  ⟨_, _, head_row hb, by omega, fun p hp => by
    have := hcs p (by omega)
    simp [Array.getD_eq_getD_getElem?, this]⟩
theorem ixnew_walk (w : World) :
    Calls Tryz.prog 69 #[] w fun e w' => ∃ p g, e = .returned (ptr p) ∧ Below w.heap.size w w' ∧ w.heap.size ≤ p ∧ w.heap.size ≤ g ∧ IxT w' p Tb.new g 0 := by
  obtain ⟨cs, hmk, hsz, hcs⟩ := make_ix 8 (by omega) w
  have e8 : ((8 : Nat) : Int) = 8 := rfl
  rw [e8] at hmk
  have HB1 := Lib.hid ((Below.refl w.heap.size w).alloc (Nat.le_refl _) (.cells cs 154))
  have k1 := heap_alloc_new w (.cells cs 154)
  have HR := Lib.hid (rowT_new (m := 8) k1 hsz hcs)
  have HZ : Hid ((w.alloc (.cells cs 154)).heap.size = w.heap.size + 1) := Lib.hid (by simp)
  clear hsz hcs k1
  go_enter Tryz.func69, Tryz.ntmps69
  go_wp2_with fail
  go_ret
  generalize w.alloc (.cells cs 154) = w1 at HB1 HR HZ ⊢
  have hz := HZ.out
  have k := heap_alloc_new w1 (.cells #[.slice (some ⟨w.heap.size, 0, none⟩) 8 8, .int .i64 0] 145)
  rw [hz] at k
  exact ⟨_, _, rfl, HB1.out.alloc HB1.out.size _, by omega, Nat.le_refl _, k, HR.out.only ((Only.refl [] w1).alloc _) (by simp)⟩
theorem crowded_walk {w : World} {p : Nat} {T : Tb} {g c : Nat} (h : IxT w p T g c) (hn : T.n ≤ 1000000000) (hc : c ≤ 1000000000) :
    Calls Tryz.prog 157 #[ptr p] w fun e w' => e = .returned (.bool (decide (3 * T.n < 4 * c + 4))) ∧ Below w.heap.size w w' := by
  obtain ⟨c0, c1⟩ := h.cells
  clear h
  have hcI : (c : Int) ≤ 1000000000 := by omega
  have hnI : (T.n : Int) ≤ 1000000000 := by omega
  go_enter Tryz.func157, Tryz.ntmps157
  go_wp2_with fail
  go_region
  go_wp2
  go_ret
  exact ⟨congrArg (fun b => Ending.returned (Value.bool b)) (decide_eq_decide.2 (by omega)), (Below.refl w.heap.size w).drew⟩
theorem two_heap {w1 : World} {g : Nat} {t : TypeId} {a0 a1 : Value} (hB : w1.heap[g]? = some (.cells #[a0, a1] t (0, 0))) (b : Value) :
    (w1.setCell ⟨g, 0, none⟩ b).heap[g]? = some (.cells #[b, a1] t (0, 0)) ∧ (w1.setCell ⟨g, 1, none⟩ b).heap[g]? = some (.cells #[a0, b] t (0, 0)) ∧
    Only [g] w1 (w1.setCell ⟨g, 0, none⟩ b) ∧ Only [g] w1 (w1.setCell ⟨g, 1, none⟩ b) :=
  ⟨by simp [World.setCell, Array.getElem?_modify, hB], by simp [World.setCell, Array.getElem?_modify, hB], (Only.refl [g] w1).setCell (by simp) _, (Only.refl [g] w1).setCell (by simp) _⟩
theorem IxT.free {w : World} {p : Nat} {T : Tb} {g c : Nat} (h : IxT w p T g c) : w.frozen? ⟨p, 0, none⟩ = false ∧ w.frozen? ⟨p, 1, none⟩ = false :=
  ⟨(head_row h.tab).frozen 0, (head_row h.tab).frozen 1⟩
theorem IxT.put {w : World} {p : Nat} {T : Tb} {g c : Nat} (h : IxT w p T g c) (i : Nat) (s : Sl) :
    IxT (((w.setCell ⟨g, i * 3, none⟩ (.int .u64 (s.key : Nat))).setCell ⟨g, i * 3 + 1, none⟩ (.int .i32 s.n)).setCell ⟨g, i * 3 + 2, none⟩ (.bool s.full)) p ⟨T.n, fun j => if j = i then s else T.sl j⟩ g c ∧
    Only [g] w (((w.setCell ⟨g, i * 3, none⟩ (.int .u64 (s.key : Nat))).setCell ⟨g, i * 3 + 1, none⟩ (.int .i32 s.n)).setCell ⟨g, i * 3 + 2, none⟩ (.bool s.full)) := by
  obtain ⟨h1, h2⟩ := rowT_put h.row i s
  exact ⟨⟨(h2.block p h.plt (by simpa using h.ne)).trans h.tab, h1⟩, h2⟩
theorem wpStill_index {P : Program} {ops : Array Oper} {w : World} {Q : Act → Prop} {o : Oper} {rest : List Oper} {a : Act} (hg : o.guard = none) (t : TypeId) (x y : Operand) (ho : o.op = .indexAddr t x y) (ad : Addr) (len cap z size : Nat) (k : IntKind)
    (hu : P.underlying t = some (.slice (P.elem t))) (hs : (sizeOf (P.elem t)).run P w = .ok size w) (hx : a.eval x = .slice (some ad) len cap) (hy : a.eval y = .int k (z : Nat)) (hz : z < len)
    (h : wpStill P ops w Q rest (a.put o.dst (.pointer (some (ad.add (z * size)))))) : wpStill P ops w Q (o :: rest) a := by
  unfold wpStill
  rw [if_pos (by simp [Region.wanted, hg])]
  unfold Oper.still
  have e : (execOp a.eval o).run P w = .ok (.value (.pointer (some (ad.add (z * size))))) w := by
    unfold execOp
    rw [ho]
    simp only [hx, hy]
    have e0 : (Instr.indexAt t (.slice (some ad) len cap) (.int k (z : Nat))).run P w = .ok (.pointer (some (ad.add (z * size)))) w := by
      rw [run_indexAt_slice (h := hu), if_pos ⟨by omega, by omega⟩, hs]
      simp [Result.andThen]
    simp [Sem.run_map, e0]
  rw [e]
  exact (Oper.stillUpon_value o a w _ _) ▸ h
structure WidInv (w wr : World) (p : Nat) (T : Tb) (c i : Nat) : Prop where
  ix : IxT wr p (T.growUp i) w.heap.size c
  only : Only [p] w wr
set_option maxHeartbeats 1000000 in
set_option maxRecDepth 4000 in
theorem widen_walk {w : World} {p : Nat} {T : Tb} {g c : Nat} (h : IxT w p T g c) (gd : T.Good) (hn : T.n ≤ 100000) (hkeys : T.Keys) :
    Calls Tryz.prog 158 #[ptr p] w fun e w' => e = .returned (.tuple #[]) ∧ IxT w' p T.grow w.heap.size c ∧ Only [p] w w' := by
  obtain ⟨cs, hmk, hsz, hcs⟩ := make_ix (2 * T.n) (by omega) w
  rw [Int.natCast_mul] at hmk
  have e2 : ((2 : Nat) : Int) = 2 := rfl
  rw [e2] at hmk
  have hnI : (T.n : Int) ≤ 100000 := by omega
  obtain ⟨c0, _⟩ := h.cells
  obtain ⟨z0, _⟩ := h.free
  have hplt := h.plt
  have hglt := h.lt
  have hne := h.ne
  have HLOOK : Hid (∀ i, i ≤ T.n → (T.growUp i).Ok ∧ (T.growUp i).n = 2 * T.n ∧ isSz (T.growUp i).n = true) := Lib.hid (fun i hi => by
    have q := gd.ok.growUp i hi
    obtain ⟨e, he⟩ := gd.pow
    exact ⟨q.ok, q.n, good_sz ⟨e + 1, by rw [q.n, he, Nat.pow_succ, Nat.mul_comm]⟩ (by rw [q.n]; omega)⟩)
  have HK := Lib.hid hkeys
  have HROW := Lib.hid h.row
  have htab := h.tab
  have hin : ∀ W, W = (w.setCell ⟨p, 0, none⟩ (.slice (some ⟨w.heap.size, 0, none⟩) (2 * T.n) (2 * T.n))).alloc (.cells cs 154) → WidInv w W p T c 0 := by
    rintro W rfl
    obtain ⟨t1, _, o1, _⟩ := two_heap htab (.slice (some ⟨w.heap.size, 0, none⟩) (2 * T.n) (2 * T.n))
    have hz1 : (w.setCell ⟨p, 0, none⟩ (.slice (some ⟨w.heap.size, 0, none⟩) (2 * T.n) (2 * T.n))).heap.size = w.heap.size := by simp [World.setCell]
    have k1 := heap_alloc_new (w.setCell ⟨p, 0, none⟩ (.slice (some ⟨w.heap.size, 0, none⟩) (2 * T.n) (2 * T.n))) (.cells cs 154)
    rw [hz1] at k1
    exact ⟨⟨(((Only.refl [] _).alloc (.cells cs 154)).block p (by omega) (by simp)).trans t1, rowT_new (m := 2 * T.n) k1 hsz hcs⟩, o1.alloc _⟩
  have HIN := Lib.hid hin
  clear h gd hkeys hsz hcs htab hin
  go_enter Tryz.func158, Tryz.ntmps158
  go_wp2_with fail
  have HI0 := Lib.hid (HIN.out _ rfl)
  generalize (w.setCell ⟨p, 0, none⟩ (.slice (some ⟨w.heap.size, 0, none⟩) (2 * T.n) (2 * T.n))).alloc (.cells cs 154) = W at HI0 ⊢
  clear c0 z0 hmk HIN
  go_loopg [20] T.n (fun gg s20 wr => ∃ i : Nat, i + gg = T.n ∧ s20 = .int .i64 (i : Nat) ∧ Hid (WidInv w wr p T c i))
  case atStart => exact ⟨0, by omega, rfl, HI0⟩
  case round =>
    obtain ⟨i, hi, rfl, HI⟩ := hrel
    by_cases hlt : i < T.n
    · have hltI : (i : Int) < (T.n : Int) := by omega
      obtain ⟨q0, q1, q2⟩ := (HROW.out.only HI.out.only (by simpa using hne.symm)).sl i hlt
      have hky := HK.out i hlt
      have HG : Hid (T.growUp (i + 1) = if (T.sl i).full then (T.growUp i).lay (T.sl i) else T.growUp i) := Lib.hid rfl
      obtain ⟨s, hs⟩ : ∃ s, T.sl i = s := ⟨_, rfl⟩
      rw [hs] at q0 q1 q2 hky HG
      obtain ⟨sk, sn, sf⟩ := s
      simp only at q0 q1 q2 hky HG
      clear hs
      cases sf
      · go_wp2
        go_roundg (gk - 1)
        case measure => omega
        case rel => exact ⟨i + 1, by omega, by go_num, Lib.hid ⟨by rw [HG.out]; exact HI.out.ix.only ((Only.refl [] _).alloc _) (by simp) (by simp), HI.out.only.alloc _⟩⟩
      · obtain ⟨gok, gn, gsz⟩ := HLOOK.out i (by omega)
        have hl := look_walk (HI.out.ix.below ((Below.refl _ _).alloc (Nat.le_refl _) (.cells #[.int .u64 (sk : Nat), .int .i32 sn, .bool true] 154))) gok gsz sk hky
        have hlk := gok.look_lt sk
        have HLK := Lib.hid hl
        rw [gn] at hlk
        have HG2 : Hid (T.growUp (i + 1) = ⟨(T.growUp i).n, fun j => if j = (T.growUp i).look sk then ⟨sk, sn, true⟩ else (T.growUp i).sl j⟩) := Lib.hid HG.out
        clear hl gok gn gsz HG
        generalize (T.growUp i).look sk = lk at HLK hlk HG2 ⊢
        generalize (T.growUp i).there sk = th at HLK ⊢
        go_wp2_with fail
        refine HLK.out.mono ?_
        rintro e w2 ⟨rfl, hb⟩
        have hbr : Below wr.heap.size wr w2 := ((Below.refl _ _).alloc (Nat.le_refl _) _).trans (hb.mono (by simp))
        have hblk := heap_alloc_new wr (.cells #[.int .u64 (sk : Nat), .int .i32 sn, .bool true] 154)
        have hsb := head_row ((hb.block wr.heap.size (by simp)).trans hblk)
        have s0 : w2.cell? ⟨wr.heap.size, 0, none⟩ = some (.int .u64 (sk : Nat)) := hsb.cell (i := 0) (by simp)
        have s1 : w2.cell? ⟨wr.heap.size, 1, none⟩ = some (.int .i32 sn) := hsb.cell (i := 1) (by simp)
        have s2 : w2.cell? ⟨wr.heap.size, 2, none⟩ = some (.bool true) := hsb.cell (i := 2) (by simp)
        have hx2 := HI.out.ix.below hbr
        obtain ⟨p0, _⟩ := hx2.cells
        obtain ⟨N, hN⟩ : ∃ N, (T.growUp i).n = N := ⟨_, rfl⟩
        have hlkN : lk < N := by rw [← hN, Tb.growUp_n]; exact hlk
        rw [hN] at p0
        have HXD := Lib.hid (hx2.only (Only.refl [] w2).drew (by simp) (by simp))
        have HNN := Lib.hid hN
        have HO2 : Hid (Only [p] w w2.drew) := Lib.hid (HI.out.only.trans (Only.of_below (S := []) hbr) (by simp)).drew
        clear hb hbr hblk hsb hx2 HLK q0 q1 q2 hky hlk hltI hnI hN
        go_wp2_with fail
        generalize wr.heap.size = B at s0 s1 s2 ⊢
        refine wp_region_still_tail 7 (by kernel_rfl) (by kernel_rfl) ?_
        simp only [List.take_succ_cons, List.take_zero, List.drop_succ_cons, List.drop_zero]
        have s0 : w2.drew.cell? ⟨B, 0, none⟩ = some (.int .u64 (sk : Nat)) := s0
        have s1 : w2.drew.cell? ⟨B, 1, none⟩ = some (.int .i32 sn) := s1
        have s2 : w2.drew.cell? ⟨B, 2, none⟩ = some (.bool true) := s2
        have p0 : w2.drew.cell? ⟨p, 0, none⟩ = some (.slice (some ⟨w.heap.size, 0, none⟩) N N) := p0
        change wpStill _ _ w2.drew (fun a' => wpList _ _ _ _ a' w2.drew) _ _
        generalize w2.drew = w3 at HXD HO2 s0 s1 s2 p0 ⊢
        still_step -- 1
        still_step -- 2
        still_step -- 3
        still_step -- 4
        still_step -- 5
        still_step -- 6
        refine wpStill_index rfl 143 (.tmp 36) (.tmp 37) rfl ⟨w.heap.size, 0, none⟩ N N lk 3 .i64 (by simp [go_sem]) (by simp [go_sem]) rfl rfl hlkN ?_
        simp only [Act.put, List.setIfInBounds_toArray, List.set_cons_succ, List.set_cons_zero, Addr.add_lit, Nat.zero_add]
        refine wpStill_nil ?_
        clear p0 s0 s1 s2
        obtain ⟨r0, r1, r2⟩ := HXD.out.row.sl lk (by rw [HNN.out]; exact hlkN)
        obtain ⟨f0, f1, f2⟩ := HXD.out.row.free lk (by rw [HNN.out]; exact hlkN)
        obtain ⟨hp1, hp2⟩ := HXD.out.put lk ⟨sk, sn, true⟩
        have HN : Hid (∀ V, V = (((w3.setCell ⟨w.heap.size, lk * 3, none⟩ (.int .u64 (sk : Nat))).setCell ⟨w.heap.size, lk * 3 + 1, none⟩ (.int .i32 sn)).setCell ⟨w.heap.size, lk * 3 + 2, none⟩ (.bool true)) → WidInv w V p T c (i + 1)) := Lib.hid (by
          rintro V rfl
          exact ⟨by rw [HG2.out]; exact hp1, HO2.out.trans hp2 (by simp)⟩)
        clear hp1 hp2
        go_wp2
        go_roundg (gk - 1)
        case measure => omega
        case rel => exact ⟨i + 1, by omega, by go_num, Lib.hid (HN.out _ rfl)⟩
    · obtain rfl : i = T.n := by omega
      have hge : ¬ (T.n : Int) < (T.n : Int) := by omega
      go_wp2
      exact bodyPost_end (results_none rfl _ _ _) rfl ⟨rfl, HI.out.ix, HI.out.only⟩
theorem put_sz {T : Tb} (gd : T.Good) (hn : T.n ≤ 100000) : isSz T.n = true ∧ isSz T.grow.n = true := by
  obtain ⟨e, he⟩ := gd.pow
  have q := gd.ok.grown.2.1
  exact ⟨good_sz ⟨e, he⟩ (by omega), good_sz ⟨e + 1, by rw [q, he, Nat.pow_succ, Nat.mul_comm]⟩ (by rw [q]; omega)⟩
theorem IxT.keys {w : World} {p : Nat} {T : Tb} {g c : Nat} (h : IxT w p T g c) (c' : Nat) (z : Int) (hz : z = (c' : Nat)) :
    IxT (w.setCell ⟨p, 1, none⟩ (.int .i64 z)) p T g c' ∧ Only [p] w (w.setCell ⟨p, 1, none⟩ (.int .i64 z)) := by
  subst hz
  obtain ⟨_, t1, _, o1⟩ := two_heap h.tab (.int .i64 (c' : Nat))
  exact ⟨⟨t1, h.row.only o1 (by simpa using h.ne.symm)⟩, o1⟩
structure PutTo (w w' : World) (p g : Nat) (U : Tb) : Prop where
  only : Only [p, g] w w'
  ix : ∃ g', (g' = g ∨ w.heap.size ≤ g') ∧ IxT w' p U g' U.cnt
set_option maxHeartbeats 1000000 in
theorem put_walk {w : World} {p : Nat} {T : Tb} {g : Nat} (h : IxT w p T g T.cnt) (gd : T.Good) (hn : T.n ≤ 100000) (hkeys : T.Keys) (k : Nat) (hk : k < 18446744073709551616) (v : Int) :
    Calls Tryz.prog 153 #[ptr p, .int .u64 (k : Nat), .int .i32 v] w fun e w' => e = .returned (.tuple #[]) ∧ PutTo w w' p g (T.put k v) := by
  obtain ⟨hs, hs2⟩ := put_sz gd hn
  obtain ⟨gk1, gk2, gk3, _⟩ := gd.ok.grown
  have hlk := gd.ok.look_lt k
  have hcle : T.cnt ≤ T.n := cntB_le _ _
  have hcI : (T.cnt : Int) ≤ 100000 := by omega
  have hnI : (T.n : Int) ≤ 100000 := by omega
  have HL := Lib.hid (look_walk h gd.ok hs k hk)
  have hpc := (gd.put_all k v).2.1
  have HX := Lib.hid h
  have HW := Lib.hid (fun w' (q : IxT w' p T g T.cnt) => widen_walk q gd hn hkeys)
  have HL2 := Lib.hid (fun w' g' (q : IxT w' p T.grow g' T.cnt) => look_walk q gk1 hs2 k hk)
  have hlk2 := gk1.look_lt k
  rw [gk2] at hlk2
  have HGN := Lib.hid gk2
  obtain ⟨th, hth⟩ : ∃ th, T.there k = th := ⟨_, rfl⟩
  rw [hth] at HL hpc
  have HTH := Lib.hid hth
  have HLAY : Hid (∀ (U : Tb) lk, U.look k = lk → U.lay ⟨k, v, true⟩ = ⟨U.n, fun j => if j = lk then ⟨k, v, true⟩ else U.sl j⟩) := Lib.hid (by rintro U lk rfl; rfl)
  have HPC := Lib.hid hpc
  clear h gd hkeys hth hpc gk1 gk2 gk3 hs hs2
  cases th
  · have hpc : Hid ((T.put k v).cnt = T.cnt + 1) := HPC
    clear HPC
    by_cases hcr : 3 * T.n < 4 * T.cnt + 4
    · obtain ⟨lk, hlkE⟩ : ∃ lk, T.grow.look k = lk := ⟨_, rfl⟩
      have HPUT : Hid (T.put k v = ⟨T.grow.n, fun j => if j = lk then ⟨k, v, true⟩ else T.grow.sl j⟩) := Lib.hid (by
        unfold Tb.put
        rw [if_pos ⟨HTH.out, hcr⟩, HLAY.out _ _ hlkE])
      rw [hlkE] at hlk2 HL2
      clear hlkE HLAY HTH hlk
      generalize T.look k = lk0 at HL ⊢
      obtain ⟨th2, hth2⟩ : ∃ th2, T.grow.there k = th2 := ⟨_, rfl⟩
      rw [hth2] at HL2
      clear hth2
      have HCW := Lib.hid (fun w' (q : IxT w' p T g T.cnt) => crowded_walk q (by omega) (by omega))
      rw [decide_eq_true hcr] at HCW
      go_enter Tryz.func153, Tryz.ntmps153
      go_wp2_with fail
      refine HL.out.mono ?_
      rintro e w1 ⟨rfl, hb⟩
      have H1 := Lib.hid (HX.out.below hb)
      have HB1 := Lib.hid hb
      clear hb
      go_wp2_with fail
      refine (HCW.out _ H1.out).mono ?_
      rintro e w2 ⟨rfl, hb⟩
      have H2 := Lib.hid (H1.out.below hb)
      have HB2 := Lib.hid (HB1.out.trans (hb.mono HB1.out.size))
      clear hb
      go_wp2_with fail
      refine (HW.out _ H2.out).mono ?_
      rintro e w3 ⟨rfl, i3, o3⟩
      have HI3 := Lib.hid i3
      have HO3 := Lib.hid ((Only.of_below (S := [p, g]) HB2.out).trans o3 (by simp))
      clear i3 o3
      go_wp2_with fail
      refine (HL2.out _ _ HI3.out).mono ?_
      rintro e w4 ⟨rfl, hb⟩
      have hx := HI3.out.below hb
      have ho4 := HO3.out.trans (Only.of_below (S := []) hb) (by simp)
      obtain ⟨c0, c1⟩ := hx.cells
      obtain ⟨z0, z1⟩ := hx.free
      obtain ⟨k5, o5⟩ := hx.keys (T.cnt + 1) ((T.cnt : Int) + 1) rfl
      have HK5 := Lib.hid k5
      have HO5 := Lib.hid (ho4.trans o5 (by simp))
      clear hx ho4 k5 o5 hb HL HX H1 H2 HL2 HW HCW HI3 HO3
      rw [HGN.out] at c0
      go_upto_region 7 with fail
      have i5 := HK5.out
      generalize w4.setCell ⟨p, 1, none⟩ (.int .i64 ((T.cnt : Int) + 1)) = w5 at i5 HO5 ⊢
      clear c0 c1 z0 z1 HK5
      obtain ⟨c0, c1⟩ := i5.cells
      rw [HGN.out] at c0
      obtain ⟨q0, q1, q2⟩ := i5.row.sl lk (by rw [HGN.out]; exact hlk2)
      obtain ⟨f0, f1, f2⟩ := i5.row.free lk (by rw [HGN.out]; exact hlk2)
      obtain ⟨i6, o6⟩ := i5.put lk ⟨k, v, true⟩
      have HI := Lib.hid i6
      have HO := Lib.hid (HO5.out.trans o6 (fun x hx => by have := HB2.out.size; simp at hx; omega))
      have hlkI : (lk : Int) < 2 * (T.n : Int) := by omega
      clear i5 i6 o6 HO5
      go_wp2_with fail
      exact bodyPost_end (results_none rfl _ _ _) rfl ⟨rfl, HO.out, _, .inr HB2.out.size, by rw [hpc.out, HPUT.out]; exact HI.out⟩
    · obtain ⟨lk, hlkE⟩ : ∃ lk, T.look k = lk := ⟨_, rfl⟩
      have HPUT : Hid (T.put k v = ⟨T.n, fun j => if j = lk then ⟨k, v, true⟩ else T.sl j⟩) := Lib.hid (by
        unfold Tb.put
        rw [if_neg (fun q => hcr q.2), HLAY.out _ _ hlkE])
      rw [hlkE] at hlk HL
      clear hlkE HLAY HTH HL2 hlk2 HW HGN
      have HCW := Lib.hid (fun w' (q : IxT w' p T g T.cnt) => crowded_walk q (by omega) (by omega))
      rw [decide_eq_false hcr] at HCW
      go_enter Tryz.func153, Tryz.ntmps153
      go_wp2_with fail
      refine HL.out.mono ?_
      rintro e w1 ⟨rfl, hb⟩
      have H1 := Lib.hid (HX.out.below hb)
      have HB1 := Lib.hid hb
      clear hb
      go_wp2_with fail
      refine (HCW.out _ H1.out).mono ?_
      rintro e w2 ⟨rfl, hb⟩
      have hx := H1.out.below hb
      have ho4 := Only.of_below (S := [p, g]) (HB1.out.trans (hb.mono HB1.out.size))
      obtain ⟨c0, c1⟩ := hx.cells
      obtain ⟨z0, z1⟩ := hx.free
      obtain ⟨k5, o5⟩ := hx.keys (T.cnt + 1) ((T.cnt : Int) + 1) rfl
      have HK5 := Lib.hid k5
      have HO5 := Lib.hid (ho4.trans o5 (by simp))
      clear hx ho4 k5 o5 hb HL HX H1 HCW
      go_upto_region 7 with fail
      have i5 := HK5.out
      generalize w2.setCell ⟨p, 1, none⟩ (.int .i64 ((T.cnt : Int) + 1)) = w5 at i5 HO5 ⊢
      clear c0 c1 z0 z1 HK5
      obtain ⟨c0, c1⟩ := i5.cells
      obtain ⟨q0, q1, q2⟩ := i5.row.sl lk hlk
      obtain ⟨f0, f1, f2⟩ := i5.row.free lk hlk
      obtain ⟨i6, o6⟩ := i5.put lk ⟨k, v, true⟩
      have HI := Lib.hid i6
      have HO := Lib.hid (HO5.out.trans o6 (by simp))
      clear i5 i6 o6 HO5
      go_wp2_with fail
      exact bodyPost_end (results_none rfl _ _ _) rfl ⟨rfl, HO.out, _, .inl rfl, by rw [hpc.out, HPUT.out]; exact HI.out⟩
  · obtain ⟨lk, hlkE⟩ : ∃ lk, T.look k = lk := ⟨_, rfl⟩
    have hpc : Hid ((T.put k v).cnt = T.cnt) := HPC
    have HPUT : Hid (T.put k v = ⟨T.n, fun j => if j = lk then ⟨k, v, true⟩ else T.sl j⟩) := Lib.hid (by
      unfold Tb.put
      rw [if_neg (fun q => absurd (HTH.out.symm.trans q.1) (by decide)), HLAY.out _ _ hlkE])
    rw [hlkE] at hlk HL
    clear hlkE HLAY HTH HL2 hlk2 HW HGN HPC
    go_enter Tryz.func153, Tryz.ntmps153
    go_wp2_with fail
    refine HL.out.mono ?_
    rintro e w1 ⟨rfl, hb⟩
    have hx := HX.out.below hb
    obtain ⟨c0, c1⟩ := hx.cells
    obtain ⟨q0, q1, q2⟩ := hx.row.sl lk hlk
    obtain ⟨f0, f1, f2⟩ := hx.row.free lk hlk
    obtain ⟨i1, i2⟩ := hx.put lk ⟨k, v, true⟩
    have HI := Lib.hid i1
    have HO := Lib.hid ((Only.of_below (S := [p, g]) hb).trans i2 (by simp))
    clear hx i1 i2 hb HL HX
    go_wp2_with fail
    exact bodyPost_end (results_none rfl _ _ _) rfl ⟨rfl, HO.out, _, .inl rfl, by rw [hpc.out, HPUT.out]; exact HI.out⟩
end Go.Proofs.YtkhikpnlpcankaaGreat
