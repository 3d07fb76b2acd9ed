/- The program's table: what is told of it, and nothing changed. -/
import Derived.Test.YtdolljjfikfhpaaHxW
import Derived.Test.YtdolljjfikfhpaaHxB
import Derived.Test.YtdolljjfikfhpaaOnly
namespace Go.Proofs.Ytdolljjfikfhpaa
open Go Go.RowKit Go.Deep

theorem apart_mask (n : Int) (i : Nat) (hi : i < 31) : bits .and .i64 n (2 ^ i - 1) = n % 2 ^ i := by
  have hp := pow_le30 i hi
  have hq := pow_pos2 i
  have hm : (BitVec.ofInt 64 ((2 : Int) ^ i - 1)).toNat = 2 ^ i - 1 := by
    rw [BitVec.toNat_ofInt]
    have e : ((2 : Int) ^ i) = ((2 ^ i : Nat) : Int) := by simp
    rw [e] at hp hq ⊢
    omega
  have key : (BitVec.ofInt 64 n &&& BitVec.ofInt 64 ((2 : Int) ^ i - 1)).toNat = (n % ((2 ^ 64 : Nat) : Int)).toNat % 2 ^ i := by
    rw [BitVec.toNat_and, BitVec.toNat_ofInt, hm, Nat.and_two_pow_sub_one_eq_mod]
  have e0 : 0 ≤ n % ((2 ^ 64 : Nat) : Int) := Int.emod_nonneg _ (by decide)
  have e1 : (((n % ((2 ^ 64 : Nat) : Int)).toNat % 2 ^ i : Nat) : Int) = n % 2 ^ i := by
    rw [Int.natCast_emod, Int.toNat_of_nonneg e0]
    have hd : ((2 ^ i : Nat) : Int) ∣ ((2 ^ 64 : Nat) : Int) := Int.natCast_dvd_natCast.2 (Nat.pow_dvd_pow 2 (by omega))
    rw [Int.emod_emod_of_dvd n hd]
    simp
  show IntKind.i64.wrap ((BitVec.ofInt 64 n &&& BitVec.ofInt 64 ((2 : Int) ^ i - 1)).toNat : Nat) = n % 2 ^ i
  rw [key, e1, IntKind.wrap_i64]
  have v0 : 0 ≤ n % 2 ^ i := Int.emod_nonneg _ (by omega)
  have v1 : n % 2 ^ i < 2 ^ i := Int.emod_lt_of_pos _ hq
  omega

theorem apart_is (w : World) (x y n : Nat) (h : isSz n = true) (hx : x < n) (hy : y < n) :
    Calls Try.prog 40 #[.int .i64 (x : Nat), .int .i64 (y : Nat), .int .i64 (n : Nat)] w fun e w' => e = .returned (.int .i64 (away x y n : Nat)) ∧ w = w' := by
  obtain ⟨h1, h2⟩ := isSz_bounds h
  have H := Lib.hid h
  clear h
  go_enter Try.func40, Try.ntmps40
  go_wp2_with fail
  refine (isSize_is _ _ true H.out).mono ?_
  rintro e w' ⟨rfl, rfl⟩
  go_wp2
  go_ret
  obtain ⟨i, hi, hn⟩ := (isSz_iff _).1 H.out
  have e1 : ((away x y n : Nat) : Int) = ((y : Int) - x) % n := by
    rw [away_eq hx hy]
    split
    · rw [Int.emod_eq_of_lt (by omega) (by omega)]; omega
    · rw [← Int.add_emod_right, Int.emod_eq_of_lt (by omega) (by omega)]; omega
  rw [e1, hn]
  exact ⟨congrArg (fun z => Ending.returned (Value.int .i64 z)) (apart_mask _ i hi), rfl⟩

/- A row of slots, of any kind. -/
def RowT (t : TypeId) (w : World) (g m : Nat) (sl : Nat → Sl) : Prop := ∃ (N : Nat) (F : Nat → Value), w.rowIs g t N F ∧ m * 3 ≤ N ∧ ∀ p, p < m * 3 → F p = slV sl p
theorem rowT_put {t : TypeId} {w : World} {g m : Nat} {sl : Nat → Sl} (h : RowT t w g m sl) (i : Nat) (s : Sl) :
    RowT t (((w.setCell ⟨g, i * 3, none⟩ (.int .u64 (s.key : Nat))).setCell ⟨g, i * 3 + 1, none⟩ (.int .i32 s.n)).setCell ⟨g, i * 3 + 2, none⟩ (.bool s.full)) g m (fun j => if j = i then s else sl j) ∧
    Only [g] w (((w.setCell ⟨g, i * 3, none⟩ (.int .u64 (s.key : Nat))).setCell ⟨g, i * 3 + 1, none⟩ (.int .i32 s.n)).setCell ⟨g, i * 3 + 2, none⟩ (.bool s.full)) := by
  obtain ⟨N, F, hF, hN, hv⟩ := h
  refine ⟨⟨N, _, ((hF.set _ _).set _ _).set _ _, hN, fun p hp => ?_⟩, ((((Only.refl [g] w).setCell (by simp) _).setCell (by simp) _).setCell (by simp) _)⟩
  have key : ∀ j, j < 3 → slV (fun j => if j = i then s else sl j) (i * 3 + j) = slotW s j := fun j hj => by rw [slV_at _ _ _ hj, if_pos rfl]
  rcases split3 p i with h1 | rfl | rfl | rfl
  · have e : slV (fun j => if j = i then s else sl j) p = slV sl p := by unfold slV; show slotW (if p / 3 = i then s else sl (p / 3)) (p % 3) = _; rw [if_neg h1]
    rw [e, ← hv p hp]
    rw [if_neg (by omega), if_neg (by omega), if_neg (by omega)]
  · rw [show i * 3 = i * 3 + 0 from rfl, key 0 (by decide)]; simp [slotW]
  · rw [key 1 (by decide)]; simp [slotW]
  · rw [key 2 (by decide)]; simp [slotW]
theorem RowT.only {t : TypeId} {S : List Nat} {w w' : World} {g m : Nat} {sl : Nat → Sl} (h : RowT t w g m sl) (ho : Only S w w') (hg : g ∉ S) : RowT t w' g m sl := by
  obtain ⟨N, F, hF, hN, hv⟩ := h
  exact ⟨N, F, ho.row hF hg, hN, hv⟩
theorem RowT.cell {t : TypeId} {w : World} {g m : Nat} {sl : Nat → Sl} (h : RowT t w g m sl) (p : Nat) (hp : p < m * 3) : w.cell? ⟨g, p, none⟩ = some (slV sl p) ∧ w.frozen? ⟨g, p, none⟩ = false := by
  obtain ⟨N, F, hF, hN, hv⟩ := h
  rw [← hv p hp]
  exact ⟨hF.cell (by omega), hF.frozen p⟩
theorem RowT.lt {t : TypeId} {w : World} {g m : Nat} {sl : Nat → Sl} (h : RowT t w g m sl) : g < w.heap.size := by obtain ⟨N, F, hF, _⟩ := h; exact hF.lt
theorem RowT.sl {t : TypeId} {w : World} {g m : Nat} {sl : Nat → Sl} (h : RowT t w g m sl) (i : Nat) (hi : i < m) : SlAt w g i (sl i) :=
  ⟨by have := (h.cell (i * 3 + 0) (by omega)).1; rw [slV_at _ _ _ (by decide)] at this; exact this, by have := (h.cell (i * 3 + 1) (by omega)).1; rw [slV_at _ _ _ (by decide)] at this; exact this, by have := (h.cell (i * 3 + 2) (by omega)).1; rw [slV_at _ _ _ (by decide)] at this; exact this⟩
theorem RowT.free {t : TypeId} {w : World} {g m : Nat} {sl : Nat → Sl} (h : RowT t w g m sl) (i : Nat) (hi : i < m) : w.frozen? ⟨g, i * 3, none⟩ = false ∧ w.frozen? ⟨g, i * 3 + 1, none⟩ = false ∧ w.frozen? ⟨g, i * 3 + 2, none⟩ = false :=
  ⟨(h.cell (i * 3) (by omega)).2, (h.cell (i * 3 + 1) (by omega)).2, (h.cell (i * 3 + 2) (by omega)).2⟩
/- The program's table lies at p, its slots in block g; c: how many keys it says. -/
structure IxT (w : World) (p : Nat) (T : Tb) (g c : Nat) : Prop where
  tab : w.heap[p]? = some (.cells #[.slice (some ⟨g, 0, none⟩) T.n T.n, .int .i64 (c : Nat)] 59 (0, 0))
  row : RowT 56 w g T.n T.sl
theorem IxT.plt {w : World} {p : Nat} {T : Tb} {g c : Nat} (h : IxT w p T g c) : p < w.heap.size := (head_row h.tab).lt
theorem IxT.lt {w : World} {p : Nat} {T : Tb} {g c : Nat} (h : IxT w p T g c) : g < w.heap.size := h.row.lt
theorem IxT.sl {w : World} {p : Nat} {T : Tb} {g c : Nat} (h : IxT w p T g c) (i : Nat) (hi : i < T.n) : SlAt w g i (T.sl i) := h.row.sl i hi
theorem IxT.ne {w : World} {p : Nat} {T : Tb} {g c : Nat} (h : IxT w p T g c) : p ≠ g := by
  obtain ⟨N, F, hF, _⟩ := h.row
  exact block_ne (head_row h.tab) hF (by decide)
theorem IxT.only {S : List Nat} {w w' : World} {p : Nat} {T : Tb} {g c : Nat} (h : IxT w p T g c) (ho : Only S w w') (hp : p ∉ S) (hg : g ∉ S) : IxT w' p T g c :=
  ⟨(ho.block p h.plt hp).trans h.tab, h.row.only ho hg⟩
theorem IxT.below {w w' : World} {p : Nat} {T : Tb} {g c : Nat} (h : IxT w p T g c) (hb : Below w.heap.size w w') : IxT w' p T g c :=
  h.only (Only.of_below (S := []) hb) (by simp) (by simp)
theorem IxT.cells {w : World} {p : Nat} {T : Tb} {g c : Nat} (h : IxT w p T g c) : w.cell? ⟨p, 0, none⟩ = some (.slice (some ⟨g, 0, none⟩) T.n T.n) ∧ w.cell? ⟨p, 1, none⟩ = some (.int .i64 (c : Nat)) :=
  ⟨(head_row h.tab).cell (i := 0) (by simp), (head_row h.tab).cell (i := 1) (by simp)⟩
abbrev ptr (p : Nat) : Value := .pointer (some ⟨p, 0, none⟩)

theorem next_walk {w : World} {p : Nat} {T : Tb} {g c : Nat} (h : IxT w p T g c) (hn : T.n ≤ 1073741824) (x : Nat) (hx : x < T.n) :
    Calls Try.prog 39 #[ptr p, .int .i64 (x : Nat)] w fun e w' => e = .returned (.int .i64 ((x + 1) % T.n : Nat)) ∧ w = w' := by
  obtain ⟨c0, _⟩ := h.cells
  clear h
  go_enter Try.func39, Try.ntmps39
  go_wp2
  go_ret
  exact ⟨congrArg (fun z => Ending.returned (Value.int .i64 z)) (by rw [Int.natCast_emod]; rfl), rfl⟩

theorem home_is (w : World) (k n : Nat) (h : isSz n = true) :
    Calls Try.prog 22 #[.int .u64 (k : Nat), .int .i64 (n : Nat)] w fun e w' => e = .returned (.int .i64 (hm k n : Nat)) ∧ w' = w.alloc box :=
  (home_yes w k n h).mono fun _ _ ⟨h1, h2⟩ => ⟨h1.trans (congrArg (fun z => Ending.returned (Value.int .i64 z)) (by rw [hm_mixN]; exact (Int.natCast_emod _ _).symm)), h2⟩

theorem fromHome_walk {w : World} {p : Nat} {T : Tb} {g c : Nat} (h : IxT w p T g c) (hs : isSz T.n = true) (k x : Nat) (hx : x < T.n) :
    Calls Try.prog 28 #[ptr p, .int .u64 (k : Nat), .int .i64 (x : Nat)] w fun e w' => e = .returned (.int .i64 (away (hm k T.n) x T.n : Nat)) ∧ Below w.heap.size w w' := by
  obtain ⟨c0, _⟩ := h.cells
  have HH := Lib.hid (fun w => home_is w k T.n hs)
  have HA := Lib.hid (fun w => apart_is w (hm k T.n) x T.n hs (hm_lt k (by omega)) hx)
  clear h hs
  go_enter Try.func28, Try.ntmps28
  go_wp2_with fail
  refine (HH.out _).mono ?_
  rintro e w' ⟨rfl, rfl⟩
  go_wp2_with fail
  refine (HA.out _).mono ?_
  rintro e w' ⟨rfl, rfl⟩
  go_wp2
  go_ret
  exact ⟨rfl, (Below.refl _ _).alloc (Nat.le_refl _) _⟩

set_option maxHeartbeats 1000000 in
theorem look_walk {w : World} {p : Nat} {T : Tb} {g c : Nat} (h : IxT w p T g c) (ok : T.Ok) (hs : isSz T.n = true) (k : Nat) (hk : k < 18446744073709551616) :
    Calls Try.prog 26 #[ptr p, .int .u64 (k : Nat)] w fun e w' => e = .returned (.tuple #[.int .i64 (T.look k : Nat), .bool (T.there k)]) ∧ Below w.heap.size w w' := by
  have hp := ok.pos
  obtain ⟨_, hsz⟩ := isSz_bounds hs
  have hsz' : T.n ≤ 1073741824 := by omega
  obtain ⟨c0, _⟩ := h.cells
  have HH := Lib.hid (fun w => home_is w k T.n hs)
  have HX := Lib.hid h
  have HOK := Lib.hid ok
  have HST := Lib.hid (ok.steps_lt k)
  have HLK : Hid (T.look k = T.go k (T.steps k)) := Lib.hid rfl
  have H0 : Hid (hm k T.n = T.go k 0) := Lib.hid (by unfold Tb.go; rw [Nat.add_zero, Nat.mod_eq_of_lt (hm_lt k hp)])
  clear h hs ok
  go_enter Try.func26, Try.ntmps26
  go_wp2_with fail
  go_step3
  go_wp2_with fail
  refine (HH.out _).mono ?_
  rintro e w' ⟨rfl, rfl⟩
  rw [H0.out]
  have HB1 := Lib.hid ((Below.refl w.heap.size w).alloc (Nat.le_refl _) box)
  generalize w.alloc box = w1 at HB1 ⊢
  clear c0
  go_wp2_with fail
  go_step3
  go_wp2_with fail
  go_loopg [4, 5] (T.steps k) (fun gg s4 s5 wr => ∃ i : Nat, i + gg = T.steps k ∧ s4 = .int .i64 (T.go k i : Nat) ∧ s5 = .bool false ∧ Hid (Below w.heap.size w wr))
  case atStart => exact ⟨0, by omega, rfl, rfl, HB1⟩
  case round =>
    obtain ⟨i, hi, rfl, rfl, HBR⟩ := hrel
    have hst := HST.out
    have hxr := HX.out.below HBR.out
    obtain ⟨c0, _⟩ := hxr.cells
    obtain ⟨x, hx⟩ : ∃ x, T.go k i = x := ⟨_, rfl⟩
    have hxn : x < T.n := hx ▸ T.go_lt hp k i
    obtain ⟨q0, q1, q2⟩ := hxr.sl x hxn
    by_cases hii : i = T.steps k
    · have hlk : T.look k = x := by rw [HLK.out, ← hii, hx]
      have hstp := HOK.out.look_stops k
      rw [hlk] at hstp
      have HE : Hid (T.look k = x ∧ T.there k = (T.sl x).full) := Lib.hid ⟨hlk, by unfold Tb.there; rw [hlk]⟩
      have HSP := Lib.hid hstp
      rw [hx]
      obtain ⟨sx, hsx⟩ : ∃ sx, T.sl x = sx := ⟨_, rfl⟩
      rw [hsx] at q0 q1 q2 HSP HE
      obtain ⟨sk, sn, sf⟩ := sx
      clear hsx hstp hlk hii hi hx hxr
      cases sf
      · simp only at q0 q1 q2
        go_wp2
        exact bodyPost_ret (v := .tuple #[.int .i64 (x : Nat), .bool false]) (by simp [results, Try.results26, go_sem]) rfl ⟨by rw [HE.out.1, HE.out.2], HBR.out.alloc HBR.out.size _⟩
      · obtain rfl : sk = k := by
          rcases HSP.out with q | q
          · exact absurd q (by simp)
          · exact q
        simp only at q0 q1 q2
        go_wp2
        exact bodyPost_ret (v := .tuple #[.int .i64 (x : Nat), .bool true]) (by simp [results, Try.results26, go_sem]) rfl ⟨by rw [HE.out.1, HE.out.2], HBR.out.alloc HBR.out.size _⟩
    · have hlt : i < T.steps k := by omega
      obtain ⟨hf, hne⟩ := T.path k hlt
      have hnx := go_succ T k i
      rw [hx] at hf hne hnx ⊢
      obtain ⟨sx, hsx⟩ : ∃ sx, T.sl x = sx := ⟨_, rfl⟩
      rw [hsx] at q0 q1 q2 hf hne
      obtain ⟨sk, sn, sf⟩ := sx
      simp only at q0 q1 q2 hf hne
      subst hf
      have HXR := Lib.hid hxr
      clear hsx hx hxr
      have hneI : ((sk : Int) == (k : Int)) = false := by rw [beq_eq_false_iff_ne]; omega
      go_wp2_with fail
      refine (next_walk (HXR.out.below ((Below.refl _ _).alloc (Nat.le_refl _) _)) hsz' x hxn).mono ?_
      rintro e w' ⟨rfl, rfl⟩
      rw [hnx]
      go_wp2
      go_roundg (gk - 1)
      case measure => omega
      case rel => exact ⟨i + 1, by omega, rfl, rfl, Lib.hid (HBR.out.alloc HBR.out.size _)⟩

/- Behind what steps a key's slot is. -/
theorem Tb.Ok.steps_away {T : Tb} (ok : T.Ok) (k : Nat) : away (hm k T.n) (T.look k) T.n = T.steps k :=
  away_of (hm_lt k ok.pos) (ok.steps_lt k) rfl

theorem get_walk {w : World} {p : Nat} {T : Tb} {g c : Nat} (h : IxT w p T g c) (ok : T.Ok) (hs : isSz T.n = true) (k : Nat) (hk : k < 18446744073709551616) :
    Calls Try.prog 11 #[ptr p, .int .u64 (k : Nat)] w fun e w' => e = .returned (.tuple #[.int .i32 (T.get k).1, .bool (T.get k).2]) ∧ Below w.heap.size w w' := by
  have HL := Lib.hid (look_walk h ok hs k hk)
  have hlk := ok.look_lt k
  have HX := Lib.hid h
  have HGET : Hid (T.get k = ((T.sl (T.look k)).n, T.there k)) := Lib.hid rfl
  clear h ok hs
  go_enter Try.func11, Try.ntmps11
  go_wp2_with fail
  refine HL.out.mono ?_
  rintro e w1 ⟨rfl, hb⟩
  have hx := HX.out.below hb
  obtain ⟨c0, _⟩ := hx.cells
  obtain ⟨_, q1, _⟩ := hx.sl _ hlk
  have HB := Lib.hid hb
  clear hx hb
  obtain ⟨x, hx⟩ : ∃ x, T.look k = x := ⟨_, rfl⟩
  obtain ⟨b, hb⟩ : ∃ b, T.there k = b := ⟨_, rfl⟩
  rw [hx] at q1 hlk HGET ⊢
  rw [hb] at HGET ⊢
  clear hx hb
  go_wp2
  exact bodyPost_ret (v := .tuple #[.int .i32 (T.sl x).n, .bool b]) (by simp [results, Try.results11, go_sem]) rfl ⟨by rw [HGET.out], HB.out⟩

theorem probes_walk {w : World} {p : Nat} {T : Tb} {g c : Nat} (h : IxT w p T g c) (ok : T.Ok) (hs : isSz T.n = true) (k : Nat) (hk : k < 18446744073709551616) :
    Calls Try.prog 13 #[ptr p, .int .u64 (k : Nat)] w fun e w' => e = .returned (.int .i64 ((T.steps k : Nat) + 1)) ∧ Below w.heap.size w w' := by
  have HL := Lib.hid (look_walk h ok hs k hk)
  have hlk := ok.look_lt k
  obtain ⟨_, hsz⟩ := isSz_bounds hs
  have hst := ok.steps_lt k
  have HF := Lib.hid (fun w' (hb : Below w.heap.size w w') => fromHome_walk (h.below hb) hs k (T.look k) hlk)
  rw [ok.steps_away k] at HF
  clear h ok hs
  go_enter Try.func13, Try.ntmps13
  go_wp2_with fail
  refine HL.out.mono ?_
  rintro e w1 ⟨rfl, hb⟩
  have HB := Lib.hid hb
  have HF1 := Lib.hid (HF.out _ hb)
  clear hb HF HL
  go_wp2_with fail
  refine HF1.out.mono ?_
  rintro e w2 ⟨rfl, hb⟩
  have HB2 := Lib.hid (HB.out.trans (hb.mono HB.out.size))
  clear hb HF1
  go_wp2
  go_ret
  exact ⟨rfl, HB2.out⟩

theorem len_walk {w : World} {p : Nat} {T : Tb} {g c : Nat} (h : IxT w p T g c) :
    Calls Try.prog 17 #[ptr p] w fun e w' => e = .returned (.int .i64 (c : Nat)) ∧ w = w' := by
  obtain ⟨_, c1⟩ := h.cells
  clear h
  go_enter Try.func17, Try.ntmps17
  go_wp2
  go_ret
  exact ⟨rfl, rfl⟩
theorem slots_walk {w : World} {p : Nat} {T : Tb} {g c : Nat} (h : IxT w p T g c) :
    Calls Try.prog 18 #[ptr p] w fun e w' => e = .returned (.int .i64 (T.n : Nat)) ∧ w = w' := by
  obtain ⟨c0, _⟩ := h.cells
  clear h
  go_enter Try.func18, Try.ntmps18
  go_wp2
  go_ret
  exact ⟨rfl, rfl⟩
abbrev slT (s : Sl) : Value := .tuple #[.int .u64 (s.key : Nat), .int .i32 s.n, .bool s.full]
theorem slot_walk {w : World} {p : Nat} {T : Tb} {g c : Nat} (h : IxT w p T g c) (x : Nat) (hx : x < T.n) :
    Calls Try.prog 10 #[ptr p, .int .i64 (x : Nat)] w fun e w' => e = .returned (slT (T.sl x)) ∧ Below w.heap.size w w' := by
  obtain ⟨c0, _⟩ := h.cells
  obtain ⟨q0, q1, q2⟩ := h.sl _ hx
  have HS := Lib.hid (slots_walk h)
  clear h
  generalize T.sl x = s at q0 q1 q2 ⊢
  obtain ⟨sk, sn, sf⟩ := s
  simp only at q0 q1 q2 ⊢
  go_enter Try.func10, Try.ntmps10
  go_wp2_with fail
  refine HS.out.mono ?_
  rintro e w1 ⟨rfl, rfl⟩
  go_wp2_with fail
  go_region
  go_wp2
  exact bodyPost_ret (v := slT ⟨sk, sn, sf⟩) (by simp [results, Try.results10, go_sem]) rfl ⟨rfl, ((Below.refl w.heap.size w).alloc (Nat.le_refl _) _).drew⟩
/- The slots' number that a place has not. -/
theorem noslot_walk {w : World} {p : Nat} {T : Tb} {g c : Nat} (h : IxT w p T g c) (x : Int) (hx : x < 0 ∨ (T.n : Int) ≤ x) :
    Calls Try.prog 10 #[ptr p, .int .i64 x] w fun e w' => e = .returned (slT Sl.no) ∧ Below w.heap.size w w' := by
  have HS := Lib.hid (slots_walk h)
  clear h
  by_cases h0 : x < 0
  · go_enter Try.func10, Try.ntmps10
    go_wp2
    exact bodyPost_ret (v := slT Sl.no) (by simp [results, Try.results10, go_sem, Sl.no]) rfl ⟨rfl, Below.refl _ _⟩
  · have hx1 : (T.n : Int) ≤ x := by omega
    go_enter Try.func10, Try.ntmps10
    go_wp2_with fail
    refine HS.out.mono ?_
    rintro e w1 ⟨rfl, rfl⟩
    go_wp2
    exact bodyPost_ret (v := slT Sl.no) (by simp [results, Try.results10, go_sem, Sl.no]) rfl ⟨rfl, Below.refl _ _⟩
end Go.Proofs.Ytdolljjfikfhpaa
