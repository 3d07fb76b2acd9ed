/- Words and walks: SsN SsO SrY SsK SsI. -/
import Derived.Test.YtkhikpnlpcankaaGreatG12
import Derived.Test.YtkhikpnlpcankaaGreatG13
import Derived.Deep.QuietTactic
import Derived.BigQuiet
namespace Go.Proofs.YtkhikpnlpcankaaGreat
open Go Go.RowKit Go.Deep
section
variable {w0 w : World} {p b n : Nat} {l : Nat → List Nat} {A : St} {K : List Nat}
theorem held_new_k (hb : Below w0.heap.size w0 w) (hK : ∀ k ∈ K, k < w.heap.size) :
    Calls Tryz.prog 67 #[.int .i64 7] w fun e w' => e = .returned (.pointer (some ⟨w.heap.size, 0, none⟩)) ∧ Held w0 w' w.heap.size (St.first 8) K ∧ Kept K w w' := by
  refine (new_walk w 7 (by decide) (by decide)).mono ?_
  rintro e w' ⟨rfl, ho, ha⟩
  have hsz := hb.size
  refine ⟨rfl, ⟨hb.trans (ho.nil_below.mono hsz), first_ok _ (by omega), fun k hk => Nat.lt_of_lt_of_le (hK k hk) ho.size, _, _, by omega, by omega, by omega, fun q => ?_, fun q => ?_, fun q => ?_, ha⟩, fun k hk => ho.nil_below.block k (hK k hk)⟩
  · have := hK _ q; omega
  · have := hK _ q; omega
  · have := hK _ q; omega
theorem sq_make (h : HL w0 w p b n l A K) : ∃ F, (∀ k ∈ F, k < w.heap.size) ∧ ∀ w3 ix T, Below w.heap.size w w3 → HX w0 w3 ix T (F ++ K) → SQ w0 w3 p b ix n l A T K := by
  have hold := h.old
  obtain ⟨x, h1, h2, h3, h4⟩ := h
  obtain ⟨F, f1, f2⟩ := h1.foot
  refine ⟨F, fun k hk => (f1.old k hk).2, fun w3 ix T hb hx => ?_⟩
  obtain ⟨G, g1, g2⟩ := hx.foot
  have hxo := hx.old
  exact ⟨x, F, G, hx.below, f1.keep (fun k hk => ⟨hb.block k (f1.old k hk).2, hxo k (by simp [hk])⟩), h2, h3, h4, g1, fun k hk => ⟨fun q => g2 k q (by simp [hk]), f2 k hk⟩, fun k hk q => g2 k hk (by simp [q]), fun k hk => hxo k (by simp [hk])⟩
theorem sm_box {p b ix sp : Nat} {T : Tb} (h : SQ w0 w p b ix n l A T K) (hw : w0.heap.size ≤ w.heap.size) (hs : sp = w.heap.size) : SM w0 (w.alloc (.cells (partsC p n b ix) 103)) sp n l A T K := by
  subst hs
  refine ⟨p, b, ix, heap_alloc_new w _, h.other ((Below.refl _ _).alloc (Nat.le_refl _) _) (fun k hk => ?_), hw, fun q => ?_⟩
  · rcases List.mem_cons.1 hk with rfl | hk
    · exact ⟨.inr (Nat.le_refl _), by simp⟩
    · exact ⟨.inl hk, by have := h.old k hk; simp; omega⟩
  · have := h.old _ q; omega
end
section
variable {w0 w : World} {K : List Nat}
def NewPost (w0 w : World) (n : Nat) (K : List Nat) (e : Ending) (w' : World) : Prop :=
  ∃ sp, e = .returned (ptr sp) ∧ SM w0 w' sp n (fun _ => []) (St.first 8) Tb.new K ∧ Kept K w w'
theorem first_links : ∀ j, j ≠ 0 → ((St.first 8).node j).tag = 0 ∧ ((St.first 8).node j).prev = 0 ∧ ((St.first 8).node j).next = 0 := fun _ _ => ⟨rfl, rfl, rfl⟩
theorem numT_same (n : Nat) (h1 : 1 ≤ n) (h8 : n ≤ 8) : numT n = n := by
  unfold numT
  rw [if_neg (by omega), if_neg (by omega)]
  omega
set_option maxHeartbeats 1000000 in
theorem store_new_n (hb : Below w0.heap.size w0 w) (hK : ∀ k ∈ K, k < w.heap.size) (q : Int) (n : Nat) (h1 : 1 ≤ n) (h8 : n ≤ 8) (hq : q < 1 ∧ n = 1 ∨ 8 < q ∧ n = 8 ∨ 1 ≤ q ∧ q ≤ 8 ∧ q = n) :
    Calls Tryz.prog 31 #[.int .i64 q] w (NewPost w0 w n K) := by
  have HA := Lib.hid (held_new_k hb hK)
  have HN : Hid (∀ W, Held w0 W w.heap.size (St.first 8) K → Calls Tryz.prog 68 #[ptr w.heap.size, .int .i64 (n : Nat)] W fun e w' => ∃ p, e = .returned (ptr p) ∧ HL w0 w' p w.heap.size n (fun _ => []) (St.first 8) K ∧ Kept K W w') := Lib.hid (fun W hW => by
    have g := ilnew_walk hW (by decide) first_links (n : Nat)
    rw [numT_same n h1 h8] at g
    exact g.mono fun e w' ⟨he, hh, hk⟩ => ⟨_, he, hh, hk⟩)
  have HX := Lib.hid (fun (W : World) (hW : Below w0.heap.size w0 W) (K2 : List Nat) (hK2 : ∀ k ∈ K2, k < W.heap.size) => hx_new hW K2 hK2)
  have HB := Lib.hid hb
  have HK := Lib.hid hK
  clear hb hK
  rcases hq with ⟨hq, rfl⟩ | ⟨hq, rfl⟩ | ⟨hq, hq2, rfl⟩
  all_goals
    go_enter Tryz.func31, Tryz.ntmps31
    go_wp2_with fail
    refine HA.out.mono ?_
    rintro e w1 ⟨rfl, hh, hk⟩
    have HH := Lib.hid hh
    have HK1 := Lib.hid hk
    clear hh hk
    go_wp2_with fail
    refine (HN.out w1 HH.out).mono ?_
    rintro e w2 ⟨p, rfl, hh, hk⟩
    obtain ⟨F, hF, hmk⟩ := sq_make hh
    have HF := Lib.hid hF
    have HMK := Lib.hid hmk
    have HK2 := Lib.hid (Kept.trans HK1.out hk)
    have HHL := Lib.hid hh
    clear hh hk hF hmk
    go_wp2_with fail
    refine (HX.out w2 HHL.out.below (F ++ K) (fun k hk => by
      rcases List.mem_append.1 hk with q | q
      · exact HF.out k q
      · exact HHL.out.old k q)).mono ?_
    rintro e w3 ⟨ix, rfl, hx, hb3⟩
    have HSQ := Lib.hid (HMK.out _ _ _ hb3 hx)
    have HK3 := Lib.hid (HK2.out.low hb3 HHL.out.old)
    clear hx hb3
    go_wp2
    go_ret
    have hs := HSQ.out.below.size
    exact ⟨_, rfl, sm_box HSQ.out hs rfl, HK3.out.low ((Below.refl _ _).alloc (Nat.le_refl _) _) HSQ.out.old⟩
theorem store_new (hb : Below w0.heap.size w0 w) (hK : ∀ k ∈ K, k < w.heap.size) (q : Int) :
    Calls Tryz.prog 31 #[.int .i64 q] w (NewPost w0 w (numT q) K) := by
  have hn := numT_bounds q
  refine store_new_n hb hK q (numT q) hn.1 hn.2 ?_
  unfold numT
  by_cases h1 : q < 1
  · exact .inl ⟨h1, if_pos h1⟩
  · by_cases h8 : 8 < q
    · exact .inr (.inl ⟨h8, by rw [if_neg h1, if_pos h8]⟩)
    · exact .inr (.inr ⟨by omega, by omega, by rw [if_neg h1, if_neg h8]; omega⟩)
end
end Go.Proofs.YtkhikpnlpcankaaGreat
namespace Go.Proofs.YtkhikpnlpcankaaGreat
open Go Go.RowKit Go.Deep Go.Shelf
theorem has_nil (w : World) (tag : Int) : Calls Tryz.prog 118 #[.pointer none, .int .i64 tag] w fun e w' => e = .returned (.bool false) ∧ w = w' := by
  go_enter Tryz.func118, Tryz.ntmps118
  go_wp2
  go_ret
  exact ⟨rfl, rfl⟩
theorem front_nil (w : World) (tag : Int) : Calls Tryz.prog 133 #[.pointer none, .int .i64 tag] w fun e w' => e = .returned (.int .i32 0) ∧ w = w' := by
  go_enter Tryz.func133, Tryz.ntmps133
  go_wp2_with fail
  refine (has_nil w tag).mono ?_
  rintro e w' ⟨rfl, rfl⟩
  go_wp2
  go_ret
  exact ⟨rfl, rfl⟩
theorem back_nil (w : World) (tag : Int) : Calls Tryz.prog 128 #[.pointer none, .int .i64 tag] w fun e w' => e = .returned (.int .i32 0) ∧ w = w' := by
  go_enter Tryz.func128, Tryz.ntmps128
  go_wp2_with fail
  refine (has_nil w tag).mono ?_
  rintro e w' ⟨rfl, rfl⟩
  go_wp2
  go_ret
  exact ⟨rfl, rfl⟩
theorem count_nil (w : World) (tag : Int) : Calls Tryz.prog 92 #[.pointer none, .int .i64 tag] w fun e w' => e = .returned (.int .i64 0) ∧ w = w' := by
  go_enter Tryz.func92, Tryz.ntmps92
  go_wp2_with fail
  refine (has_nil w tag).mono ?_
  rintro e w' ⟨rfl, rfl⟩
  go_wp2
  go_ret
  exact ⟨rfl, rfl⟩
theorem tag_nil (w : World) (i : Int) : Calls Tryz.prog 91 #[.pointer none, .int .i32 i] w fun e w' => e = .returned (.int .i64 (-1)) ∧ w = w' := by
  go_enter Tryz.func91, Tryz.ntmps91
  go_wp2
  go_ret
  exact ⟨rfl, rfl⟩
theorem remove_nil (w : World) (i : Int) : Calls Tryz.prog 124 #[.pointer none, .int .i32 i] w fun e w' => e = .returned (.bool false) ∧ w = w' := by
  go_enter Tryz.func124, Tryz.ntmps124
  go_wp2_with fail
  refine (tag_nil w i).mono ?_
  rintro e w' ⟨rfl, rfl⟩
  go_wp2_with fail
  refine (has_nil w (-1)).mono ?_
  rintro e w' ⟨rfl, rfl⟩
  go_wp2
  go_ret
  exact ⟨rfl, rfl⟩
theorem moveFront_nil (w : World) (tag i : Int) : Calls Tryz.prog 129 #[.pointer none, .int .i64 tag, .int .i32 i] w fun e w' => e = .returned (.bool false) ∧ w = w' := by
  go_enter Tryz.func129, Tryz.ntmps129
  go_wp2_with fail
  refine (has_nil w tag).mono ?_
  rintro e w' ⟨rfl, rfl⟩
  go_wp2
  go_ret
  exact ⟨rfl, rfl⟩
theorem each1_nil (m : Nat) (r B1 B2 : Nat) (tag : Int) (J Jx : List Nat → World → Prop) (W : World) (hB1 : W.cell? ⟨B1, 0, none⟩ = some (.pointer none)) (hB2 : W.cell? ⟨B2, 0, none⟩ = some (.int .i64 tag)) (h0 : J [] W) :
    CallsIn Fence.wide m Tryz.prog 132 #[.func (.yield r) #[] #[], .pointer (some ⟨B1, 0, none⟩), .pointer (some ⟨B2, 0, none⟩)] W fun e W' => (∃ v, e = .returned v) ∧
      ((∃ ys, ys = [] ∧ J ys W') ∨ (∃ pre, pre <+: [] ∧ Jx pre W')) := by
  refine callsIn_wide.2 ?_
  go_enter Tryz.func132, Tryz.ntmps132
  go_wp2_with fail
  refine (front_nil W tag).mono ?_
  rintro e w' ⟨rfl, rfl⟩
  go_wp2_with fail
  refine (count_nil W tag).mono ?_
  rintro e w' ⟨rfl, rfl⟩
  go_wp2_with fail
  go_loopg [11] 0 (fun g s11 wr => s11 = .int .i64 0 ∧ wr = W)
  case atStart => exact ⟨rfl, rfl⟩
  case round =>
    obtain ⟨rfl, rfl⟩ := hrel
    go_wp2
    go_end0
    exact ⟨⟨_, rfl⟩, .inl ⟨_, rfl, h0⟩⟩
theorem all_nil (w : World) (tag : Int) : Calls Tryz.prog 88 #[.pointer none, .int .i64 tag] w fun e W' => ∃ F c, e = .returned (.slice F 0 c) ∧ Below w.heap.size w W' := by
  have h := callsIn_wide.1 (all_in (w := w) none tag [] (by simp) (fun w1 _ g2 g3 _ _ => fun r J Jx W hW _ _ _ h0 => each1_nil 4 r _ _ tag J Jx W ((hW.cell (p := ⟨w.heap.size + 1, 0, none⟩) (by assumption)).trans g2) ((hW.cell (p := ⟨w.heap.size + 1 + 1, 0, none⟩) (by assumption)).trans g3) h0))
  refine h.mono ?_
  rintro e W' ⟨v, rfl, hv, hb⟩
  rcases hv.2 with ⟨rfl, _⟩ | ⟨g, cap, cur, rfl, _, _, hk⟩
  · exact ⟨none, 0, rfl, hb⟩
  · exact ⟨_, _, rfl, hb⟩
theorem is_nil (w : World) (i : Int) : Calls Tryz.prog 116 #[.pointer none, .int .i32 i] w fun e w' => e = .returned (.bool false) ∧ w = w' := by
  go_enter Tryz.func116, Tryz.ntmps116
  go_wp2
  go_ret
  exact ⟨rfl, rfl⟩
theorem at_nil (w : World) (i : Int) : Calls Tryz.prog 89 #[.pointer none, .int .i32 i] w fun e w' => e = .returned (.agg #[.int .u64 0, .int .u64 0, .int .i64 0, .int .i64 0, .int .i32 0, .int .i32 0]) ∧ Below w.heap.size w w' := by
  go_enter Tryz.func89, Tryz.ntmps89
  go_wp2_with fail
  refine (is_nil _ i).mono ?_
  rintro e w' ⟨rfl, rfl⟩
  go_wp2
  exact bodyPost_ret (v := .agg #[.int .u64 0, .int .u64 0, .int .i64 0, .int .i64 0, .int .i32 0, .int .i32 0]) (by simp [results, Tryz.results89, go_sem]) rfl ⟨rfl, (Below.refl _ _).alloc (Nat.le_refl _) _⟩
theorem nil_get (w : World) (k : Value) :
    Calls Tryz.prog 90 #[.pointer none, k] w fun e w' => e = .returned (.tuple #[.int .i32 0, .bool false]) ∧ w = w' := by
  go_enter Tryz.func90, Tryz.ntmps90
  go_wp2
  exact bodyPost_ret (v := .tuple #[.int .i32 0, .bool false]) (by simp [results, Tryz.results90, go_sem]) rfl ⟨rfl, rfl⟩
abbrev nilS : Value := .pointer none
theorem nfind_parts (w : World) (k : Value) :
    Calls Tryz.prog 123 #[.agg partsN, k] w fun e w' => e = .returned (.tuple #[.int .i32 0, .agg zero6]) ∧ Below w.heap.size w w' := by
  go_enter Tryz.func123, Tryz.ntmps123
  go_wp2_with fail
  refine (nil_get _ k).mono ?_
  rintro e w1 ⟨rfl, rfl⟩
  go_wp2_with fail
  refine (at_nil _ 0).mono ?_
  rintro e w2 ⟨rfl, hb⟩
  obtain ⟨hb1, hs1, hB0, hB1⟩ := two_blocks hb
  obtain ⟨_, z0, z1, z2, z3, z4, z5⟩ := q6_at hB1
  have HT := Lib.hid (q6_heap hB1 (.int .u64 0) (.int .u64 0) (.int .i64 0) (.int .i64 0) (.int .i32 0) (.int .i32 0))
  have HB1 := Lib.hid hb1
  clear hb hb1 hB0 hB1
  go_wp2_with fail
  obtain ⟨t1, o1⟩ := HT.out
  generalize (((((w2.setCell ⟨w.heap.size + 1, 0, none⟩ (.int .u64 0)).setCell ⟨w.heap.size + 1, 1, none⟩ (.int .u64 0)).setCell ⟨w.heap.size + 1, 2, none⟩ (.int .i64 0)).setCell ⟨w.heap.size + 1, 3, none⟩ (.int .i64 0)).setCell ⟨w.heap.size + 1, 4, none⟩ (.int .i32 0)).setCell ⟨w.heap.size + 1, 5, none⟩ (.int .i32 0) = V at t1 o1 ⊢
  obtain ⟨⟨v0, v1, v2, v3, v4, v5⟩, _⟩ := q6_at t1
  exact bodyPost_ret (v := .tuple #[.int .i32 0, .agg zero6]) (by simp [results, Tryz.results123, go_sem, v0, v1, v2, v3, v4, v5]) rfl ⟨rfl, HB1.out.trans (o1.below (B := w.heap.size) (by simp) HB1.out.size)⟩
theorem nkey_parts (w : World) :
    Calls Tryz.prog 127 #[.agg partsN, .int .i32 0] w fun e w' => e = .returned (.tuple #[.int .u64 0, .bool false]) ∧ Below w.heap.size w w' := by
  have hfld : ∀ w : World, (Instr.field 117 (.agg zero6) 0).run Tryz.prog w = .ok (.int .u64 0) w := fun _ => by kernel_rfl
  go_enter Tryz.func127, Tryz.ntmps127
  go_wp2_with fail
  refine (at_nil _ 0).mono ?_
  rintro e w1 ⟨rfl, hb⟩
  have HB := Lib.hid (((Below.refl w.heap.size w).alloc (Nat.le_refl _) (.cells partsN 101)).trans (hb.mono (by simp)))
  clear hb
  go_wp2
  exact bodyPost_ret (v := .tuple #[.int .u64 0, .bool false]) (by simp [results, Tryz.results127, go_sem]) rfl ⟨rfl, HB.out⟩
theorem nFind (w : World) (k : Value) :
    Calls Tryz.prog 46 #[nilS, k] w fun e w' => e = .returned (.tuple #[.int .i64 0, .bool false]) ∧ Below w.heap.size w w' := by
  go_enter Tryz.func46, Tryz.ntmps46
  go_wp2_with fail
  refine (open_nil w).mono ?_
  rintro e w1 ⟨rfl, hb⟩
  have HB2 := Lib.hid (hb.alloc hb.size (.cells partsN 101))
  clear hb
  go_wp2_with fail
  refine (nil_get _ k).mono ?_
  rintro e w2 ⟨rfl, rfl⟩
  go_wp2
  exact bodyPost_ret (v := .tuple #[.int .i64 0, .bool false]) (by simp [results, Tryz.results46, go_sem]) rfl ⟨rfl, HB2.out⟩
theorem nBack (w : World) (tag : Int) :
    Calls Tryz.prog 108 #[nilS, .int .i64 tag] w fun e w' => e = .returned (.tuple #[.int .u64 0, .bool false]) ∧ Below w.heap.size w w' := by
  go_enter Tryz.func108, Tryz.ntmps108
  go_wp2_with fail
  refine (open_nil w).mono ?_
  rintro e w1 ⟨rfl, hb⟩
  have HB2 := Lib.hid (hb.alloc hb.size (.cells partsN 101))
  have hbx := heap_alloc_new w1 (.cells partsN 101)
  have HBX := Lib.hid hbx
  clear hb hbx
  go_upto_region 2 with fail
  generalize hX : w1.alloc (.cells partsN 101) = X at HB2 HBX ⊢
  have hX1 : w1.heap.size < X.heap.size := by rw [← hX]; simp
  clear hX
  obtain ⟨⟨c0, c1, c2, c3⟩, _⟩ := q4_at HBX.out
  have HSS : Hid (∀ w', Below X.drew.heap.size X.drew w' → w'.cell? ⟨w1.heap.size, 0, none⟩ = some (.pointer none) ∧ w'.cell? ⟨w1.heap.size, 1, none⟩ = some (.int .i64 0) ∧ w'.cell? ⟨w1.heap.size, 2, none⟩ = some (.pointer none) ∧ w'.cell? ⟨w1.heap.size, 3, none⟩ = some (.pointer none)) := Lib.hid (fun w' hb => (q4_at ((hb.block w1.heap.size (by exact hX1)).trans HBX.out)).1)
  have HF1 := Lib.hid (back_nil X.drew tag)
  have HI1 := Lib.hid (nkey_parts X.drew)
  go_region_held3 (fun w' => w'.cell? ⟨w1.heap.size, 0, none⟩ = some (.pointer none) ∧ w'.cell? ⟨w1.heap.size, 1, none⟩ = some (.int .i64 0) ∧ w'.cell? ⟨w1.heap.size, 2, none⟩ = some (.pointer none) ∧ w'.cell? ⟨w1.heap.size, 3, none⟩ = some (.pointer none)) (first | with_reducible exact kk5 | go_keep)
    (first
      | (go_at_call 128; refine HF1.out.mono ?_; rintro e w5 ⟨rfl, rfl⟩)
      | (go_at_call 127; refine HI1.out.mono ?_; rintro e w6 ⟨rfl, b6⟩; have kk5 := HSS.out w6 b6))
  have HB6 := Lib.hid (HB2.out.drew.trans (b6.mono HB2.out.drew.size))
  clear kk5 b6
  go_wp2
  exact bodyPost_ret (v := .tuple #[.int .u64 0, .bool false]) (by simp [results, Tryz.results108, go_sem]) rfl ⟨rfl, HB6.out⟩
theorem nLen (w : World) (tag : Int) :
    Calls Tryz.prog 47 #[nilS, .int .i64 tag] w fun e w' => e = .returned (.int .i64 0) ∧ Below w.heap.size w w' := by
  have hfld : ∀ w : World, (Instr.field 101 (.agg partsN) 0).run Tryz.prog w = .ok (.pointer none) w := fun _ => by kernel_rfl
  go_enter Tryz.func47, Tryz.ntmps47
  go_wp2_with fail
  refine (open_nil w).mono ?_
  rintro e w1 ⟨rfl, hb⟩
  go_wp2_with fail
  refine (count_nil w1 tag).mono ?_
  rintro e w2 ⟨rfl, rfl⟩
  go_wp2
  go_ret
  exact ⟨rfl, hb⟩
theorem nMove (w : World) (tag : Int) (k : Value) :
    Calls Tryz.prog 109 #[nilS, .int .i64 tag, k] w fun e w' => e = .returned (.bool false) ∧ Below w.heap.size w w' := by
  go_enter Tryz.func109, Tryz.ntmps109
  go_wp2_with fail
  refine (open_nil w).mono ?_
  rintro e w1 ⟨rfl, hb⟩
  have HB2 := Lib.hid (hb.alloc hb.size (.cells partsN 101))
  have hbx := heap_alloc_new w1 (.cells partsN 101)
  have HBX := Lib.hid hbx
  clear hb hbx
  go_wp2_with fail
  refine (nfind_parts _ k).mono ?_
  rintro e w2 ⟨rfl, hb2⟩
  have HB3 := Lib.hid (HB2.out.trans (hb2.mono HB2.out.size))
  obtain ⟨⟨c0, c1, c2, c3⟩, _⟩ := q4_at ((hb2.block w1.heap.size (by simp)).trans HBX.out)
  have hw12 : w1.heap.size < w2.heap.size := by have := hb2.size; simp at this; omega
  clear hb2
  go_wp2_with fail
  refine (moveFront_nil _ tag 0).mono ?_
  rintro e w3 ⟨rfl, rfl⟩
  go_wp2
  go_ret
  exact ⟨rfl, HB3.out.alloc HB3.out.size _⟩
theorem nRemove (w : World) (k : Value) :
    Calls Tryz.prog 107 #[nilS, k] w fun e w' => e = .returned (.bool false) ∧ Below w.heap.size w w' := by
  go_enter Tryz.func107, Tryz.ntmps107
  go_wp2_with fail
  refine (open_nil w).mono ?_
  rintro e w1 ⟨rfl, hb⟩
  have HB2 := Lib.hid (hb.alloc hb.size (.cells partsN 101))
  have hbx := heap_alloc_new w1 (.cells partsN 101)
  have HBX := Lib.hid hbx
  clear hb hbx
  go_wp2_with fail
  refine (nfind_parts _ k).mono ?_
  rintro e w2 ⟨rfl, hb2⟩
  have HB3 := Lib.hid (HB2.out.trans (hb2.mono HB2.out.size))
  obtain ⟨⟨c0, c1, c2, c3⟩, _⟩ := q4_at ((hb2.block w1.heap.size (by simp)).trans HBX.out)
  have hw12 : w1.heap.size < w2.heap.size := by have := hb2.size; simp at this; omega
  clear hb2
  go_wp2_with fail
  refine (remove_nil _ 0).mono ?_
  rintro e w3 ⟨rfl, rfl⟩
  go_wp2
  go_ret
  exact ⟨rfl, HB3.out.alloc HB3.out.size _⟩
end Go.Proofs.YtkhikpnlpcankaaGreat
namespace Go.Proofs.YtkhikpnlpcankaaGreat
open Go Go.RowKit Go.Deep
def k64 (ks : List Nat) : List Value := ks.map (fun k => .int .u64 (k : Nat))
structure KeysAt (w : World) (v : Value) (ks : List Nat) : Prop where
  mem : ∃ F c, v = .slice F ks.length c ∧ ∀ i (h : i < ks.length), ∃ b, F = some ⟨b, 0, none⟩ ∧ b < w.heap.size ∧ w.cell? ⟨b, i, none⟩ = some (.int .u64 (ks[i] : Nat))
theorem KeysAt.below {w w' : World} {v : Value} {ks : List Nat} (h : KeysAt w v ks) (hb : Below w.heap.size w w') : KeysAt w' v ks := by
  obtain ⟨F, c, e, h1⟩ := h.mem
  refine ⟨F, c, e, fun i hi => ?_⟩
  obtain ⟨b, e2, h2, h3⟩ := h1 i hi
  exact ⟨b, e2, Nat.lt_of_lt_of_le h2 hb.size, (hb.cell (p := ⟨b, i, none⟩) h2).trans h3⟩
section
variable {w : World} {o n oc m g c : Nat} {Q : Nat → List Ent} {T : Tb} {K : List Nat}
end
theorem rows32 {W : World} {B : Nat} {v : Value} {xs : List Nat} (h : W.ownsRow B 21 1 v xs.length (slots xs)) : ∃ F c, v = .slice F xs.length c ∧ ∀ w', Below W.heap.size W w' → ∀ i (hi : i < xs.length), ∃ g, F = some ⟨g, 0, none⟩ ∧ w'.cell? ⟨g, i, none⟩ = some (.int .i32 (xs[i] : Nat)) := by
  rcases Nat.eq_zero_or_pos xs.length with h0 | h0
  · rcases h.2 with ⟨rfl, _⟩ | ⟨g, cap, cur, rfl, _⟩
    · exact ⟨none, 0, by rw [h0], fun _ _ i hi => by omega⟩
    · exact ⟨_, _, rfl, fun _ _ i hi => by omega⟩
  · obtain ⟨g, cap, cur, rfl, _, hlt, _, _, hc⟩ := own_cur h h0
    refine ⟨_, _, rfl, fun w' hb i hi => ⟨g, rfl, ?_⟩⟩
    rw [hb.cell (p := ⟨g, i, none⟩) hlt, hc i (by simpa [slots] using hi)]
    simp [slots]
section
variable {w0 w : World} {sp n : Nat} {l : Nat → List Nat} {A : St} {T : Tb} {K : List Nat}
def KeysPost (w : World) (ks : List Nat) (e : Ending) (w' : World) : Prop := ∃ v, e = .returned v ∧ Below w.heap.size w w' ∧ KeysAt w' v ks
theorem nKeys (w : World) (tag : Int) :
    Calls Tryz.prog 45 #[nilS, .int .i64 tag] w fun e w' => e = .returned (.slice none 0 0) ∧ Below w.heap.size w w' := by
  go_enter Tryz.func45, Tryz.ntmps45
  go_wp2_with fail
  refine (open_nil w).mono ?_
  rintro e w1 ⟨rfl, hb⟩
  have HB2 := Lib.hid (hb.alloc hb.size (.cells partsN 101))
  clear hb
  go_wp2_with fail
  refine (all_nil _ tag).mono ?_
  rintro e w2 ⟨F, c, rfl, hb2⟩
  have HB3 := Lib.hid (HB2.out.trans (hb2.mono HB2.out.size))
  clear hb2
  go_wp2_with fail
  go_loopg [6, 16] 0 (fun gg s6 s16 wr => s6 = .slice none 0 0 ∧ s16 = .int .i64 0 ∧ wr = w2)
  case atStart => exact ⟨rfl, rfl, rfl⟩
  case round =>
    obtain ⟨rfl, rfl, rfl⟩ := hrel
    go_wp2
    go_ret
    exact ⟨rfl, HB3.out⟩
end
def SI (w0 w : World) (sp n : Nat) (Q : Nat → List Ent) (m : Nat) (U : Tb) (most : Nat) (K : List Nat) : Prop :=
  ∃ l A T E, SM w0 w sp n l A T K ∧ Inv n l A T E Q m U most
def qI (n : Nat) (Q : Nat → List Ent) (q : Int) : List Ent := if hasT n q then Q q.toNat else []
section
variable {w0 w w' : World} {sp n m most : Nat} {l : Nat → List Nat} {A : St} {T U : Tb} {E : Nat → Ent} {Q : Nat → List Ent} {K K' : List Nat}
theorem SM.ap (h : SM w0 w sp n l A T K) : Ap n l A ∧ 1 ≤ n ∧ n ≤ 8 ∧ A.used < A.n := by
  obtain ⟨p, b, ix, h1, h2, h3, h4⟩ := h
  exact ⟨⟨h2.ap_.1, h2.ap_.2.1, h2.ap_.2.2.1⟩, h2.ap_.2.2.2.1, h2.ap_.2.2.2.2, h2.used⟩
theorem Inv.fit (h : Inv n l A T E Q m U most) (a : Ap n l A) (hm : most ≤ 10000) : Fit A T := by
  have h1 := h.tn
  have h2 := h.an
  have h3 := h.room
  have h4 := h.ok.room
  refine ⟨by omega, by omega, fun k => ?_⟩
  cases hk : T.there k
  · rw [get_no h.good.ok hk]; decide
  · obtain ⟨t, i, ht, hi, hi', e1, e2, e3⟩ := h.find hk
    rw [e3]
    have := tk_bounds (a.tk t _ ht (List.getElem_mem hi))
    show ((l t)[i] : Int) ≤ _
    omega
theorem SI.still (h : SI w0 w sp n Q m U most K) (hb : Below w.heap.size w w') : SI w0 w' sp n Q m U most K ∧ Kept K w w' := by
  obtain ⟨l, A, T, E, h1, h2⟩ := h
  exact ⟨⟨l, A, T, E, (h1.still hb).1, h2⟩, (h1.still hb).2⟩
theorem SI.other (h : SI w0 w sp n Q m U most K) (hb : Below w.heap.size w w') (hk : ∀ k ∈ K', (k ∈ K ∨ w.heap.size ≤ k) ∧ k < w'.heap.size) : SI w0 w' sp n Q m U most K' := by
  obtain ⟨l, A, T, E, h1, h2⟩ := h
  exact ⟨l, A, T, E, h1.other hb hk, h2⟩
theorem SI.less (h : SI w0 w sp n Q m U most K) (hk : ∀ k ∈ K', k ∈ K) : SI w0 w sp n Q m U most K' := by
  obtain ⟨l, A, T, E, h1, h2⟩ := h
  exact ⟨l, A, T, E, h1.other (Below.refl _ _) (fun k hk' => ⟨.inl (hk k hk'), h1.old k (hk k hk')⟩), h2⟩
theorem SI.below (h : SI w0 w sp n Q m U most K) : Below w0.heap.size w0 w := by
  obtain ⟨l, A, T, E, h1, h2⟩ := h
  exact h1.below
theorem SI.old (h : SI w0 w sp n Q m U most K) : ∀ k ∈ K, k < w.heap.size := by
  obtain ⟨l, A, T, E, h1, h2⟩ := h
  exact h1.old
theorem SI.more (h : SI w0 w sp n Q m U most K) {most' : Nat} (hm : most ≤ most') : SI w0 w sp n Q m U most' K := by
  obtain ⟨l, A, T, E, h1, h2⟩ := h
  exact ⟨l, A, T, E, h1, h2.more hm⟩
theorem sumE_congr {Q Q' : Nat → List Ent} : ∀ n, (∀ t, t < n → Q t = Q' t) → sumE Q n = sumE Q' n
  | 0, _ => rfl
  | n + 1, h => by
    unfold sumE
    rw [sumE_congr n (fun t ht => h t (by omega)), h n (by omega)]
theorem SI.congr {Q' : Nat → List Ent} (h : SI w0 w sp n Q m U most K) (hq : ∀ t, t < n → Q t = Q' t) : SI w0 w sp n Q' m U most K := by
  obtain ⟨l, A, T, E, h1, h2⟩ := h
  have e := sumE_congr n hq
  exact ⟨l, A, T, E, h1, { h2 with q := fun t ht => by rw [← hq t ht]; exact h2.q t ht, cnt := by rw [← e]; exact h2.cnt, live := by rw [← e]; exact h2.live, le := by rw [← e]; exact h2.le }⟩
structure QOk (n : Nat) (Q : Nat → List Ent) (m : Nat) (U : Tb) (most : Nat) : Prop where
  uq : Uq n Q
  good : U.Good
  keys : U.Keys
  le : sumE Q n ≤ most
  an : m ≤ 2 * most + 8
  tn : U.n ≤ 3 * most + 8
  one : 1 ≤ n
  eight : n ≤ 8
theorem SI.ok (h : SI w0 w sp n Q m U most K) : QOk n Q m U most := by
  obtain ⟨l, A, T, E, h1, h2⟩ := h
  obtain ⟨a, o, e, _⟩ := h1.ap
  exact ⟨h2.uq a, h2.good', h2.keys', h2.le, h2.an, by rw [← h2.sim.n]; exact h2.tn, o, e⟩
theorem SI.key64 (h : SI w0 w sp n Q m U most K) {t i : Nat} (ht : t < n) (hi : i < (Q t).length) : ((Q t)[i]).key < 18446744073709551616 := by
  obtain ⟨l, A, T, E, h1, h2⟩ := h
  obtain ⟨hi', e⟩ := h2.at_q ht hi
  rw [e]
  exact h2.key64 ht (List.getElem_mem hi')
theorem Inv.spot (h : Inv n l A T E Q m U most) {t i : Nat} (ht : t < n) (hi : i < (Q t).length) : ∃ (hi' : i < (l t).length), (Q t)[i] = E ((l t)[i]) ∧ T.there ((Q t)[i]).key = true ∧ T.get ((Q t)[i]).key = ((((l t)[i] : Nat) : Int), true) := by
  obtain ⟨hi', e⟩ := h.at_q ht hi
  have hv := (h.tab ((Q t)[i]).key _).2 ⟨t, (l t)[i], ht, List.getElem_mem _, by rw [e], rfl⟩
  exact ⟨hi', e, there_yes h.good.ok hv, get_yes h.good.ok hv⟩
theorem si_find_in (h : SI w0 w sp n Q m U most K) (hm : most ≤ 10000) (t i : Nat) (ht : t < n) (hi : i < (Q t).length) (k : Nat) (hk : ((Q t)[i]).key = k) :
    Calls Tryz.prog 46 #[ptr sp, .int .u64 (k : Nat)] w fun e w' => e = .returned (.tuple #[.int .i64 (t : Nat), .bool true]) ∧ Below w.heap.size w w' := by
  subst hk
  have h64 := h.key64 ht hi
  obtain ⟨l, A, T, E, h1, h2⟩ := h
  obtain ⟨a, _⟩ := h1.ap
  obtain ⟨hi', e1, e2, e3⟩ := h2.spot ht hi
  have hc := sfind_walk h1 (h2.fit a hm) _ h64
  rw [e3] at hc
  rw [if_pos rfl, a.tag ht (List.getElem_mem hi')] at hc
  exact hc
theorem si_find_out (h : SI w0 w sp n Q m U most K) (hm : most ≤ 10000) (k : Nat) (h64 : k < 18446744073709551616) (hk : NoKey n Q k) :
    Calls Tryz.prog 46 #[ptr sp, .int .u64 (k : Nat)] w fun e w' => e = .returned (.tuple #[.int .i64 0, .bool false]) ∧ Below w.heap.size w w' := by
  obtain ⟨l, A, T, E, h1, h2⟩ := h
  obtain ⟨a, _⟩ := h1.ap
  have hc := sfind_walk h1 (h2.fit a hm) _ h64
  rw [get_no h2.good.ok ((h2.nokey k).1 hk)] at hc
  exact hc
theorem St.at_nat {A : St} {i : Nat} (hi : A.tk i = true) : A.at_ i = A.node i ∧ A.is i = true := by
  have h0 := tk_bounds hi
  have his : A.is i = true := by unfold St.is; rw [decide_eq_true (by omega)]; simpa using hi
  refine ⟨?_, his⟩
  unfold St.at_
  rw [his]
  rfl
theorem St.at_zero (A : St) : A.at_ 0 = Nd.zero ∧ A.is 0 = false := ⟨by unfold St.at_ St.is; rfl, by unfold St.is; rfl⟩
theorem qI_len (h : Inv n l A T E Q m U most) (q : Int) : (qI n Q q).length = lenL n l q ∧ qI n Q q = (allL n l q).map E := by
  unfold qI lenL allL
  cases hh : hasT n q
  · exact ⟨rfl, rfl⟩
  · obtain ⟨t, rfl, ht⟩ := hasT_nat hh
    rw [if_pos rfl, if_pos rfl, if_pos rfl]
    simp only [Int.toNat_natCast]
    exact ⟨h.len ht, h.q t ht⟩
theorem si_len (h : SI w0 w sp n Q m U most K) (q : Int) :
    Calls Tryz.prog 47 #[ptr sp, .int .i64 q] w fun e w' => e = .returned (.int .i64 ((qI n Q q).length : Nat)) ∧ Below w.heap.size w w' := by
  obtain ⟨l, A, T, E, h1, h2⟩ := h
  rw [(qI_len h2 q).1]
  exact slen_walk h1 q
def headK (xs : List Ent) : Nat := (xs.head?.map Ent.key).getD 0
def lastK (xs : List Ent) : Nat := (xs.getLast?.map Ent.key).getD 0
theorem ends_list {A : St} {E : Nat → Ent} (xs : List Nat) (hin : ∀ i ∈ xs, (A.at_ (i : Nat)).key = ((E i).key : Nat) ∧ ((i : Int) ≠ 0)) :
    ((A.at_ (xs.headD 0 : Nat)).key = (headK (xs.map E) : Nat) ∧ (!decide (((xs.headD 0 : Nat) : Int) = 0)) = decide (0 < (xs.map E).length)) ∧
    ((A.at_ (xs.getLastD 0 : Nat)).key = (lastK (xs.map E) : Nat) ∧ (!decide (((xs.getLastD 0 : Nat) : Int) = 0)) = decide (0 < (xs.map E).length)) := by
  constructor
  · cases xs with
    | nil => exact ⟨by show (A.at_ 0).key = _; rw [(St.at_zero A).1]; rfl, rfl⟩
    | cons x xs =>
      have q := hin x (by simp)
      refine ⟨by rw [List.headD_cons, q.1]; rfl, ?_⟩
      rw [List.headD_cons, decide_eq_false q.2]
      simp
  · rcases List.eq_nil_or_concat xs with rfl | ⟨ys, x, rfl⟩
    · exact ⟨by show (A.at_ 0).key = _; rw [(St.at_zero A).1]; rfl, rfl⟩
    · have q := hin x (by simp)
      have e : (ys.concat x).getLastD 0 = x := by simp
      refine ⟨by rw [e, q.1]; simp [lastK], ?_⟩
      rw [e, decide_eq_false q.2]
      simp
theorem ends_are (h : Inv n l A T E Q m U most) (a : Ap n l A) (q : Int) :
    ((A.at_ (frontL n l q : Nat)).key = (headK (qI n Q q) : Nat) ∧ (!decide (((frontL n l q : Nat) : Int) = 0)) = decide (0 < (qI n Q q).length)) ∧
    ((A.at_ (backL n l q : Nat)).key = (lastK (qI n Q q) : Nat) ∧ (!decide (((backL n l q : Nat) : Int) = 0)) = decide (0 < (qI n Q q).length)) := by
  rw [(qI_len h q).2]
  unfold frontL backL allL
  cases hh : hasT n q
  · exact ⟨⟨by rw [if_neg (by decide)]; show (A.at_ 0).key = _; rw [(St.at_zero A).1]; rfl, rfl⟩, ⟨by rw [if_neg (by decide)]; show (A.at_ 0).key = _; rw [(St.at_zero A).1]; rfl, rfl⟩⟩
  · obtain ⟨t, rfl, ht⟩ := hasT_nat hh
    rw [if_pos rfl, if_pos rfl, if_pos rfl]
    simp only [Int.toNat_natCast]
    have hin : ∀ i ∈ l t, (A.at_ (i : Nat)).key = ((E i).key : Nat) ∧ ((i : Int) ≠ 0) := fun i hi => by
      have htk := a.tk t i ht hi
      have := tk_bounds htk
      rw [(St.at_nat htk).1]
      exact ⟨(h.node i).1, by omega⟩
    exact ends_list (l t) hin
theorem si_back (h : SI w0 w sp n Q m U most K) (hm : most ≤ 10000) (q : Int) :
    Calls Tryz.prog 108 #[ptr sp, .int .i64 q] w fun e w' => e = .returned (.tuple #[.int .u64 (lastK (qI n Q q) : Nat), .bool (decide (0 < (qI n Q q).length))]) ∧ Below w.heap.size w w' := by
  obtain ⟨l, A, T, E, h1, h2⟩ := h
  obtain ⟨a, _⟩ := h1.ap
  have hc := sback_walk h1 (h2.fit a hm) q
  rw [(ends_are h2 a q).2.1, (ends_are h2 a q).2.2] at hc
  exact hc
def SIPost (w0 w : World) (sp n : Nat) (Q : Nat → List Ent) (m : Nat) (U : Tb) (most : Nat) (K : List Nat) (ok : Bool) (e : Ending) (w' : World) : Prop :=
  e = .returned (.bool ok) ∧ SI w0 w' sp n Q m U most K ∧ Kept K w w'
theorem si_pushF (h : SI w0 w sp n Q m U most K) (hm : most ≤ 10000) (t : Nat) (ht : t < n) (k : Nat) (h64 : k < 18446744073709551616) (hk : NoKey n Q k) :
    Calls Tryz.prog 130 #[ptr sp, .int .i64 (t : Nat), .int .u64 (k : Nat)] w (SIPost w0 w sp n (pushedQ true Q t k) (roomE Q n m) (U.put k 1) (max most (sumE Q n + 1)) K true) := by
  obtain ⟨l, A, T, E, h1, h2⟩ := h
  obtain ⟨a, _⟩ := h1.ap
  have hth := (h2.nokey k).1 hk
  have hg : (T.get k).2 = false := by rw [get_no h2.good.ok hth]
  refine (spushFront_yes h1 (h2.fit a hm) h2.ok k h64 t ht hg).mono ?_
  rintro e w' ⟨rfl, g1, g2⟩
  exact ⟨rfl, ⟨_, _, _, _, g1, h2.push a true ht h64 hth⟩, g2⟩
theorem si_move (h : SI w0 w sp n Q m U most K) (hm : most ≤ 10000) (t i : Nat) (ht : t < n) (hi : i < (Q t).length) (k : Nat) (hk : ((Q t)[i]).key = k) (t1 : Nat) (ht1 : t1 < n) :
    Calls Tryz.prog 109 #[ptr sp, .int .i64 (t1 : Nat), .int .u64 (k : Nat)] w (SIPost w0 w sp n (movE Q t i t1 ((Q t)[i])) m U most K true) := by
  subst hk
  have h64 := h.key64 ht hi
  obtain ⟨l, A, T, E, h1, h2⟩ := h
  obtain ⟨a, _⟩ := h1.ap
  obtain ⟨hi', e1, e2, e3⟩ := h2.spot ht hi
  have hm' := List.getElem_mem hi'
  refine (smov_walk h1 (h2.fit a hm) (t1 : Nat) _ h64).mono ?_
  rintro e w' ⟨rfl, g1, g2⟩
  rw [e3] at g1 ⊢
  have e4 : moveOk n l (t1 : Nat) ((l t)[i] : Nat) = true := by
    unfold moveOk
    rw [hasT_of ht1, a.tag ht hm', decide_eq_true (by omega)]
    rfl
  have g1' : SM w0 w' sp n (moveL n l (t1 : Nat) ((l t)[i] : Nat)) A T K := g1
  rw [a.move ht hm' ht1] at g1'
  exact ⟨by rw [← e4], ⟨_, _, _, _, g1', h2.move a ht hi' hi ht1 e1⟩, g2⟩
theorem si_move_no (h : SI w0 w sp n Q m U most K) (hm : most ≤ 10000) (q : Int) (k : Nat) (h64 : k < 18446744073709551616) (hno : q < 0 ∨ (0 ≤ q ∧ (n : Int) ≤ q) ∨ (0 ≤ q ∧ q < (n : Int) ∧ NoKey n Q k)) :
    Calls Tryz.prog 109 #[ptr sp, .int .i64 q, .int .u64 (k : Nat)] w (SIPost w0 w sp n Q m U most K false) := by
  obtain ⟨l, A, T, E, h1, h2⟩ := h
  obtain ⟨a, _⟩ := h1.ap
  have e4 : moveOk n l q (T.get k).1 = false := by
    unfold moveOk hasT
    rcases hno with g | ⟨g1, g2⟩ | ⟨g1, g2, g3⟩
    · rw [decide_eq_false (by omega)]; rfl
    · rw [decide_eq_false (show ¬ q < (n : Int) by omega)]; simp
    · rw [get_no h2.good.ok ((h2.nokey k).1 g3)]
      show (_ && decide (0 ≤ tagI n l 0)) = false
      rw [tagI_zero]
      simp
  have hc := smov_walk h1 (h2.fit a hm) q k h64
  unfold moveL at hc
  rw [e4] at hc
  refine hc.mono ?_
  rintro e w' ⟨rfl, g1, g2⟩
  exact ⟨rfl, ⟨_, _, _, _, g1, h2⟩, g2⟩
theorem si_rem (h : SI w0 w sp n Q m U most K) (hm : most ≤ 10000) (t i : Nat) (ht : t < n) (hi : i < (Q t).length) (k : Nat) (hk : ((Q t)[i]).key = k) :
    Calls Tryz.prog 107 #[ptr sp, .int .u64 (k : Nat)] w (SIPost w0 w sp n (upd Q t (cutE (Q t) i)) m (U.del k) most K true) := by
  subst hk
  have h64 := h.key64 ht hi
  obtain ⟨l, A, T, E, h1, h2⟩ := h
  obtain ⟨a, _⟩ := h1.ap
  obtain ⟨hi', e1, e2, e3⟩ := h2.spot ht hi
  refine (sremo_yes h1 (h2.fit a hm) _ h64 t _ ht (List.getElem_mem hi') (by rw [e3]) e2).mono ?_
  rintro e w' ⟨rfl, g1, g2⟩
  have hinv := h2.rem a ht hi' hi
  rw [← e1] at hinv
  exact ⟨rfl, ⟨_, _, _, _, g1, hinv⟩, g2⟩
theorem si_rem_no (h : SI w0 w sp n Q m U most K) (hm : most ≤ 10000) (k : Nat) (h64 : k < 18446744073709551616) (hk : NoKey n Q k) :
    Calls Tryz.prog 107 #[ptr sp, .int .u64 (k : Nat)] w (SIPost w0 w sp n Q m U most K false) := by
  obtain ⟨l, A, T, E, h1, h2⟩ := h
  obtain ⟨a, _⟩ := h1.ap
  refine (sremo_no h1 (h2.fit a hm) _ h64 (by rw [get_no h2.good.ok ((h2.nokey k).1 hk)])).mono ?_
  rintro e w' ⟨rfl, g1, g2⟩
  exact ⟨rfl, ⟨_, _, _, _, g1, h2⟩, g2⟩
theorem sumE_none : ∀ n, sumE (fun _ => []) n = 0
  | 0 => rfl
  | n + 1 => by unfold sumE; rw [sumE_none n]; rfl
theorem new_inv (n : Nat) : Inv n (fun _ => []) (St.first 8) Tb.new (fun _ => ⟨0, 0, 0⟩) (fun _ => []) 8 Tb.new 0 := by
  refine ⟨fun _ => ⟨rfl, rfl, rfl⟩, fun _ _ => rfl, fun k v => ⟨fun q => absurd q (none_has 8 k v), fun ⟨_, _, _, q, _⟩ => by simp at q⟩, first_ok 8 (by decide), new_good, new_keys, new_good, new_keys, Sim.refl _, ?_, ?_, rfl, ?_, by decide, by decide⟩
  · rw [sumE_none]; exact none_cnt _
  · rw [sumE_none]; rfl
  · rw [sumE_none]; exact Nat.le_refl _
def SINew (w0 w : World) (n : Nat) (K : List Nat) (e : Ending) (w' : World) : Prop :=
  ∃ sp, e = .returned (ptr sp) ∧ SI w0 w' sp n (fun _ => []) 8 Tb.new 0 K ∧ Kept K w w'
theorem si_new (hb : Below w0.heap.size w0 w) (hK : ∀ k ∈ K, k < w.heap.size) (q : Int) :
    Calls Tryz.prog 31 #[.int .i64 q] w (SINew w0 w (numT q) K) := by
  refine (store_new hb hK q).mono ?_
  rintro e w' ⟨sp, rfl, h1, h2⟩
  exact ⟨sp, rfl, ⟨_, _, _, _, h1, new_inv _⟩, h2⟩
end
end Go.Proofs.YtkhikpnlpcankaaGreat
