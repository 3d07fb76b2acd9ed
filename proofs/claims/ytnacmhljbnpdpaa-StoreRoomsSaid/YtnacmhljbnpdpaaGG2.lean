/- Words and walks for layer 6: SsX SsN. -/
import Derived.Test.YtnacmhljbnpdpaaGG1
import Derived.Deep.RegionHeld3
/- Package store: what only looks: Find, Front, Back, Len, Total, Val, Flag, Rooms. -/
namespace Go.Proofs.Ytnacmhljbnpdpaa
open Go Go.RowKit Go.Deep

/- A store that the law's own memory has: it lies at sp; n lists l over the arena A, the table T. -/
def SM (w0 w : World) (sp n : Nat) (l : Nat → List Nat) (A : St) (T : Tb) (K : List Nat) : Prop :=
  ∃ p b ix, w.heap[sp]? = some (.cells (partsC p n b ix) 89 (0, 0)) ∧ SQ w0 w p b ix n l A T (sp :: K) ∧ w0.heap.size ≤ sp ∧ sp ∉ K
structure Fit (A : St) (T : Tb) : Prop where
  tn : T.n ≤ 100000
  an : A.n ≤ 400000
  g : ∀ k, (T.get k).1 ≤ 2147483647
section
variable {w0 w w' : World} {sp n : Nat} {l : Nat → List Nat} {A : St} {T : Tb} {K K' : List Nat}
theorem SM.other (h : SM w0 w sp n l A T K) (hb : Below w.heap.size w w') (hk : ∀ k ∈ K', (k ∈ K ∨ w.heap.size ≤ k) ∧ k < w'.heap.size) : SM w0 w' sp n l A T K' := by
  obtain ⟨p, b, ix, h1, h2, h3, h4⟩ := h
  have hlt := h2.old sp (by simp)
  refine ⟨p, b, ix, (hb.block sp hlt).trans h1, h2.other hb (fun k hk' => ?_), h3, fun q => ?_⟩
  · rcases List.mem_cons.1 hk' with rfl | hk'
    · exact ⟨.inl (by simp), Nat.lt_of_lt_of_le hlt hb.size⟩
    · exact ⟨(hk k hk').1.imp (fun q => by simp [q]) id, (hk k hk').2⟩
  · rcases (hk sp q).1 with q | q
    · exact h4 q
    · omega
theorem SM.old (h : SM w0 w sp n l A T K) : ∀ k ∈ K, k < w.heap.size := by
  obtain ⟨p, b, ix, h1, h2, h3, h4⟩ := h
  exact fun k hk => h2.old k (by simp [hk])
theorem SM.below (h : SM w0 w sp n l A T K) : Below w0.heap.size w0 w := by
  obtain ⟨p, b, ix, h1, h2, h3, h4⟩ := h
  exact h2.below
theorem SM.still (h : SM w0 w sp n l A T K) (hb : Below w.heap.size w w') : SM w0 w' sp n l A T K ∧ Kept K w w' :=
  ⟨h.other hb (fun k hk => ⟨.inl hk, Nat.lt_of_lt_of_le (h.old k hk) hb.size⟩), fun k hk => hb.block k (h.old k hk)⟩
theorem Kept.low {W : World} (h : Kept K w W) (hb : Below W.heap.size W w') (hK : ∀ k ∈ K, k < W.heap.size) : Kept K w w' := fun k hk => (hb.block k (hK k hk)).trans (h k hk)
theorem SQ.used {p b ix : Nat} (h : SQ w0 w p b ix n l A T K) : A.used < A.n := by
  obtain ⟨x, F, G, h⟩ := h
  have := h.heldl.ok.room
  rw [← h.al.used, ← h.al.n]
  exact this
theorem SQ.in32 {p b ix : Nat} (h : SQ w0 w p b ix n l A T K) (hn : A.n ≤ 400000) {t i : Nat} (ht : t < n) (hi : i ∈ l t) : (i : Int) ≤ 2147483647 ∧ i ≠ 0 ∧ A.at_ i = A.node i := by
  have h1 := h.ap_.2.2.1 t i ht hi
  have h2 := tk_bounds h1
  have := h.used
  refine ⟨by omega, by omega, ?_⟩
  have his : A.is i = true := by unfold St.is; rw [decide_eq_true (by omega)]; simpa using h1
  unfold St.at_
  rw [his]
  rfl
theorem SQ.front32 {p b ix : Nat} (h : SQ w0 w p b ix n l A T K) (hn : A.n ≤ 400000) (tag : Int) : (frontL n l tag : Int) ≤ 2147483647 ∧ (backL n l tag : Int) ≤ 2147483647 := by
  unfold frontL backL
  cases hh : hasT n tag
  · exact ⟨by simp, by simp⟩
  · obtain ⟨t, rfl, ht⟩ := hasT_nat hh
    rw [if_pos rfl, if_pos rfl]
    constructor
    · rcases headD_mem' (l t) 0 with g | g
      · simp only [Int.toNat_natCast]; rw [g]; decide
      · exact (h.in32 hn ht g).1
    · rcases getLastD_mem' (l t) 0 with g | g
      · simp only [Int.toNat_natCast]; rw [g]; decide
      · exact (h.in32 hn ht g).1
end

section
variable {w0 w : World} {sp n : Nat} {l : Nat → List Nat} {A : St} {T : Tb} {K : List Nat}
theorem sfind_walk (h : SM w0 w sp n l A T K) (ft : Fit A T) (k : Nat) (hk : k < 18446744073709551616) :
    Calls Try.prog 11 #[ptr sp, .int .u64 (k : Nat)] w fun e w' => e = .returned (.tuple #[.int .i64 (if (T.get k).2 then tagI n l (T.get k).1 else 0), .bool (T.get k).2]) ∧ Below w.heap.size w w' := by
  obtain ⟨p, b, ix, hc, hq, _, _⟩ := h
  have HO := Lib.hid (open_walk hc)
  have HQ := Lib.hid hq
  have HG := Lib.hid (fun (W : World) (hb : Below w.heap.size w W) => sq_get (hq.still hb).1 ft.tn k hk)
  have HT := Lib.hid (fun (W : World) (hb : Below w.heap.size w W) => sq_tag (hq.still hb).1 _ (ft.g k))
  generalize (T.get k).1 = i at HG HT ⊢
  generalize (T.get k).2 = ok at HG ⊢
  generalize tagI n l i = tg at HT ⊢
  clear hc hq ft
  cases ok
  all_goals
    go_enter Try.func11, Try.ntmps11
    go_wp2_with fail
    refine HO.out.mono ?_
    rintro e w1 ⟨rfl, hb⟩
    have HB1 := Lib.hid hb
    have HB2 := Lib.hid (hb.alloc hb.size (.cells (partsC p n b ix) 71))
    have hbx := heap_alloc_new w1 (.cells (partsC p n b ix) 71)
    have HBX := Lib.hid hbx
    clear hb hbx
    go_wp2_with fail
    refine (HG.out _ HB2.out).mono ?_
    rintro e w2 ⟨rfl, hb2⟩
    have HB3 := Lib.hid (HB2.out.trans (hb2.mono HB2.out.size))
    obtain ⟨⟨c0, c1, c2, c3⟩, _⟩ := q4_at ((hb2.block w1.heap.size (by simp)).trans HBX.out)
    clear hb2
  · go_wp2
    exact bodyPost_ret (v := .tuple #[.int .i64 0, .bool false]) (by simp [results, Try.results11, go_sem]) rfl ⟨rfl, HB3.out⟩
  · go_wp2_with fail
    refine (HT.out _ HB3.out).mono ?_
    rintro e w3 ⟨rfl, hb3⟩
    have HB4 := Lib.hid (HB3.out.trans (hb3.mono HB3.out.size))
    clear hb3
    go_wp2
    exact bodyPost_ret (v := .tuple #[.int .i64 tg, .bool true]) (by simp [results, Try.results11, go_sem]) rfl ⟨rfl, HB4.out⟩
theorem slen_walk (h : SM w0 w sp n l A T K) (tag : Int) :
    Calls Try.prog 31 #[ptr sp, .int .i64 tag] w fun e w' => e = .returned (.int .i64 (lenL n l tag : Nat)) ∧ Below w.heap.size w w' := by
  obtain ⟨p, b, ix, hc, hq, _, _⟩ := h
  have HO := Lib.hid (open_walk hc)
  have HT := Lib.hid (fun (W : World) (hb : Below w.heap.size w W) => sq_len (hq.still hb).1 tag)
  generalize lenL n l tag = x at HT ⊢
  have hfld : ∀ w : World, (Instr.field 71 (.agg (partsC p n b ix)) 0).run Try.prog w = .ok (ptr p) w := fun _ => by kernel_rfl
  clear hc hq
  go_enter Try.func31, Try.ntmps31
  go_wp2_with fail
  refine HO.out.mono ?_
  rintro e w1 ⟨rfl, hb⟩
  have HB1 := Lib.hid hb
  clear hb
  go_wp2_with fail
  refine (HT.out _ HB1.out).mono ?_
  rintro e w2 ⟨rfl, rfl⟩
  go_wp2
  go_ret
  exact ⟨rfl, HB1.out⟩
theorem stot_walk (h : SM w0 w sp n l A T K) :
    Calls Try.prog 17 #[ptr sp] w fun e w' => e = .returned (.int .i64 (T.cnt : Nat)) ∧ Below w.heap.size w w' := by
  obtain ⟨p, b, ix, hc, hq, _, _⟩ := h
  have HO := Lib.hid (open_walk hc)
  have HT := Lib.hid (fun (W : World) (hb : Below w.heap.size w W) => sq_total (hq.still hb).1)
  generalize T.cnt = x at HT ⊢
  have hfld : ∀ w : World, (Instr.field 71 (.agg (partsC p n b ix)) 3).run Try.prog w = .ok (ptr ix) w := fun _ => by kernel_rfl
  clear hc hq
  go_enter Try.func17, Try.ntmps17
  go_wp2_with fail
  refine HO.out.mono ?_
  rintro e w1 ⟨rfl, hb⟩
  have HB1 := Lib.hid hb
  clear hb
  go_wp2_with fail
  refine (HT.out _ HB1.out).mono ?_
  rintro e w2 ⟨rfl, rfl⟩
  go_wp2
  go_ret
  exact ⟨rfl, HB1.out⟩
set_option maxHeartbeats 1000000 in
theorem sval_walk (h : SM w0 w sp n l A T K) (ft : Fit A T) (k : Nat) (hk : k < 18446744073709551616) :
    Calls Try.prog 14 #[ptr sp, .int .u64 (k : Nat)] w fun e w' => e = .returned (.int .u64 (A.at_ (T.get k).1).val) ∧ Below w.heap.size w w' := by
  obtain ⟨p, b, ix, hc, hq, _, _⟩ := h
  have HO := Lib.hid (open_walk hc)
  have HF := Lib.hid (fun (W : World) (hb : Below w.heap.size w W) => find_walk (hq.still hb).1 ft.tn k hk (ft.g k))
  generalize (T.get k).1 = i at HF ⊢
  obtain ⟨z, hz⟩ : ∃ z, (A.at_ i).val = z := ⟨_, rfl⟩
  have HZ := Lib.hid hz
  rw [hz]
  clear hc hq ft hz
  go_enter Try.func14, Try.ntmps14
  go_wp2_with fail
  refine HO.out.mono ?_
  rintro e w1 ⟨rfl, hb⟩
  have HB1 := Lib.hid hb
  clear hb
  go_wp2_with fail
  refine (HF.out _ HB1.out).mono ?_
  rintro e w2 ⟨y, rfl, hy, hb2⟩
  have HY : Hid (y.val = z) := Lib.hid (by rw [hy.node.2.1]; exact HZ.out)
  have HB2 := Lib.hid (HB1.out.trans (hb2.mono HB1.out.size))
  clear hb2 hy
  go_wp2
  go_ret
  exact ⟨congrArg (fun q : Int => Ending.returned (Value.int .u64 q)) HY.out, HB2.out.alloc HB2.out.size _⟩
set_option maxHeartbeats 1000000 in
theorem sflag_walk (h : SM w0 w sp n l A T K) (ft : Fit A T) (k : Nat) (hk : k < 18446744073709551616) :
    Calls Try.prog 15 #[ptr sp, .int .u64 (k : Nat)] w fun e w' => e = .returned (.int .i64 (A.at_ (T.get k).1).flag) ∧ Below w.heap.size w w' := by
  obtain ⟨p, b, ix, hc, hq, _, _⟩ := h
  have HO := Lib.hid (open_walk hc)
  have HF := Lib.hid (fun (W : World) (hb : Below w.heap.size w W) => find_walk (hq.still hb).1 ft.tn k hk (ft.g k))
  generalize (T.get k).1 = i at HF ⊢
  obtain ⟨z, hz⟩ : ∃ z, (A.at_ i).flag = z := ⟨_, rfl⟩
  have HZ := Lib.hid hz
  rw [hz]
  clear hc hq ft hz
  go_enter Try.func15, Try.ntmps15
  go_wp2_with fail
  refine HO.out.mono ?_
  rintro e w1 ⟨rfl, hb⟩
  have HB1 := Lib.hid hb
  clear hb
  go_wp2_with fail
  refine (HF.out _ HB1.out).mono ?_
  rintro e w2 ⟨y, rfl, hy, hb2⟩
  have HY : Hid (y.flag = z) := Lib.hid (by rw [hy.node.2.2]; exact HZ.out)
  have HB2 := Lib.hid (HB1.out.trans (hb2.mono HB1.out.size))
  clear hb2 hy
  go_wp2
  go_ret
  exact ⟨congrArg (fun q : Int => Ending.returned (Value.int .i64 q)) HY.out, HB2.out.alloc HB2.out.size _⟩
set_option maxHeartbeats 1000000 in
theorem sfront_walk (h : SM w0 w sp n l A T K) (ft : Fit A T) (tag : Int) :
    Calls Try.prog 23 #[ptr sp, .int .i64 tag] w fun e w' => e = .returned (.tuple #[.int .u64 (A.at_ (frontL n l tag : Nat)).key, .bool (!decide (((frontL n l tag : Nat) : Int) = 0))]) ∧ Below w.heap.size w w' := by
  obtain ⟨p, b, ix, hc, hq, _, _⟩ := h
  have HO := Lib.hid (open_walk hc)
  have HF := Lib.hid (fun (W : World) (hb : Below w.heap.size w W) => sq_front (hq.still hb).1 tag)
  have HI := Lib.hid (fun (W : World) (hb : Below w.heap.size w W) => keyIn_walk (hq.still hb).1 _ (hq.front32 ft.an tag).1)
  generalize ((frontL n l tag : Nat) : Int) = i at HF HI ⊢
  generalize (A.at_ i).key = z at HI ⊢
  generalize (!decide (i = 0)) = d at HI ⊢
  clear hc hq ft
  go_enter Try.func23, Try.ntmps23
  go_wp2_with fail
  refine HO.out.mono ?_
  rintro e w1 ⟨rfl, hb⟩
  have HB2 := Lib.hid (hb.alloc hb.size (.cells (partsC p n b ix) 71))
  have hbx := heap_alloc_new w1 (.cells (partsC p n b ix) 71)
  have HBX := Lib.hid hbx
  have hw1 := hb.size
  clear hb hbx
  go_upto_region 2 with fail
  generalize hX : w1.alloc (.cells (partsC p n b ix) 71) = X at HB2 HBX ⊢
  have hX1 : w1.heap.size < X.heap.size := by rw [← hX]; simp
  clear hX
  obtain ⟨⟨c0, c1, c2, c3⟩, _⟩ := q4_at HBX.out
  have HSS : Hid (∀ w', Below X.drew.heap.size X.drew w' → w'.cell? ⟨w1.heap.size, 0, none⟩ = some (ptr p) ∧ w'.cell? ⟨w1.heap.size, 1, none⟩ = some (.int .i64 (n : Nat)) ∧ w'.cell? ⟨w1.heap.size, 2, none⟩ = some (ptr b) ∧ w'.cell? ⟨w1.heap.size, 3, none⟩ = some (ptr ix)) := Lib.hid (fun w' hb => (q4_at ((hb.block w1.heap.size (by exact hX1)).trans HBX.out)).1)
  have HF1 := Lib.hid (HF.out _ HB2.out.drew)
  have HI1 := Lib.hid (HI.out _ HB2.out.drew)
  go_region_held3 (fun w' => w'.cell? ⟨w1.heap.size, 0, none⟩ = some (ptr p) ∧ w'.cell? ⟨w1.heap.size, 1, none⟩ = some (.int .i64 (n : Nat)) ∧ w'.cell? ⟨w1.heap.size, 2, none⟩ = some (ptr b) ∧ w'.cell? ⟨w1.heap.size, 3, none⟩ = some (ptr ix)) (first | with_reducible exact kk5 | go_keep)
    (first
      | (go_at_call 54; refine HF1.out.mono ?_; rintro e w5 ⟨rfl, rfl⟩)
      | (go_at_call 53; refine HI1.out.mono ?_; rintro e w6 ⟨rfl, b6⟩; have kk5 := HSS.out w6 b6))
  have HB6 := Lib.hid (HB2.out.drew.trans (b6.mono HB2.out.drew.size))
  clear kk5 b6
  go_wp2
  exact bodyPost_ret (v := .tuple #[.int .u64 z, .bool d]) (by simp [results, Try.results23, go_sem]) rfl ⟨rfl, HB6.out⟩
set_option maxHeartbeats 1000000 in
theorem sback_walk (h : SM w0 w sp n l A T K) (ft : Fit A T) (tag : Int) :
    Calls Try.prog 24 #[ptr sp, .int .i64 tag] w fun e w' => e = .returned (.tuple #[.int .u64 (A.at_ (backL n l tag : Nat)).key, .bool (!decide (((backL n l tag : Nat) : Int) = 0))]) ∧ Below w.heap.size w w' := by
  obtain ⟨p, b, ix, hc, hq, _, _⟩ := h
  have HO := Lib.hid (open_walk hc)
  have HF := Lib.hid (fun (W : World) (hb : Below w.heap.size w W) => sq_back (hq.still hb).1 tag)
  have HI := Lib.hid (fun (W : World) (hb : Below w.heap.size w W) => keyIn_walk (hq.still hb).1 _ (hq.front32 ft.an tag).2)
  generalize ((backL n l tag : Nat) : Int) = i at HF HI ⊢
  generalize (A.at_ i).key = z at HI ⊢
  generalize (!decide (i = 0)) = d at HI ⊢
  clear hc hq ft
  go_enter Try.func24, Try.ntmps24
  go_wp2_with fail
  refine HO.out.mono ?_
  rintro e w1 ⟨rfl, hb⟩
  have HB2 := Lib.hid (hb.alloc hb.size (.cells (partsC p n b ix) 71))
  have hbx := heap_alloc_new w1 (.cells (partsC p n b ix) 71)
  have HBX := Lib.hid hbx
  have hw1 := hb.size
  clear hb hbx
  go_upto_region 2 with fail
  generalize hX : w1.alloc (.cells (partsC p n b ix) 71) = X at HB2 HBX ⊢
  have hX1 : w1.heap.size < X.heap.size := by rw [← hX]; simp
  clear hX
  obtain ⟨⟨c0, c1, c2, c3⟩, _⟩ := q4_at HBX.out
  have HSS : Hid (∀ w', Below X.drew.heap.size X.drew w' → w'.cell? ⟨w1.heap.size, 0, none⟩ = some (ptr p) ∧ w'.cell? ⟨w1.heap.size, 1, none⟩ = some (.int .i64 (n : Nat)) ∧ w'.cell? ⟨w1.heap.size, 2, none⟩ = some (ptr b) ∧ w'.cell? ⟨w1.heap.size, 3, none⟩ = some (ptr ix)) := Lib.hid (fun w' hb => (q4_at ((hb.block w1.heap.size (by exact hX1)).trans HBX.out)).1)
  have HF1 := Lib.hid (HF.out _ HB2.out.drew)
  have HI1 := Lib.hid (HI.out _ HB2.out.drew)
  go_region_held3 (fun w' => w'.cell? ⟨w1.heap.size, 0, none⟩ = some (ptr p) ∧ w'.cell? ⟨w1.heap.size, 1, none⟩ = some (.int .i64 (n : Nat)) ∧ w'.cell? ⟨w1.heap.size, 2, none⟩ = some (ptr b) ∧ w'.cell? ⟨w1.heap.size, 3, none⟩ = some (ptr ix)) (first | with_reducible exact kk5 | go_keep)
    (first
      | (go_at_call 55; refine HF1.out.mono ?_; rintro e w5 ⟨rfl, rfl⟩)
      | (go_at_call 53; refine HI1.out.mono ?_; rintro e w6 ⟨rfl, b6⟩; have kk5 := HSS.out w6 b6))
  have HB6 := Lib.hid (HB2.out.drew.trans (b6.mono HB2.out.drew.size))
  clear kk5 b6
  go_wp2
  exact bodyPost_ret (v := .tuple #[.int .u64 z, .bool d]) (by simp [results, Try.results24, go_sem]) rfl ⟨rfl, HB6.out⟩
set_option maxHeartbeats 1000000 in
theorem srooms_walk (h : SM w0 w sp n l A T K) :
    Calls Try.prog 22 #[ptr sp] w fun e w' => e = .returned (.tuple #[.int .i64 (A.n : Nat), .int .i64 (T.n : Nat)]) ∧ Below w.heap.size w w' := by
  obtain ⟨p, b, ix, hc, hq, _, _⟩ := h
  have HO := Lib.hid (open_walk hc)
  have HF := Lib.hid (fun (W : World) (hb : Below w.heap.size w W) => sq_nodes (hq.still hb).1)
  have HI := Lib.hid (fun (W : World) (hb : Below w.heap.size w W) => sq_slots (hq.still hb).1)
  generalize A.n = x at HF ⊢
  generalize T.n = z at HI ⊢
  clear hc hq
  go_enter Try.func22, Try.ntmps22
  go_wp2_with fail
  refine HO.out.mono ?_
  rintro e w1 ⟨rfl, hb⟩
  have HB2 := Lib.hid (hb.alloc hb.size (.cells (partsC p n b ix) 71))
  have hbx := heap_alloc_new w1 (.cells (partsC p n b ix) 71)
  have HBX := Lib.hid hbx
  have hw1 := hb.size
  clear hb hbx
  go_upto_region 2 with fail
  generalize hX : w1.alloc (.cells (partsC p n b ix) 71) = X at HB2 HBX ⊢
  clear hX
  obtain ⟨⟨c0, c1, c2, c3⟩, _⟩ := q4_at HBX.out
  have HF1 := Lib.hid (HF.out _ HB2.out.drew)
  have HI1 := Lib.hid (HI.out _ HB2.out.drew)
  go_region_held3 (fun w' => w'.cell? ⟨w1.heap.size, 2, none⟩ = some (ptr b) ∧ w'.cell? ⟨w1.heap.size, 3, none⟩ = some (ptr ix)) (first | go_keep)
    (first
      | (go_at_call 51; refine HF1.out.mono ?_; rintro e w5 ⟨rfl, rfl⟩)
      | (go_at_call 52; refine HI1.out.mono ?_; rintro e w6 ⟨rfl, rfl⟩))
  go_wp2
  exact bodyPost_ret (v := .tuple #[.int .i64 (x : Nat), .int .i64 (z : Nat)]) (by simp [results, Try.results22, go_sem]) rfl ⟨rfl, HB2.out.drew⟩
end
end Go.Proofs.Ytnacmhljbnpdpaa
/- Package store: New. -/
namespace Go.Proofs.Ytnacmhljbnpdpaa
open Go Go.RowKit Go.Deep

section
variable {w0 w : World} {p b n : Nat} {l : Nat → List Nat} {A : St} {K : List Nat}
theorem held_new_k (hb : Below w0.heap.size w0 w) (hK : ∀ k ∈ K, k < w.heap.size) :
    Calls Try.prog 43 #[.int .i64 7] w fun e w' => e = .returned (.pointer (some ⟨w.heap.size, 0, none⟩)) ∧ Held w0 w' w.heap.size (St.first 8) K ∧ Kept K w w' := by
  refine (new_walk w 7 (by decide) (by decide)).mono ?_
  rintro e w' ⟨rfl, ho, ha⟩
  have hsz := hb.size
  refine ⟨rfl, ⟨hb.trans (ho.nil_below.mono hsz), first_ok _ (by omega), fun k hk => Nat.lt_of_lt_of_le (hK k hk) ho.size, _, _, by omega, by omega, by omega, fun q => ?_, fun q => ?_, fun q => ?_, ha⟩, fun k hk => ho.nil_below.block k (hK k hk)⟩
  · have := hK _ q; omega
  · have := hK _ q; omega
  · have := hK _ q; omega
theorem sq_make (h : HL w0 w p b n l A K) : ∃ F, (∀ k ∈ F, k < w.heap.size) ∧ ∀ w3 ix T, Below w.heap.size w w3 → HX w0 w3 ix T (F ++ K) → SQ w0 w3 p b ix n l A T K := by
  have hold := h.old
  obtain ⟨x, h1, h2, h3, h4⟩ := h
  obtain ⟨F, f1, f2⟩ := h1.foot
  refine ⟨F, fun k hk => (f1.old k hk).2, fun w3 ix T hb hx => ?_⟩
  obtain ⟨G, g1, g2⟩ := hx.foot
  have hxo := hx.old
  exact ⟨x, F, G, hx.below, f1.keep (fun k hk => ⟨hb.block k (f1.old k hk).2, hxo k (by simp [hk])⟩), h2, h3, h4, g1, fun k hk => ⟨fun q => g2 k q (by simp [hk]), f2 k hk⟩, fun k hk q => g2 k hk (by simp [q]), fun k hk => hxo k (by simp [hk])⟩
theorem sm_box {p b ix sp : Nat} {T : Tb} (h : SQ w0 w p b ix n l A T K) (hw : w0.heap.size ≤ w.heap.size) (hs : sp = w.heap.size) : SM w0 (w.alloc (.cells (partsC p n b ix) 89)) sp n l A T K := by
  subst hs
  refine ⟨p, b, ix, heap_alloc_new w _, h.other ((Below.refl _ _).alloc (Nat.le_refl _) _) (fun k hk => ?_), hw, fun q => ?_⟩
  · rcases List.mem_cons.1 hk with rfl | hk
    · exact ⟨.inr (Nat.le_refl _), by simp⟩
    · exact ⟨.inl hk, by have := h.old k hk; simp; omega⟩
  · have := h.old _ q; omega
end
section
variable {w0 w : World} {K : List Nat}
def NewPost (w0 w : World) (n : Nat) (K : List Nat) (e : Ending) (w' : World) : Prop :=
  ∃ sp, e = .returned (ptr sp) ∧ SM w0 w' sp n (fun _ => []) (St.first 8) Tb.new K ∧ Kept K w w'
theorem first_links : ∀ j, j ≠ 0 → ((St.first 8).node j).tag = 0 ∧ ((St.first 8).node j).prev = 0 ∧ ((St.first 8).node j).next = 0 := fun _ _ => ⟨rfl, rfl, rfl⟩
theorem numT_same (n : Nat) (h1 : 1 ≤ n) (h8 : n ≤ 8) : numT n = n := by
  unfold numT
  rw [if_neg (by omega), if_neg (by omega)]
  omega
set_option maxHeartbeats 1000000 in
theorem store_new_n (hb : Below w0.heap.size w0 w) (hK : ∀ k ∈ K, k < w.heap.size) (q : Int) (n : Nat) (h1 : 1 ≤ n) (h8 : n ≤ 8) (hq : q < 1 ∧ n = 1 ∨ 8 < q ∧ n = 8 ∨ 1 ≤ q ∧ q ≤ 8 ∧ q = n) :
    Calls Try.prog 18 #[.int .i64 q] w (NewPost w0 w n K) := by
  have HA := Lib.hid (held_new_k hb hK)
  have HN : Hid (∀ W, Held w0 W w.heap.size (St.first 8) K → Calls Try.prog 44 #[ptr w.heap.size, .int .i64 (n : Nat)] W fun e w' => ∃ p, e = .returned (ptr p) ∧ HL w0 w' p w.heap.size n (fun _ => []) (St.first 8) K ∧ Kept K W w') := Lib.hid (fun W hW => by
    have g := ilnew_walk hW (by decide) first_links (n : Nat)
    rw [numT_same n h1 h8] at g
    exact g.mono fun e w' ⟨he, hh, hk⟩ => ⟨_, he, hh, hk⟩)
  have HX := Lib.hid (fun (W : World) (hW : Below w0.heap.size w0 W) (K2 : List Nat) (hK2 : ∀ k ∈ K2, k < W.heap.size) => hx_new hW K2 hK2)
  have HB := Lib.hid hb
  have HK := Lib.hid hK
  clear hb hK
  rcases hq with ⟨hq, rfl⟩ | ⟨hq, rfl⟩ | ⟨hq, hq2, rfl⟩
  all_goals
    go_enter Try.func18, Try.ntmps18
    go_wp2_with fail
    refine HA.out.mono ?_
    rintro e w1 ⟨rfl, hh, hk⟩
    have HH := Lib.hid hh
    have HK1 := Lib.hid hk
    clear hh hk
    go_wp2_with fail
    refine (HN.out w1 HH.out).mono ?_
    rintro e w2 ⟨p, rfl, hh, hk⟩
    obtain ⟨F, hF, hmk⟩ := sq_make hh
    have HF := Lib.hid hF
    have HMK := Lib.hid hmk
    have HK2 := Lib.hid (Kept.trans HK1.out hk)
    have HHL := Lib.hid hh
    clear hh hk hF hmk
    go_wp2_with fail
    refine (HX.out w2 HHL.out.below (F ++ K) (fun k hk => by
      rcases List.mem_append.1 hk with q | q
      · exact HF.out k q
      · exact HHL.out.old k q)).mono ?_
    rintro e w3 ⟨ix, rfl, hx, hb3⟩
    have HSQ := Lib.hid (HMK.out _ _ _ hb3 hx)
    have HK3 := Lib.hid (HK2.out.low hb3 HHL.out.old)
    clear hx hb3
    go_wp2
    go_ret
    have hs := HSQ.out.below.size
    exact ⟨_, rfl, sm_box HSQ.out hs rfl, HK3.out.low ((Below.refl _ _).alloc (Nat.le_refl _) _) HSQ.out.old⟩
theorem store_new (hb : Below w0.heap.size w0 w) (hK : ∀ k ∈ K, k < w.heap.size) (q : Int) :
    Calls Try.prog 18 #[.int .i64 q] w (NewPost w0 w (numT q) K) := by
  have hn := numT_bounds q
  refine store_new_n hb hK q (numT q) hn.1 hn.2 ?_
  unfold numT
  by_cases h1 : q < 1
  · exact .inl ⟨h1, if_pos h1⟩
  · by_cases h8 : 8 < q
    · exact .inr (.inl ⟨h8, by rw [if_neg h1, if_pos h8]⟩)
    · exact .inr (.inr ⟨by omega, by omega, by rw [if_neg h1, if_neg h8]; omega⟩)
end
end Go.Proofs.Ytnacmhljbnpdpaa
