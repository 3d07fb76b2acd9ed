/- Words and walks: SsX SsY SsT SrA SrB SrG SrW SrE SrK HxQ HxO HxJ SrR StepA SrP SrS SrT SrQ SrM SrD. -/
import Derived.Test.YtkhikpnlpcankaaGreatG0
import Derived.Test.YtkhikpnlpcankaaGreatG11
import Derived.Test.YtkhikpnlpcankaaGreatG8
import Derived.Test.YtkhikpnlpcankaaGreatG9
import Derived.Deep.RegionHeld3
import Derived.IntWalk
import Derived.Laws.AppendOwnNone
import Derived.Deep.RegionWith
import Derived.Deep.AppendLies
namespace Go.Proofs.YtkhikpnlpcankaaGreat
open Go Go.RowKit Go.Deep
def SM (w0 w : World) (sp n : Nat) (l : Nat → List Nat) (A : St) (T : Tb) (K : List Nat) : Prop :=
  ∃ p b ix, w.heap[sp]? = some (.cells (partsC p n b ix) 103 (0, 0)) ∧ SQ w0 w p b ix n l A T (sp :: K) ∧ w0.heap.size ≤ sp ∧ sp ∉ K
structure Fit (A : St) (T : Tb) : Prop where
  tn : T.n ≤ 100000
  an : A.n ≤ 400000
  g : ∀ k, (T.get k).1 ≤ 2147483647
section
variable {w0 w w' : World} {sp n : Nat} {l : Nat → List Nat} {A : St} {T : Tb} {K K' : List Nat}
theorem SM.other (h : SM w0 w sp n l A T K) (hb : Below w.heap.size w w') (hk : ∀ k ∈ K', (k ∈ K ∨ w.heap.size ≤ k) ∧ k < w'.heap.size) : SM w0 w' sp n l A T K' := by
  obtain ⟨p, b, ix, h1, h2, h3, h4⟩ := h
  have hlt := h2.old sp (by simp)
  refine ⟨p, b, ix, (hb.block sp hlt).trans h1, h2.other hb (fun k hk' => ?_), h3, fun q => ?_⟩
  · rcases List.mem_cons.1 hk' with rfl | hk'
    · exact ⟨.inl (by simp), Nat.lt_of_lt_of_le hlt hb.size⟩
    · exact ⟨(hk k hk').1.imp (fun q => by simp [q]) id, (hk k hk').2⟩
  · rcases (hk sp q).1 with q | q
    · exact h4 q
    · omega
theorem SM.old (h : SM w0 w sp n l A T K) : ∀ k ∈ K, k < w.heap.size := by
  obtain ⟨p, b, ix, h1, h2, h3, h4⟩ := h
  exact fun k hk => h2.old k (by simp [hk])
theorem SM.below (h : SM w0 w sp n l A T K) : Below w0.heap.size w0 w := by
  obtain ⟨p, b, ix, h1, h2, h3, h4⟩ := h
  exact h2.below
theorem SM.still (h : SM w0 w sp n l A T K) (hb : Below w.heap.size w w') : SM w0 w' sp n l A T K ∧ Kept K w w' :=
  ⟨h.other hb (fun k hk => ⟨.inl hk, Nat.lt_of_lt_of_le (h.old k hk) hb.size⟩), fun k hk => hb.block k (h.old k hk)⟩
theorem Kept.low {W : World} (h : Kept K w W) (hb : Below W.heap.size W w') (hK : ∀ k ∈ K, k < W.heap.size) : Kept K w w' := fun k hk => (hb.block k (hK k hk)).trans (h k hk)
theorem SQ.used {p b ix : Nat} (h : SQ w0 w p b ix n l A T K) : A.used < A.n := by
  obtain ⟨x, F, G, h⟩ := h
  have := h.heldl.ok.room
  rw [← h.al.used, ← h.al.n]
  exact this
theorem SQ.in32 {p b ix : Nat} (h : SQ w0 w p b ix n l A T K) (hn : A.n ≤ 400000) {t i : Nat} (ht : t < n) (hi : i ∈ l t) : (i : Int) ≤ 2147483647 ∧ i ≠ 0 ∧ A.at_ i = A.node i := by
  have h1 := h.ap_.2.2.1 t i ht hi
  have h2 := tk_bounds h1
  have := h.used
  refine ⟨by omega, by omega, ?_⟩
  have his : A.is i = true := by unfold St.is; rw [decide_eq_true (by omega)]; simpa using h1
  unfold St.at_
  rw [his]
  rfl
theorem SQ.front32 {p b ix : Nat} (h : SQ w0 w p b ix n l A T K) (hn : A.n ≤ 400000) (tag : Int) : (frontL n l tag : Int) ≤ 2147483647 ∧ (backL n l tag : Int) ≤ 2147483647 := by
  unfold frontL backL
  cases hh : hasT n tag
  · exact ⟨by simp, by simp⟩
  · obtain ⟨t, rfl, ht⟩ := hasT_nat hh
    rw [if_pos rfl, if_pos rfl]
    constructor
    · rcases headD_mem' (l t) 0 with g | g
      · simp only [Int.toNat_natCast]; rw [g]; decide
      · exact (h.in32 hn ht g).1
    · rcases getLastD_mem' (l t) 0 with g | g
      · simp only [Int.toNat_natCast]; rw [g]; decide
      · exact (h.in32 hn ht g).1
end
section
variable {w0 w : World} {sp n : Nat} {l : Nat → List Nat} {A : St} {T : Tb} {K : List Nat}
theorem sfind_walk (h : SM w0 w sp n l A T K) (ft : Fit A T) (k : Nat) (hk : k < 18446744073709551616) :
    Calls Tryz.prog 46 #[ptr sp, .int .u64 (k : Nat)] w fun e w' => e = .returned (.tuple #[.int .i64 (if (T.get k).2 then tagI n l (T.get k).1 else 0), .bool (T.get k).2]) ∧ Below w.heap.size w w' := by
  obtain ⟨p, b, ix, hc, hq, _, _⟩ := h
  have HO := Lib.hid (open_walk hc)
  have HQ := Lib.hid hq
  have HG := Lib.hid (fun (W : World) (hb : Below w.heap.size w W) => sq_get (hq.still hb).1 ft.tn k hk)
  have HT := Lib.hid (fun (W : World) (hb : Below w.heap.size w W) => sq_tag (hq.still hb).1 _ (ft.g k))
  generalize (T.get k).1 = i at HG HT ⊢
  generalize (T.get k).2 = ok at HG ⊢
  generalize tagI n l i = tg at HT ⊢
  clear hc hq ft
  cases ok
  all_goals
    go_enter Tryz.func46, Tryz.ntmps46
    go_wp2_with fail
    refine HO.out.mono ?_
    rintro e w1 ⟨rfl, hb⟩
    have HB1 := Lib.hid hb
    have HB2 := Lib.hid (hb.alloc hb.size (.cells (partsC p n b ix) 101))
    have hbx := heap_alloc_new w1 (.cells (partsC p n b ix) 101)
    have HBX := Lib.hid hbx
    clear hb hbx
    go_wp2_with fail
    refine (HG.out _ HB2.out).mono ?_
    rintro e w2 ⟨rfl, hb2⟩
    have HB3 := Lib.hid (HB2.out.trans (hb2.mono HB2.out.size))
    obtain ⟨⟨c0, c1, c2, c3⟩, _⟩ := q4_at ((hb2.block w1.heap.size (by simp)).trans HBX.out)
    clear hb2
  · go_wp2
    exact bodyPost_ret (v := .tuple #[.int .i64 0, .bool false]) (by simp [results, Tryz.results46, go_sem]) rfl ⟨rfl, HB3.out⟩
  · go_wp2_with fail
    refine (HT.out _ HB3.out).mono ?_
    rintro e w3 ⟨rfl, hb3⟩
    have HB4 := Lib.hid (HB3.out.trans (hb3.mono HB3.out.size))
    clear hb3
    go_wp2
    exact bodyPost_ret (v := .tuple #[.int .i64 tg, .bool true]) (by simp [results, Tryz.results46, go_sem]) rfl ⟨rfl, HB4.out⟩
theorem slen_walk (h : SM w0 w sp n l A T K) (tag : Int) :
    Calls Tryz.prog 47 #[ptr sp, .int .i64 tag] w fun e w' => e = .returned (.int .i64 (lenL n l tag : Nat)) ∧ Below w.heap.size w w' := by
  obtain ⟨p, b, ix, hc, hq, _, _⟩ := h
  have HO := Lib.hid (open_walk hc)
  have HT := Lib.hid (fun (W : World) (hb : Below w.heap.size w W) => sq_len (hq.still hb).1 tag)
  generalize lenL n l tag = x at HT ⊢
  have hfld : ∀ w : World, (Instr.field 101 (.agg (partsC p n b ix)) 0).run Tryz.prog w = .ok (ptr p) w := fun _ => by kernel_rfl
  clear hc hq
  go_enter Tryz.func47, Tryz.ntmps47
  go_wp2_with fail
  refine HO.out.mono ?_
  rintro e w1 ⟨rfl, hb⟩
  have HB1 := Lib.hid hb
  clear hb
  go_wp2_with fail
  refine (HT.out _ HB1.out).mono ?_
  rintro e w2 ⟨rfl, rfl⟩
  go_wp2
  go_ret
  exact ⟨rfl, HB1.out⟩
set_option maxHeartbeats 1000000 in
theorem sback_walk (h : SM w0 w sp n l A T K) (ft : Fit A T) (tag : Int) :
    Calls Tryz.prog 108 #[ptr sp, .int .i64 tag] w fun e w' => e = .returned (.tuple #[.int .u64 (A.at_ (backL n l tag : Nat)).key, .bool (!decide (((backL n l tag : Nat) : Int) = 0))]) ∧ Below w.heap.size w w' := by
  obtain ⟨p, b, ix, hc, hq, _, _⟩ := h
  have HO := Lib.hid (open_walk hc)
  have HF := Lib.hid (fun (W : World) (hb : Below w.heap.size w W) => sq_back (hq.still hb).1 tag)
  have HI := Lib.hid (fun (W : World) (hb : Below w.heap.size w W) => keyIn_walk (hq.still hb).1 _ (hq.front32 ft.an tag).2)
  generalize ((backL n l tag : Nat) : Int) = i at HF HI ⊢
  generalize (A.at_ i).key = z at HI ⊢
  generalize (!decide (i = 0)) = d at HI ⊢
  clear hc hq ft
  go_enter Tryz.func108, Tryz.ntmps108
  go_wp2_with fail
  refine HO.out.mono ?_
  rintro e w1 ⟨rfl, hb⟩
  have HB2 := Lib.hid (hb.alloc hb.size (.cells (partsC p n b ix) 101))
  have hbx := heap_alloc_new w1 (.cells (partsC p n b ix) 101)
  have HBX := Lib.hid hbx
  have hw1 := hb.size
  clear hb hbx
  go_upto_region 2 with fail
  generalize hX : w1.alloc (.cells (partsC p n b ix) 101) = X at HB2 HBX ⊢
  have hX1 : w1.heap.size < X.heap.size := by rw [← hX]; simp
  clear hX
  obtain ⟨⟨c0, c1, c2, c3⟩, _⟩ := q4_at HBX.out
  have HSS : Hid (∀ w', Below X.drew.heap.size X.drew w' → w'.cell? ⟨w1.heap.size, 0, none⟩ = some (ptr p) ∧ w'.cell? ⟨w1.heap.size, 1, none⟩ = some (.int .i64 (n : Nat)) ∧ w'.cell? ⟨w1.heap.size, 2, none⟩ = some (ptr b) ∧ w'.cell? ⟨w1.heap.size, 3, none⟩ = some (ptr ix)) := Lib.hid (fun w' hb => (q4_at ((hb.block w1.heap.size (by exact hX1)).trans HBX.out)).1)
  have HF1 := Lib.hid (HF.out _ HB2.out.drew)
  have HI1 := Lib.hid (HI.out _ HB2.out.drew)
  go_region_held3 (fun w' => w'.cell? ⟨w1.heap.size, 0, none⟩ = some (ptr p) ∧ w'.cell? ⟨w1.heap.size, 1, none⟩ = some (.int .i64 (n : Nat)) ∧ w'.cell? ⟨w1.heap.size, 2, none⟩ = some (ptr b) ∧ w'.cell? ⟨w1.heap.size, 3, none⟩ = some (ptr ix)) (first | with_reducible exact kk5 | go_keep)
    (first
      | (go_at_call 128; refine HF1.out.mono ?_; rintro e w5 ⟨rfl, rfl⟩)
      | (go_at_call 127; refine HI1.out.mono ?_; rintro e w6 ⟨rfl, b6⟩; have kk5 := HSS.out w6 b6))
  have HB6 := Lib.hid (HB2.out.drew.trans (b6.mono HB2.out.drew.size))
  clear kk5 b6
  go_wp2
  exact bodyPost_ret (v := .tuple #[.int .u64 z, .bool d]) (by simp [results, Tryz.results108, go_sem]) rfl ⟨rfl, HB6.out⟩
end
section
variable {w0 w w' W : World} {sp n p b ix : Nat} {l l' : Nat → List Nat} {A A' : St} {T T' : Tb} {K K1 : List Nat}
theorem sm_turn (hc : w.heap[sp]? = some (.cells (partsC p n b ix) 103 (0, 0))) (h3 : w0.heap.size ≤ sp) (h4 : sp ∉ K) (hold : ∀ k ∈ K, k < w.heap.size) (hb : Below w.heap.size w W) (hq : SQ w0 w' p b ix n l' A' T' K1) (hk : Kept K1 W w') (h1 : ∀ k, k = sp ∨ k ∈ K → k ∈ K1) : SM w0 w' sp n l' A' T' K ∧ Kept K w w' := by
  have hsp : sp < w.heap.size := (head_row hc).lt
  refine ⟨⟨p, b, ix, (hk sp (h1 sp (.inl rfl))).trans ((hb.block sp hsp).trans hc), hq.less (fun k hk' => h1 k (by simpa using hk')), h3, h4⟩, fun k hk' => (hk k (h1 k (.inr hk'))).trans (hb.block k (hold k hk'))⟩
set_option maxHeartbeats 1000000 in
theorem smov_walk (h : SM w0 w sp n l A T K) (ft : Fit A T) (tag : Int) (k : Nat) (hk : k < 18446744073709551616) :
    Calls Tryz.prog 109 #[ptr sp, .int .i64 tag, .int .u64 (k : Nat)] w fun e w' => e = .returned (.bool (moveOk n l tag (T.get k).1)) ∧ SM w0 w' sp n (moveL n l tag (T.get k).1) A T K ∧ Kept K w w' := by
  have hold := h.old
  obtain ⟨p, b, ix, hc, hq, h3, h4⟩ := h
  have HO := Lib.hid (open_walk hc)
  have HTN := Lib.hid (fun (W w' : World) (l' : Nat → List Nat) => sm_turn (w' := w') (W := W) (l' := l') (A' := A) (T' := T) (K1 := sp :: K) hc h3 h4 hold)
  have HF := Lib.hid (fun (W : World) (hb : Below w.heap.size w W) => find_walk (hq.still hb).1 ft.tn k hk (ft.g k))
  have HM := Lib.hid (fun (W : World) (hb : Below w.heap.size w W) => sq_moveFront (hq.still hb).1 tag _ (ft.g k))
  generalize (T.get k).1 = i at HF HM ⊢
  generalize moveOk n l tag i = d at HM ⊢
  generalize moveL n l tag i = l2 at HM ⊢
  clear hc hq ft h3 h4 hold
  go_enter Tryz.func109, Tryz.ntmps109
  go_wp2_with fail
  refine HO.out.mono ?_
  rintro e w1 ⟨rfl, hb⟩
  have HB2 := Lib.hid (hb.alloc hb.size (.cells (partsC p n b ix) 101))
  have hbx := heap_alloc_new w1 (.cells (partsC p n b ix) 101)
  have HBX := Lib.hid hbx
  clear hb hbx
  go_wp2_with fail
  refine (HF.out _ HB2.out).mono ?_
  rintro e w2 ⟨y, rfl, hy, hb2⟩
  have HB3 := Lib.hid (HB2.out.trans (hb2.mono HB2.out.size))
  obtain ⟨⟨c0, c1, c2, c3⟩, _⟩ := q4_at ((hb2.block w1.heap.size (by simp)).trans HBX.out)
  have hw12 : w1.heap.size < w2.heap.size := by have := hb2.size; simp at this; omega
  have HB4 := Lib.hid (HB3.out.alloc HB3.out.size (.cells (ndC y) 117))
  clear hb2 hy
  go_wp2_with fail
  refine (HM.out _ HB4.out).mono ?_
  rintro e w3 ⟨rfl, q1, q2⟩
  have HE := Lib.hid (HTN.out _ _ _ HB4.out q1 q2 (fun k hk => by simpa using hk))
  clear q1 q2 c0 c1 c2 c3
  go_wp2
  go_ret
  exact ⟨rfl, HE.out⟩
end
end Go.Proofs.YtkhikpnlpcankaaGreat
namespace Go.Proofs.YtkhikpnlpcankaaGreat
structure Sim (T U : Tb) : Prop where
  n : T.n = U.n
  key : ∀ i, (T.sl i).key = (U.sl i).key
  full : ∀ i, (T.sl i).full = (U.sl i).full
theorem Sim.refl (T : Tb) : Sim T T := ⟨rfl, fun _ => rfl, fun _ => rfl⟩
section
variable {T U : Tb}
theorem Sim.go (h : Sim T U) (k j : Nat) : T.go k j = U.go k j := by unfold Tb.go; rw [h.n]
theorem Sim.stops (h : Sim T U) (k : Nat) : T.stops k = U.stops k := by
  funext j
  unfold Tb.stops
  rw [h.go, h.key, h.full]
theorem Sim.steps (h : Sim T U) (k : Nat) : T.steps k = U.steps k := by unfold Tb.steps; rw [h.stops, h.n]
theorem Sim.look (h : Sim T U) (k : Nat) : T.look k = U.look k := by unfold Tb.look; rw [h.steps, h.go]
theorem Sim.there (h : Sim T U) (k : Nat) : T.there k = U.there k := by unfold Tb.there; rw [h.look, h.full]
theorem Sim.cnt (h : Sim T U) : T.cnt = U.cnt := by
  unfold Tb.cnt
  rw [h.n]
  exact cntB_same _ (fun x _ => h.full x)
theorem Sim.lay (h : Sim T U) {s s' : Sl} (hk : s.key = s'.key) (hf : s.full = s'.full) : Sim (T.lay s) (U.lay s') := by
  refine ⟨h.n, fun i => ?_, fun i => ?_⟩
  · show (if i = T.look s.key then s else T.sl i).key = (if i = U.look s'.key then s' else U.sl i).key
    rw [h.look, hk]
    split
    · exact hk
    · exact h.key i
  · show (if i = T.look s.key then s else T.sl i).full = (if i = U.look s'.key then s' else U.sl i).full
    rw [h.look, hk]
    split
    · exact hf
    · exact h.full i
theorem Sim.growUp (h : Sim T U) : ∀ m, Sim (T.growUp m) (U.growUp m)
  | 0 => ⟨by show 2 * T.n = 2 * U.n; rw [h.n], fun _ => rfl, fun _ => rfl⟩
  | m + 1 => by
    unfold Tb.growUp
    rw [h.full m]
    split
    · exact (h.growUp m).lay (h.key m) (h.full m)
    · exact h.growUp m
theorem Sim.put (h : Sim T U) (k : Nat) (v v' : Int) : Sim (T.put k v) (U.put k v') := by
  unfold Tb.put
  rw [h.there, h.n, h.cnt]
  split
  · refine Sim.lay ?_ rfl rfl
    unfold Tb.grow
    rw [h.n]
    exact h.growUp _
  · exact h.lay rfl rfl
theorem Sim.wipe (h : Sim T U) (a : Nat) : ∀ m, Sim (T.wipe a m) (U.wipe a m)
  | 0 => h
  | m + 1 => by
    refine ⟨h.n, fun i => ?_, fun i => ?_⟩
    · show (if i = (a + m) % T.n then Sl.no else (T.wipe a m).sl i).key = (if i = (a + m) % U.n then Sl.no else (U.wipe a m).sl i).key
      rw [h.n]
      split
      · rfl
      · exact (h.wipe a m).key i
    · show (if i = (a + m) % T.n then Sl.no else (T.wipe a m).sl i).full = (if i = (a + m) % U.n then Sl.no else (U.wipe a m).sl i).full
      rw [h.n]
      split
      · rfl
      · exact (h.wipe a m).full i
theorem Sim.run (h : Sim T U) (a : Nat) : T.run a = U.run a := by
  unfold Tb.run
  rw [h.n]
  congr 1
  funext j
  rw [(h.wipe a 1).full]
theorem Sim.relay (h : Sim T U) (a r : Nat) : ∀ m, Sim (T.relay a r m) (U.relay a r m)
  | 0 => h.wipe a (r + 1)
  | m + 1 => by
    show Sim ((T.relay a r m).lay (T.sl ((a + 1 + m) % T.n))) ((U.relay a r m).lay (U.sl ((a + 1 + m) % U.n)))
    rw [h.n]
    exact (h.relay a r m).lay (h.key _) (h.full _)
theorem Sim.del (h : Sim T U) (k : Nat) : Sim (T.del k) (U.del k) := by
  unfold Tb.del
  rw [h.there, h.look, h.run]
  split
  · exact h.relay _ _ _
  · exact h
end
end Go.Proofs.YtkhikpnlpcankaaGreat
namespace Go.Proofs.YtkhikpnlpcankaaGreat
open Go Go.RowKit Go.Deep
structure Ent where
  key : Nat
  val : Nat
  flag : Int
def EntAt (w : World) (b i : Nat) (e : Ent) : Prop := w.cell? ⟨b, i * 3, none⟩ = some (.int .u64 (e.key : Nat)) ∧ w.cell? ⟨b, i * 3 + 1, none⟩ = some (.int .u64 (e.val : Nat)) ∧ w.cell? ⟨b, i * 3 + 2, none⟩ = some (.int .i64 e.flag)
structure EntRow (w : World) (F : Option Addr) (xs : List Ent) (c : Nat) (K : List Nat) : Prop where
  cap : xs.length ≤ c
  mem : F = none ∧ xs = [] ∧ c = 0 ∨ ∃ b, F = some ⟨b, 0, none⟩ ∧ b ∈ K ∧ ∀ i (h : i < xs.length), EntAt w b i xs[i]
structure QAt (w : World) (o n : Nat) (Q : Nat → List Ent) (K : List Nat) : Prop where
  kin : o ∈ K
  row : ∀ t, t < n → ∃ F c, w.cell? ⟨o, t, none⟩ = some (.slice F (Q t).length c) ∧ EntRow w F (Q t) c K
abbrev refSC (o n oc m g tn c : Nat) : Array Value := #[.slice (some ⟨o, 0, none⟩) n oc, .int .i64 (m : Nat), .slice (some ⟨g, 0, none⟩) tn c]
structure RSA (w : World) (o n oc m g c : Nat) (Q : Nat → List Ent) (T : Tb) (K : List Nat) : Prop where
  n8 : n ≤ 8
  cap : n ≤ oc
  q : QAt w o n Q K
  t : RefT w T g
  gin : g ∈ K
  old : ∀ k ∈ K, k < w.heap.size
  len : ∀ t, t < n → (Q t).length ≤ 1000000
  room : m ≤ 1000000
def RS (w : World) (v : Value) (n : Nat) (Q : Nat → List Ent) (m : Nat) (T : Tb) (K : List Nat) : Prop := ∃ o oc g c, v = .agg (refSC o n oc m g T.n c) ∧ RSA w o n oc m g c Q T K
section
variable {w w' : World} {F : Option Addr} {xs : List Ent} {o n oc m g c : Nat} {Q : Nat → List Ent} {T : Tb} {K K' : List Nat}
theorem EntAt.kept {b i : Nat} {e : Ent} (h : EntAt w b i e) (hb : w'.heap[b]? = w.heap[b]?) : EntAt w' b i e := by
  have q := fun (j : Nat) => World.cell?_of_block (w := w) (w' := w') (a := ⟨b, j, none⟩) hb
  exact ⟨(q _).trans h.1, (q _).trans h.2.1, (q _).trans h.2.2⟩
theorem EntRow.kept (h : EntRow w F xs c K) (hk : ∀ k ∈ K, w'.heap[k]? = w.heap[k]?) (hK : ∀ k ∈ K, k ∈ K') : EntRow w' F xs c K' :=
  ⟨h.cap, h.mem.imp id (fun ⟨b, q1, q2, q3⟩ => ⟨b, q1, hK b q2, fun i hi => (q3 i hi).kept (hk b q2)⟩)⟩
theorem QAt.kept (h : QAt w o n Q K) (hk : ∀ k ∈ K, w'.heap[k]? = w.heap[k]?) : QAt w' o n Q K :=
  ⟨h.kin, fun t ht => by
    obtain ⟨F, c, h1, h2⟩ := h.row t ht
    exact ⟨F, c, (World.cell?_of_block (a := ⟨o, t, none⟩) (hk o h.kin)).trans h1, h2.kept hk (fun _ => id)⟩⟩
theorem RSA.kept (h : RSA w o n oc m g c Q T K) (hk : ∀ k ∈ K, w'.heap[k]? = w.heap[k]?) (hz : ∀ k ∈ K, k < w'.heap.size) : RSA w' o n oc m g c Q T K :=
  ⟨h.n8, h.cap, h.q.kept hk, ⟨hz g h.gin, fun i hi => by
    obtain ⟨q0, q1, q2⟩ := h.t.sl i hi
    have e := fun (j : Nat) => World.cell?_of_block (w := w) (w' := w') (a := ⟨g, j, none⟩) (hk g h.gin)
    exact ⟨(e _).trans q0, (e _).trans q1, (e _).trans q2⟩⟩, h.gin, hz, h.len, h.room⟩
theorem RSA.below (h : RSA w o n oc m g c Q T K) (hb : Below w.heap.size w w') : RSA w' o n oc m g c Q T K :=
  h.kept (fun k hk => hb.block k (h.old k hk)) (fun k hk => Nat.lt_of_lt_of_le (h.old k hk) hb.size)
theorem EntRow.at_ (h : EntRow w F xs c K) {i : Nat} (hi : i < xs.length) : ∃ b, F = some ⟨b, 0, none⟩ ∧ EntAt w b i xs[i] := by
  rcases h.mem with ⟨_, e, _⟩ | ⟨b, e, _, hc⟩
  · rw [e] at hi; simp at hi
  · exact ⟨b, e, hc i hi⟩
end
def Uq (n : Nat) (Q : Nat → List Ent) : Prop := ∀ t u i j (_ : t < n) (_ : u < n) (hi : i < (Q t).length) (hj : j < (Q u).length), ((Q t)[i]).key = ((Q u)[j]).key → t = u ∧ i = j
def NoKey (n : Nat) (Q : Nat → List Ent) (k : Nat) : Prop := ∀ t i (_ : t < n) (hi : i < (Q t).length), ((Q t)[i]).key ≠ k
def sumE (Q : Nat → List Ent) : Nat → Nat
  | 0 => 0
  | t + 1 => sumE Q t + (Q t).length
section
variable {w w' : World} {o n oc m g c : Nat} {Q : Nat → List Ent} {T : Tb} {K : List Nat}
abbrev entV (e : Ent) : Value := .agg #[.int .u64 (e.key : Nat), .int .u64 (e.val : Nat), .int .i64 e.flag]
end
section
variable {w w' : World} {o n oc m g c : Nat} {Q : Nat → List Ent} {T : Tb} {K : List Nat}
end
def qVals (w : World) (o n : Nat) : List Value := (List.range n).map (fun t => (w.cell? ⟨o, t, none⟩).getD undef)
theorem qVals_len (w : World) (o n : Nat) : (qVals w o n).length = n := by simp [qVals]
theorem QAt.vals {w : World} {o n : Nat} {Q : Nat → List Ent} {K : List Nat} (h : QAt w o n Q K) {t : Nat} (ht : t < n) : (qVals w o n)[t]? = w.cell? ⟨o, t, none⟩ ∧ ∃ F c, (qVals w o n)[t]? = some (.slice F (Q t).length c) ∧ EntRow w F (Q t) c K := by
  obtain ⟨F, c, h1, h2⟩ := h.row t ht
  have e : (qVals w o n)[t]? = w.cell? ⟨o, t, none⟩ := by
    unfold qVals
    rw [List.getElem?_map, List.getElem?_range ht, h1]
    simp [h1]
  exact ⟨e, F, c, e.trans h1, h2⟩
theorem QAt.one {w : World} {o n : Nat} {Q : Nat → List Ent} {K : List Nat} (h : QAt w o n Q K) : ∀ u ∈ qVals w o n, u.oneCell' = true := fun u hu => by
  obtain ⟨j, hj, rfl⟩ := List.getElem_of_mem hu
  rw [qVals_len] at hj
  obtain ⟨_, F, c, e, _⟩ := h.vals hj
  rw [List.getElem?_eq_getElem (by rw [qVals_len]; exact hj)] at e
  injection e with e
  rw [e]; rfl
theorem QAt.src {w w' : World} {o n oc : Nat} {Q : Nat → List Ent} {K : List Nat} (h : QAt w o n Q K) (ho : o < w.heap.size) (hb : Below w.heap.size w w') : (some (⟨o, 0, none⟩ : Addr) = none ∧ n = 0 ∧ oc = 0 ∧ qVals w o n = []) ∨ ∃ ad, some (⟨o, 0, none⟩ : Addr) = some ad ∧ (qVals w o n).length = n * 1 ∧ ∀ j u, (qVals w o n)[j]? = some u → w'.cell? (ad.add j) = some u := by
  refine .inr ⟨_, rfl, by rw [qVals_len, Nat.mul_one], fun j u hu => ?_⟩
  rcases Nat.lt_or_ge j n with hj | hj
  · have := (h.vals hj).1
    rw [hu] at this
    rw [show (⟨o, 0, none⟩ : Addr).add j = ⟨o, j, none⟩ by simp [Addr.add_lit], hb.cell (p := ⟨o, j, none⟩) ho]
    exact this.symm
  · rw [List.getElem?_eq_none (by rw [qVals_len]; exact hj)] at hu; cases hu
theorem own_cur {w : World} {B : Nat} {e : TypeId} {size n : Nat} {v : Value} {xs : List Value} (h : w.ownsRow B e size v n xs) (hn : 0 < n) : ∃ g cap cur, v = .slice (some ⟨g, 0, none⟩) n cap ∧ B ≤ g ∧ g < w.heap.size ∧ n ≤ cap ∧ w.heap[g]? = some (.cells cur e (0, 0)) ∧ ∀ j (hj : j < xs.length), w.cell? ⟨g, j, none⟩ = some xs[j] := by
  rcases h.2 with ⟨_, h0⟩ | ⟨g, cap, cur, e1, hB, hg, hle, _⟩
  · omega
  · subst e1
    refine ⟨g, cap, cur, rfl, hB, (head_row hg).lt, hle, hg, fun j hj => ?_⟩
    have := h.cells (g := g) rfl j _ (List.getElem?_eq_getElem hj)
    simpa [Addr.add_lit] using this
def eC (e : Ent) (j : Nat) : Value := match j with
  | 0 => .int .u64 (e.key : Nat)
  | 1 => .int .u64 (e.val : Nat)
  | _ => .int .i64 e.flag
def entL : List Ent → List Value
  | [] => []
  | e :: xs => eC e 0 :: eC e 1 :: eC e 2 :: entL xs
theorem entL_len : ∀ xs : List Ent, (entL xs).length = xs.length * 3
  | [] => rfl
  | e :: xs => by
    show (entL xs).length + 1 + 1 + 1 = (xs.length + 1) * 3
    rw [entL_len xs]
    omega
theorem entL_get : ∀ (xs : List Ent) (i : Nat) (hi : i < xs.length) (j : Nat), j < 3 → (entL xs)[i * 3 + j]? = some (eC xs[i] j)
  | [], i, hi, _, _ => by simp at hi
  | e :: xs, 0, _, j, hj => by
    match j, hj with
    | 0, _ => rfl
    | 1, _ => rfl
    | 2, _ => rfl
  | e :: xs, i + 1, hi, j, hj => by
    have ih := entL_get xs i (by simpa using hi) j hj
    show (eC e 0 :: eC e 1 :: eC e 2 :: entL xs)[(i + 1) * 3 + j]? = _
    rw [show (i + 1) * 3 + j = i * 3 + j + 1 + 1 + 1 by omega]
    simp only [List.getElem?_cons_succ, List.getElem_cons_succ]
    exact ih
theorem EntAt.cell {w : World} {b i : Nat} {e : Ent} (h : EntAt w b i e) (j : Nat) (hj : j < 3) : w.cell? ⟨b, i * 3 + j, none⟩ = some (eC e j) := by
  match j, hj with
  | 0, _ => exact h.1
  | 1, _ => exact h.2.1
  | 2, _ => exact h.2.2
theorem ent_src {w : World} {b d m : Nat} {xs : List Ent} (hc : ∀ i (hi : i < xs.length), EntAt w b i xs[i]) (hd : d + m ≤ xs.length) : (entL ((xs.drop d).take m)).length = m * 3 ∧ ∀ j u, (entL ((xs.drop d).take m))[j]? = some u → w.cell? ((⟨b, d * 3, none⟩ : Addr).add j) = some u := by
  have hl : ((xs.drop d).take m).length = m := by simp; omega
  refine ⟨by rw [entL_len, hl], fun j u hu => ?_⟩
  rcases Nat.lt_or_ge j (m * 3) with hj | hj
  · have h1 := entL_get ((xs.drop d).take m) (j / 3) (by rw [hl]; omega) (j % 3) (Nat.mod_lt _ (by decide))
    rw [show j / 3 * 3 + j % 3 = j by omega, hu] at h1
    injection h1 with h1
    subst h1
    have h2 := (hc (d + j / 3) (by omega)).cell (j % 3) (Nat.mod_lt _ (by decide))
    rw [show (⟨b, d * 3, none⟩ : Addr).add j = ⟨b, (d + j / 3) * 3 + j % 3, none⟩ by rw [Addr.add_lit]; congr 1; omega, h2]
    simp
  · rw [List.getElem?_eq_none (by rw [entL_len, hl]; exact hj)] at hu; cases hu
theorem EntRow.src {w w' : World} {F : Option Addr} {xs : List Ent} {c : Nat} {K : List Nat} (h : EntRow w F xs c K) (hk : ∀ k ∈ K, w'.heap[k]? = w.heap[k]?) : (F = none ∧ xs.length = 0 ∧ c = 0 ∧ entL xs = []) ∨ ∃ ad, F = some ad ∧ (entL xs).length = xs.length * 3 ∧ ∀ j u, (entL xs)[j]? = some u → w'.cell? (ad.add j) = some u := by
  rcases h.mem with ⟨rfl, rfl, rfl⟩ | ⟨b, rfl, hb, hc⟩
  · exact .inl ⟨rfl, rfl, rfl, rfl⟩
  · have := ent_src (d := 0) (m := xs.length) (fun i hi => (hc i hi).kept (hk b hb)) (by omega)
    rw [List.drop_zero, List.take_length] at this
    exact .inr ⟨_, rfl, this⟩
def cutE (xs : List Ent) (i : Nat) : List Ent := xs.take i ++ xs.drop (i + 1)
def SNext (w : World) (n m g c : Nat) (Q : Nat → List Ent) (T : Tb) (K : List Nat) (f : Value → Value) (e : Ending) (w' : World) : Prop :=
  ∃ o' oc' K', e = .returned (f (.agg (refSC o' n oc' m g T.n c))) ∧ Below w.heap.size w w' ∧ RSA w' o' n oc' m g c Q T K' ∧ ∀ k ∈ K', k ∈ K ∨ w.heap.size ≤ k
theorem RSA.only {S : List Nat} {w w' : World} {o n oc m g c : Nat} {Q : Nat → List Ent} {T : Tb} {K : List Nat} (h : RSA w o n oc m g c Q T K) (ho : Only S w w') (hS : ∀ k ∈ K, k ∉ S) : RSA w' o n oc m g c Q T K :=
  h.kept (fun k hk => ho.block k (h.old k hk) (hS k hk)) (fun k hk => Nat.lt_of_lt_of_le (h.old k hk) ho.size)
section
variable {w : World} {o n oc m g c : Nat} {Q : Nat → List Ent} {T : Tb} {K : List Nat}
end

theorem ownsRow_block {w w' : World} {B : Nat} {e : TypeId} {size n : Nat} {v : Value} {xs : List Value} (h : w.ownsRow B e size v n xs) (hk : ∀ k, B ≤ k → k < w.heap.size → w'.heap[k]? = w.heap[k]?) : w'.ownsRow B e size v n xs := by
  refine ⟨h.1, ?_⟩
  rcases h.2 with q | ⟨g, cap, cur, e1, e2, e3, e4⟩
  · exact .inl q
  · exact .inr ⟨g, cap, cur, e1, e2, (hk g e2 (head_row e3).lt).trans e3, e4⟩
theorem Only.low {S : List Nat} {w0 w w' : World} (h : Only S w0 w) (hb : Below w0.heap.size w w') : Only S w0 w' :=
  ⟨hb.os.trans h.os, hb.tape.trans h.tape, hb.output.trans h.output, Nat.le_trans h.size hb.size, fun i hi hS => (hb.block i hi).trans (h.block i hi hS)⟩
def Tb.outS (T : Tb) (a : Nat) (j : Nat) : Sl := T.sl ((a + 1 + j) % T.n)
def slL (sl : Nat → Sl) (m : Nat) : List Value := (List.range (m * 3)).map (slV sl)
def DelPost (w : World) (T : Tb) (g : Nat) (f : Value → Value) (e : Ending) (w' : World) : Prop := ∃ g' c', e = .returned (f (tabV g' T.n c')) ∧ Below w.heap.size w w' ∧ RefT w' T g' ∧ (g' = g ∨ w.heap.size ≤ g')
def SPost (w : World) (n m : Nat) (Q : Nat → List Ent) (T : Tb) (K : List Nat) (f : Value → Value) (e : Ending) (w' : World) : Prop :=
  ∃ o' oc' g' c' K', e = .returned (f (.agg (refSC o' n oc' m g' T.n c'))) ∧ Below w.heap.size w w' ∧ RSA w' o' n oc' m g' c' Q T K' ∧ ∀ k ∈ K', k ∈ K ∨ w.heap.size ≤ k
section
variable {w : World} {o n oc m g c : Nat} {Q : Nat → List Ent} {T : Tb} {K : List Nat}
end
theorem step_append_src {P : Program} {w : World} {ops : Array Oper} {o : Oper} {a : Act} {K : Act → World → Prop} {Q : Exit → Act → World → Prop} {E : Prop} (hgd : o.guard = none) (s x : Operand) (t : TypeId)
    (ho : o.op = .call { callee := .builtin .append, args := #[s, x], argTypes := #[t, t] }) (base : Nat) (e : TypeId) (z : Value) (size bytes : Nat) (ht : P.underlying t = some (.slice e))
    (hinfo : (P.info? e).map (fun i => (i.zero, i.size, i.bytes)) = some (some z, size, bytes)) (hzs : z.cells.size = size) (hsz : 0 < size)
    (v : Value) (n : Nat) (xs : List Value) (hs : a.eval s = v) (hown : w.ownsRow base e size v n xs) (A : Option Addr) (m c : Nat) (news : List Value) (hx : a.eval x = .slice A m c)
    (hsrc : (A = none ∧ m = 0 ∧ c = 0 ∧ news = []) ∨ ∃ ad, A = some ad ∧ news.length = m * size ∧ ∀ j u, news[j]? = some u → w.cell? (ad.add j) = some u) (h1 : ∀ u ∈ news, u.oneCell' = true)
    (hbound : (n + m) * bytes ≤ 140737488355328) (h63 : n + m ≤ 1000000000) (hbase : base ≤ w.heap.size)
    (h : ∀ v' w', w'.ownsRow base e size v' (n + m) (xs ++ news) → w.grownBy w' v.ownBlock → K (a.put o.dst v') w') : if Region.wanted o (yielded ops a.tmps) = true then Oper.wp P o a w K Q else E := by
  have hw : Region.wanted o (yielded ops a.tmps) = true := by simp [Region.wanted, hgd]
  rw [if_pos hw]
  obtain ⟨i, hi, hz, hsize, hby⟩ := info_parts hinfo
  rcases hsrc with ⟨rfl, rfl, rfl, rfl⟩ | ⟨ad, rfl, hl, hc⟩
  · have hrun := run_append_owned_none (P := P) (w := w) base t o.type e i size ht hi v n xs hown
    unfold Oper.wp
    simp [execOp, ho, resolve, invoke, builtin, hs, hx, hrun, Result.andThen]
    exact h v w (by simpa using hown) (World.grownBy.refl w _)
  · exact wp_append_own w s x t ho base e i z size bytes ht hi hz hsize hby hzs hsz v n xs hs hown ad m c news hx hl hc h1 (by unfold maxLen; omega) hbound hbase fun v' w' h2 h3 _ => h v' w' h2 h3
def roomE (Q : Nat → List Ent) (n m : Nat) : Nat := if m < sumE Q n + 2 then 2 * m else m
section
variable {w : World} {o n oc m g c : Nat} {Q : Nat → List Ent} {T : Tb} {K : List Nat}
end
def setE (flag : Bool) (x e : Ent) : Ent := if flag then { x with flag := e.flag } else { x with val := e.val }
section
variable {w : World} {o n oc m g c : Nat} {Q : Nat → List Ent} {T : Tb} {K : List Nat}
end
section
variable {w : World} {o n oc m g c : Nat} {Q : Nat → List Ent} {T : Tb} {K : List Nat}
end
section
variable {w : World} {o n oc m g c : Nat} {Q : Nat → List Ent} {T : Tb} {K : List Nat}
end
section
variable {w : World} {o n oc m g c : Nat} {Q : Nat → List Ent} {T : Tb} {K : List Nat}
end
section
variable {w : World} {o n oc m g c : Nat} {Q : Nat → List Ent} {T : Tb} {K : List Nat}
def movE (Q : Nat → List Ent) (t0 i0 t1 : Nat) (x : Ent) : Nat → List Ent := upd (upd Q t0 (cutE (Q t0) i0)) t1 (x :: upd Q t0 (cutE (Q t0) i0) t1)
end
end Go.Proofs.YtkhikpnlpcankaaGreat
