/- Words and walks for layer 6: HxX HxY HxZ HxV HxH HxHL HxHS. -/
import Derived.Test.YtnacmhljbnpdpaaGH2
import Derived.IntWalk
import Derived.StillTailTactics
import Derived.Deep.RegionHeld3
import Derived.Deep.RegionWith
import Derived.Deep.QuietTactic
import Derived.BigQuiet
/- The program's table: New, how full it is, and to lay all keys into twice as many slots. -/
namespace Go.Proofs.Ytnacmhljbnpdpaa
open Go Go.RowKit Go.Deep

theorem make_ix (n : Nat) (hn : n ≤ 1000000000) (w : World) :
    ∃ cs : Array Value, (Instr.makeSlice 104 (.int .i64 n) (.int .i64 n)).run Try.prog w = .ok (.slice (some ⟨w.heap.size, 0, none⟩) n n) (w.alloc (.cells cs 103)) ∧
      cs.size = n * 3 ∧ ∀ p, p < cs.size → cs[p]? = some (slV (fun _ => Sl.no) p) := by
  have hinfo : (Try.prog.info? 103).map (fun i => (i.zero, i.size, i.bytes)) = some (some (.agg #[.int .u64 0, .int .i32 0, .bool false]), 3, 16) := by kernel_rfl
  obtain ⟨i, hi, hz0, hz1, hz2⟩ := info_parts hinfo
  have hr := run_make (P := Try.prog) w 104 103 i _ (by kernel_rfl) hi hz0 .i64 .i64 n n (by omega) (by omega) (by rw [hz2]; omega) (by omega)
  refine ⟨_, by simpa using hr, ?_⟩
  rw [hz1]
  refine ⟨size_madeCells _ _, fun p hp => ?_⟩
  rw [size_madeCells] at hp
  have hp3 : p % 3 < 3 := Nat.mod_lt _ (by decide)
  simp only [madeCells, Value.cells, Array.getElem?_map]
  rw [Array.getElem?_range, if_pos hp]
  simp only [Option.map_some, Option.some.injEq, slV]
  generalize p % 3 = j at hp3
  match j, hp3 with
  | 0, _ => rfl
  | 1, _ => rfl
  | 2, _ => rfl
theorem rowT_new {t : TypeId} {w : World} {g m : Nat} {cs : Array Value} (hb : w.heap[g]? = some (.cells cs t (0, 0))) (hsz : cs.size = m * 3) (hcs : ∀ p, p < cs.size → cs[p]? = some (slV (fun _ => Sl.no) p)) : RowT t w g m (fun _ => Sl.no) :=
  ⟨_, _, head_row hb, by omega, fun p hp => by
    have := hcs p (by omega)
    simp [Array.getD_eq_getD_getElem?, this]⟩

theorem ixnew_walk (w : World) :
    Calls Try.prog 45 #[] w fun e w' => ∃ p g, e = .returned (ptr p) ∧ Below w.heap.size w w' ∧ w.heap.size ≤ p ∧ w.heap.size ≤ g ∧ IxT w' p Tb.new g 0 := by
  obtain ⟨cs, hmk, hsz, hcs⟩ := make_ix 8 (by omega) w
  have e8 : ((8 : Nat) : Int) = 8 := rfl
  rw [e8] at hmk
  have HB1 := Lib.hid ((Below.refl w.heap.size w).alloc (Nat.le_refl _) (.cells cs 103))
  have k1 := heap_alloc_new w (.cells cs 103)
  have HR := Lib.hid (rowT_new (m := 8) k1 hsz hcs)
  have HZ : Hid ((w.alloc (.cells cs 103)).heap.size = w.heap.size + 1) := Lib.hid (by simp)
  clear hsz hcs k1
  go_enter Try.func45, Try.ntmps45
  go_wp2_with fail
  go_ret
  generalize w.alloc (.cells cs 103) = w1 at HB1 HR HZ ⊢
  have hz := HZ.out
  have k := heap_alloc_new w1 (.cells #[.slice (some ⟨w.heap.size, 0, none⟩) 8 8, .int .i64 0] 106)
  rw [hz] at k
  exact ⟨_, _, rfl, HB1.out.alloc HB1.out.size _, by omega, Nat.le_refl _, k, HR.out.only ((Only.refl [] w1).alloc _) (by simp)⟩

theorem crowded_walk {w : World} {p : Nat} {T : Tb} {g c : Nat} (h : IxT w p T g c) (hn : T.n ≤ 1000000000) (hc : c ≤ 1000000000) :
    Calls Try.prog 92 #[ptr p] w fun e w' => e = .returned (.bool (decide (3 * T.n < 4 * c + 4))) ∧ Below w.heap.size w w' := by
  obtain ⟨c0, c1⟩ := h.cells
  clear h
  have hcI : (c : Int) ≤ 1000000000 := by omega
  have hnI : (T.n : Int) ≤ 1000000000 := by omega
  go_enter Try.func92, Try.ntmps92
  go_wp2_with fail
  go_region
  go_wp2
  go_ret
  exact ⟨congrArg (fun b => Ending.returned (Value.bool b)) (decide_eq_decide.2 (by omega)), (Below.refl w.heap.size w).drew⟩

theorem two_heap {w1 : World} {g : Nat} {t : TypeId} {a0 a1 : Value} (hB : w1.heap[g]? = some (.cells #[a0, a1] t (0, 0))) (b : Value) :
    (w1.setCell ⟨g, 0, none⟩ b).heap[g]? = some (.cells #[b, a1] t (0, 0)) ∧ (w1.setCell ⟨g, 1, none⟩ b).heap[g]? = some (.cells #[a0, b] t (0, 0)) ∧
    Only [g] w1 (w1.setCell ⟨g, 0, none⟩ b) ∧ Only [g] w1 (w1.setCell ⟨g, 1, none⟩ b) :=
  ⟨by simp [World.setCell, Array.getElem?_modify, hB], by simp [World.setCell, Array.getElem?_modify, hB], (Only.refl [g] w1).setCell (by simp) _, (Only.refl [g] w1).setCell (by simp) _⟩
theorem IxT.free {w : World} {p : Nat} {T : Tb} {g c : Nat} (h : IxT w p T g c) : w.frozen? ⟨p, 0, none⟩ = false ∧ w.frozen? ⟨p, 1, none⟩ = false :=
  ⟨(head_row h.tab).frozen 0, (head_row h.tab).frozen 1⟩
/- A slot laid. -/
theorem IxT.put {w : World} {p : Nat} {T : Tb} {g c : Nat} (h : IxT w p T g c) (i : Nat) (s : Sl) :
    IxT (((w.setCell ⟨g, i * 3, none⟩ (.int .u64 (s.key : Nat))).setCell ⟨g, i * 3 + 1, none⟩ (.int .i32 s.n)).setCell ⟨g, i * 3 + 2, none⟩ (.bool s.full)) p ⟨T.n, fun j => if j = i then s else T.sl j⟩ g c ∧
    Only [g] w (((w.setCell ⟨g, i * 3, none⟩ (.int .u64 (s.key : Nat))).setCell ⟨g, i * 3 + 1, none⟩ (.int .i32 s.n)).setCell ⟨g, i * 3 + 2, none⟩ (.bool s.full)) := by
  obtain ⟨h1, h2⟩ := rowT_put h.row i s
  exact ⟨⟨(h2.block p h.plt (by simpa using h.ne)).trans h.tab, h1⟩, h2⟩

/- An index into a slice, in a region whose operations but the last ones only read. -/
theorem wpStill_index {P : Program} {ops : Array Oper} {w : World} {Q : Act → Prop} {o : Oper} {rest : List Oper} {a : Act} (hg : o.guard = none) (t : TypeId) (x y : Operand) (ho : o.op = .indexAddr t x y) (ad : Addr) (len cap z size : Nat) (k : IntKind)
    (hu : P.underlying t = some (.slice (P.elem t))) (hs : (sizeOf (P.elem t)).run P w = .ok size w) (hx : a.eval x = .slice (some ad) len cap) (hy : a.eval y = .int k (z : Nat)) (hz : z < len)
    (h : wpStill P ops w Q rest (a.put o.dst (.pointer (some (ad.add (z * size)))))) : wpStill P ops w Q (o :: rest) a := by
  unfold wpStill
  rw [if_pos (by simp [Region.wanted, hg])]
  unfold Oper.still
  have e : (execOp a.eval o).run P w = .ok (.value (.pointer (some (ad.add (z * size))))) w := by
    unfold execOp
    rw [ho]
    simp only [hx, hy]
    have e0 : (Instr.indexAt t (.slice (some ad) len cap) (.int k (z : Nat))).run P w = .ok (.pointer (some (ad.add (z * size)))) w := by
      rw [run_indexAt_slice (h := hu), if_pos ⟨by omega, by omega⟩, hs]
      simp [Result.andThen]
    simp [Sem.run_map, e0]
  rw [e]
  exact (Oper.stillUpon_value o a w _ _) ▸ h

structure WidInv (w wr : World) (p : Nat) (T : Tb) (c i : Nat) : Prop where
  ix : IxT wr p (T.growUp i) w.heap.size c
  only : Only [p] w wr

set_option maxHeartbeats 1000000 in
set_option maxRecDepth 4000 in
theorem widen_walk {w : World} {p : Nat} {T : Tb} {g c : Nat} (h : IxT w p T g c) (gd : T.Good) (hn : T.n ≤ 100000) (hkeys : T.Keys) :
    Calls Try.prog 93 #[ptr p] w fun e w' => e = .returned (.tuple #[]) ∧ IxT w' p T.grow w.heap.size c ∧ Only [p] w w' := by
  obtain ⟨cs, hmk, hsz, hcs⟩ := make_ix (2 * T.n) (by omega) w
  rw [Int.natCast_mul] at hmk
  have e2 : ((2 : Nat) : Int) = 2 := rfl
  rw [e2] at hmk
  have hnI : (T.n : Int) ≤ 100000 := by omega
  obtain ⟨c0, _⟩ := h.cells
  obtain ⟨z0, _⟩ := h.free
  have hplt := h.plt
  have hglt := h.lt
  have hne := h.ne
  have HLOOK : Hid (∀ i, i ≤ T.n → (T.growUp i).Ok ∧ (T.growUp i).n = 2 * T.n ∧ isSz (T.growUp i).n = true) := Lib.hid (fun i hi => by
    have q := gd.ok.growUp i hi
    obtain ⟨e, he⟩ := gd.pow
    exact ⟨q.ok, q.n, good_sz ⟨e + 1, by rw [q.n, he, Nat.pow_succ, Nat.mul_comm]⟩ (by rw [q.n]; omega)⟩)
  have HK := Lib.hid hkeys
  have HROW := Lib.hid h.row
  have htab := h.tab
  have hin : ∀ W, W = (w.setCell ⟨p, 0, none⟩ (.slice (some ⟨w.heap.size, 0, none⟩) (2 * T.n) (2 * T.n))).alloc (.cells cs 103) → WidInv w W p T c 0 := by
    rintro W rfl
    obtain ⟨t1, _, o1, _⟩ := two_heap htab (.slice (some ⟨w.heap.size, 0, none⟩) (2 * T.n) (2 * T.n))
    have hz1 : (w.setCell ⟨p, 0, none⟩ (.slice (some ⟨w.heap.size, 0, none⟩) (2 * T.n) (2 * T.n))).heap.size = w.heap.size := by simp [World.setCell]
    have k1 := heap_alloc_new (w.setCell ⟨p, 0, none⟩ (.slice (some ⟨w.heap.size, 0, none⟩) (2 * T.n) (2 * T.n))) (.cells cs 103)
    rw [hz1] at k1
    exact ⟨⟨(((Only.refl [] _).alloc (.cells cs 103)).block p (by omega) (by simp)).trans t1, rowT_new (m := 2 * T.n) k1 hsz hcs⟩, o1.alloc _⟩
  have HIN := Lib.hid hin
  clear h gd hkeys hsz hcs htab hin
  go_enter Try.func93, Try.ntmps93
  go_wp2_with fail
  have HI0 := Lib.hid (HIN.out _ rfl)
  generalize (w.setCell ⟨p, 0, none⟩ (.slice (some ⟨w.heap.size, 0, none⟩) (2 * T.n) (2 * T.n))).alloc (.cells cs 103) = W at HI0 ⊢
  clear c0 z0 hmk HIN
  go_loopg [20] T.n (fun gg s20 wr => ∃ i : Nat, i + gg = T.n ∧ s20 = .int .i64 (i : Nat) ∧ Hid (WidInv w wr p T c i))
  case atStart => exact ⟨0, by omega, rfl, HI0⟩
  case round =>
    obtain ⟨i, hi, rfl, HI⟩ := hrel
    by_cases hlt : i < T.n
    · have hltI : (i : Int) < (T.n : Int) := by omega
      obtain ⟨q0, q1, q2⟩ := (HROW.out.only HI.out.only (by simpa using hne.symm)).sl i hlt
      have hky := HK.out i hlt
      have HG : Hid (T.growUp (i + 1) = if (T.sl i).full then (T.growUp i).lay (T.sl i) else T.growUp i) := Lib.hid rfl
      obtain ⟨s, hs⟩ : ∃ s, T.sl i = s := ⟨_, rfl⟩
      rw [hs] at q0 q1 q2 hky HG
      obtain ⟨sk, sn, sf⟩ := s
      simp only at q0 q1 q2 hky HG
      clear hs
      cases sf
      · go_wp2
        go_roundg (gk - 1)
        case measure => omega
        case rel => exact ⟨i + 1, by omega, by go_num, Lib.hid ⟨by rw [HG.out]; exact HI.out.ix.only ((Only.refl [] _).alloc _) (by simp) (by simp), HI.out.only.alloc _⟩⟩
      · obtain ⟨gok, gn, gsz⟩ := HLOOK.out i (by omega)
        have hl := look_walk (HI.out.ix.below ((Below.refl _ _).alloc (Nat.le_refl _) (.cells #[.int .u64 (sk : Nat), .int .i32 sn, .bool true] 103))) gok gsz sk hky
        have hlk := gok.look_lt sk
        have HLK := Lib.hid hl
        rw [gn] at hlk
        have HG2 : Hid (T.growUp (i + 1) = ⟨(T.growUp i).n, fun j => if j = (T.growUp i).look sk then ⟨sk, sn, true⟩ else (T.growUp i).sl j⟩) := Lib.hid HG.out
        clear hl gok gn gsz HG
        generalize (T.growUp i).look sk = lk at HLK hlk HG2 ⊢
        generalize (T.growUp i).there sk = th at HLK ⊢
        go_wp2_with fail
        refine HLK.out.mono ?_
        rintro e w2 ⟨rfl, hb⟩
        have hbr : Below wr.heap.size wr w2 := ((Below.refl _ _).alloc (Nat.le_refl _) _).trans (hb.mono (by simp))
        have hblk := heap_alloc_new wr (.cells #[.int .u64 (sk : Nat), .int .i32 sn, .bool true] 103)
        have hsb := head_row ((hb.block wr.heap.size (by simp)).trans hblk)
        have s0 : w2.cell? ⟨wr.heap.size, 0, none⟩ = some (.int .u64 (sk : Nat)) := hsb.cell (i := 0) (by simp)
        have s1 : w2.cell? ⟨wr.heap.size, 1, none⟩ = some (.int .i32 sn) := hsb.cell (i := 1) (by simp)
        have s2 : w2.cell? ⟨wr.heap.size, 2, none⟩ = some (.bool true) := hsb.cell (i := 2) (by simp)
        have hx2 := HI.out.ix.below hbr
        obtain ⟨p0, _⟩ := hx2.cells
        obtain ⟨N, hN⟩ : ∃ N, (T.growUp i).n = N := ⟨_, rfl⟩
        have hlkN : lk < N := by rw [← hN, Tb.growUp_n]; exact hlk
        rw [hN] at p0
        have HXD := Lib.hid (hx2.only (Only.refl [] w2).drew (by simp) (by simp))
        have HNN := Lib.hid hN
        have HO2 : Hid (Only [p] w w2.drew) := Lib.hid (HI.out.only.trans (Only.of_below (S := []) hbr) (by simp)).drew
        clear hb hbr hblk hsb hx2 HLK q0 q1 q2 hky hlk hltI hnI hN
        go_wp2_with fail
        generalize wr.heap.size = B at s0 s1 s2 ⊢
        refine wp_region_still_tail 7 (by kernel_rfl) (by kernel_rfl) ?_
        simp only [List.take_succ_cons, List.take_zero, List.drop_succ_cons, List.drop_zero]
        have s0 : w2.drew.cell? ⟨B, 0, none⟩ = some (.int .u64 (sk : Nat)) := s0
        have s1 : w2.drew.cell? ⟨B, 1, none⟩ = some (.int .i32 sn) := s1
        have s2 : w2.drew.cell? ⟨B, 2, none⟩ = some (.bool true) := s2
        have p0 : w2.drew.cell? ⟨p, 0, none⟩ = some (.slice (some ⟨w.heap.size, 0, none⟩) N N) := p0
        change wpStill _ _ w2.drew (fun a' => wpList _ _ _ _ a' w2.drew) _ _
        generalize w2.drew = w3 at HXD HO2 s0 s1 s2 p0 ⊢
        still_step -- 1
        still_step -- 2
        still_step -- 3
        still_step -- 4
        still_step -- 5
        still_step -- 6
        refine wpStill_index rfl 104 (.tmp 36) (.tmp 37) rfl ⟨w.heap.size, 0, none⟩ N N lk 3 .i64 (by simp [go_sem]) (by simp [go_sem]) rfl rfl hlkN ?_
        simp only [Act.put, List.setIfInBounds_toArray, List.set_cons_succ, List.set_cons_zero, Addr.add_lit, Nat.zero_add]
        refine wpStill_nil ?_
        clear p0 s0 s1 s2
        obtain ⟨r0, r1, r2⟩ := HXD.out.row.sl lk (by rw [HNN.out]; exact hlkN)
        obtain ⟨f0, f1, f2⟩ := HXD.out.row.free lk (by rw [HNN.out]; exact hlkN)
        obtain ⟨hp1, hp2⟩ := HXD.out.put lk ⟨sk, sn, true⟩
        have HN : Hid (∀ V, V = (((w3.setCell ⟨w.heap.size, lk * 3, none⟩ (.int .u64 (sk : Nat))).setCell ⟨w.heap.size, lk * 3 + 1, none⟩ (.int .i32 sn)).setCell ⟨w.heap.size, lk * 3 + 2, none⟩ (.bool true)) → WidInv w V p T c (i + 1)) := Lib.hid (by
          rintro V rfl
          exact ⟨by rw [HG2.out]; exact hp1, HO2.out.trans hp2 (by simp)⟩)
        clear hp1 hp2
        go_wp2
        go_roundg (gk - 1)
        case measure => omega
        case rel => exact ⟨i + 1, by omega, by go_num, Lib.hid (HN.out _ rfl)⟩
    · obtain rfl : i = T.n := by omega
      have hge : ¬ (T.n : Int) < (T.n : Int) := by omega
      go_wp2
      exact bodyPost_end (results_none rfl _ _ _) rfl ⟨rfl, HI.out.ix, HI.out.only⟩
end Go.Proofs.Ytnacmhljbnpdpaa
/- The program's table: Put. -/
namespace Go.Proofs.Ytnacmhljbnpdpaa
open Go Go.RowKit Go.Deep

theorem put_sz {T : Tb} (gd : T.Good) (hn : T.n ≤ 100000) : isSz T.n = true ∧ isSz T.grow.n = true := by
  obtain ⟨e, he⟩ := gd.pow
  have q := gd.ok.grown.2.1
  exact ⟨good_sz ⟨e, he⟩ (by omega), good_sz ⟨e + 1, by rw [q, he, Nat.pow_succ, Nat.mul_comm]⟩ (by rw [q]; omega)⟩
/- How many keys it says, said anew. -/
theorem IxT.keys {w : World} {p : Nat} {T : Tb} {g c : Nat} (h : IxT w p T g c) (c' : Nat) (z : Int) (hz : z = (c' : Nat)) :
    IxT (w.setCell ⟨p, 1, none⟩ (.int .i64 z)) p T g c' ∧ Only [p] w (w.setCell ⟨p, 1, none⟩ (.int .i64 z)) := by
  subst hz
  obtain ⟨_, t1, _, o1⟩ := two_heap h.tab (.int .i64 (c' : Nat))
  exact ⟨⟨t1, h.row.only o1 (by simpa using h.ne.symm)⟩, o1⟩

/- What a call that writes leaves of the table at p, whose slots lay in block g. -/
structure PutTo (w w' : World) (p g : Nat) (U : Tb) : Prop where
  only : Only [p, g] w w'
  ix : ∃ g', (g' = g ∨ w.heap.size ≤ g') ∧ IxT w' p U g' U.cnt

set_option maxHeartbeats 1000000 in
theorem put_walk {w : World} {p : Nat} {T : Tb} {g : Nat} (h : IxT w p T g T.cnt) (gd : T.Good) (hn : T.n ≤ 100000) (hkeys : T.Keys) (k : Nat) (hk : k < 18446744073709551616) (v : Int) :
    Calls Try.prog 75 #[ptr p, .int .u64 (k : Nat), .int .i32 v] w fun e w' => e = .returned (.tuple #[]) ∧ PutTo w w' p g (T.put k v) := by
  obtain ⟨hs, hs2⟩ := put_sz gd hn
  obtain ⟨gk1, gk2, gk3, _⟩ := gd.ok.grown
  have hlk := gd.ok.look_lt k
  have hcle : T.cnt ≤ T.n := cntB_le _ _
  have hcI : (T.cnt : Int) ≤ 100000 := by omega
  have hnI : (T.n : Int) ≤ 100000 := by omega
  have HL := Lib.hid (look_walk h gd.ok hs k hk)
  have hpc := (gd.put_all k v).2.1
  have HX := Lib.hid h
  have HW := Lib.hid (fun w' (q : IxT w' p T g T.cnt) => widen_walk q gd hn hkeys)
  have HL2 := Lib.hid (fun w' g' (q : IxT w' p T.grow g' T.cnt) => look_walk q gk1 hs2 k hk)
  have hlk2 := gk1.look_lt k
  rw [gk2] at hlk2
  have HGN := Lib.hid gk2
  obtain ⟨th, hth⟩ : ∃ th, T.there k = th := ⟨_, rfl⟩
  rw [hth] at HL hpc
  have HTH := Lib.hid hth
  have HLAY : Hid (∀ (U : Tb) lk, U.look k = lk → U.lay ⟨k, v, true⟩ = ⟨U.n, fun j => if j = lk then ⟨k, v, true⟩ else U.sl j⟩) := Lib.hid (by rintro U lk rfl; rfl)
  have HPC := Lib.hid hpc
  clear h gd hkeys hth hpc gk1 gk2 gk3 hs hs2
  cases th
  · have hpc : Hid ((T.put k v).cnt = T.cnt + 1) := HPC
    clear HPC
    by_cases hcr : 3 * T.n < 4 * T.cnt + 4
    · obtain ⟨lk, hlkE⟩ : ∃ lk, T.grow.look k = lk := ⟨_, rfl⟩
      have HPUT : Hid (T.put k v = ⟨T.grow.n, fun j => if j = lk then ⟨k, v, true⟩ else T.grow.sl j⟩) := Lib.hid (by
        unfold Tb.put
        rw [if_pos ⟨HTH.out, hcr⟩, HLAY.out _ _ hlkE])
      rw [hlkE] at hlk2 HL2
      clear hlkE HLAY HTH hlk
      generalize T.look k = lk0 at HL ⊢
      obtain ⟨th2, hth2⟩ : ∃ th2, T.grow.there k = th2 := ⟨_, rfl⟩
      rw [hth2] at HL2
      clear hth2
      have HCW := Lib.hid (fun w' (q : IxT w' p T g T.cnt) => crowded_walk q (by omega) (by omega))
      rw [decide_eq_true hcr] at HCW
      go_enter Try.func75, Try.ntmps75
      go_wp2_with fail
      refine HL.out.mono ?_
      rintro e w1 ⟨rfl, hb⟩
      have H1 := Lib.hid (HX.out.below hb)
      have HB1 := Lib.hid hb
      clear hb
      go_wp2_with fail
      refine (HCW.out _ H1.out).mono ?_
      rintro e w2 ⟨rfl, hb⟩
      have H2 := Lib.hid (H1.out.below hb)
      have HB2 := Lib.hid (HB1.out.trans (hb.mono HB1.out.size))
      clear hb
      go_wp2_with fail
      refine (HW.out _ H2.out).mono ?_
      rintro e w3 ⟨rfl, i3, o3⟩
      have HI3 := Lib.hid i3
      have HO3 := Lib.hid ((Only.of_below (S := [p, g]) HB2.out).trans o3 (by simp))
      clear i3 o3
      go_wp2_with fail
      refine (HL2.out _ _ HI3.out).mono ?_
      rintro e w4 ⟨rfl, hb⟩
      have hx := HI3.out.below hb
      have ho4 := HO3.out.trans (Only.of_below (S := []) hb) (by simp)
      obtain ⟨c0, c1⟩ := hx.cells
      obtain ⟨z0, z1⟩ := hx.free
      obtain ⟨k5, o5⟩ := hx.keys (T.cnt + 1) ((T.cnt : Int) + 1) rfl
      have HK5 := Lib.hid k5
      have HO5 := Lib.hid (ho4.trans o5 (by simp))
      clear hx ho4 k5 o5 hb HL HX H1 H2 HL2 HW HCW HI3 HO3
      rw [HGN.out] at c0
      go_upto_region 7 with fail
      have i5 := HK5.out
      generalize w4.setCell ⟨p, 1, none⟩ (.int .i64 ((T.cnt : Int) + 1)) = w5 at i5 HO5 ⊢
      clear c0 c1 z0 z1 HK5
      obtain ⟨c0, c1⟩ := i5.cells
      rw [HGN.out] at c0
      obtain ⟨q0, q1, q2⟩ := i5.row.sl lk (by rw [HGN.out]; exact hlk2)
      obtain ⟨f0, f1, f2⟩ := i5.row.free lk (by rw [HGN.out]; exact hlk2)
      obtain ⟨i6, o6⟩ := i5.put lk ⟨k, v, true⟩
      have HI := Lib.hid i6
      have HO := Lib.hid (HO5.out.trans o6 (fun x hx => by have := HB2.out.size; simp at hx; omega))
      have hlkI : (lk : Int) < 2 * (T.n : Int) := by omega
      clear i5 i6 o6 HO5
      go_wp2_with fail
      exact bodyPost_end (results_none rfl _ _ _) rfl ⟨rfl, HO.out, _, .inr HB2.out.size, by rw [hpc.out, HPUT.out]; exact HI.out⟩
    · obtain ⟨lk, hlkE⟩ : ∃ lk, T.look k = lk := ⟨_, rfl⟩
      have HPUT : Hid (T.put k v = ⟨T.n, fun j => if j = lk then ⟨k, v, true⟩ else T.sl j⟩) := Lib.hid (by
        unfold Tb.put
        rw [if_neg (fun q => hcr q.2), HLAY.out _ _ hlkE])
      rw [hlkE] at hlk HL
      clear hlkE HLAY HTH HL2 hlk2 HW HGN
      have HCW := Lib.hid (fun w' (q : IxT w' p T g T.cnt) => crowded_walk q (by omega) (by omega))
      rw [decide_eq_false hcr] at HCW
      go_enter Try.func75, Try.ntmps75
      go_wp2_with fail
      refine HL.out.mono ?_
      rintro e w1 ⟨rfl, hb⟩
      have H1 := Lib.hid (HX.out.below hb)
      have HB1 := Lib.hid hb
      clear hb
      go_wp2_with fail
      refine (HCW.out _ H1.out).mono ?_
      rintro e w2 ⟨rfl, hb⟩
      have hx := H1.out.below hb
      have ho4 := Only.of_below (S := [p, g]) (HB1.out.trans (hb.mono HB1.out.size))
      obtain ⟨c0, c1⟩ := hx.cells
      obtain ⟨z0, z1⟩ := hx.free
      obtain ⟨k5, o5⟩ := hx.keys (T.cnt + 1) ((T.cnt : Int) + 1) rfl
      have HK5 := Lib.hid k5
      have HO5 := Lib.hid (ho4.trans o5 (by simp))
      clear hx ho4 k5 o5 hb HL HX H1 HCW
      go_upto_region 7 with fail
      have i5 := HK5.out
      generalize w2.setCell ⟨p, 1, none⟩ (.int .i64 ((T.cnt : Int) + 1)) = w5 at i5 HO5 ⊢
      clear c0 c1 z0 z1 HK5
      obtain ⟨c0, c1⟩ := i5.cells
      obtain ⟨q0, q1, q2⟩ := i5.row.sl lk hlk
      obtain ⟨f0, f1, f2⟩ := i5.row.free lk hlk
      obtain ⟨i6, o6⟩ := i5.put lk ⟨k, v, true⟩
      have HI := Lib.hid i6
      have HO := Lib.hid (HO5.out.trans o6 (by simp))
      clear i5 i6 o6 HO5
      go_wp2_with fail
      exact bodyPost_end (results_none rfl _ _ _) rfl ⟨rfl, HO.out, _, .inl rfl, by rw [hpc.out, HPUT.out]; exact HI.out⟩
  · obtain ⟨lk, hlkE⟩ : ∃ lk, T.look k = lk := ⟨_, rfl⟩
    have hpc : Hid ((T.put k v).cnt = T.cnt) := HPC
    have HPUT : Hid (T.put k v = ⟨T.n, fun j => if j = lk then ⟨k, v, true⟩ else T.sl j⟩) := Lib.hid (by
      unfold Tb.put
      rw [if_neg (fun q => absurd (HTH.out.symm.trans q.1) (by decide)), HLAY.out _ _ hlkE])
    rw [hlkE] at hlk HL
    clear hlkE HLAY HTH HL2 hlk2 HW HGN HPC
    go_enter Try.func75, Try.ntmps75
    go_wp2_with fail
    refine HL.out.mono ?_
    rintro e w1 ⟨rfl, hb⟩
    have hx := HX.out.below hb
    obtain ⟨c0, c1⟩ := hx.cells
    obtain ⟨q0, q1, q2⟩ := hx.row.sl lk hlk
    obtain ⟨f0, f1, f2⟩ := hx.row.free lk hlk
    obtain ⟨i1, i2⟩ := hx.put lk ⟨k, v, true⟩
    have HI := Lib.hid i1
    have HO := Lib.hid ((Only.of_below (S := [p, g]) hb).trans i2 (by simp))
    clear hx i1 i2 hb HL HX
    go_wp2_with fail
    exact bodyPost_end (results_none rfl _ _ _) rfl ⟨rfl, HO.out, _, .inl rfl, by rw [hpc.out, HPUT.out]; exact HI.out⟩
end Go.Proofs.Ytnacmhljbnpdpaa
/- The program's table: what comes behind a slot, and whether it comes to the gap. -/
namespace Go.Proofs.Ytnacmhljbnpdpaa
open Go Go.RowKit Go.Deep

abbrev behF (a b : Nat) : Value := .func (.func 96) #[] #[ptr a, ptr b]
theorem behind_walk (w : World) (p : Nat) (x : Nat) :
    Calls Try.prog 80 #[ptr p, .int .i64 (x : Nat)] w fun e w' => e = .returned (behF w.heap.size (w.heap.size + 1)) ∧ w' = (w.alloc (.cells #[ptr p] 69)).alloc (.cells #[.int .i64 (x : Nat)] 3) := by
  have hmf : ∀ (fn : Fn) (first cap : Array Value) (w : World), (Instr.makeFunc fn first cap).run Try.prog w = .ok (.func fn first cap) w := fun _ _ _ _ => rfl
  go_enter Try.func80, Try.ntmps80
  go_wp2
  go_ret
  exact ⟨rfl, rfl⟩

/- The closure's own two cells. -/
structure BehAt (w : World) (p a b x : Nat) : Prop where
  tab : w.heap[a]? = some (.cells #[ptr p] 69 (0, 0))
  at_ : w.heap[b]? = some (.cells #[.int .i64 (x : Nat)] 3 (0, 0))
theorem BehAt.only {S : List Nat} {w w' : World} {p a b x : Nat} (h : BehAt w p a b x) (ho : Only S w w') (ha : a ∉ S) (hb : b ∉ S) : BehAt w' p a b x :=
  ⟨(ho.block a (head_row h.tab).lt ha).trans h.tab, (ho.block b (head_row h.at_).lt hb).trans h.at_⟩

theorem behind1_walk {w : World} {p : Nat} {T : Tb} {g c a b x : Nat} (h : IxT w p T g c) (hn : T.n ≤ 1073741824) (hx : x < T.n) (k : BehAt w p a b x) :
    Calls Try.prog 96 #[ptr a, ptr b] w fun e w' => e = .returned (.tuple #[.int .i64 ((x + 1) % T.n : Nat), .bool (T.sl ((x + 1) % T.n)).full]) ∧ BehAt w' p a b ((x + 1) % T.n) ∧ Only [b] w w' := by
  have hy : (x + 1) % T.n < T.n := Nat.mod_lt _ (by omega)
  have HX := Lib.hid h
  have HN := Lib.hid (fun w' (q : IxT w' p T g c) => next_walk q hn x hx)
  have a0 : w.cell? ⟨a, 0, none⟩ = some (ptr p) := (head_row k.tab).cell (i := 0) (by simp)
  have b0 : w.cell? ⟨b, 0, none⟩ = some (.int .i64 (x : Nat)) := (head_row k.at_).cell (i := 0) (by simp)
  have z0 : w.frozen? ⟨b, 0, none⟩ = false := (head_row k.at_).frozen 0
  obtain ⟨t1, o1⟩ := one_heap k.at_ (.int .i64 ((x + 1) % T.n : Nat))
  have hbp : p ≠ b := block_ne (head_row h.tab) (head_row k.at_) (by decide)
  have hbg : g ≠ b := by obtain ⟨N, F, hF, _⟩ := h.row; exact block_ne hF (head_row k.at_) (by decide)
  have hab : a ≠ b := block_ne (head_row k.tab) (head_row k.at_) (by decide)
  have HT := Lib.hid t1
  have HO := Lib.hid o1
  have HA := Lib.hid ((o1.block a (head_row k.tab).lt (by simpa using hab)).trans k.tab)
  have HX1 := Lib.hid (h.only o1 (by simpa using hbp) (by simpa using hbg))
  clear h k t1 o1 hbp hbg hab
  generalize (x + 1) % T.n = y at hy HN HT HO HA HX1 ⊢
  go_enter Try.func96, Try.ntmps96
  go_wp2_with fail
  refine (HN.out _ HX.out).mono ?_
  rintro e w1 ⟨rfl, rfl⟩
  go_upto_region 2 with fail
  generalize w.setCell ⟨b, 0, none⟩ (.int .i64 (y : Nat)) = w1 at HT HO HA HX1 ⊢
  clear a0 b0 z0
  have a0 : w1.cell? ⟨a, 0, none⟩ = some (ptr p) := (head_row HA.out).cell (i := 0) (by simp)
  have b0 : w1.cell? ⟨b, 0, none⟩ = some (.int .i64 (y : Nat)) := (head_row HT.out).cell (i := 0) (by simp)
  obtain ⟨c0, _⟩ := HX1.out.cells
  obtain ⟨_, _, q2⟩ := HX1.out.sl y hy
  have hyI : (y : Int) < (T.n : Int) := by omega
  go_quiet (fail)
  go_wp2
  exact bodyPost_ret (v := .tuple #[.int .i64 (y : Nat), .bool (T.sl y).full]) (by simp [results, Try.results96, go_sem]) rfl ⟨rfl, ⟨HA.out, HT.out⟩, HO.out.drewN _⟩

theorem passes_walk {w : World} {p : Nat} {T : Tb} {g c x y : Nat} (h : IxT w p T g c) (hs : isSz T.n = true) (hx : x < T.n) (hy : y < T.n) :
    Calls Try.prog 81 #[ptr p, .int .i64 (x : Nat), .int .i64 (y : Nat)] w fun e w' => e = .returned (.bool (decide (away x y T.n ≤ away (hm (T.sl y).key T.n) y T.n))) ∧ Below w.heap.size w w' := by
  have hyI : (y : Int) < (T.n : Int) := by omega
  obtain ⟨c0, _⟩ := h.cells
  obtain ⟨q0, _, _⟩ := h.sl y hy
  have HX := Lib.hid h
  have HF := Lib.hid (fun w' (q : IxT w' p T g c) => fromHome_walk q hs (T.sl y).key y hy)
  have HA := Lib.hid (fun w' => apart_is w' x y T.n hs hx hy)
  clear h hs
  generalize (T.sl y).key = sk at q0 HF ⊢
  generalize away (hm sk T.n) y T.n = d at HF ⊢
  generalize away x y T.n = d' at HA ⊢
  have HXD := Lib.hid (HX.out.only (Only.refl [] w).drew (by simp) (by simp))
  have HCELL := Lib.hid (fun w' (b : Below w.drew.heap.size w.drew w') => And.intro ((b.cell (p := ⟨p, 0, none⟩) HXD.out.plt).trans c0) ((b.cell (p := ⟨g, y * 3, none⟩) HXD.out.lt).trans q0))
  go_enter Try.func81, Try.ntmps81
  go_wp2_with fail
  go_region_held3 (fun w' => w'.cell? ⟨p, 0, none⟩ = some (.slice (some ⟨g, 0, none⟩) T.n T.n) ∧ w'.cell? ⟨g, y * 3, none⟩ = some (.int .u64 (sk : Nat))) (first | with_reducible exact kk5 | go_keep) (first
    | (go_at_call 97; refine (HF.out _ HXD.out).mono ?_; rintro e w5 ⟨rfl, d5⟩; have kk5 := HCELL.out _ d5)
    | (go_at_call 98; refine (HA.out _).mono ?_; rintro e w6 ⟨rfl, rfl⟩))
  have HB5 := Lib.hid ((Below.refl w.heap.size w).drew.trans (d5.mono (Nat.le_refl _)))
  go_wp2
  go_ret
  exact ⟨rfl, HB5.out⟩
end Go.Proofs.Ytnacmhljbnpdpaa
/- The program's table: Delete. -/
namespace Go.Proofs.Ytnacmhljbnpdpaa
open Go Go.RowKit Go.Deep

structure DelInv (w wr : World) (p g : Nat) (T : Tb) (k a m : Nat) : Prop where
  ix : IxT wr p ⟨T.n, (T.back (T.look k) m).2⟩ g T.cnt
  only : Only [p, g] w wr
  beh : BehAt wr p a (a + 1) ((T.look k + (m + 1)) % T.n)
/- All that a step of the shift asks, told ahead of the walk. -/
structure DelStep (T : Tb) (k r m : Nat) : Prop where
  gap : (T.back (T.look k) m).1 < T.n
  at_ : (T.look k + (m + 1)) % T.n < T.n
  full : ((T.back (T.look k) m).2 ((T.look k + (m + 1)) % T.n)).full = decide (m < r)
theorem Tb.Good.del_steps {T : Tb} (gd : T.Good) (k : Nat) (hf : T.there k = true) : ∀ m, m ≤ T.run (T.look k) → DelStep T k (T.run (T.look k)) m := fun _ hm =>
  have hr := gd.ok.run_at (gd.ok.look_lt k) hf
  ⟨hr.back_lt gd.ok hm, Nat.mod_lt _ gd.ok.pos, hr.back_next gd.ok hm⟩
theorem Tb.Good.del_is {T : Tb} (gd : T.Good) (k : Nat) (hf : T.there k = true) :
    T.del k = ⟨T.n, fun i => if i = (T.back (T.look k) (T.run (T.look k))).1 then Sl.no else (T.back (T.look k) (T.run (T.look k))).2 i⟩ ∧ (T.del k).cnt + 1 = T.cnt := by
  have h1 := (gd.del_all k).2.1
  rw [if_pos hf] at h1
  refine ⟨?_, h1⟩
  unfold Tb.del
  rw [if_pos hf]
  exact ((gd.ok.run_at (gd.ok.look_lt k) hf).back_end gd.ok).1

/- To go on behind a step. -/
theorem del_behind {w w5 : World} {p g : Nat} {T : Tb} {k a m r : Nat} (hn : T.n ≤ 100000) (h : IxT w5 p ⟨T.n, (T.back (T.look k) (m + 1)).2⟩ g T.cnt) (hb : BehAt w5 p a (a + 1) ((T.look k + (m + 1)) % T.n)) (ho : Only [p, g] w w5)
    (hlow : w.heap.size ≤ a) (hp : p < w.heap.size) (hg : g < w.heap.size) (st : DelStep T k r m) (st' : DelStep T k r (m + 1)) :
    Calls Try.prog 96 #[ptr a, ptr (a + 1)] w5 fun e w' => e = .returned (.tuple #[.int .i64 ((T.look k + (m + 1 + 1)) % T.n : Nat), .bool (decide (m + 1 < r))]) ∧ DelInv w w' p g T k a (m + 1) := by
  have e1 : ((T.look k + (m + 1)) % T.n + 1) % T.n = (T.look k + (m + 1 + 1)) % T.n := by rw [Nat.mod_add_mod, Nat.add_assoc]
  refine (behind1_walk h (show T.n ≤ _ by omega) st.at_ hb).mono ?_
  rintro e w' ⟨rfl, hb', ho'⟩
  have hb'' : BehAt w' p a (a + 1) (((T.look k + (m + 1)) % T.n + 1) % T.n) := hb'
  rw [e1] at hb''
  refine ⟨?_, h.only ho' (by simp; omega) (by simp; omega), ho.trans ho' (by simp; omega), hb''⟩
  show Ending.returned (.tuple #[.int .i64 (((T.look k + (m + 1)) % T.n + 1) % T.n : Nat), .bool ((T.back (T.look k) (m + 1)).2 (((T.look k + (m + 1)) % T.n + 1) % T.n)).full]) = _
  rw [e1, st'.full]

set_option maxHeartbeats 1000000 in
theorem delete_walk {w : World} {p : Nat} {T : Tb} {g : Nat} (h : IxT w p T g T.cnt) (gd : T.Good) (hn : T.n ≤ 100000) (k : Nat) (hk : k < 18446744073709551616) :
    Calls Try.prog 62 #[ptr p, .int .u64 (k : Nat)] w fun e w' => e = .returned (.bool (T.there k)) ∧ PutTo w w' p g (T.del k) := by
  obtain ⟨e, he⟩ := gd.pow
  have hs : isSz T.n = true := good_sz ⟨e, he⟩ (by omega)
  have hlk := gd.ok.look_lt k
  have HL := Lib.hid (look_walk h gd.ok hs k hk)
  have HX := Lib.hid h
  have hcle : T.cnt ≤ T.n := cntB_le _ _
  obtain ⟨th, hth⟩ : ∃ th, T.there k = th := ⟨_, rfl⟩
  rw [hth] at HL ⊢
  cases th
  · have HD : Hid (T.del k = T) := Lib.hid (by unfold Tb.del; rw [hth]; rfl)
    clear h gd hs he hth
    go_enter Try.func62, Try.ntmps62
    go_wp2_with fail
    refine HL.out.mono ?_
    rintro e w1 ⟨rfl, hb⟩
    have HB := Lib.hid hb
    clear hb HL
    go_wp2_with fail
    go_ret
    exact ⟨rfl, Only.of_below HB.out, g, .inl rfl, by rw [HD.out]; exact HX.out.below HB.out⟩
  · have HST := Lib.hid (gd.del_steps k hth)
    obtain ⟨d1, d2⟩ := gd.del_is k hth
    have HD := Lib.hid d1
    have HS := Lib.hid hs
    have hplt := Lib.hid (And.intro h.plt h.lt)
    have HB0 : Hid (∀ m, T.back (T.look k) (m + 1) = if away (T.back (T.look k) m).1 ((T.look k + (m + 1)) % T.n) T.n ≤ away (hm ((T.back (T.look k) m).2 ((T.look k + (m + 1)) % T.n)).key T.n) ((T.look k + (m + 1)) % T.n) T.n then
      ((T.look k + (m + 1)) % T.n, fun i => if i = (T.back (T.look k) m).1 then (T.back (T.look k) m).2 ((T.look k + (m + 1)) % T.n) else (T.back (T.look k) m).2 i) else T.back (T.look k) m) := Lib.hid (fun _ => rfl)
    clear h gd hs he hth d1
    go_enter Try.func62, Try.ntmps62
    go_wp2_with fail
    refine HL.out.mono ?_
    rintro e w1 ⟨rfl, hb⟩
    have H1 := Lib.hid (HX.out.below hb)
    have HB1 := Lib.hid hb
    clear hb HL HX
    go_wp2_with fail
    refine (behind_walk _ p (T.look k)).mono ?_
    rintro e w2 ⟨rfl, rfl⟩
    have ho2 := ((Only.refl [] w1).alloc (.cells #[ptr p] 69)).alloc (.cells #[.int .i64 (T.look k : Nat)] 3)
    have k1 : (w1.alloc (.cells #[ptr p] 69)).heap[w1.heap.size]? = _ := heap_alloc_new w1 (.cells #[ptr p] 69)
    have k2 : ((w1.alloc (.cells #[ptr p] 69)).alloc (.cells #[.int .i64 (T.look k : Nat)] 3)).heap[w1.heap.size]? = _ := (((Only.refl [] _).alloc (.cells #[.int .i64 (T.look k : Nat)] 3)).block w1.heap.size (by simp) (by simp)).trans k1
    have k3 := heap_alloc_new (w1.alloc (.cells #[ptr p] 69)) (.cells #[.int .i64 (T.look k : Nat)] 3)
    have e3 : (w1.alloc (.cells #[ptr p] 69)).heap.size = w1.heap.size + 1 := by simp
    rw [e3] at k3
    have HBE : Hid (BehAt _ p w1.heap.size (w1.heap.size + 1) (T.look k)) := Lib.hid ⟨k2, k3⟩
    have HX2 := Lib.hid (H1.out.only ho2 (by simp) (by simp))
    have HO2 := Lib.hid ((Only.of_below (S := [p, g]) HB1.out).trans ho2 (by simp))
    have hlow := HB1.out.size
    clear ho2 k1 k2 k3 e3 H1 HB1
    generalize (w1.alloc (.cells #[ptr p] 69)).alloc (.cells #[.int .i64 (T.look k : Nat)] 3) = w2 at HBE HX2 HO2 ⊢
    generalize w1.heap.size = a at HBE hlow ⊢
    go_wp2_with fail
    refine (behind1_walk HX2.out (by omega) hlk HBE.out).mono ?_
    rintro e w3 ⟨rfl, hbe, ho⟩
    have hp := hplt.out
    have HI0 : Hid (DelInv w w3 p g T k a 0) := Lib.hid ⟨HX2.out.only ho (by simp; omega) (by simp; omega), HO2.out.trans ho (by simp; omega), hbe⟩
    have hf0 : (T.sl ((T.look k + 1) % T.n)).full = decide (0 < T.run (T.look k)) := (HST.out 0 (Nat.zero_le _)).full
    rw [hf0]
    obtain ⟨r, hr⟩ : ∃ r, T.run (T.look k) = r := ⟨_, rfl⟩
    rw [hr] at HST HD ⊢
    clear hf0 hr HX2 HO2 HBE hbe ho hp
    go_wp2_with fail
    go_loopg [5, 8, 9] r (fun gg s5 s8 s9 wr => ∃ m : Nat, m + gg = r ∧ s5 = .int .i64 ((T.back (T.look k) m).1 : Nat) ∧ s8 = .int .i64 ((T.look k + (m + 1)) % T.n : Nat) ∧ s9 = .bool (decide (m < r)) ∧ Hid (DelInv w wr p g T k a m))
    case atStart => exact ⟨0, by omega, rfl, rfl, rfl, HI0⟩
    case round =>
      obtain ⟨m, hmm, rfl, rfl, rfl, HI⟩ := hrel
      by_cases hmr : m < r
      · rw [decide_eq_true hmr]
        have hst := HST.out m (by omega)
        have HST1 := Lib.hid (HST.out (m + 1) (by omega))
        have HSTM := Lib.hid hst
        have HB1 := Lib.hid (HB0.out m)
        have hpw := passes_walk HI.out.ix HS.out hst.gap hst.at_
        simp only at hpw
        obtain ⟨G, hG⟩ : ∃ G, (T.back (T.look k) m).1 = G := ⟨_, rfl⟩
        obtain ⟨x, hx⟩ : ∃ x, (T.look k + (m + 1)) % T.n = x := ⟨_, rfl⟩
        have hgl := hst.gap
        have hxl := hst.at_
        rw [hG] at hpw hgl HB1 ⊢
        rw [hx] at hpw hxl HB1 ⊢
        have HXX := Lib.hid hx
        have HG := Lib.hid hG
        clear hG hx hst
        by_cases hc : away G x T.n ≤ away (hm ((T.back (T.look k) m).2 x).key T.n) x T.n
        · rw [decide_eq_true hc] at hpw
          rw [if_pos hc] at HB1
          have HP := Lib.hid hpw
          clear hpw hc
          go_wp2_with fail
          refine HP.out.mono ?_
          rintro e w4 ⟨rfl, hb⟩
          have hx4 := HI.out.ix.below hb
          have HB4 := Lib.hid (HI.out.beh.only (Only.of_below (S := []) hb) (by simp) (by simp))
          have HO4 := Lib.hid (HI.out.only.trans (Only.of_below (S := []) hb) (by simp))
          obtain ⟨c0, _⟩ := hx4.cells
          obtain ⟨q0, q1, q2⟩ := hx4.sl x hxl
          obtain ⟨r0, r1, r2⟩ := hx4.sl G hgl
          obtain ⟨f0, f1, f2⟩ := hx4.row.free G hgl
          obtain ⟨i5, o5⟩ := hx4.put G ((T.back (T.look k) m).2 x)
          have HI5 := Lib.hid i5
          have HO5 := Lib.hid o5
          simp only at c0 q0 q1 q2 r0 r1 r2
          have hxI : (x : Int) < (T.n : Int) := by omega
          have hGI : (G : Int) < (T.n : Int) := by omega
          clear hb hx4 i5 o5 HP
          generalize (T.back (T.look k) m).2 x = s at q0 q1 q2 HI5 HO5 HB1 ⊢
          generalize (T.back (T.look k) m).2 G = s' at r0 r1 r2 ⊢
          go_wp2_with fail
          go_region
          have hp1 := HI5.out
          have hp2 := HO5.out
          clear HI5 HO5 q0 q1 q2 r0 r1 r2 f0 f1 f2 c0
          generalize (((w4.setCell ⟨g, G * 3, none⟩ (.int .u64 (s.key : Nat))).setCell ⟨g, G * 3 + 1, none⟩ (.int .i32 s.n)).setCell ⟨g, G * 3 + 2, none⟩ (.bool s.full)) = V at hp1 hp2 ⊢
          have hpp := hplt.out
          have h1 : IxT V.drew p ⟨T.n, (T.back (T.look k) (m + 1)).2⟩ g T.cnt := by rw [HB1.out]; exact hp1.only (Only.refl [] V).drew (by simp) (by simp)
          have h2 := HB4.out.only hp2.drew (by simp; omega) (by simp; omega)
          have h3 := HO4.out.trans hp2.drew (by simp)
          have HBH := Lib.hid (del_behind hn h1 h2 h3 hlow hplt.out.1 hplt.out.2 HSTM.out HST1.out)
          have HGE := Lib.hid (congrArg Prod.fst HB1.out)
          clear h1 h2 h3 hp1 hp2 hpp
          go_wp2_with fail
          refine HBH.out.mono ?_
          rintro e w5 ⟨rfl, hi⟩
          have HI5 := Lib.hid hi
          clear hi HBH
          go_wp2
          go_roundg (gk - 1)
          case measure => omega
          case rel => exact ⟨m + 1, by omega, by rw [HGE.out], rfl, rfl, HI5⟩
        · rw [decide_eq_false hc] at hpw
          rw [if_neg hc] at HB1
          have HP := Lib.hid hpw
          clear hpw hc
          go_wp2_with fail
          refine HP.out.mono ?_
          rintro e w4 ⟨rfl, hb⟩
          have h1 : IxT w4 p ⟨T.n, (T.back (T.look k) (m + 1)).2⟩ g T.cnt := by rw [HB1.out]; exact HI.out.ix.below hb
          have h2 := HI.out.beh.only (Only.of_below (S := []) hb) (by simp) (by simp)
          have h3 := HI.out.only.trans (Only.of_below (S := []) hb) (by simp)
          have HBH := Lib.hid (del_behind hn h1 h2 h3 hlow hplt.out.1 hplt.out.2 HSTM.out HST1.out)
          clear h1 h2 h3 hb HP
          go_wp2_with fail
          refine HBH.out.mono ?_
          rintro e w5 ⟨rfl, hi⟩
          have HI5 := Lib.hid hi
          have HGE := Lib.hid (congrArg Prod.fst HB1.out)
          clear hi HBH
          go_wp2
          go_roundg (gk - 1)
          case measure => omega
          case rel => exact ⟨m + 1, by omega, by rw [HGE.out, HG.out], rfl, rfl, HI5⟩
      · obtain rfl : m = r := by omega
        rw [decide_eq_false hmr]
        have hst := HST.out m (by omega)
        have hgl := hst.gap
        obtain ⟨G, hG⟩ : ∃ G, (T.back (T.look k) m).1 = G := ⟨_, rfl⟩
        rw [hG] at hgl HD ⊢
        have hx4 := HI.out.ix
        obtain ⟨c0, c1⟩ := hx4.cells
        obtain ⟨r0, r1, r2⟩ := hx4.sl G hgl
        obtain ⟨f0, f1, f2⟩ := hx4.row.free G hgl
        obtain ⟨z0, z1⟩ := hx4.free
        obtain ⟨i5, o5⟩ := hx4.put G Sl.no
        have i5 : IxT (((wr.setCell ⟨g, G * 3, none⟩ (.int .u64 0)).setCell ⟨g, G * 3 + 1, none⟩ (.int .i32 0)).setCell ⟨g, G * 3 + 2, none⟩ (.bool false)) p _ g T.cnt := i5
        have o5 : Only [p, g] w (((wr.setCell ⟨g, G * 3, none⟩ (.int .u64 0)).setCell ⟨g, G * 3 + 1, none⟩ (.int .i32 0)).setCell ⟨g, G * 3 + 2, none⟩ (.bool false)) := HI.out.only.trans o5 (by simp)
        have HI5 := Lib.hid i5
        have HO5 := Lib.hid o5
        simp only at c0 r0 r1 r2
        have hGI : (G : Int) < (T.n : Int) := by omega
        clear hx4 i5 o5 hst hG HI HB0 HST
        generalize (T.back (T.look k) m).2 G = s' at r0 r1 r2 ⊢
        go_upto_region 14 with fail
        have hp1 := HI5.out
        have hp2 := HO5.out
        clear HI5 HO5 r0 r1 r2 f0 f1 f2 c0 c1 z0 z1
        generalize (((wr.setCell ⟨g, G * 3, none⟩ (.int .u64 0)).setCell ⟨g, G * 3 + 1, none⟩ (.int .i32 0)).setCell ⟨g, G * 3 + 2, none⟩ (.bool false)) = V at hp1 hp2 ⊢
        obtain ⟨_, c1⟩ := hp1.cells
        obtain ⟨_, z1⟩ := hp1.free
        obtain ⟨i6, o6⟩ := hp1.keys (T.del k).cnt ((T.cnt : Int) - 1) (by omega)
        have HI6 := Lib.hid i6
        have HO6 := Lib.hid (hp2.trans o6 (by simp))
        have hcI : (T.cnt : Int) ≤ 100000 := by omega
        have hc0 : 1 ≤ (T.cnt : Int) := by omega
        have HD2 : Hid (T.del k = ⟨T.n, fun j => if j = G then Sl.no else (T.back (T.look k) m).2 j⟩) := HD
        clear hp1 hp2 i6 o6 HD
        have e6 : IxT (V.setCell ⟨p, 1, none⟩ (.int .i64 ((T.cnt : Int) - 1))) p ⟨T.n, fun j => if j = G then Sl.no else (T.back (T.look k) m).2 j⟩ g (T.del k).cnt := HI6.out
        rw [← HD2.out] at e6
        have HE6 := Lib.hid e6
        clear e6 HI6 HD2
        go_wp2
        go_ret
        exact ⟨rfl, HO6.out, g, .inl rfl, HE6.out⟩
end Go.Proofs.Ytnacmhljbnpdpaa
/- The program's table in a law's own memory: each call by one contract. -/
namespace Go.Proofs.Ytnacmhljbnpdpaa
open Go Go.RowKit Go.Deep

/- The table lies at p, in blocks that w0 had not; K: blocks that it has nothing to do with. -/
structure HX (w0 w : World) (p : Nat) (T : Tb) (K : List Nat) : Prop where
  below : Below w0.heap.size w0 w
  good : T.Good
  keys : T.Keys
  old : ∀ k ∈ K, k < w.heap.size
  mem : ∃ g, w0.heap.size ≤ p ∧ w0.heap.size ≤ g ∧ p ∉ K ∧ g ∉ K ∧ IxT w p T g T.cnt
def KeptX (K : List Nat) (w w' : World) : Prop := ∀ k ∈ K, w'.heap[k]? = w.heap[k]?

section
variable {w0 w w' : World} {p : Nat} {T U : Tb} {K : List Nat}
theorem HX.still (h : HX w0 w p T K) (hb : Below w.heap.size w w') : HX w0 w' p T K ∧ KeptX K w w' := by
  obtain ⟨g, h1, h2, h3, h4, h5⟩ := h.mem
  exact ⟨⟨h.below.trans (hb.mono h.below.size), h.good, h.keys, fun k hk => Nat.lt_of_lt_of_le (h.old k hk) hb.size, g, h1, h2, h3, h4, h5.below hb⟩, fun k hk => hb.block k (h.old k hk)⟩
theorem HX.turn {g : Nat} (h : HX w0 w p T K) (h1 : w0.heap.size ≤ p) (h2 : w0.heap.size ≤ g) (h3 : p ∉ K) (h4 : g ∉ K) (good : U.Good) (keys : U.Keys) (ht : PutTo w w' p g U) : HX w0 w' p U K ∧ KeptX K w w' := by
  obtain ⟨o, g', hg', i⟩ := ht
  have hsz := h.below.size
  refine ⟨⟨h.below.trans (o.below (by simp; omega) hsz), good, keys, fun k hk => Nat.lt_of_lt_of_le (h.old k hk) o.size, g', h1, by omega, h3, ?_, i⟩, fun k hk => o.block k (h.old k hk) ?_⟩
  · rcases hg' with rfl | hg'
    · exact h4
    · intro hk; have := h.old _ hk; omega
  · simp only [List.mem_cons, List.not_mem_nil, or_false, not_or]
    exact ⟨fun e => h3 (e ▸ hk), fun e => h4 (e ▸ hk)⟩
theorem HX.sz (h : HX w0 w p T K) (hn : T.n ≤ 100000) : isSz T.n = true := good_sz h.good.pow (by omega)

theorem hx_new (hb : Below w0.heap.size w0 w) (K : List Nat) (hK : ∀ k ∈ K, k < w.heap.size) :
    Calls Try.prog 45 #[] w fun e w' => ∃ p, e = .returned (ptr p) ∧ HX w0 w' p Tb.new K ∧ Below w.heap.size w w' := by
  refine (ixnew_walk w).mono ?_
  rintro e w' ⟨p, g, rfl, hb', h1, h2, h3⟩
  have hsz := hb.size
  refine ⟨p, rfl, ⟨hb.trans (hb'.mono hsz), new_good, new_keys, fun k hk => Nat.lt_of_lt_of_le (hK k hk) hb'.size, g, by omega, by omega, fun hk => by have := hK _ hk; omega, fun hk => by have := hK _ hk; omega, ?_⟩, hb'⟩
  rw [show Tb.new.cnt = 0 from none_cnt _]
  exact h3
theorem hx_put (h : HX w0 w p T K) (hn : T.n ≤ 100000) (k : Nat) (hk : k < 18446744073709551616) (v : Int) :
    Calls Try.prog 75 #[ptr p, .int .u64 (k : Nat), .int .i32 v] w fun e w' => e = .returned (.tuple #[]) ∧ HX w0 w' p (T.put k v) K ∧ KeptX K w w' := by
  obtain ⟨g, h1, h2, h3, h4, h5⟩ := h.mem
  exact (put_walk h5 h.good hn h.keys k hk v).mono fun e w' ⟨he, ht⟩ => ⟨he, h.turn h1 h2 h3 h4 (h.good.put_all k v).1 (h.keys.put k v hk) ht⟩
theorem hx_del (h : HX w0 w p T K) (hn : T.n ≤ 100000) (k : Nat) (hk : k < 18446744073709551616) :
    Calls Try.prog 62 #[ptr p, .int .u64 (k : Nat)] w fun e w' => e = .returned (.bool (T.there k)) ∧ HX w0 w' p (T.del k) K ∧ KeptX K w w' := by
  obtain ⟨g, h1, h2, h3, h4, h5⟩ := h.mem
  exact (delete_walk h5 h.good hn k hk).mono fun e w' ⟨he, ht⟩ => ⟨he, h.turn h1 h2 h3 h4 (h.good.del_all k).1 (h.keys.del h.good.ok.pos k) ht⟩
theorem hx_get (h : HX w0 w p T K) (hn : T.n ≤ 100000) (k : Nat) (hk : k < 18446744073709551616) :
    Calls Try.prog 36 #[ptr p, .int .u64 (k : Nat)] w fun e w' => e = .returned (.tuple #[.int .i32 (T.get k).1, .bool (T.get k).2]) ∧ Below w.heap.size w w' := by
  obtain ⟨g, h1, h2, h3, h4, h5⟩ := h.mem
  exact get_walk h5 h.good.ok (h.sz hn) k hk
end

/- What is there, and what is not. -/
theorem Tb.put_lay {T : Tb} {k : Nat} {v : Int} (h : ¬ (T.there k = false ∧ 3 * T.n < 4 * T.cnt + 4)) : T.put k v = T.lay ⟨k, v, true⟩ := by unfold Tb.put; rw [if_neg h]
theorem there_no {T : Tb} (ok : T.Ok) {k : Nat} (h : ∀ v, ¬ T.has k v) : T.there k = false := by
  refine eq_false_of_ne_true (fun q => ?_)
  obtain ⟨v, hv⟩ := (T.there_has ok k).1 q
  exact h v hv
theorem there_yes {T : Tb} (ok : T.Ok) {k : Nat} {v : Int} (h : T.has k v) : T.there k = true := (T.there_has ok k).2 ⟨v, h⟩
theorem get_yes {T : Tb} (ok : T.Ok) {k : Nat} {v : Int} (h : T.has k v) : T.get k = (v, true) := by
  obtain ⟨h1, h2⟩ := (ok.has_iff k v).1 h
  unfold Tb.get
  rw [h2, there_yes ok h]
theorem get_no {T : Tb} (ok : T.Ok) {k : Nat} (h : T.there k = false) : T.get k = (0, false) := by
  have := ok.clean _ (ok.look_lt k) h
  unfold Tb.get
  rw [this, h]
  rfl
end Go.Proofs.Ytnacmhljbnpdpaa
/- The table held in a law's memory: Len. -/
namespace Go.Proofs.Ytnacmhljbnpdpaa
open Go Go.RowKit Go.Deep

section
variable {w0 w : World} {p : Nat} {T : Tb} {K : List Nat}
theorem hx_len (h : HX w0 w p T K) :
    Calls Try.prog 42 #[ptr p] w fun e w' => e = .returned (.int .i64 (T.cnt : Nat)) ∧ w = w' := by
  obtain ⟨g, h1, h2, h3, h4, h5⟩ := h.mem
  exact ixlen_walk h5
end
end Go.Proofs.Ytnacmhljbnpdpaa
/- The table held in a law's memory: Slots. -/
namespace Go.Proofs.Ytnacmhljbnpdpaa
open Go Go.RowKit Go.Deep

section
variable {w0 w : World} {p : Nat} {T : Tb} {K : List Nat}
theorem hx_slots (h : HX w0 w p T K) :
    Calls Try.prog 52 #[ptr p] w fun e w' => e = .returned (.int .i64 (T.n : Nat)) ∧ w = w' := by
  obtain ⟨g, h1, h2, h3, h4, h5⟩ := h.mem
  exact slots_walk h5
end
end Go.Proofs.Ytnacmhljbnpdpaa
