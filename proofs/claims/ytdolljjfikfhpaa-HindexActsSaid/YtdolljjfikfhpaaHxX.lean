/- The program's table: New, how full it is, and to lay all keys into twice as many slots. -/
import Derived.Test.YtdolljjfikfhpaaHxI
import Derived.Test.YtdolljjfikfhpaaHxP
import Derived.IntWalk
import Derived.StillTailTactics
namespace Go.Proofs.Ytdolljjfikfhpaa
open Go Go.RowKit Go.Deep

theorem make_ix (n : Nat) (hn : n ≤ 1000000000) (w : World) :
    ∃ cs : Array Value, (Instr.makeSlice 57 (.int .i64 n) (.int .i64 n)).run Try.prog w = .ok (.slice (some ⟨w.heap.size, 0, none⟩) n n) (w.alloc (.cells cs 56)) ∧
      cs.size = n * 3 ∧ ∀ p, p < cs.size → cs[p]? = some (slV (fun _ => Sl.no) p) := by
  have hinfo : (Try.prog.info? 56).map (fun i => (i.zero, i.size, i.bytes)) = some (some (.agg #[.int .u64 0, .int .i32 0, .bool false]), 3, 16) := by kernel_rfl
  obtain ⟨i, hi, hz0, hz1, hz2⟩ := info_parts hinfo
  have hr := run_make (P := Try.prog) w 57 56 i _ (by kernel_rfl) hi hz0 .i64 .i64 n n (by omega) (by omega) (by rw [hz2]; omega) (by omega)
  refine ⟨_, by simpa using hr, ?_⟩
  rw [hz1]
  refine ⟨size_madeCells _ _, fun p hp => ?_⟩
  rw [size_madeCells] at hp
  have hp3 : p % 3 < 3 := Nat.mod_lt _ (by decide)
  simp only [madeCells, Value.cells, Array.getElem?_map]
  rw [Array.getElem?_range, if_pos hp]
  simp only [Option.map_some, Option.some.injEq, slV]
  generalize p % 3 = j at hp3
  match j, hp3 with
  | 0, _ => rfl
  | 1, _ => rfl
  | 2, _ => rfl
theorem rowT_new {t : TypeId} {w : World} {g m : Nat} {cs : Array Value} (hb : w.heap[g]? = some (.cells cs t (0, 0))) (hsz : cs.size = m * 3) (hcs : ∀ p, p < cs.size → cs[p]? = some (slV (fun _ => Sl.no) p)) : RowT t w g m (fun _ => Sl.no) :=
  ⟨_, _, head_row hb, by omega, fun p hp => by
    have := hcs p (by omega)
    simp [Array.getD_eq_getD_getElem?, this]⟩

theorem new_walk (w : World) :
    Calls Try.prog 15 #[] w fun e w' => ∃ p g, e = .returned (ptr p) ∧ Below w.heap.size w w' ∧ w.heap.size ≤ p ∧ w.heap.size ≤ g ∧ IxT w' p Tb.new g 0 := by
  obtain ⟨cs, hmk, hsz, hcs⟩ := make_ix 8 (by omega) w
  have e8 : ((8 : Nat) : Int) = 8 := rfl
  rw [e8] at hmk
  have HB1 := Lib.hid ((Below.refl w.heap.size w).alloc (Nat.le_refl _) (.cells cs 56))
  have k1 := heap_alloc_new w (.cells cs 56)
  have HR := Lib.hid (rowT_new (m := 8) k1 hsz hcs)
  have HZ : Hid ((w.alloc (.cells cs 56)).heap.size = w.heap.size + 1) := Lib.hid (by simp)
  clear hsz hcs k1
  go_enter Try.func15, Try.ntmps15
  go_wp2_with fail
  go_ret
  generalize w.alloc (.cells cs 56) = w1 at HB1 HR HZ ⊢
  have hz := HZ.out
  have k := heap_alloc_new w1 (.cells #[.slice (some ⟨w.heap.size, 0, none⟩) 8 8, .int .i64 0] 59)
  rw [hz] at k
  exact ⟨_, _, rfl, HB1.out.alloc HB1.out.size _, by omega, Nat.le_refl _, k, HR.out.only ((Only.refl [] w1).alloc _) (by simp)⟩

theorem crowded_walk {w : World} {p : Nat} {T : Tb} {g c : Nat} (h : IxT w p T g c) (hn : T.n ≤ 1000000000) (hc : c ≤ 1000000000) :
    Calls Try.prog 31 #[ptr p] w fun e w' => e = .returned (.bool (decide (3 * T.n < 4 * c + 4))) ∧ Below w.heap.size w w' := by
  obtain ⟨c0, c1⟩ := h.cells
  clear h
  have hcI : (c : Int) ≤ 1000000000 := by omega
  have hnI : (T.n : Int) ≤ 1000000000 := by omega
  go_enter Try.func31, Try.ntmps31
  go_wp2_with fail
  go_region
  go_wp2
  go_ret
  exact ⟨congrArg (fun b => Ending.returned (Value.bool b)) (decide_eq_decide.2 (by omega)), (Below.refl w.heap.size w).drew⟩

theorem two_heap {w1 : World} {g : Nat} {t : TypeId} {a0 a1 : Value} (hB : w1.heap[g]? = some (.cells #[a0, a1] t (0, 0))) (b : Value) :
    (w1.setCell ⟨g, 0, none⟩ b).heap[g]? = some (.cells #[b, a1] t (0, 0)) ∧ (w1.setCell ⟨g, 1, none⟩ b).heap[g]? = some (.cells #[a0, b] t (0, 0)) ∧
    Only [g] w1 (w1.setCell ⟨g, 0, none⟩ b) ∧ Only [g] w1 (w1.setCell ⟨g, 1, none⟩ b) :=
  ⟨by simp [World.setCell, Array.getElem?_modify, hB], by simp [World.setCell, Array.getElem?_modify, hB], (Only.refl [g] w1).setCell (by simp) _, (Only.refl [g] w1).setCell (by simp) _⟩
theorem IxT.free {w : World} {p : Nat} {T : Tb} {g c : Nat} (h : IxT w p T g c) : w.frozen? ⟨p, 0, none⟩ = false ∧ w.frozen? ⟨p, 1, none⟩ = false :=
  ⟨(head_row h.tab).frozen 0, (head_row h.tab).frozen 1⟩
/- A slot laid. -/
theorem IxT.put {w : World} {p : Nat} {T : Tb} {g c : Nat} (h : IxT w p T g c) (i : Nat) (s : Sl) :
    IxT (((w.setCell ⟨g, i * 3, none⟩ (.int .u64 (s.key : Nat))).setCell ⟨g, i * 3 + 1, none⟩ (.int .i32 s.n)).setCell ⟨g, i * 3 + 2, none⟩ (.bool s.full)) p ⟨T.n, fun j => if j = i then s else T.sl j⟩ g c ∧
    Only [g] w (((w.setCell ⟨g, i * 3, none⟩ (.int .u64 (s.key : Nat))).setCell ⟨g, i * 3 + 1, none⟩ (.int .i32 s.n)).setCell ⟨g, i * 3 + 2, none⟩ (.bool s.full)) := by
  obtain ⟨h1, h2⟩ := rowT_put h.row i s
  exact ⟨⟨(h2.block p h.plt (by simpa using h.ne)).trans h.tab, h1⟩, h2⟩

/- An index into a slice, in a region whose operations but the last ones only read. -/
theorem wpStill_index {P : Program} {ops : Array Oper} {w : World} {Q : Act → Prop} {o : Oper} {rest : List Oper} {a : Act} (hg : o.guard = none) (t : TypeId) (x y : Operand) (ho : o.op = .indexAddr t x y) (ad : Addr) (len cap z size : Nat) (k : IntKind)
    (hu : P.underlying t = some (.slice (P.elem t))) (hs : (sizeOf (P.elem t)).run P w = .ok size w) (hx : a.eval x = .slice (some ad) len cap) (hy : a.eval y = .int k (z : Nat)) (hz : z < len)
    (h : wpStill P ops w Q rest (a.put o.dst (.pointer (some (ad.add (z * size)))))) : wpStill P ops w Q (o :: rest) a := by
  unfold wpStill
  rw [if_pos (by simp [Region.wanted, hg])]
  unfold Oper.still
  have e : (execOp a.eval o).run P w = .ok (.value (.pointer (some (ad.add (z * size))))) w := by
    unfold execOp
    rw [ho]
    simp only [hx, hy]
    have e0 : (Instr.indexAt t (.slice (some ad) len cap) (.int k (z : Nat))).run P w = .ok (.pointer (some (ad.add (z * size)))) w := by
      rw [run_indexAt_slice (h := hu), if_pos ⟨by omega, by omega⟩, hs]
      simp [Result.andThen]
    simp [Sem.run_map, e0]
  rw [e]
  exact (Oper.stillUpon_value o a w _ _) ▸ h

structure WidInv (w wr : World) (p : Nat) (T : Tb) (c i : Nat) : Prop where
  ix : IxT wr p (T.growUp i) w.heap.size c
  only : Only [p] w wr

set_option maxHeartbeats 1000000 in
theorem widen_walk {w : World} {p : Nat} {T : Tb} {g c : Nat} (h : IxT w p T g c) (gd : T.Good) (hn : T.n ≤ 100000) (hkeys : T.Keys) :
    Calls Try.prog 32 #[ptr p] w fun e w' => e = .returned (.tuple #[]) ∧ IxT w' p T.grow w.heap.size c ∧ Only [p] w w' := by
  obtain ⟨cs, hmk, hsz, hcs⟩ := make_ix (2 * T.n) (by omega) w
  rw [Int.natCast_mul] at hmk
  have e2 : ((2 : Nat) : Int) = 2 := rfl
  rw [e2] at hmk
  have hnI : (T.n : Int) ≤ 100000 := by omega
  obtain ⟨c0, _⟩ := h.cells
  obtain ⟨z0, _⟩ := h.free
  have hplt := h.plt
  have hglt := h.lt
  have hne := h.ne
  have HLOOK : Hid (∀ i, i ≤ T.n → (T.growUp i).Ok ∧ (T.growUp i).n = 2 * T.n ∧ isSz (T.growUp i).n = true) := Lib.hid (fun i hi => by
    have q := gd.ok.growUp i hi
    obtain ⟨e, he⟩ := gd.pow
    exact ⟨q.ok, q.n, good_sz ⟨e + 1, by rw [q.n, he, Nat.pow_succ, Nat.mul_comm]⟩ (by rw [q.n]; omega)⟩)
  have HK := Lib.hid hkeys
  have HROW := Lib.hid h.row
  have htab := h.tab
  have hin : ∀ W, W = (w.setCell ⟨p, 0, none⟩ (.slice (some ⟨w.heap.size, 0, none⟩) (2 * T.n) (2 * T.n))).alloc (.cells cs 56) → WidInv w W p T c 0 := by
    rintro W rfl
    obtain ⟨t1, _, o1, _⟩ := two_heap htab (.slice (some ⟨w.heap.size, 0, none⟩) (2 * T.n) (2 * T.n))
    have hz1 : (w.setCell ⟨p, 0, none⟩ (.slice (some ⟨w.heap.size, 0, none⟩) (2 * T.n) (2 * T.n))).heap.size = w.heap.size := by simp [World.setCell]
    have k1 := heap_alloc_new (w.setCell ⟨p, 0, none⟩ (.slice (some ⟨w.heap.size, 0, none⟩) (2 * T.n) (2 * T.n))) (.cells cs 56)
    rw [hz1] at k1
    exact ⟨⟨(((Only.refl [] _).alloc (.cells cs 56)).block p (by omega) (by simp)).trans t1, rowT_new (m := 2 * T.n) k1 hsz hcs⟩, o1.alloc _⟩
  have HIN := Lib.hid hin
  clear h gd hkeys hsz hcs htab hin
  go_enter Try.func32, Try.ntmps32
  go_wp2_with fail
  have HI0 := Lib.hid (HIN.out _ rfl)
  generalize (w.setCell ⟨p, 0, none⟩ (.slice (some ⟨w.heap.size, 0, none⟩) (2 * T.n) (2 * T.n))).alloc (.cells cs 56) = W at HI0 ⊢
  clear c0 z0 hmk HIN
  go_loopg [20] T.n (fun gg s20 wr => ∃ i : Nat, i + gg = T.n ∧ s20 = .int .i64 (i : Nat) ∧ Hid (WidInv w wr p T c i))
  case atStart => exact ⟨0, by omega, rfl, HI0⟩
  case round =>
    obtain ⟨i, hi, rfl, HI⟩ := hrel
    by_cases hlt : i < T.n
    · have hltI : (i : Int) < (T.n : Int) := by omega
      obtain ⟨q0, q1, q2⟩ := (HROW.out.only HI.out.only (by simpa using hne.symm)).sl i hlt
      have hky := HK.out i hlt
      have HG : Hid (T.growUp (i + 1) = if (T.sl i).full then (T.growUp i).lay (T.sl i) else T.growUp i) := Lib.hid rfl
      obtain ⟨s, hs⟩ : ∃ s, T.sl i = s := ⟨_, rfl⟩
      rw [hs] at q0 q1 q2 hky HG
      obtain ⟨sk, sn, sf⟩ := s
      simp only at q0 q1 q2 hky HG
      clear hs
      cases sf
      · go_wp2
        go_roundg (gk - 1)
        case measure => omega
        case rel => exact ⟨i + 1, by omega, by go_num, Lib.hid ⟨by rw [HG.out]; exact HI.out.ix.only ((Only.refl [] _).alloc _) (by simp) (by simp), HI.out.only.alloc _⟩⟩
      · obtain ⟨gok, gn, gsz⟩ := HLOOK.out i (by omega)
        have hl := look_walk (HI.out.ix.below ((Below.refl _ _).alloc (Nat.le_refl _) (.cells #[.int .u64 (sk : Nat), .int .i32 sn, .bool true] 56))) gok gsz sk hky
        have hlk := gok.look_lt sk
        have HLK := Lib.hid hl
        rw [gn] at hlk
        have HG2 : Hid (T.growUp (i + 1) = ⟨(T.growUp i).n, fun j => if j = (T.growUp i).look sk then ⟨sk, sn, true⟩ else (T.growUp i).sl j⟩) := Lib.hid HG.out
        clear hl gok gn gsz HG
        generalize (T.growUp i).look sk = lk at HLK hlk HG2 ⊢
        generalize (T.growUp i).there sk = th at HLK ⊢
        go_wp2_with fail
        refine HLK.out.mono ?_
        rintro e w2 ⟨rfl, hb⟩
        have hbr : Below wr.heap.size wr w2 := ((Below.refl _ _).alloc (Nat.le_refl _) _).trans (hb.mono (by simp))
        have hblk := heap_alloc_new wr (.cells #[.int .u64 (sk : Nat), .int .i32 sn, .bool true] 56)
        have hsb := head_row ((hb.block wr.heap.size (by simp)).trans hblk)
        have s0 : w2.cell? ⟨wr.heap.size, 0, none⟩ = some (.int .u64 (sk : Nat)) := hsb.cell (i := 0) (by simp)
        have s1 : w2.cell? ⟨wr.heap.size, 1, none⟩ = some (.int .i32 sn) := hsb.cell (i := 1) (by simp)
        have s2 : w2.cell? ⟨wr.heap.size, 2, none⟩ = some (.bool true) := hsb.cell (i := 2) (by simp)
        have hx2 := HI.out.ix.below hbr
        obtain ⟨p0, _⟩ := hx2.cells
        obtain ⟨N, hN⟩ : ∃ N, (T.growUp i).n = N := ⟨_, rfl⟩
        have hlkN : lk < N := by rw [← hN, Tb.growUp_n]; exact hlk
        rw [hN] at p0
        have HXD := Lib.hid (hx2.only (Only.refl [] w2).drew (by simp) (by simp))
        have HNN := Lib.hid hN
        have HO2 : Hid (Only [p] w w2.drew) := Lib.hid (HI.out.only.trans (Only.of_below (S := []) hbr) (by simp)).drew
        clear hb hbr hblk hsb hx2 HLK q0 q1 q2 hky hlk hltI hnI hN
        go_wp2_with fail
        generalize wr.heap.size = B at s0 s1 s2 ⊢
        refine wp_region_still_tail 7 (by kernel_rfl) (by kernel_rfl) ?_
        simp only [List.take_succ_cons, List.take_zero, List.drop_succ_cons, List.drop_zero]
        have s0 : w2.drew.cell? ⟨B, 0, none⟩ = some (.int .u64 (sk : Nat)) := s0
        have s1 : w2.drew.cell? ⟨B, 1, none⟩ = some (.int .i32 sn) := s1
        have s2 : w2.drew.cell? ⟨B, 2, none⟩ = some (.bool true) := s2
        have p0 : w2.drew.cell? ⟨p, 0, none⟩ = some (.slice (some ⟨w.heap.size, 0, none⟩) N N) := p0
        change wpStill _ _ w2.drew (fun a' => wpList _ _ _ _ a' w2.drew) _ _
        generalize w2.drew = w3 at HXD HO2 s0 s1 s2 p0 ⊢
        still_step -- 1
        still_step -- 2
        still_step -- 3
        still_step -- 4
        still_step -- 5
        still_step -- 6
        refine wpStill_index rfl 57 (.tmp 36) (.tmp 37) rfl ⟨w.heap.size, 0, none⟩ N N lk 3 .i64 (by simp [go_sem]) (by simp [go_sem]) rfl rfl hlkN ?_
        simp only [Act.put, List.setIfInBounds_toArray, List.set_cons_succ, List.set_cons_zero, Addr.add_lit, Nat.zero_add]
        refine wpStill_nil ?_
        clear p0 s0 s1 s2
        obtain ⟨r0, r1, r2⟩ := HXD.out.row.sl lk (by rw [HNN.out]; exact hlkN)
        obtain ⟨f0, f1, f2⟩ := HXD.out.row.free lk (by rw [HNN.out]; exact hlkN)
        obtain ⟨hp1, hp2⟩ := HXD.out.put lk ⟨sk, sn, true⟩
        have HN : Hid (∀ V, V = (((w3.setCell ⟨w.heap.size, lk * 3, none⟩ (.int .u64 (sk : Nat))).setCell ⟨w.heap.size, lk * 3 + 1, none⟩ (.int .i32 sn)).setCell ⟨w.heap.size, lk * 3 + 2, none⟩ (.bool true)) → WidInv w V p T c (i + 1)) := Lib.hid (by
          rintro V rfl
          exact ⟨by rw [HG2.out]; exact hp1, HO2.out.trans hp2 (by simp)⟩)
        clear hp1 hp2
        go_wp2
        go_roundg (gk - 1)
        case measure => omega
        case rel => exact ⟨i + 1, by omega, by go_num, Lib.hid (HN.out _ rfl)⟩
    · obtain rfl : i = T.n := by omega
      have hge : ¬ (T.n : Int) < (T.n : Int) := by omega
      go_wp2
      exact bodyPost_end (results_none rfl _ _ _) rfl ⟨rfl, HI.out.ix, HI.out.only⟩
end Go.Proofs.Ytdolljjfikfhpaa
