/- The document's own arena: Set. -/
import Derived.Test.YtlmcodmglcmmoaaRefW
import Derived.Deep.DeepCutAuto
namespace Go.Proofs.Ytlmcodmglcmmoaa
open Go Go.RowKit Go.Deep

theorem three_blocks {w w1 : World} {c d f : Array Value} {t u s : TypeId} (hb : Below (((w.alloc (.cells c t)).alloc (.cells d u)).alloc (.cells f s)).heap.size (((w.alloc (.cells c t)).alloc (.cells d u)).alloc (.cells f s)) w1) :
    Below w.heap.size w w1 ∧ w.heap.size + 2 < w1.heap.size ∧ w1.heap[w.heap.size]? = some (.cells c t (0, 0)) ∧ w1.heap[w.heap.size + 1]? = some (.cells d u (0, 0)) ∧ w1.heap[w.heap.size + 2]? = some (.cells f s (0, 0)) := by
  have hs := hb.size
  simp at hs
  refine ⟨((((Below.refl _ _).alloc (Nat.le_refl _) _).alloc (by simp) _).alloc (by simp; omega) _).trans (hb.mono (by simp; omega)), by omega, ?_, ?_, ?_⟩
  · rw [hb.block w.heap.size (by simp; omega), Below.heap_alloc _ _ _ (by simp; omega), Below.heap_alloc _ _ _ (by simp)]
    exact heap_alloc_new w _
  · rw [hb.block (w.heap.size + 1) (by simp), Below.heap_alloc _ _ _ (by simp)]
    have := heap_alloc_new (w.alloc (.cells c t)) (.cells d u)
    simpa using this
  · rw [hb.block (w.heap.size + 2) (by simp)]
    have := heap_alloc_new ((w.alloc (.cells c t)).alloc (.cells d u)) (.cells f s)
    simpa using this

abbrev ndCells (x : Nd) : Array Value := #[.int .u64 x.key, .int .u64 x.val, .int .i64 x.flag, .int .i64 x.tag, .int .i32 x.prev, .int .i32 x.next]

theorem rset_false {w : World} {v : Value} {st : St} {K : List Nat} (h : Ref w v st K) (ho : st.Ok) (hn : st.n ≤ 1000000) (i : Int) (h32 : i ≤ 2147483647) (x : Nd) (hi : st.is i = false) :
    Calls Try.prog 32 #[v, .int .i32 i, x.v] w (RefNext w K st (fun v' => .tuple #[v', .bool false])) := by
  have HRef := Lib.hid h
  obtain ⟨h0, Fo, fc, nb, nc, nd, rfl, h1, h2, h3⟩ := h
  have hr : ∀ w', Below w.heap.size w w' → Ref w' (refV st.n st.used Fo st.freed.length fc nb (st.used + 1) nc) st K := fun w' hb => Ref.below ⟨h0, Fo, fc, nb, nc, nd, rfl, h1, h2, h3⟩ hb
  have HR : Hid (∀ w', Below w.heap.size w w' → Calls Try.prog 52 #[refV st.n st.used Fo st.freed.length fc nb (st.used + 1) nc, .int .i32 i] w' fun e w'' => e = .returned (.bool false) ∧ Below w'.heap.size w' w'') :=
    Lib.hid (fun w' hb => by have := ris_walk (hr w' hb) ho hn i h32; rw [hi] at this; exact this)
  clear h0 h1 h2 h3 hr hi
  go_enter Try.func32, Try.ntmps32
  go_wp2_with fail
  refine (HR.out _ ((((Below.refl _ _).alloc (Nat.le_refl _) _).alloc (by simp) _).alloc (by simp; omega) _)).mono ?_
  rintro e w1 ⟨rfl, hb⟩
  obtain ⟨hb1, hs1, hB0, hB1, hB2⟩ := three_blocks hb
  obtain ⟨c0, c1, c2, c3⟩ := four_cells hB0
  obtain ⟨x0, x1, x2, x3⟩ := four_cells hB2
  obtain ⟨z0, z1, z2, z3⟩ := four_free hB2
  have HB := Lib.hid hb1
  have H4 := Lib.hid (four_set hB2 (.int .i64 st.n) (.int .i64 st.used) (.slice Fo st.freed.length fc) (.slice (some ⟨nb, 0, none⟩) (st.used + 1) nc))
  clear hb hb1 hB0 hB1 hB2
  go_wp2
  have h4 := H4.out
  generalize ((((w1.setCell ⟨w.heap.size + 2, 0, none⟩ (.int .i64 st.n)).setCell ⟨w.heap.size + 2, 1, none⟩ (.int .i64 st.used)).setCell ⟨w.heap.size + 2, 2, none⟩ (.slice Fo st.freed.length fc)).setCell ⟨w.heap.size + 2, 3, none⟩ (.slice (some ⟨nb, 0, none⟩) (st.used + 1) nc)) = W at h4 ⊢
  clear x0 x1 x2 x3 z0 z1 z2 z3
  obtain ⟨y0, y1, y2, y3⟩ := four_cells h4.1
  have hbW := below_only HB.out h4.2 (by omega)
  exact bodyPost_ret (v := .tuple #[refV st.n st.used Fo st.freed.length fc nb (st.used + 1) nc, .bool false]) (by simp [results, Try.results32, go_sem, y0, y1, y2, y3]) rfl ⟨_, K, rfl, hbW, HRef.out.below hbW, fun k hk => .inl hk⟩

theorem NodesAt.src {w : World} {nb m nc : Nat} {nd : Nat → Nd} {K : List Nat} (h : NodesAt w nb m nc nd K) :
    (some (⟨nb, 0, none⟩ : Addr) = none ∧ m = 0 ∧ nc = 0 ∧ (List.range (m * 6)).map (nodeV nd) = []) ∨ ∃ ad, some (⟨nb, 0, none⟩ : Addr) = some ad ∧ ((List.range (m * 6)).map (nodeV nd)).length = m * 6 ∧ ∀ j u, ((List.range (m * 6)).map (nodeV nd))[j]? = some u → w.cell? (ad.add j) = some u := by
  refine .inr ⟨_, rfl, by simp, fun j u hu => ?_⟩
  rw [List.getElem?_map] at hu
  rcases Nat.lt_or_ge j (m * 6) with hj | hj
  · rw [List.getElem?_range hj] at hu
    simp only [Option.map_some, Option.some.injEq] at hu
    subst hu
    have := h.cells j hj
    simpa [Addr.add_lit] using this
  · rw [List.getElem?_eq_none (by simpa using hj)] at hu; cases hu
theorem oneCell_node (nd : Nat → Nd) (p : Nat) : (nodeV nd p).oneCell' = true := by
  unfold nodeV
  generalize p % 6 = j
  unfold refNode
  split <;> rfl

/- A row of nodes of the call's own, one of them laid anew. -/
theorem split6 (p i : Nat) : p / 6 ≠ i ∨ p = i * 6 ∨ p = i * 6 + 1 ∨ p = i * 6 + 2 ∨ p = i * 6 + 3 ∨ p = i * 6 + 4 ∨ p = i * 6 + 5 := by omega
def NodeRow (w : World) (g m : Nat) (nd : Nat → Nd) : Prop := ∃ (N : Nat) (F : Nat → Value), w.rowIs g 64 N F ∧ m * 6 ≤ N ∧ ∀ p, p < m * 6 → F p = nodeV nd p
theorem nodeRow_put {w : World} {g m : Nat} {nd : Nat → Nd} (h : NodeRow w g m nd) (i : Nat) (x : Nd) :
    NodeRow ((((((w.setCell ⟨g, i * 6, none⟩ (.int .u64 x.key)).setCell ⟨g, i * 6 + 1, none⟩ (.int .u64 x.val)).setCell ⟨g, i * 6 + 2, none⟩ (.int .i64 x.flag)).setCell ⟨g, i * 6 + 3, none⟩ (.int .i64 x.tag)).setCell ⟨g, i * 6 + 4, none⟩ (.int .i32 x.prev)).setCell ⟨g, i * 6 + 5, none⟩ (.int .i32 x.next)) g m (upd nd i x) ∧
    Only [g] w ((((((w.setCell ⟨g, i * 6, none⟩ (.int .u64 x.key)).setCell ⟨g, i * 6 + 1, none⟩ (.int .u64 x.val)).setCell ⟨g, i * 6 + 2, none⟩ (.int .i64 x.flag)).setCell ⟨g, i * 6 + 3, none⟩ (.int .i64 x.tag)).setCell ⟨g, i * 6 + 4, none⟩ (.int .i32 x.prev)).setCell ⟨g, i * 6 + 5, none⟩ (.int .i32 x.next)) := by
  obtain ⟨N, F, hF, hN, hv⟩ := h
  refine ⟨⟨N, _, ((((((hF.set _ _).set _ _).set _ _).set _ _).set _ _).set _ _), hN, fun p hp => ?_⟩, (((((((Only.refl [g] w).setCell (by simp) _).setCell (by simp) _).setCell (by simp) _).setCell (by simp) _).setCell (by simp) _).setCell (by simp) _)⟩
  have key : ∀ j, j < 6 → nodeV (upd nd i x) (i * 6 + j) = refNode x j := fun j hj => by rw [nodeV_at _ _ _ hj, upd_same]
  rcases split6 p i with h1 | rfl | rfl | rfl | rfl | rfl | rfl
  · have e : nodeV (upd nd i x) p = nodeV nd p := by unfold nodeV; rw [upd_other _ _ _ h1]
    rw [e, ← hv p hp]
    rw [if_neg (by omega), if_neg (by omega), if_neg (by omega), if_neg (by omega), if_neg (by omega), if_neg (by omega)]
  · rw [show i * 6 = i * 6 + 0 from rfl, key 0 (by decide)]; simp [refNode]
  · rw [key 1 (by decide)]; simp [refNode]
  · rw [key 2 (by decide)]; simp [refNode]
  · rw [key 3 (by decide)]; simp [refNode]
  · rw [key 4 (by decide)]; simp [refNode]
  · rw [key 5 (by decide)]; simp [refNode]
theorem nodeRow_own {w : World} {B m cap g : Nat} {nd : Nat → Nd} {l : List Value} (h : w.ownsRow B 64 6 (.slice (some ⟨g, 0, none⟩) m cap) m l) (hl : ∀ p, p < m * 6 → l[p]? = some (nodeV nd p)) : NodeRow w g m nd := by
  rcases h.2 with ⟨e, _⟩ | ⟨g', cap', cur, e, _, hb, hle, _, hsz, htk⟩
  · cases e
  · injection e with e1 _ e3
    injection e1 with e1
    injection e1 with e1
    subst e1 e3
    refine ⟨_, _, head_row hb, by rw [hsz]; exact Nat.mul_le_mul_right 6 hle, fun p hp => ?_⟩
    have h1 := hl p hp
    rw [← htk, List.getElem?_take, if_pos hp, Array.getElem?_toList] at h1
    simp [Array.getD_eq_getD_getElem?, h1]
theorem NodeRow.only {S : List Nat} {w w' : World} {g m : Nat} {nd : Nat → Nd} (h : NodeRow w g m nd) (ho : Only S w w') (hg : g ∉ S) : NodeRow w' g m nd := by
  obtain ⟨N, F, hF, hN, hv⟩ := h
  exact ⟨N, F, ho.row hF hg, hN, hv⟩
theorem NodeRow.cell {w : World} {g m : Nat} {nd : Nat → Nd} (h : NodeRow w g m nd) (p : Nat) (hp : p < m * 6) : w.cell? ⟨g, p, none⟩ = some (nodeV nd p) ∧ w.frozen? ⟨g, p, none⟩ = false := by
  obtain ⟨N, F, hF, hN, hv⟩ := h
  rw [← hv p hp]
  exact ⟨hF.cell (by omega), hF.frozen p⟩
theorem NodeRow.lt {w : World} {g m : Nat} {nd : Nat → Nd} (h : NodeRow w g m nd) : g < w.heap.size := by obtain ⟨N, F, hF, _⟩ := h; exact hF.lt

theorem set_ref {w W : World} {st : St} {i : Nat} {x : Nd} {K : List Nat} {Fo : Option Addr} {fc g cap : Nat} {nd : Nat → Nd} (h0 : ∀ k ∈ K, k < w.heap.size) (hF : FreedAt w Fo st.freed fc K) (h3 : ∀ j, st.tk j = true → nd j = st.node j)
    (hb : Below w.heap.size w W) (hcap : st.used + 1 ≤ cap) (hrow : NodeRow W g (st.used + 1) (upd nd i x)) :
    Ref W (refV st.n st.used Fo st.freed.length fc g (st.used + 1) cap) (st.set i x) (g :: K) := by
  refine ⟨fun k hk => ?_, Fo, fc, g, cap, upd nd i x, rfl, ?_, ⟨hcap, by simp, fun p hp => (hrow.cell p hp).1⟩, fun j hj => ?_⟩
  · rcases List.mem_cons.1 hk with rfl | hk
    · exact hrow.lt
    · exact Nat.lt_of_lt_of_le (h0 k hk) hb.size
  · have := hF.kept (kept_below h0 hb)
    exact ⟨this.cap, this.mem.imp id fun ⟨fb, e, hm, hc⟩ => ⟨fb, e, by simp [hm], hc⟩⟩
  · show upd nd i x j = upd st.node i x j
    unfold upd
    split
    · rfl
    · exact h3 j hj

theorem rset_true {w : World} {v : Value} {st : St} {K : List Nat} (h : Ref w v st K) (ho : st.Ok) (hn : st.n ≤ 1000000) (i : Nat) (x : Nd) (hi : st.tk i = true) :
    Calls Try.prog 32 #[v, .int .i32 i, x.v] w (RefNext w K (st.set i x) (fun v' => .tuple #[v', .bool true])) := by
  obtain ⟨h0, Fo, fc, nb, nc, nd, rfl, h1, h2, h3⟩ := h
  have hr : ∀ w', Below w.heap.size w w' → Ref w' (refV st.n st.used Fo st.freed.length fc nb (st.used + 1) nc) st K := fun w' hb => Ref.below ⟨h0, Fo, fc, nb, nc, nd, rfl, h1, h2, h3⟩ hb
  obtain ⟨hp1, hp2, _⟩ := tk_bounds hi
  have hu := ho.room
  have his : st.is i = true := by unfold St.is; rw [decide_eq_true (by omega : (0 : Int) < i)]; simpa using hi
  have HR : Hid (∀ w', Below w.heap.size w w' → Calls Try.prog 52 #[refV st.n st.used Fo st.freed.length fc nb (st.used + 1) nc, .int .i32 i] w' fun e w'' => e = .returned (.bool true) ∧ Below w'.heap.size w' w'') :=
    Lib.hid (fun w' hb => by have := ris_walk (hr w' hb) ho hn i (by omega); rw [his] at this; exact this)
  have HF := Lib.hid h1
  have HN := Lib.hid h2
  have H0 := Lib.hid h0
  have H3 := Lib.hid h3
  clear h0 h1 h2 h3 hr his hi
  go_enter Try.func32, Try.ntmps32
  go_wp2_with fail
  refine (HR.out _ ((((Below.refl _ _).alloc (Nat.le_refl _) _).alloc (by simp) _).alloc (by simp; omega) _)).mono ?_
  rintro e w1 ⟨rfl, hb⟩
  obtain ⟨hb1, hs1, hB0, hB1, hB2⟩ := three_blocks hb
  obtain ⟨c0, c1, c2, c3⟩ := four_cells hB0
  have HB := Lib.hid hb1
  have hs0 : w.heap.size < w1.heap.size := by omega
  have hal := (Below.refl w1.heap.size w1).alloc (Nat.le_refl _) (.cells #[] 64)
  have HS := Lib.hid ((HN.out.kept (kept_below H0.out (hb1.trans (hal.mono hb1.size)))).src)
  have hown := World.ownsRow_lit (base := w1.heap.size) (e := 64) (size := 6) w1 #[] 0 (Nat.le_refl _) (by unfold maxLen; omega) rfl
  have HO := Lib.hid hown
  have HAL := Lib.hid hal
  have h0s : Hid (∀ u ∈ (List.range ((st.used + 1) * 6)).map (nodeV nd), u.oneCell' = true) := Lib.hid (by simp; exact fun _ _ => oneCell_node _ _)
  clear hb hb1 hal hown
  go_wp2_with (at_builtin; refine wpList_append_src rfl (.tmp 14) (.tmp 16) 27 rfl w1.heap.size 64 (.agg #[.int .u64 0, .int .u64 0, .int .i64 0, .int .i64 0, .int .i32 0, .int .i32 0]) 6 40 (by kernel_rfl) (by kernel_rfl) rfl (by decide) _ 0 _ rfl HO.out (some ⟨nb, 0, none⟩) (st.used + 1) nc ((List.range ((st.used + 1) * 6)).map (nodeV nd)) rfl HS.out h0s.out (by omega) (by omega) (by simp) ?_)
  intro v2 w2 hown2 hgrow2
  have hbl2 := below_grown HAL.out HO.out hgrow2 (by simp)
  have hs2 := hbl2.size
  obtain ⟨g, cap, rfl, hg1, hg2⟩ := hown2.form (by omega)
  have hcap : st.used + 1 ≤ cap := by
    rcases hown2.2 with ⟨e, _⟩ | ⟨g', cap', cur, e, _, _, hle, _⟩
    · cases e
    · injection e with _ _ e3
      omega
  have hrow := nodeRow_own (nd := nd) hown2 (fun p hp => by rw [List.getElem?_map, List.getElem?_range hp]; rfl)
  have k0 : w2.heap[w.heap.size]? = _ := (hbl2.block w.heap.size hs0).trans hB0
  have k1 : w2.heap[w.heap.size + 1]? = _ := (hbl2.block (w.heap.size + 1) (by omega)).trans hB1
  have k2 : w2.heap[w.heap.size + 2]? = _ := (hbl2.block (w.heap.size + 2) hs1).trans hB2
  have HW := Lib.hid (nodeRow_put hrow i x)
  have HBL2 := Lib.hid hbl2
  obtain ⟨q0, p0⟩ := hrow.cell (i * 6) (by omega)
  obtain ⟨q1, p1⟩ := hrow.cell (i * 6 + 1) (by omega)
  obtain ⟨q2, p2⟩ := hrow.cell (i * 6 + 2) (by omega)
  obtain ⟨q3, p3⟩ := hrow.cell (i * 6 + 3) (by omega)
  obtain ⟨q4, p4⟩ := hrow.cell (i * 6 + 4) (by omega)
  obtain ⟨q5, p5⟩ := hrow.cell (i * 6 + 5) (by omega)
  have b0 : w2.cell? ⟨w.heap.size + 1, 0, none⟩ = some (.int .u64 x.key) := (head_row k1).cell (i := 0) (by simp)
  have b1 : w2.cell? ⟨w.heap.size + 1, 1, none⟩ = some (.int .u64 x.val) := (head_row k1).cell (i := 1) (by simp)
  have b2 : w2.cell? ⟨w.heap.size + 1, 2, none⟩ = some (.int .i64 x.flag) := (head_row k1).cell (i := 2) (by simp)
  have b3 : w2.cell? ⟨w.heap.size + 1, 3, none⟩ = some (.int .i64 x.tag) := (head_row k1).cell (i := 3) (by simp)
  have b4 : w2.cell? ⟨w.heap.size + 1, 4, none⟩ = some (.int .i32 x.prev) := (head_row k1).cell (i := 4) (by simp)
  have b5 : w2.cell? ⟨w.heap.size + 1, 5, none⟩ = some (.int .i32 x.next) := (head_row k1).cell (i := 5) (by simp)
  have HK0 := Lib.hid k0
  have HK2 := Lib.hid k2
  clear hown2 hgrow2 hbl2 HS HO HAL hrow k0 k1 k2 hB0 hB1 hB2 c0 c1 c2 c3
  go_upto_region 4 with fail
  go_cut [8] (fun s8 wx => s8 = Value.slice (some ⟨g, 0, none⟩) (st.used + 1) cap ∧ (NodeRow wx g (st.used + 1) (upd nd i x) ∧ Only [g] w2 wx))
  case first =>
    go_wp2
    go_meet
    exact ⟨rfl, HW.out⟩
  case rest =>
    obtain ⟨rfl, hrow, honly⟩ := hcut
    clear q0 q1 q2 q3 q4 q5 p0 p1 p2 p3 p4 p5 b0 b1 b2 b3 b4 b5
    have k0 : wc.heap[w.heap.size]? = _ := (honly.block w.heap.size (by omega) (by simp; omega)).trans HK0.out
    have k2 : wc.heap[w.heap.size + 2]? = _ := (honly.block (w.heap.size + 2) (by omega) (by simp; omega)).trans HK2.out
    have hsc := honly.size
    obtain ⟨c0, c1, c2, c3⟩ := four_cells k0
    obtain ⟨f0, f1, f2, f3⟩ := four_free k0
    obtain ⟨x0, x1, x2, x3⟩ := four_cells k2
    obtain ⟨z0, z1, z2, z3⟩ := four_free k2
    have H5 := Lib.hid (five_set (g := w.heap.size) (j := 3) k2 (by omega) (.slice (some ⟨g, 0, none⟩) (st.used + 1) cap) (.int .i64 st.n) (.int .i64 st.used) (.slice Fo st.freed.length fc) (.slice (some ⟨g, 0, none⟩) (st.used + 1) cap))
    have HRW := Lib.hid hrow
    have HON := Lib.hid honly
    have hlt3 : w.heap.size + 2 < wc.heap.size := by omega
    clear hrow honly k0 k2
    go_wp2
    have h5 := H5.out
    generalize (((((wc.setCell ⟨w.heap.size, 3, none⟩ (.slice (some ⟨g, 0, none⟩) (st.used + 1) cap)).setCell ⟨w.heap.size + 2, 0, none⟩ (.int .i64 st.n)).setCell ⟨w.heap.size + 2, 1, none⟩ (.int .i64 st.used)).setCell ⟨w.heap.size + 2, 2, none⟩ (.slice Fo st.freed.length fc)).setCell ⟨w.heap.size + 2, 3, none⟩ (.slice (some ⟨g, 0, none⟩) (st.used + 1) cap)) = W at h5 ⊢
    clear x0 x1 x2 x3 z0 z1 z2 z3 c0 c1 c2 c3 f0 f1 f2 f3
    obtain ⟨y0, y1, y2, y3⟩ := four_cells h5.1
    have hb2 : Below w.heap.size w w2 := HB.out.trans (HBL2.out.mono (by omega))
    have hbc : Below w.heap.size w wc := hb2.trans (HON.out.below (by simp; omega) (by omega))
    have hbW : Below w.heap.size w W := hbc.trans (h5.2.below (by simp) (by omega))
    refine bodyPost_ret (v := .tuple #[refV st.n st.used Fo st.freed.length fc g (st.used + 1) cap, .bool true]) (by simp [results, Try.results32, go_sem, y0, y1, y2, y3]) rfl ⟨_, g :: K, rfl, hbW, ?_, fun k hk => ?_⟩
    · exact set_ref H0.out HF.out H3.out hbW hcap (HRW.out.only h5.2 (by simp; omega))
    · rcases List.mem_cons.1 hk with rfl | hk
      · exact .inr (by omega)
      · exact .inl hk

theorem rset_walk {w : World} {v : Value} {st : St} {K : List Nat} (h : Ref w v st K) (ho : st.Ok) (hn : st.n ≤ 1000000) (i : Int) (h32 : i ≤ 2147483647) (x : Nd) :
    Calls Try.prog 32 #[v, .int .i32 i, x.v] w (RefNext w K (st.setI i x) (fun v' => .tuple #[v', .bool (st.is i)])) := by
  cases hi : st.is i
  · have e : st.setI i x = st := by unfold St.setI; rw [hi]; rfl
    rw [e]
    exact rset_false h ho hn i h32 x hi
  · obtain ⟨k, rfl, h1, h2, h3⟩ := St.is_nat ho hi
    have e : st.setI k x = st.set k x := by unfold St.setI; rw [hi]; rfl
    rw [e]
    exact rset_true h ho hn k x h3
end Go.Proofs.Ytlmcodmglcmmoaa
