/- The document's own lists: Push. -/
import Derived.Test.YtlmcodmglcmmoaaRlR
import Derived.Deep.AppendLies
import Derived.Deep.RegionHeld3
namespace Go.Proofs.Ytlmcodmglcmmoaa
open Go Go.RowKit Go.Deep

/- append at a step of a region that draws, whatever its source is. -/
theorem step_append_src {P : Program} {w : World} {ops : Array Oper} {o : Oper} {a : Act} {K : Act → World → Prop} {Q : Exit → Act → World → Prop} {E : Prop} (hgd : o.guard = none) (s x : Operand) (t : TypeId)
    (ho : o.op = .call { callee := .builtin .append, args := #[s, x], argTypes := #[t, t] }) (base : Nat) (e : TypeId) (z : Value) (size bytes : Nat) (ht : P.underlying t = some (.slice e))
    (hinfo : (P.info? e).map (fun i => (i.zero, i.size, i.bytes)) = some (some z, size, bytes)) (hzs : z.cells.size = size) (hsz : 0 < size)
    (v : Value) (n : Nat) (xs : List Value) (hs : a.eval s = v) (hown : w.ownsRow base e size v n xs) (A : Option Addr) (m c : Nat) (news : List Value) (hx : a.eval x = .slice A m c)
    (hsrc : (A = none ∧ m = 0 ∧ c = 0 ∧ news = []) ∨ ∃ ad, A = some ad ∧ news.length = m * size ∧ ∀ j u, news[j]? = some u → w.cell? (ad.add j) = some u) (h1 : ∀ u ∈ news, u.oneCell' = true)
    (hbound : (n + m) * bytes ≤ 140737488355328) (h63 : n + m ≤ 1000000000) (hbase : base ≤ w.heap.size)
    (h : ∀ v' w', w'.ownsRow base e size v' (n + m) (xs ++ news) → w.grownBy w' v.ownBlock → K (a.put o.dst v') w') : if Region.wanted o (yielded ops a.tmps) = true then Oper.wp P o a w K Q else E := by
  have hw : Region.wanted o (yielded ops a.tmps) = true := by simp [Region.wanted, hgd]
  rw [if_pos hw]
  obtain ⟨i, hi, hz, hsize, hby⟩ := info_parts hinfo
  rcases hsrc with ⟨rfl, rfl, rfl, rfl⟩ | ⟨ad, rfl, hl, hc⟩
  · have hrun := run_append_owned_none (P := P) (w := w) base t o.type e i size ht hi v n xs hown
    unfold Oper.wp
    simp [execOp, ho, resolve, invoke, builtin, hs, hx, hrun, Result.andThen]
    exact h v w (by simpa using hown) (World.grownBy.refl w _)
  · exact wp_append_own w s x t ho base e i z size bytes ht hi hz hsize hby hzs hsz v n xs hs hown ad m c news hx hl hc h1 (by unfold maxLen; omega) hbound hbase fun v' w' h2 h3 _ => h v' w' h2 h3

section
variable {w : World} {v : Value} {n : Nat} {l : Nat → List Nat} {st : St} {K : List Nat}
theorem RefL.ref {Fo : Option Addr} {fc nb nc o oc : Nat} (h : RefL w (refLs st.n st.used Fo st.freed.length fc nb (st.used + 1) nc (some ⟨o, 0, none⟩) n oc) n l st K) : Ref w (refV st.n st.used Fo st.freed.length fc nb (st.used + 1) nc) st K ∧ RowsAt w o n l K ∧ n ≤ oc := by
  obtain ⟨Fo', fc', nb', nc', o', oc', e, g1, g2, g3⟩ := h
  simp only [refLs, Value.agg.injEq, Array.mk.injEq, List.cons.injEq, Value.slice.injEq, Option.some.injEq, Addr.mk.injEq, and_true, true_and] at e
  obtain ⟨⟨rfl, rfl⟩, ⟨rfl, rfl⟩, rfl, rfl⟩ := e
  exact ⟨g2, g3, g1⟩

theorem rlpush_tag (h : RefL w v n l st K) (tag i : Int) (fr : Bool) (hno : hasT n tag = false) :
    Calls Try.prog 35 #[v, .int .i64 tag, .int .i32 i, .bool fr] w (RlNext w K n l st (fun v' => .tuple #[v', .bool false])) := by
  have HRL := Lib.hid h
  obtain ⟨Fo, fc, nb, nc, o, oc, rfl, _⟩ := h
  obtain ⟨w1, hw1⟩ : ∃ w1, (w.alloc (.cells #[.int .i64 st.n, .int .i64 st.used, .slice Fo st.freed.length fc, .slice (some ⟨nb, 0, none⟩) (st.used + 1) nc, .slice (some ⟨o, 0, none⟩) n oc] 32)).alloc (.cells #[.int .i64 st.n, .int .i64 st.used, .slice Fo st.freed.length fc, .slice (some ⟨nb, 0, none⟩) (st.used + 1) nc, .slice (some ⟨o, 0, none⟩) n oc] 32) = w1 := ⟨_, rfl⟩
  have hbW : Below w.heap.size w w1 := by rw [← hw1]; exact ((Below.refl _ _).alloc (Nat.le_refl _) _).alloc (by simp) _
  have HW := Lib.hid hw1
  have HBW := Lib.hid hbW
  clear hw1 hbW
  unfold hasT at hno
  by_cases h0 : 0 ≤ tag
  · have h1 : ¬ tag < (n : Int) := by
      intro h
      rw [decide_eq_true h0, decide_eq_true h] at hno
      cases hno
    clear hno
    go_enter Try.func35, Try.ntmps35
    go_wp2
    exact bodyPost_ret (v := .tuple #[refLs st.n st.used Fo st.freed.length fc nb (st.used + 1) nc (some ⟨o, 0, none⟩) n oc, .bool false]) (by simp [results, Try.results35, go_sem]) rfl ⟨_, K, rfl, by rw [HW.out]; exact HBW.out, by rw [HW.out]; exact HRL.out.below HBW.out, fun k hk => .inl hk⟩
  · clear hno
    go_enter Try.func35, Try.ntmps35
    go_wp2
    exact bodyPost_ret (v := .tuple #[refLs st.n st.used Fo st.freed.length fc nb (st.used + 1) nc (some ⟨o, 0, none⟩) n oc, .bool false]) (by simp [results, Try.results35, go_sem]) rfl ⟨_, K, rfl, by rw [HW.out]; exact HBW.out, by rw [HW.out]; exact HRL.out.below HBW.out, fun k hk => .inl hk⟩

theorem rlpush_is (h : RefL w v n l st K) (ho : st.Ok) (hn : st.n ≤ 1000000) (tag i : Int) (h32 : i ≤ 2147483647) (fr : Bool) (hh : hasT n tag = true) (hno : st.is i = false) :
    Calls Try.prog 35 #[v, .int .i64 tag, .int .i32 i, .bool fr] w (RlNext w K n l st (fun v' => .tuple #[v', .bool false])) := by
  have HRL := Lib.hid h
  obtain ⟨t, rfl, htn⟩ := hasT_nat hh
  have htI : (t : Int) < (n : Int) := by omega
  obtain ⟨Fo, fc, nb, nc, o, oc, rfl, _, href, _⟩ := h
  have his := fun w' hb => ris_walk (href.below (w' := w') hb) ho hn i h32
  rw [hno] at his
  have HIS := Lib.hid his
  clear his href hno hh ho
  go_enter Try.func35, Try.ntmps35
  go_wp2_with fail
  refine (HIS.out _ (((Below.refl _ _).alloc (Nat.le_refl _) _).alloc (by simp) _)).mono ?_
  rintro e w1 ⟨rfl, hb⟩
  obtain ⟨hb1, hs1, hB0, hB1⟩ := two_blocks hb
  clear hb
  obtain ⟨c0, c1, c2, c3, c4⟩ := five_cells hB0
  obtain ⟨x0, x1, x2, x3, x4⟩ := five_cells hB1
  obtain ⟨z0, z1, z2, z3, z4⟩ := five_free hB1
  have HB := Lib.hid hb1
  have H4 := Lib.hid (fiveR_set hB1 (.int .i64 st.n) (.int .i64 st.used) (.slice Fo st.freed.length fc) (.slice (some ⟨nb, 0, none⟩) (st.used + 1) nc) (.slice (some ⟨o, 0, none⟩) n oc))
  clear hb1 hB0 hB1
  go_wp2
  have h4 := H4.out
  generalize (((((w1.setCell ⟨w.heap.size + 1, 0, none⟩ (.int .i64 st.n)).setCell ⟨w.heap.size + 1, 1, none⟩ (.int .i64 st.used)).setCell ⟨w.heap.size + 1, 2, none⟩ (.slice Fo st.freed.length fc)).setCell ⟨w.heap.size + 1, 3, none⟩ (.slice (some ⟨nb, 0, none⟩) (st.used + 1) nc)).setCell ⟨w.heap.size + 1, 4, none⟩ (.slice (some ⟨o, 0, none⟩) n oc)) = W at h4 ⊢
  clear x0 x1 x2 x3 x4 z0 z1 z2 z3 z4
  obtain ⟨y0, y1, y2, y3, y4⟩ := five_cells h4.1
  have hbW := below_only HB.out h4.2 (by omega)
  exact bodyPost_ret (v := .tuple #[refLs st.n st.used Fo st.freed.length fc nb (st.used + 1) nc (some ⟨o, 0, none⟩) n oc, .bool false]) (by simp [results, Try.results35, go_sem, y0, y1, y2, y3, y4]) rfl ⟨_, K, rfl, hbW, HRL.out.below hbW, fun k hk => .inl hk⟩

theorem rlpush_in (h : RefL w v n l st K) (g : Gd n l) (ho : st.Ok) (hn : st.n ≤ 1000000) (tag i : Int) (h32 : i ≤ 2147483647) (fr : Bool) (hh : hasT n tag = true) (hi : st.is i = true) (hno : 0 ≤ tagI n l i) :
    Calls Try.prog 35 #[v, .int .i64 tag, .int .i32 i, .bool fr] w (RlNext w K n l st (fun v' => .tuple #[v', .bool false])) := by
  have HRL := Lib.hid h
  obtain ⟨t, rfl, htn⟩ := hasT_nat hh
  have htI : (t : Int) < (n : Int) := by omega
  have HTG := Lib.hid (fun w' hb => rltag_walk (h.below (w' := w') hb) g i)
  obtain ⟨q, hq⟩ : ∃ q, tagI n l i = q := ⟨_, rfl⟩
  rw [hq] at HTG hno
  obtain ⟨Fo, fc, nb, nc, o, oc, rfl, _, href, _⟩ := h
  have his := fun w' hb => ris_walk (href.below (w' := w') hb) ho hn i h32
  rw [hi] at his
  have HIS := Lib.hid his
  clear his href hi hh ho g hq
  go_enter Try.func35, Try.ntmps35
  go_wp2_with fail
  refine (HIS.out _ (((Below.refl _ _).alloc (Nat.le_refl _) _).alloc (by simp) _)).mono ?_
  rintro e w0 ⟨rfl, hb⟩
  have hbb := hb
  obtain ⟨hb0, hs0, hB00, _⟩ := two_blocks hb
  obtain ⟨c0, c1, c2, c3, c4⟩ := five_cells hB00
  have HB00 := Lib.hid hb0
  have HBB := Lib.hid hbb
  clear hb hb0 hB00 hbb
  go_wp2_with fail
  refine (HTG.out _ HB00.out).mono ?_
  rintro e w1 ⟨rfl, hb⟩
  obtain ⟨hb1, hs1, hB0, hB1⟩ := two_blocks (HBB.out.trans (hb.mono HBB.out.size))
  clear hb c0 c1 c2 c3 c4
  obtain ⟨c0, c1, c2, c3, c4⟩ := five_cells hB0
  obtain ⟨x0, x1, x2, x3, x4⟩ := five_cells hB1
  obtain ⟨z0, z1, z2, z3, z4⟩ := five_free hB1
  have HB := Lib.hid hb1
  have H4 := Lib.hid (fiveR_set hB1 (.int .i64 st.n) (.int .i64 st.used) (.slice Fo st.freed.length fc) (.slice (some ⟨nb, 0, none⟩) (st.used + 1) nc) (.slice (some ⟨o, 0, none⟩) n oc))
  clear hb1 hB0 hB1
  go_wp2
  have h4 := H4.out
  generalize (((((w1.setCell ⟨w.heap.size + 1, 0, none⟩ (.int .i64 st.n)).setCell ⟨w.heap.size + 1, 1, none⟩ (.int .i64 st.used)).setCell ⟨w.heap.size + 1, 2, none⟩ (.slice Fo st.freed.length fc)).setCell ⟨w.heap.size + 1, 3, none⟩ (.slice (some ⟨nb, 0, none⟩) (st.used + 1) nc)).setCell ⟨w.heap.size + 1, 4, none⟩ (.slice (some ⟨o, 0, none⟩) n oc)) = W at h4 ⊢
  clear x0 x1 x2 x3 x4 z0 z1 z2 z3 z4
  obtain ⟨y0, y1, y2, y3, y4⟩ := five_cells h4.1
  have hbW := below_only HB.out h4.2 (by omega)
  exact bodyPost_ret (v := .tuple #[refLs st.n st.used Fo st.freed.length fc nb (st.used + 1) nc (some ⟨o, 0, none⟩) n oc, .bool false]) (by simp [results, Try.results35, go_sem, y0, y1, y2, y3, y4]) rfl ⟨_, K, rfl, hbW, HRL.out.below hbW, fun k hk => .inl hk⟩
end
end Go.Proofs.Ytlmcodmglcmmoaa
