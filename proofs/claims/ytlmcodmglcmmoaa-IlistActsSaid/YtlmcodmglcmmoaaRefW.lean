/- The document's own arena: Free, Set, Alloc, Do. -/
import Derived.Test.YtlmcodmglcmmoaaRef
import Derived.Laws.AppendOwnNone
import Derived.Maps.AppendAt
import Derived.OwnWalk
namespace Go.Proofs.Ytlmcodmglcmmoaa
open Go Go.RowKit Go.Deep

/- Behind an act of the document's: another value, in the memory that there was, or new. -/
def RefNext (w : World) (K : List Nat) (st' : St) (f : Value → Value) (e : Ending) (w' : World) : Prop :=
  ∃ (v' : Value) (K' : List Nat), e = .returned (f v') ∧ Below w.heap.size w w' ∧ Ref w' v' st' K' ∧ ∀ k ∈ K', k ∈ K ∨ w.heap.size ≤ k

theorem four_cells {W : World} {g : Nat} {t : TypeId} {b0 b1 b2 b3 : Value} (h : W.heap[g]? = some (.cells #[b0, b1, b2, b3] t (0, 0))) :
    W.cell? ⟨g, 0, none⟩ = some b0 ∧ W.cell? ⟨g, 1, none⟩ = some b1 ∧ W.cell? ⟨g, 2, none⟩ = some b2 ∧ W.cell? ⟨g, 3, none⟩ = some b3 :=
  ⟨(head_row h).cell (i := 0) (by simp), (head_row h).cell (i := 1) (by simp), (head_row h).cell (i := 2) (by simp), (head_row h).cell (i := 3) (by simp)⟩
theorem four_free {W : World} {g : Nat} {t : TypeId} {b0 b1 b2 b3 : Value} (h : W.heap[g]? = some (.cells #[b0, b1, b2, b3] t (0, 0))) :
    W.frozen? ⟨g, 0, none⟩ = false ∧ W.frozen? ⟨g, 1, none⟩ = false ∧ W.frozen? ⟨g, 2, none⟩ = false ∧ W.frozen? ⟨g, 3, none⟩ = false :=
  ⟨(head_row h).frozen 0, (head_row h).frozen 1, (head_row h).frozen 2, (head_row h).frozen 3⟩

theorem rfree_false {w : World} {v : Value} {st : St} {K : List Nat} (h : Ref w v st K) (ho : st.Ok) (hn : st.n ≤ 1000000) (i : Int) (h32 : i ≤ 2147483647) (hi : st.is i = false) :
    Calls Try.prog 34 #[v, .int .i32 i] w (RefNext w K st (fun v' => .tuple #[v', .bool false])) := by
  have HRef := Lib.hid h
  obtain ⟨h0, Fo, fc, nb, nc, nd, rfl, h1, h2, h3⟩ := h
  have hr : ∀ w', Below w.heap.size w w' → Ref w' (refV st.n st.used Fo st.freed.length fc nb (st.used + 1) nc) st K := fun w' hb => Ref.below ⟨h0, Fo, fc, nb, nc, nd, rfl, h1, h2, h3⟩ hb
  have HR : Hid (∀ w', Below w.heap.size w w' → Calls Try.prog 52 #[refV st.n st.used Fo st.freed.length fc nb (st.used + 1) nc, .int .i32 i] w' fun e w'' => e = .returned (.bool false) ∧ Below w'.heap.size w' w'') :=
    Lib.hid (fun w' hb => by have := ris_walk (hr w' hb) ho hn i h32; rw [hi] at this; exact this)
  clear h0 h1 h2 h3 hr hi
  go_enter Try.func34, Try.ntmps34
  go_wp2_with fail
  refine (HR.out _ (((Below.refl _ _).alloc (Nat.le_refl _) _).alloc (by simp) _)).mono ?_
  rintro e w1 ⟨rfl, hb⟩
  obtain ⟨hb1, hs1, hB0, hB1⟩ := two_blocks hb
  obtain ⟨c0, c1, c2, c3⟩ := four_cells hB0
  obtain ⟨x0, x1, x2, x3⟩ := four_cells hB1
  obtain ⟨z0, z1, z2, z3⟩ := four_free hB1
  have HB := Lib.hid hb1
  have H4 := Lib.hid (four_set hB1 (.int .i64 st.n) (.int .i64 st.used) (.slice Fo st.freed.length fc) (.slice (some ⟨nb, 0, none⟩) (st.used + 1) nc))
  clear hb hb1 hB0 hB1
  go_wp2
  have h4 := H4.out
  generalize ((((w1.setCell ⟨w.heap.size + 1, 0, none⟩ (.int .i64 st.n)).setCell ⟨w.heap.size + 1, 1, none⟩ (.int .i64 st.used)).setCell ⟨w.heap.size + 1, 2, none⟩ (.slice Fo st.freed.length fc)).setCell ⟨w.heap.size + 1, 3, none⟩ (.slice (some ⟨nb, 0, none⟩) (st.used + 1) nc)) = W at h4 ⊢
  clear x0 x1 x2 x3 z0 z1 z2 z3
  obtain ⟨y0, y1, y2, y3⟩ := four_cells h4.1
  have hbW := below_only HB.out h4.2 (by omega)
  exact bodyPost_ret (v := .tuple #[refV st.n st.used Fo st.freed.length fc nb (st.used + 1) nc, .bool false]) (by simp [results, Try.results34, go_sem, y0, y1, y2, y3]) rfl ⟨_, K, rfl, hbW, HRef.out.below hbW, fun k hk => .inl hk⟩

/- append, whatever its source is: nil, or a row's begin. -/
theorem wpList_append_src {P : Program} {w : World} {ops : Array Oper} {rest : List Oper} {o : Oper} {a : Act} {Q : Exit → Act → World → Prop} (hgd : o.guard = none) (s x : Operand) (t : TypeId)
    (ho : o.op = .call { callee := .builtin .append, args := #[s, x], argTypes := #[t, t] }) (base : Nat) (e : TypeId) (z : Value) (size bytes : Nat) (ht : P.underlying t = some (.slice e))
    (hinfo : (P.info? e).map (fun i => (i.zero, i.size, i.bytes)) = some (some z, size, bytes)) (hzs : z.cells.size = size) (hsz : 0 < size)
    (v : Value) (n : Nat) (xs : List Value) (hs : a.eval s = v) (hown : w.ownsRow base e size v n xs) (A : Option Addr) (m c : Nat) (news : List Value) (hx : a.eval x = .slice A m c)
    (hsrc : (A = none ∧ m = 0 ∧ c = 0 ∧ news = []) ∨ ∃ ad, A = some ad ∧ news.length = m * size ∧ ∀ j u, news[j]? = some u → w.cell? (ad.add j) = some u) (h1 : ∀ u ∈ news, u.oneCell' = true)
    (hbound : (n + m) * bytes ≤ 140737488355328) (h63 : n + m ≤ 1000000000) (hbase : base ≤ w.heap.size)
    (h : ∀ v' w', w'.ownsRow base e size v' (n + m) (xs ++ news) → w.grownBy w' v.ownBlock → wpList P ops Q rest (a.put o.dst v') w') : wpList P ops Q (o :: rest) a w := by
  obtain ⟨i, hi, hz, hsize, hby⟩ := info_parts hinfo
  rcases hsrc with ⟨rfl, rfl, rfl, rfl⟩ | ⟨ad, rfl, hl, hc⟩
  · refine wpList_append_own_none hgd s x t ho base e i size ht hi v n xs hs hown hx ?_
    exact h v w (by simpa using hown) (World.grownBy.refl w _)
  · refine wpList_append_own w hgd s x t ho base e i z size bytes ht hi hz hsize hby hzs hsz v n xs hs hown ad m c news hx hl hc h1 (by unfold maxLen; omega) hbound hbase ?_
    intro v' w' h2 h3 _
    exact h v' w' h2 h3
theorem below_grown {B : Nat} {w0 w w' : World} {e : TypeId} {size n : Nat} {v : Value} {xs : List Value} (hb : Below B w0 w) (hown : w.ownsRow B e size v n xs) (hg : w.grownBy w' v.ownBlock) (hB : B ≤ w.heap.size) : Below B w0 w' :=
  hb.grown hg hB (fun k hk => (hown.lt k hk).1)
theorem five_set {w : World} {g r j : Nat} {u : TypeId} {a0 a1 a2 a3 : Value} (hr : w.heap[r]? = some (.cells #[a0, a1, a2, a3] u (0, 0))) (hne : r ≠ g) (x b0 b1 b2 b3 : Value) :
    (((((w.setCell ⟨g, j, none⟩ x).setCell ⟨r, 0, none⟩ b0).setCell ⟨r, 1, none⟩ b1).setCell ⟨r, 2, none⟩ b2).setCell ⟨r, 3, none⟩ b3).heap[r]? = some (.cells #[b0, b1, b2, b3] u (0, 0)) ∧
    Only [g, r] w (((((w.setCell ⟨g, j, none⟩ x).setCell ⟨r, 0, none⟩ b0).setCell ⟨r, 1, none⟩ b1).setCell ⟨r, 2, none⟩ b2).setCell ⟨r, 3, none⟩ b3) := by
  have h1 : (w.setCell ⟨g, j, none⟩ x).heap[r]? = some (.cells #[a0, a1, a2, a3] u (0, 0)) := (Below.heap_setCell _ _ _ _ hne).trans hr
  obtain ⟨h2, h3⟩ := four_set h1 b0 b1 b2 b3
  exact ⟨h2, ((Only.refl [g, r] w).setCell (p := ⟨g, j, none⟩) (by simp) x).trans h3 (by simp)⟩

theorem FreedAt.src {w : World} {Fo : Option Addr} {l : List Nat} {fc : Nat} {K : List Nat} (h : FreedAt w Fo l fc K) :
    (Fo = none ∧ l.length = 0 ∧ fc = 0 ∧ l.map (fun x => Value.int .i32 (x : Nat)) = []) ∨ ∃ ad, Fo = some ad ∧ (l.map (fun x => Value.int .i32 (x : Nat))).length = l.length * 1 ∧ ∀ j u, (l.map (fun x => Value.int .i32 (x : Nat)))[j]? = some u → w.cell? (ad.add j) = some u := by
  rcases h.mem with ⟨e1, e2, e3⟩ | ⟨fb, e1, _, hc⟩
  · exact .inl ⟨e1, by rw [e2]; rfl, e3, by rw [e2]; rfl⟩
  · refine .inr ⟨_, e1, by simp, fun j u hu => ?_⟩
    rw [List.getElem?_map] at hu
    rcases Nat.lt_or_ge j l.length with hj | hj
    · rw [List.getElem?_eq_getElem hj] at hu
      simp only [Option.map_some, Option.some.injEq] at hu
      subst hu
      have := hc j hj
      simpa [Addr.add_lit] using this
    · rw [List.getElem?_eq_none hj] at hu; cases hu
theorem FreedAt.later {w w' : World} {Fo : Option Addr} {l : List Nat} {fc : Nat} {K : List Nat} (h : FreedAt w Fo l fc K) (h0 : ∀ k ∈ K, k < w.heap.size) (hb : Below w.heap.size w w') : FreedAt w' Fo l fc K := h.kept (kept_below h0 hb)

theorem only_cell {S : List Nat} {w W : World} (h : Only S w W) {g : Nat} (hg : g < w.heap.size) (hS : g ∉ S) (j : Nat) : W.cell? ⟨g, j, none⟩ = w.cell? ⟨g, j, none⟩ := World.cell?_of_block (w := w) (h.block g hg hS)
theorem own_cells {w : World} {B : Nat} {e : TypeId} {size n cap g : Nat} {xs : List Value} (h : w.ownsRow B e size (.slice (some ⟨g, 0, none⟩) n cap) n xs) (j : Nat) (hj : j < xs.length) : w.cell? ⟨g, j, none⟩ = some xs[j] := by
  have := h.cells (g := g) rfl j _ (List.getElem?_eq_getElem hj)
  simpa [Addr.add_lit] using this

theorem free_ref {w W : World} {st : St} {i : Nat} {K : List Nat} {nb nc g cap : Nat} {nd : Nat → Nd} (h0 : ∀ k ∈ K, k < w.heap.size) (hN : NodesAt w nb (st.used + 1) nc nd K) (h3 : ∀ j, st.tk j = true → nd j = st.node j)
    (hb : Below w.heap.size w W) (hg1 : w.heap.size ≤ g) (hg2 : g < W.heap.size) (hcap : st.freed.length + 1 ≤ cap)
    (hc : ∀ j (hj : j < (st.freed.map (fun x => Value.int .i32 (x : Nat)) ++ [Value.int .i32 (i : Int)]).length), W.cell? ⟨g, j, none⟩ = some (st.freed.map (fun x => Value.int .i32 (x : Nat)) ++ [Value.int .i32 (i : Int)])[j]) :
    Ref W (refV st.n st.used (some ⟨g, 0, none⟩) (st.freed.length + 1) cap nb (st.used + 1) nc) (st.free i) [g, nb] := by
  have hnb := h0 nb hN.kin
  refine ⟨fun k hk => ?_, some ⟨g, 0, none⟩, cap, nb, nc, nd, ?_, ⟨by simpa [St.free] using hcap, .inr ⟨g, rfl, by simp, fun j hj => ?_⟩⟩, ?_, fun j hj => ?_⟩
  · rcases List.mem_cons.1 hk with rfl | hk
    · exact hg2
    · obtain rfl : k = nb := by simpa using hk
      exact Nat.lt_of_lt_of_le hnb hb.size
  · simp [St.free]
  · have key : ∀ hj2 : j < (st.freed ++ [i]).length, W.cell? ⟨g, j, none⟩ = some (Value.int .i32 (((st.freed ++ [i])[j] : Nat) : Int)) := fun hj2 => by
      rw [hc j (by simpa using hj2)]
      have hj3 : j < st.freed.length + 1 := by simpa using hj2
      by_cases e : j < st.freed.length
      · rw [List.getElem_append_left (by simpa using e), List.getElem_append_left e, List.getElem_map]
      · obtain rfl : j = st.freed.length := by omega
        simp
    exact key hj
  · have := hN.kept (kept_below h0 hb)
    exact ⟨this.cap, by simp, this.cells⟩
  · rw [free_tk] at hj
    show nd j = upd st.node i Nd.zero j
    unfold upd at hj ⊢
    split at hj
    · cases hj
    · rename_i e
      rw [if_neg e]
      exact h3 j hj

theorem rfree_true {w : World} {v : Value} {st : St} {K : List Nat} (h : Ref w v st K) (ho : st.Ok) (hn : st.n ≤ 1000000) (i : Nat) (hi : st.tk i = true) :
    Calls Try.prog 34 #[v, .int .i32 i] w (RefNext w K (st.free i) (fun v' => .tuple #[v', .bool true])) := by
  have HRef := Lib.hid h
  obtain ⟨h0, Fo, fc, nb, nc, nd, rfl, h1, h2, h3⟩ := h
  have hr : ∀ w', Below w.heap.size w w' → Ref w' (refV st.n st.used Fo st.freed.length fc nb (st.used + 1) nc) st K := fun w' hb => Ref.below ⟨h0, Fo, fc, nb, nc, nd, rfl, h1, h2, h3⟩ hb
  have hb0 := tk_bounds hi
  have hu := ho.room
  have his : st.is i = true := by unfold St.is; rw [decide_eq_true (by omega : (0 : Int) < i)]; simpa using hi
  have HR : Hid (∀ w', Below w.heap.size w w' → Calls Try.prog 52 #[refV st.n st.used Fo st.freed.length fc nb (st.used + 1) nc, .int .i32 i] w' fun e w'' => e = .returned (.bool true) ∧ Below w'.heap.size w' w'') :=
    Lib.hid (fun w' hb => by have := ris_walk (hr w' hb) ho hn i (by omega); rw [his] at this; exact this)
  have HF := Lib.hid h1
  have HN := Lib.hid h2
  have H0 := Lib.hid h0
  have H3 := Lib.hid h3
  clear h0 h1 h2 h3 hr his
  go_enter Try.func34, Try.ntmps34
  go_wp2_with fail
  refine (HR.out _ (((Below.refl _ _).alloc (Nat.le_refl _) _).alloc (by simp) _)).mono ?_
  rintro e w1 ⟨rfl, hb⟩
  obtain ⟨hb1, hs1, hB0, hB1⟩ := two_blocks hb
  obtain ⟨c0, c1, c2, c3⟩ := four_cells hB0
  have HB := Lib.hid hb1
  have hs0 : w.heap.size < w1.heap.size := by omega
  have hal := (Below.refl w1.heap.size w1).alloc (Nat.le_refl _) (.cells #[] 21)
  have HS := Lib.hid ((HF.out.later H0.out (hb1.trans (hal.mono hb1.size))).src)
  have hown := World.ownsRow_lit (base := w1.heap.size) (e := 21) (size := 1) w1 #[] 0 (Nat.le_refl _) (by unfold maxLen; omega) rfl
  have HO := Lib.hid hown
  have HAL := Lib.hid hal
  have hfl := freed_le ho
  have h0s : Hid (∀ u ∈ st.freed.map (fun x => Value.int .i32 (x : Nat)), u.oneCell' = true) := Lib.hid (by simp; exact fun _ _ => rfl)
  clear hb hb1 hal hown
  go_wp2_with (at_builtin; refine wpList_append_src rfl (.tmp 11) (.tmp 13) 26 rfl w1.heap.size 21 (.int .i32 0) 1 4 (by kernel_rfl) (by kernel_rfl) rfl (by decide) _ 0 _ rfl HO.out Fo st.freed.length fc (st.freed.map (fun x => Value.int .i32 (x : Nat))) rfl HS.out h0s.out (by omega) (by omega) (by simp) ?_)
  intro v2 w2 hown2 hgrow2
  have hbl2 := below_grown HAL.out HO.out hgrow2 (by simp)
  have hs2 := hbl2.size
  have HO2 := Lib.hid (hown2.alloc (.cells #[.int .i32 i] 21))
  have HS2 : Hid ((some (⟨w2.heap.size, 0, none⟩ : Addr) = none ∧ 1 = 0 ∧ 1 = 0 ∧ [Value.int .i32 (i : Int)] = []) ∨ ∃ ad, some (⟨w2.heap.size, 0, none⟩ : Addr) = some ad ∧ [Value.int .i32 (i : Int)].length = 1 * 1 ∧ ∀ j u, [Value.int .i32 (i : Int)][j]? = some u → (w2.alloc (.cells #[.int .i32 i] 21)).cell? (ad.add j) = some u) :=
    Lib.hid (.inr ⟨_, rfl, rfl, fun j u hu => by
      cases j with
      | zero => simp only [List.getElem?_cons_zero, Option.some.injEq] at hu; subst hu; simp [Addr.add, World.cell?_alloc_new]
      | succ j => simp at hu⟩)
  have HBL2 := Lib.hid (hbl2.alloc hs2 (.cells #[.int .i32 i] 21))
  clear hown2 hgrow2 hbl2 HS HO HAL
  go_wp2_with (at_builtin; refine wpList_append_src rfl (.tmp 14) (.tmp 16) 26 rfl w1.heap.size 21 (.int .i32 0) 1 4 (by kernel_rfl) (by kernel_rfl) rfl (by decide) v2 st.freed.length _ rfl HO2.out (some ⟨w2.heap.size, 0, none⟩) 1 1 [.int .i32 i] rfl HS2.out (by simp; rfl) (by omega) (by omega) (by simp; omega) ?_)
  intro v3 w3 hown3 hgrow3
  have hbl3 := below_grown HBL2.out HO2.out hgrow3 (by simp; omega)
  obtain ⟨g, cap, rfl, hg1, hg2⟩ := hown3.form (by omega)
  have hcap : st.freed.length + 1 ≤ cap := by
    rcases hown3.2 with ⟨e, _⟩ | ⟨g', cap', cur, e, _, _, hle, _⟩
    · cases e
    · injection e with _ _ e3
      omega
  have hs3 := hbl3.size
  have k0 : w3.heap[w.heap.size]? = _ := (hbl3.block w.heap.size hs0).trans hB0
  have k1 : w3.heap[w.heap.size + 1]? = _ := (hbl3.block (w.heap.size + 1) hs1).trans hB1
  obtain ⟨c0, c1, c2, c3⟩ := four_cells k0
  obtain ⟨f0, f1, f2, f3⟩ := four_free k0
  obtain ⟨x0, x1, x2, x3⟩ := four_cells k1
  obtain ⟨z0, z1, z2, z3⟩ := four_free k1
  have H5 := Lib.hid (five_set (g := w.heap.size) (j := 2) k1 (by omega) (.slice (some ⟨g, 0, none⟩) (st.freed.length + 1) cap) (.int .i64 st.n) (.int .i64 st.used) (.slice (some ⟨g, 0, none⟩) (st.freed.length + 1) cap) (.slice (some ⟨nb, 0, none⟩) (st.used + 1) nc))
  have HO3 := Lib.hid hown3
  have HBL3 := Lib.hid hbl3
  clear hown3 hgrow3 hbl3 k0 k1 HO2 HS2 HBL2
  have hlt3 : w.heap.size + 1 < w3.heap.size := by omega
  go_wp2
  have h5 := H5.out
  generalize (((((w3.setCell ⟨w.heap.size, 2, none⟩ (.slice (some ⟨g, 0, none⟩) (st.freed.length + 1) cap)).setCell ⟨w.heap.size + 1, 0, none⟩ (.int .i64 st.n)).setCell ⟨w.heap.size + 1, 1, none⟩ (.int .i64 st.used)).setCell ⟨w.heap.size + 1, 2, none⟩ (.slice (some ⟨g, 0, none⟩) (st.freed.length + 1) cap)).setCell ⟨w.heap.size + 1, 3, none⟩ (.slice (some ⟨nb, 0, none⟩) (st.used + 1) nc)) = W at h5 ⊢
  clear x0 x1 x2 x3 z0 z1 z2 z3 c0 c1 c2 c3 f0 f1 f2 f3
  obtain ⟨y0, y1, y2, y3⟩ := four_cells h5.1
  have hbW : Below w.heap.size w W := (HB.out.trans (HBL3.out.mono (by omega))).trans (h5.2.below (by simp) (by omega))
  refine bodyPost_ret (v := .tuple #[refV st.n st.used (some ⟨g, 0, none⟩) (st.freed.length + 1) cap nb (st.used + 1) nc, .bool true]) (by simp [results, Try.results34, go_sem, y0, y1, y2, y3]) rfl ⟨_, [g, nb], rfl, hbW, ?_, fun k hk => ?_⟩
  · exact free_ref H0.out HN.out H3.out hbW (by omega) (Nat.lt_of_lt_of_le hg2 h5.2.size) hcap (fun j hj => (only_cell h5.2 hg2 (by simp; omega) j).trans (own_cells HO3.out j hj))
  · rcases List.mem_cons.1 hk with rfl | hk
    · exact .inr (by omega)
    · obtain rfl : k = nb := by simpa using hk
      exact .inl HN.out.kin

theorem rfree_walk {w : World} {v : Value} {st : St} {K : List Nat} (h : Ref w v st K) (ho : st.Ok) (hn : st.n ≤ 1000000) (i : Int) (h32 : i ≤ 2147483647) :
    Calls Try.prog 34 #[v, .int .i32 i] w (RefNext w K (st.freeI i) (fun v' => .tuple #[v', .bool (st.is i)])) := by
  cases hi : st.is i
  · have e : st.freeI i = st := by unfold St.freeI; rw [hi]; rfl
    rw [e]
    exact rfree_false h ho hn i h32 hi
  · obtain ⟨k, rfl, h1, h2, h3⟩ := St.is_nat ho hi
    have e : st.freeI k = st.free k := by unfold St.freeI; rw [hi]; rfl
    rw [e]
    exact rfree_true h ho hn k h3
end Go.Proofs.Ytlmcodmglcmmoaa
