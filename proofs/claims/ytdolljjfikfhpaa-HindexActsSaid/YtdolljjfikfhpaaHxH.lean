/- The program's table in a law's own memory: each call by one contract; the laws' awake. -/
import Derived.Test.YtdolljjfikfhpaaHxV
import Derived.Test.YtdolljjfikfhpaaHxN
namespace Go.Proofs.Ytdolljjfikfhpaa
open Go Go.RowKit Go.Deep

/- The table lies at p, in blocks that w0 had not; K: blocks that it has nothing to do with. -/
structure HX (w0 w : World) (p : Nat) (T : Tb) (K : List Nat) : Prop where
  below : Below w0.heap.size w0 w
  good : T.Good
  keys : T.Keys
  old : ∀ k ∈ K, k < w.heap.size
  mem : ∃ g, w0.heap.size ≤ p ∧ w0.heap.size ≤ g ∧ p ∉ K ∧ g ∉ K ∧ IxT w p T g T.cnt
def KeptX (K : List Nat) (w w' : World) : Prop := ∀ k ∈ K, w'.heap[k]? = w.heap[k]?

section
variable {w0 w w' : World} {p : Nat} {T U : Tb} {K : List Nat}
theorem HX.still (h : HX w0 w p T K) (hb : Below w.heap.size w w') : HX w0 w' p T K ∧ KeptX K w w' := by
  obtain ⟨g, h1, h2, h3, h4, h5⟩ := h.mem
  exact ⟨⟨h.below.trans (hb.mono h.below.size), h.good, h.keys, fun k hk => Nat.lt_of_lt_of_le (h.old k hk) hb.size, g, h1, h2, h3, h4, h5.below hb⟩, fun k hk => hb.block k (h.old k hk)⟩
theorem HX.turn {g : Nat} (h : HX w0 w p T K) (h1 : w0.heap.size ≤ p) (h2 : w0.heap.size ≤ g) (h3 : p ∉ K) (h4 : g ∉ K) (good : U.Good) (keys : U.Keys) (ht : PutTo w w' p g U) : HX w0 w' p U K ∧ KeptX K w w' := by
  obtain ⟨o, g', hg', i⟩ := ht
  have hsz := h.below.size
  refine ⟨⟨h.below.trans (o.below (by simp; omega) hsz), good, keys, fun k hk => Nat.lt_of_lt_of_le (h.old k hk) o.size, g', h1, by omega, h3, ?_, i⟩, fun k hk => o.block k (h.old k hk) ?_⟩
  · rcases hg' with rfl | hg'
    · exact h4
    · intro hk; have := h.old _ hk; omega
  · simp only [List.mem_cons, List.not_mem_nil, or_false, not_or]
    exact ⟨fun e => h3 (e ▸ hk), fun e => h4 (e ▸ hk)⟩
theorem HX.sz (h : HX w0 w p T K) (hn : T.n ≤ 100000) : isSz T.n = true := good_sz h.good.pow (by omega)

theorem hx_new (hb : Below w0.heap.size w0 w) (K : List Nat) (hK : ∀ k ∈ K, k < w.heap.size) :
    Calls Try.prog 15 #[] w fun e w' => ∃ p, e = .returned (ptr p) ∧ HX w0 w' p Tb.new K ∧ Below w.heap.size w w' := by
  refine (new_walk w).mono ?_
  rintro e w' ⟨p, g, rfl, hb', h1, h2, h3⟩
  have hsz := hb.size
  refine ⟨p, rfl, ⟨hb.trans (hb'.mono hsz), new_good, new_keys, fun k hk => Nat.lt_of_lt_of_le (hK k hk) hb'.size, g, by omega, by omega, fun hk => by have := hK _ hk; omega, fun hk => by have := hK _ hk; omega, ?_⟩, hb'⟩
  rw [show Tb.new.cnt = 0 from none_cnt _]
  exact h3
theorem hx_put (h : HX w0 w p T K) (hn : T.n ≤ 100000) (k : Nat) (hk : k < 18446744073709551616) (v : Int) :
    Calls Try.prog 20 #[ptr p, .int .u64 (k : Nat), .int .i32 v] w fun e w' => e = .returned (.tuple #[]) ∧ HX w0 w' p (T.put k v) K ∧ KeptX K w w' := by
  obtain ⟨g, h1, h2, h3, h4, h5⟩ := h.mem
  exact (put_walk h5 h.good hn h.keys k hk v).mono fun e w' ⟨he, ht⟩ => ⟨he, h.turn h1 h2 h3 h4 (h.good.put_all k v).1 (h.keys.put k v hk) ht⟩
theorem hx_del (h : HX w0 w p T K) (hn : T.n ≤ 100000) (k : Nat) (hk : k < 18446744073709551616) :
    Calls Try.prog 21 #[ptr p, .int .u64 (k : Nat)] w fun e w' => e = .returned (.bool (T.there k)) ∧ HX w0 w' p (T.del k) K ∧ KeptX K w w' := by
  obtain ⟨g, h1, h2, h3, h4, h5⟩ := h.mem
  exact (delete_walk h5 h.good hn k hk).mono fun e w' ⟨he, ht⟩ => ⟨he, h.turn h1 h2 h3 h4 (h.good.del_all k).1 (h.keys.del h.good.ok.pos k) ht⟩
theorem hx_get (h : HX w0 w p T K) (hn : T.n ≤ 100000) (k : Nat) (hk : k < 18446744073709551616) :
    Calls Try.prog 11 #[ptr p, .int .u64 (k : Nat)] w fun e w' => e = .returned (.tuple #[.int .i32 (T.get k).1, .bool (T.get k).2]) ∧ Below w.heap.size w w' := by
  obtain ⟨g, h1, h2, h3, h4, h5⟩ := h.mem
  exact get_walk h5 h.good.ok (h.sz hn) k hk
theorem hx_probes (h : HX w0 w p T K) (hn : T.n ≤ 100000) (k : Nat) (hk : k < 18446744073709551616) :
    Calls Try.prog 13 #[ptr p, .int .u64 (k : Nat)] w fun e w' => e = .returned (.int .i64 ((T.steps k : Nat) + 1)) ∧ Below w.heap.size w w' := by
  obtain ⟨g, h1, h2, h3, h4, h5⟩ := h.mem
  exact probes_walk h5 h.good.ok (h.sz hn) k hk
theorem hx_len (h : HX w0 w p T K) :
    Calls Try.prog 17 #[ptr p] w fun e w' => e = .returned (.int .i64 (T.cnt : Nat)) ∧ w = w' := by
  obtain ⟨g, h1, h2, h3, h4, h5⟩ := h.mem
  exact len_walk h5
theorem hx_slots (h : HX w0 w p T K) :
    Calls Try.prog 18 #[ptr p] w fun e w' => e = .returned (.int .i64 (T.n : Nat)) ∧ w = w' := by
  obtain ⟨g, h1, h2, h3, h4, h5⟩ := h.mem
  exact slots_walk h5
theorem hx_slot (h : HX w0 w p T K) (x : Nat) (hx : x < T.n) :
    Calls Try.prog 10 #[ptr p, .int .i64 (x : Nat)] w fun e w' => e = .returned (slT (T.sl x)) ∧ Below w.heap.size w w' := by
  obtain ⟨g, h1, h2, h3, h4, h5⟩ := h.mem
  exact slot_walk h5 x hx
theorem hx_noslot (h : HX w0 w p T K) (x : Int) (hx : x < 0 ∨ (T.n : Int) ≤ x) :
    Calls Try.prog 10 #[ptr p, .int .i64 x] w fun e w' => e = .returned (slT Sl.no) ∧ Below w.heap.size w w' := by
  obtain ⟨g, h1, h2, h3, h4, h5⟩ := h.mem
  exact noslot_walk h5 x hx
end

/- What awake asks. -/
theorem Tb.put_lay {T : Tb} {k : Nat} {v : Int} (h : ¬ (T.there k = false ∧ 3 * T.n < 4 * T.cnt + 4)) : T.put k v = T.lay ⟨k, v, true⟩ := by unfold Tb.put; rw [if_neg h]
theorem there_no {T : Tb} (ok : T.Ok) {k : Nat} (h : ∀ v, ¬ T.has k v) : T.there k = false := by
  refine eq_false_of_ne_true (fun q => ?_)
  obtain ⟨v, hv⟩ := (T.there_has ok k).1 q
  exact h v hv
theorem there_yes {T : Tb} (ok : T.Ok) {k : Nat} {v : Int} (h : T.has k v) : T.there k = true := (T.there_has ok k).2 ⟨v, h⟩
theorem get_yes {T : Tb} (ok : T.Ok) {k : Nat} {v : Int} (h : T.has k v) : T.get k = (v, true) := by
  obtain ⟨h1, h2⟩ := (ok.has_iff k v).1 h
  unfold Tb.get
  rw [h2, there_yes ok h]
theorem get_no {T : Tb} (ok : T.Ok) {k : Nat} (h : T.there k = false) : T.get k = (0, false) := by
  have := ok.clean _ (ok.look_lt k) h
  unfold Tb.get
  rw [this, h]
  rfl
noncomputable def aw1 : Tb := Tb.new.put 5 7
noncomputable def aw2 : Tb := aw1.put 6 8
noncomputable def aw3 : Tb := aw2.put 5 9
noncomputable def aw4 : Tb := aw3.del 5
structure AwFacts : Prop where
  n1 : aw1.n = 8
  n2 : aw2.n = 8
  n3 : aw3.n = 8
  n4 : aw4.n = 8
  c3 : aw3.cnt = 2
  c4 : (aw4.del 5).cnt = 1
  n5 : (aw4.del 5).n = 8
  g5 : aw3.get 5 = (9, true)
  g4 : aw3.get 4 = (0, false)
  s : aw3.sl (hm 5 8) = ⟨5, 9, true⟩
  t3 : aw3.there 5 = true
  t4 : aw4.there 5 = false
theorem awFacts : AwFacts := by
  have g0 := new_good
  have n0 : Tb.new.n = 8 := rfl
  have c0 : Tb.new.cnt = 0 := none_cnt _
  have e0 : ∀ k, Tb.new.there k = false := fun k => there_no g0.ok (fun v => none_has 8 k v)
  obtain ⟨g1, c1, n1, h1⟩ := g0.put_all 5 7
  have l1 : aw1 = Tb.new.lay ⟨5, 7, true⟩ := Tb.put_lay (by rw [n0, c0]; omega)
  rw [e0, if_neg (by decide), c0] at c1
  rw [n0, c0, if_neg (by omega)] at n1
  have e1 : aw1.there 6 = false := there_no g1.ok (fun v q => by rcases (h1 6 v).1 q with q | q; exact absurd q.1 (by decide); exact none_has 8 6 v q.2)
  obtain ⟨g2, c2, n2, h2⟩ := Tb.Good.put_all (T := aw1) g1 6 8
  have n1' : aw1.n = 8 := n1
  have c1' : aw1.cnt = 1 := c1
  have l2 : aw2 = aw1.lay ⟨6, 8, true⟩ := Tb.put_lay (by rw [n1', c1']; omega)
  rw [e1, if_neg (by decide), c1'] at c2
  rw [n1', c1', if_neg (by omega)] at n2
  have n2' : aw2.n = 8 := n2
  have c2' : aw2.cnt = 2 := c2
  have e2 : aw2.there 5 = true := there_yes (T := aw2) g2.ok (v := 7) ((h2 5 7).2 (.inr ⟨by decide, (h1 5 7).2 (.inl ⟨rfl, rfl⟩)⟩))
  obtain ⟨g3, c3, n3, h3⟩ := Tb.Good.put_all (T := aw2) g2 5 9
  have l3 : aw3 = aw2.lay ⟨5, 9, true⟩ := Tb.put_lay (by rw [e2]; exact fun q => absurd q.1 (by decide))
  rw [e2, if_pos rfl, c2'] at c3
  rw [n2', c2', if_neg (by omega)] at n3
  have n3' : aw3.n = 8 := n3
  have c3' : aw3.cnt = 2 := c3
  have h35 : aw3.has 5 9 := (h3 5 9).2 (.inl ⟨rfl, rfl⟩)
  have e3 : aw3.there 5 = true := there_yes (T := aw3) g3.ok h35
  have e34 : aw3.there 4 = false := there_no (T := aw3) g3.ok (fun v q => by
    rcases (h3 4 v).1 q with q | q
    · exact absurd q.1 (by decide)
    · rcases (h2 4 v).1 q.2 with q | q
      · exact absurd q.1 (by decide)
      · rcases (h1 4 v).1 q.2 with q | q
        · exact absurd q.1 (by decide)
        · exact none_has 8 4 v q.2)
  obtain ⟨g4, c4, n4, h4⟩ := Tb.Good.del_all (T := aw3) g3 5
  rw [e3, if_pos rfl, c3'] at c4
  have n4' : aw4.n = 8 := n4.trans n3'
  have c4' : aw4.cnt = 1 := by have : aw4.cnt + 1 = 2 := c4; omega
  have e4 : aw4.there 5 = false := there_no (T := aw4) g4.ok (fun v q => ((h4 5 v).1 q).1 rfl)
  obtain ⟨g5, c5, n5, h5⟩ := Tb.Good.del_all (T := aw4) g4 5
  rw [e4, if_neg (by decide), c4'] at c5
  -- where key 5 lies
  have k1 : Tb.new.look 5 = hm 5 8 := by
    have hs : Tb.new.steps 5 = 0 := firstIn_is _ _ _ (by rw [n0]; omega) ((Tb.stops_iff 5 0).2 (.inl rfl)) (fun i hi => by omega)
    unfold Tb.look Tb.go
    rw [hs, n0, Nat.add_zero, Nat.mod_eq_of_lt (hm_lt 5 (by omega))]
  have s1 : aw1.sl (hm 5 8) = ⟨5, 7, true⟩ := by rw [l1, ← k1]; exact Tb.lay_at ⟨5, 7, true⟩
  have s2 : aw2.sl (hm 5 8) = ⟨5, 7, true⟩ := by
    rw [l2, Tb.lay_other, s1]
    intro q
    have h6 : aw1.look 6 = hm 5 8 := q.symm
    rcases Tb.Ok.look_stops (T := aw1) g1.ok 6 with q | q
    · rw [h6, s1] at q; exact absurd q (by decide)
    · rw [h6, s1] at q; exact absurd q (by decide)
  have k3 : aw2.look 5 = hm 5 8 := by
    have := Tb.Ok.look_has (T := aw2) g2.ok (i := hm 5 8) (by rw [n2']; exact hm_lt 5 (by omega)) (by rw [s2])
    rw [s2] at this
    exact this
  refine ⟨n1', n2', n3', n4', c3', by omega, n5.trans n4', get_yes (T := aw3) g3.ok h35, get_no (T := aw3) g3.ok e34, ?_, e3, e4⟩
  rw [l3, ← k3]
  exact Tb.lay_at ⟨5, 9, true⟩
end Go.Proofs.Ytdolljjfikfhpaa
