/- Words and walks: SsM SsW. -/
import Derived.Test.YtkhikpnlpcankaaG0
import Derived.Test.YtkhikpnlpcankaaG10
import Derived.Test.YtkhikpnlpcankaaG7
import Derived.IntWalk
namespace Go.Proofs.Ytkhikpnlpcankaa
open Go Go.RowKit Go.Deep
section
variable {w0 w w' : World} {p b s f : Nat} {st : St} {x : LSt} {K : List Nat}
theorem Ar.blocks (h : Ar w b s f st) (hb : w'.heap[b]? = w.heap[b]?) (hs : w'.heap[s]? = w.heap[s]?) (hf : w'.heap[f]? = w.heap[f]?) : Ar w' b s f st := by
  refine ⟨hb.trans h.head, h.slots.of_block hs, ?_⟩
  obtain ⟨F, hF, he⟩ := h.freed
  exact ⟨F, hF.of_block hf, he⟩
structure FootH (w0 w : World) (p b : Nat) (x : LSt) (F : List Nat) : Prop where
  old : ∀ k ∈ F, w0.heap.size ≤ k ∧ k < w.heap.size
  held : ∀ w', Below w0.heap.size w0 w' → (∀ k ∈ F, w'.heap[k]? = w.heap[k]? ∧ k < w'.heap.size) → ∀ K', (∀ k ∈ K', k < w'.heap.size ∧ k ∉ F) → HeldL w0 w' p b x K'
theorem HeldL.foot (h : HeldL w0 w p b x K) : ∃ F, FootH w0 w p b x F ∧ ∀ k ∈ F, k ∉ K := by
  obtain ⟨e, h1, h2, h3, h4, h5, h6, h7, h8⟩ := h.mem
  obtain ⟨s, f, m1, m2, m3, kb, ks, kf, ha⟩ := h1.mem
  have q1 := ha.ltb
  have q2 := ha.lts
  have q3 := ha.ltf
  have q4 := h1.old p (by simp)
  have q5 := h1.old e (by simp)
  simp only [List.mem_cons, not_or] at kb ks kf
  refine ⟨[p, e, b, s, f], ⟨fun k hk => ?_, fun w' hb hk K' hK => ?_⟩, fun k hk => ?_⟩
  · simp only [List.mem_cons, List.not_mem_nil, or_false] at hk
    rcases hk with rfl | rfl | rfl | rfl | rfl <;> omega
  · have g0 := hk p (by simp)
    have g1 := hk e (by simp)
    have g2 := hk b (by simp)
    have g3 := hk s (by simp)
    have g4 := hk f (by simp)
    have hn := fun k hkK => (hK k hkK).2
    refine ⟨h.small, h.one, h.eight, e, ⟨hb, h1.ok, fun k hk' => ?_, s, f, m1, m2, m3, ?_, ?_, ?_, ha.blocks g2.1 g3.1 g4.1⟩, h2, h3, h4, fun q => hn p q (by simp), fun q => hn e q (by simp), g0.1.trans h7, h8.of_block g1.1⟩
    · rcases List.mem_cons.1 hk' with rfl | hk'
      · exact g0.2
      · rcases List.mem_cons.1 hk' with rfl | hk'
        · exact g1.2
        · exact (hK k hk').1
    · simp only [List.mem_cons, not_or]
      exact ⟨kb.1, kb.2.1, fun q => hn b q (by simp)⟩
    · simp only [List.mem_cons, not_or]
      exact ⟨ks.1, ks.2.1, fun q => hn s q (by simp)⟩
    · simp only [List.mem_cons, not_or]
      exact ⟨kf.1, kf.2.1, fun q => hn f q (by simp)⟩
  · simp only [List.mem_cons, List.not_mem_nil, or_false] at hk
    rcases hk with rfl | rfl | rfl | rfl | rfl
    · exact h5
    · exact h6
    · exact kb.2.2
    · exact ks.2.2
    · exact kf.2.2
theorem FootH.keep {F : List Nat} (h : FootH w0 w p b x F) (hk : ∀ k ∈ F, w'.heap[k]? = w.heap[k]? ∧ k < w'.heap.size) : FootH w0 w' p b x F :=
  ⟨fun k hk' => ⟨(h.old k hk').1, (hk k hk').2⟩, fun w2 hb hk2 K' hK => h.held w2 hb (fun k hk' => ⟨(hk2 k hk').1.trans (hk k hk').1, (hk2 k hk').2⟩) K' hK⟩
end
structure FootX (w0 w : World) (ix : Nat) (T : Tb) (G : List Nat) : Prop where
  old : ∀ k ∈ G, w0.heap.size ≤ k ∧ k < w.heap.size
  held : ∀ w', Below w0.heap.size w0 w' → (∀ k ∈ G, w'.heap[k]? = w.heap[k]? ∧ k < w'.heap.size) → ∀ K', (∀ k ∈ K', k < w'.heap.size ∧ k ∉ G) → HX w0 w' ix T K'
section
variable {w0 w w' : World} {ix : Nat} {T : Tb} {K : List Nat}
theorem HX.foot (h : HX w0 w ix T K) : ∃ G, FootX w0 w ix T G ∧ ∀ k ∈ G, k ∉ K := by
  obtain ⟨g, h1, h2, h3, h4, h5⟩ := h.mem
  have q1 := h5.plt
  have q2 := h5.lt
  refine ⟨[ix, g], ⟨fun k hk => ?_, fun w' hb hk K' hK => ?_⟩, fun k hk => ?_⟩
  · simp only [List.mem_cons, List.not_mem_nil, or_false] at hk
    rcases hk with rfl | rfl <;> omega
  · have g0 := hk ix (by simp)
    have g1 := hk g (by simp)
    refine ⟨hb, h.good, h.keys, fun k hk' => (hK k hk').1, g, h1, h2, fun q => (hK ix q).2 (by simp), fun q => (hK g q).2 (by simp), ⟨g0.1.trans h5.tab, ?_⟩⟩
    obtain ⟨N, F, hF, hN, hv⟩ := h5.row
    exact ⟨N, F, hF.of_block g1.1, hN, hv⟩
  · simp only [List.mem_cons, List.not_mem_nil, or_false] at hk
    rcases hk with rfl | rfl
    · exact h3
    · exact h4
theorem FootX.keep {G : List Nat} (h : FootX w0 w ix T G) (hk : ∀ k ∈ G, w'.heap[k]? = w.heap[k]? ∧ k < w'.heap.size) : FootX w0 w' ix T G :=
  ⟨fun k hk' => ⟨(h.old k hk').1, (hk k hk').2⟩, fun w2 hb hk2 K' hK => h.held w2 hb (fun k hk' => ⟨(hk2 k hk').1.trans (hk k hk').1, (hk2 k hk').2⟩) K' hK⟩
end
structure SP (w0 w : World) (p b ix n : Nat) (x : LSt) (F G : List Nat) (l : Nat → List Nat) (A : St) (T : Tb) (K : List Nat) : Prop where
  below : Below w0.heap.size w0 w
  fh : FootH w0 w p b x F
  lok : LOk x l
  xn : x.n = n
  al : Alike x.st A
  fx : FootX w0 w ix T G
  dF : ∀ k ∈ F, k ∉ G ∧ k ∉ K
  dG : ∀ k ∈ G, k ∉ K
  dK : ∀ k ∈ K, k < w.heap.size
def SQ (w0 w : World) (p b ix n : Nat) (l : Nat → List Nat) (A : St) (T : Tb) (K : List Nat) : Prop := ∃ x F G, SP w0 w p b ix n x F G l A T K
section
variable {w0 w w' : World} {p b ix n : Nat} {x : LSt} {F G : List Nat} {l l' : Nat → List Nat} {A A' : St} {T T' : Tb} {K K' : List Nat}
theorem SP.other (h : SP w0 w p b ix n x F G l A T K) (hb : Below w.heap.size w w') (hk : ∀ k ∈ K', (k ∈ K ∨ w.heap.size ≤ k) ∧ k < w'.heap.size) : SP w0 w' p b ix n x F G l A T K' := by
  have hsz := hb.size
  refine ⟨h.below.trans (hb.mono h.below.size), h.fh.keep (fun k hk' => ⟨hb.block k (h.fh.old k hk').2, by have := (h.fh.old k hk').2; omega⟩), h.lok, h.xn, h.al, h.fx.keep (fun k hk' => ⟨hb.block k (h.fx.old k hk').2, by have := (h.fx.old k hk').2; omega⟩), fun k hk' => ⟨(h.dF k hk').1, fun q => ?_⟩, fun k hk' q => ?_, fun k hk' => (hk k hk').2⟩
  · rcases (hk k q).1 with q | q
    · exact (h.dF k hk').2 q
    · have := (h.fh.old k hk').2; omega
  · rcases (hk k q).1 with q | q
    · exact h.dG k hk' q
    · have := (h.fx.old k hk').2; omega
theorem SQ.other (h : SQ w0 w p b ix n l A T K) (hb : Below w.heap.size w w') (hk : ∀ k ∈ K', (k ∈ K ∨ w.heap.size ≤ k) ∧ k < w'.heap.size) : SQ w0 w' p b ix n l A T K' := by
  obtain ⟨x, F, G, h⟩ := h
  exact ⟨x, F, G, h.other hb hk⟩
theorem SQ.below (h : SQ w0 w p b ix n l A T K) : Below w0.heap.size w0 w := by
  obtain ⟨x, F, G, h⟩ := h
  exact h.below
theorem SQ.old (h : SQ w0 w p b ix n l A T K) : ∀ k ∈ K, k < w.heap.size := by
  obtain ⟨x, F, G, h⟩ := h
  exact h.dK
theorem SQ.still (h : SQ w0 w p b ix n l A T K) (hb : Below w.heap.size w w') : SQ w0 w' p b ix n l A T K ∧ Kept K w w' :=
  ⟨h.other hb (fun k hk => ⟨.inl hk, Nat.lt_of_lt_of_le (h.old k hk) hb.size⟩), fun k hk => hb.block k (h.old k hk)⟩
theorem SQ.less (h : SQ w0 w p b ix n l A T K) (hk : ∀ k ∈ K', k ∈ K) : SQ w0 w p b ix n l A T K' :=
  h.other (Below.refl _ _) (fun k hk' => ⟨.inl (hk k hk'), h.old k (hk k hk')⟩)
theorem SP.heldl (h : SP w0 w p b ix n x F G l A T K) : HeldL w0 w p b x (G ++ K) :=
  h.fh.held w h.below (fun k hk => ⟨rfl, (h.fh.old k hk).2⟩) _ (fun k hk => by
    rcases List.mem_append.1 hk with q | q
    · exact ⟨(h.fx.old k q).2, fun q2 => (h.dF k q2).1 q⟩
    · exact ⟨h.dK k q, fun q2 => (h.dF k q2).2 q⟩)
theorem SP.hl (h : SP w0 w p b ix n x F G l A T K) : HL w0 w p b n l A (G ++ K) := ⟨x, h.heldl, h.lok, h.xn, h.al⟩
theorem SP.hx (h : SP w0 w p b ix n x F G l A T K) : HX w0 w ix T (F ++ K) :=
  h.fx.held w h.below (fun k hk => ⟨rfl, (h.fx.old k hk).2⟩) _ (fun k hk => by
    rcases List.mem_append.1 hk with q | q
    · exact ⟨(h.fh.old k q).2, fun q2 => (h.dF k q).1 q2⟩
    · exact ⟨h.dK k q, fun q2 => h.dG k q2 q⟩)
theorem SP.turnL (h : SP w0 w p b ix n x F G l A T K) (hl : HL w0 w' p b n l' A' (G ++ K)) (hk : Kept (G ++ K) w w') : SQ w0 w' p b ix n l' A' T K ∧ Kept K w w' := by
  obtain ⟨x', h1, h2, h3, h4⟩ := hl
  obtain ⟨F', f1, f2⟩ := h1.foot
  have ho := h1.old
  refine ⟨⟨x', F', G, h1.below, f1, h2, h3, h4, h.fx.keep (fun k q => ⟨hk k (by simp [q]), ho k (by simp [q])⟩), fun k q => ?_, h.dG, fun k q => ho k (by simp [q])⟩, fun k q => hk k (by simp [q])⟩
  have := f2 k q
  simpa using this
theorem SP.turnX (h : SP w0 w p b ix n x F G l A T K) (hx : HX w0 w' ix T' (F ++ K)) (hk : KeptX (F ++ K) w w') : SQ w0 w' p b ix n l A T' K ∧ Kept K w w' := by
  obtain ⟨G', f1, f2⟩ := hx.foot
  have ho := hx.old
  refine ⟨⟨x, F, G', hx.below, h.fh.keep (fun k q => ⟨hk k (by simp [q]), ho k (by simp [q])⟩), h.lok, h.xn, h.al, f1, fun k q => ⟨fun q2 => ?_, (h.dF k q).2⟩, fun k q q2 => ?_, fun k q => ho k (by simp [q])⟩, fun k q => hk k (by simp [q])⟩
  · exact f2 k q2 (by simp [q])
  · exact f2 k q (by simp [q2])
theorem SQ.ap_ (h : SQ w0 w p b ix n l A T K) : (∀ t, t < n → (l t).Nodup) ∧ (∀ t u i, t < n → u < n → i ∈ l t → i ∈ l u → t = u) ∧ (∀ t i, t < n → i ∈ l t → A.tk i = true) ∧ 1 ≤ n ∧ n ≤ 8 := by
  obtain ⟨x, F, G, h⟩ := h
  exact ⟨fun _ ht => h.hl.nodup ht, fun _ _ _ ht hu hi hi' => h.hl.apart ht hu hi hi', fun _ _ ht hi => h.hl.taken ht hi, h.hl.num⟩
theorem sq_get (h : SQ w0 w p b ix n l A T K) (hn : T.n ≤ 100000) (k : Nat) (hk : k < 18446744073709551616) :
    Calls Try.prog 52 #[ptr ix, .int .u64 (k : Nat)] w fun e w' => e = .returned (.tuple #[.int .i32 (T.get k).1, .bool (T.get k).2]) ∧ Below w.heap.size w w' := by
  obtain ⟨x, F, G, h⟩ := h
  exact hx_get h.hx hn k hk
theorem sq_slots (h : SQ w0 w p b ix n l A T K) :
    Calls Try.prog 48 #[ptr ix] w fun e w' => e = .returned (.int .i64 (T.n : Nat)) ∧ w = w' := by
  obtain ⟨x, F, G, h⟩ := h
  exact hx_slots h.hx
theorem sq_nodes (h : SQ w0 w p b ix n l A T K) :
    Calls Try.prog 47 #[ptr b] w fun e w' => e = .returned (.int .i64 (A.n : Nat)) ∧ w = w' := by
  obtain ⟨x, F, G, h⟩ := h
  obtain ⟨e, h1, _⟩ := h.heldl.mem
  have := held_len h1
  rw [h.al.n] at this
  exact this
theorem sq_tag (h : SQ w0 w p b ix n l A T K) (i : Int) (h32 : i ≤ 2147483647) :
    Calls Try.prog 53 #[ptr p, .int .i32 i] w fun e w' => e = .returned (.int .i64 (tagI n l i)) ∧ Below w.heap.size w w' := by
  obtain ⟨x, F, G, h⟩ := h
  exact hl_tag h.hl i h32
theorem sq_back (h : SQ w0 w p b ix n l A T K) (tag : Int) :
    Calls Try.prog 71 #[ptr p, .int .i64 tag] w fun e w' => e = .returned (.int .i32 (backL n l tag)) ∧ w = w' := by
  obtain ⟨x, F, G, h⟩ := h
  exact hl_back h.hl tag
theorem sq_len (h : SQ w0 w p b ix n l A T K) (tag : Int) :
    Calls Try.prog 59 #[ptr p, .int .i64 tag] w fun e w' => e = .returned (.int .i64 (lenL n l tag)) ∧ w = w' := by
  obtain ⟨x, F, G, h⟩ := h
  exact hl_len h.hl tag
theorem sq_all (h : SQ w0 w p b ix n l A T K) (tag : Int) :
    Calls Try.prog 50 #[ptr p, .int .i64 tag] w fun e W' => ∃ v, e = .returned v ∧ W'.ownsRow w.heap.size 21 1 v (allL n l tag).length (slots (allL n l tag)) ∧ Below w.heap.size w W' := by
  obtain ⟨x, F, G, h⟩ := h
  exact all_walk h.hl tag
theorem SQ.allLen (h : SQ w0 w p b ix n l A T K) (tag : Int) : (allL n l tag).length ≤ 1000000 := by
  obtain ⟨x, F, G, h⟩ := h
  exact h.hl.allLen tag
def SQy (w0 w : World) (p b ix n : Nat) (l : Nat → List Nat) (A : St) (T : Tb) (K : List Nat) (i : Int) (y : Nd) : Prop := ∃ x F G, SP w0 w p b ix n x F G l A T K ∧ x.st.at_ i = y
theorem SQy.other {i : Int} {y : Nd} (h : SQy w0 w p b ix n l A T K i y) (hb : Below w.heap.size w w') (hk : ∀ k ∈ K', (k ∈ K ∨ w.heap.size ≤ k) ∧ k < w'.heap.size) : SQy w0 w' p b ix n l A T K' i y := by
  obtain ⟨x, F, G, h, hy⟩ := h
  exact ⟨x, F, G, h.other hb hk, hy⟩
theorem SQy.node {i : Int} {y : Nd} (h : SQy w0 w p b ix n l A T K i y) : y.key = (A.at_ i).key ∧ y.val = (A.at_ i).val ∧ y.flag = (A.at_ i).flag := by
  obtain ⟨x, F, G, h, rfl⟩ := h
  unfold St.at_
  rw [h.al.is]
  split
  · exact h.al.rest _
  · exact ⟨rfl, rfl, rfl⟩
theorem sq_at (h : SQ w0 w p b ix n l A T K) (i : Int) (h32 : i ≤ 2147483647) :
    Calls Try.prog 51 #[ptr b, .int .i32 i] w fun e w' => ∃ y, e = .returned y.v ∧ SQy w0 w p b ix n l A T K i y ∧ Below w.heap.size w w' := by
  obtain ⟨x, F, G, h⟩ := h
  exact (heldl_at h.heldl i h32).mono fun e w' ⟨he, hb⟩ => ⟨_, he, ⟨x, F, G, h, rfl⟩, hb⟩
theorem SP.still (h : SP w0 w p b ix n x F G l A T K) (hb : Below w.heap.size w w') : SP w0 w' p b ix n x F G l A T K :=
  h.other hb (fun k hk => ⟨.inl hk, Nat.lt_of_lt_of_le (h.dK k hk) hb.size⟩)
theorem sp_at (h : SP w0 w p b ix n x F G l A T K) (i : Int) (h32 : i ≤ 2147483647) :
    Calls Try.prog 51 #[ptr b, .int .i32 i] w fun e w' => e = .returned (x.st.at_ i).v ∧ Below w.heap.size w w' := heldl_at h.heldl i h32
theorem sq_put (h : SQ w0 w p b ix n l A T K) (hn : T.n ≤ 100000) (k : Nat) (hk : k < 18446744073709551616) (v : Int) :
    Calls Try.prog 88 #[ptr ix, .int .u64 (k : Nat), .int .i32 v] w fun e w' => e = .returned (.tuple #[]) ∧ SQ w0 w' p b ix n l A (T.put k v) K ∧ Kept K w w' := by
  obtain ⟨x, F, G, h⟩ := h
  exact (hx_put h.hx hn k hk v).mono fun e w' ⟨he, h1, h2⟩ => ⟨he, h.turnX h1 h2⟩
theorem sq_del (h : SQ w0 w p b ix n l A T K) (hn : T.n ≤ 100000) (k : Nat) (hk : k < 18446744073709551616) :
    Calls Try.prog 68 #[ptr ix, .int .u64 (k : Nat)] w fun e w' => e = .returned (.bool (T.there k)) ∧ SQ w0 w' p b ix n l A (T.del k) K ∧ Kept K w w' := by
  obtain ⟨x, F, G, h⟩ := h
  exact (hx_del h.hx hn k hk).mono fun e w' ⟨he, h1, h2⟩ => ⟨he, h.turnX h1 h2⟩
theorem sq_pushFront (h : SQ w0 w p b ix n l A T K) (tag i : Int) (h32 : i ≤ 2147483647) :
    Calls Try.prog 80 #[ptr p, .int .i64 tag, .int .i32 i] w fun e w' => e = .returned (.bool (pushOk n l A tag i)) ∧ SQ w0 w' p b ix n (pushL true n l A tag i) A T K ∧ Kept K w w' := by
  obtain ⟨x, F, G, h⟩ := h
  exact (hl_pushFront h.hl tag i h32).mono fun e w' ⟨he, h1, h2⟩ => ⟨he, h.turnL h1 h2⟩
theorem sq_remove (h : SQ w0 w p b ix n l A T K) (i : Int) (h32 : i ≤ 2147483647) :
    Calls Try.prog 66 #[ptr p, .int .i32 i] w fun e w' => e = .returned (.bool (decide (0 ≤ tagI n l i))) ∧ SQ w0 w' p b ix n (remL n l i) A T K ∧ Kept K w w' := by
  obtain ⟨x, F, G, h⟩ := h
  exact (hl_remove h.hl i h32).mono fun e w' ⟨he, h1, h2⟩ => ⟨he, h.turnL h1 h2⟩
theorem sq_moveFront (h : SQ w0 w p b ix n l A T K) (tag i : Int) (h32 : i ≤ 2147483647) :
    Calls Try.prog 72 #[ptr p, .int .i64 tag, .int .i32 i] w fun e w' => e = .returned (.bool (moveOk n l tag i)) ∧ SQ w0 w' p b ix n (moveL n l tag i) A T K ∧ Kept K w w' := by
  obtain ⟨x, F, G, h⟩ := h
  exact (hl_moveFront h.hl tag i h32).mono fun e w' ⟨he, h1, h2⟩ => ⟨he, h.turnL h1 h2⟩
end
theorem LOk.like {x x' : LSt} {l : Nat → List Nat} (h : LOk x l) (hn : x'.n = x.n) (he : x'.en = x.en) (hl : ∀ j, (x'.st.node j).tag = (x.st.node j).tag ∧ (x'.st.node j).prev = (x.st.node j).prev ∧ (x'.st.node j).next = (x.st.node j).next) (ht : ∀ t, t < x.n → ∀ i ∈ l t, x'.st.tk i = true) : LOk x' l := by
  have e1 : x'.tg = x.tg := funext fun j => (hl j).1
  have e2 : x'.nx = x.nx := funext fun t => funext fun j => by unfold LSt.nx; rw [he, (hl j).2.2]
  have e3 : x'.pv = x.pv := funext fun t => funext fun j => by unfold LSt.pv; rw [he, (hl j).2.1]
  refine ⟨fun t q => ht t (by omega), fun t q => h.nodup t (by omega), fun t q i hi => ?_, fun i hi q => ?_, fun t q => ?_, fun t q => by rw [he]; exact h.count t (by omega)⟩
  · rw [e1]; exact h.tag t (by omega) i hi
  · have := h.none i hi (fun t ht => q t (by omega))
    rw [e1, (hl i).2.1, (hl i).2.2]
    exact this
  · rw [e2, e3]; exact h.seg t (by omega)
theorem Alike.next {A B : St} (h : Alike A B) : A.next = B.next := by
  unfold St.next
  have e := h.freed
  have e2 := h.used
  cases A; cases B
  simp only at e e2
  subst e e2
  rfl
theorem alloc_node' (A : St) : A.alloc.node = A.node := by unfold St.alloc; split <;> rfl
theorem Alike.alloc {A B : St} (h : Alike A B) : Alike A.alloc B.alloc := by
  refine ⟨?_, ?_, ?_, fun j => by rw [alloc_node', alloc_node']; exact h.rest j⟩
  · unfold St.alloc; rw [h.freed, h.used, h.n]; split <;> rfl
  · unfold St.alloc; rw [h.freed, h.used, h.n]; split <;> rfl
  · unfold St.alloc; rw [h.freed, h.used, h.n]; split <;> rfl
theorem Alike.set {A B : St} (h : Alike A B) (i : Nat) (y : Nd) : Alike (A.set i y) (B.set i y) :=
  ⟨h.n, h.used, h.freed, fun j => by
    show ((upd A.node i y) j).key = ((upd B.node i y) j).key ∧ ((upd A.node i y) j).val = ((upd B.node i y) j).val ∧ ((upd A.node i y) j).flag = ((upd B.node i y) j).flag
    by_cases e : j = i
    · subst e; rw [upd_same, upd_same]; exact ⟨rfl, rfl, rfl⟩
    · rw [upd_other _ _ _ e, upd_other _ _ _ e]; exact h.rest j⟩
theorem Alike.free {A B : St} (h : Alike A B) (i : Nat) : Alike (A.free i) (B.free i) :=
  ⟨h.n, h.used, by show A.freed ++ [i] = B.freed ++ [i]; rw [h.freed], fun j => by
    show ((upd A.node i Nd.zero) j).key = ((upd B.node i Nd.zero) j).key ∧ ((upd A.node i Nd.zero) j).val = ((upd B.node i Nd.zero) j).val ∧ ((upd A.node i Nd.zero) j).flag = ((upd B.node i Nd.zero) j).flag
    by_cases e : j = i
    · subst e; rw [upd_same, upd_same]; exact ⟨rfl, rfl, rfl⟩
    · rw [upd_other _ _ _ e, upd_other _ _ _ e]; exact h.rest j⟩
section
variable {w0 w w' : World} {p b ix n : Nat} {l : Nat → List Nat} {A : St} {T : Tb} {K : List Nat}
theorem sq_alloc (h : SQ w0 w p b ix n l A T K) (hn : A.n ≤ 400000) :
    Calls Try.prog 87 #[ptr b] w fun e w' => e = .returned (.int .i32 A.next) ∧ SQ w0 w' p b ix n l A.alloc T K ∧ Kept K w w' := by
  obtain ⟨x, F, G, h⟩ := h
  have hh := h.heldl
  obtain ⟨e, h1, h2, h3, h4, h5, h6, h7, h8⟩ := hh.mem
  refine (held_alloc h1 hh.small).mono ?_
  rintro e' w' ⟨rfl, g1, g2⟩
  rw [h.al.next]
  have hxn : x.st.n ≤ 400000 := by rw [h.al.n]; exact hn
  have hal : x.st.alloc.n ≤ 1000000 := by
    unfold St.alloc
    split
    · show x.st.n ≤ _; omega
    · show (if x.st.used + 1 = x.st.n then 2 * x.st.n else x.st.n) ≤ _
      split <;> omega
  have hh' : HeldL w0 w' p b { x with st := x.st.alloc } (G ++ K) := ⟨hal, hh.one, hh.eight, e, g1, h2, h3, h4, h5, h6, (g2 p (by simp)).trans h7, h8.of_block (g2 e (by simp))⟩
  refine ⟨rfl, h.turnL ⟨_, hh', ?_, h.xn, h.al.alloc⟩ (fun k hk => g2 k (by simp at hk ⊢; exact .inr (.inr hk)))⟩
  refine h.lok.like rfl rfl (fun j => by show (x.st.alloc.node j).tag = _ ∧ (x.st.alloc.node j).prev = _ ∧ (x.st.alloc.node j).next = _; rw [alloc_node']; exact ⟨rfl, rfl, rfl⟩) (fun t ht i hi => ?_)
  show x.st.alloc.tk i = true
  rw [alloc_tk hh.ok]
  unfold upd
  split
  · rfl
  · exact h.lok.taken t ht i hi
theorem sq_lay (h : SQ w0 w p b ix n l A T K) (i : Nat) (hi : A.tk i = true) (hout : ∀ t, t < n → i ∉ l t) (k : Nat) :
    Calls Try.prog 82 #[ptr b, .int .i32 i, (⟨k, 0, 0, 0, 0, 0⟩ : Nd).v] w fun e w' => e = .returned (.bool true) ∧ SQ w0 w' p b ix n l (A.set i ⟨k, 0, 0, 0, 0, 0⟩) T K ∧ Kept K w w' := by
  obtain ⟨x, F, G, h⟩ := h
  have hi' : x.st.tk i = true := by rw [h.al.tk]; exact hi
  refine (heldl_set h.heldl i hi' ⟨k, 0, 0, 0, 0, 0⟩).mono ?_
  rintro e w' ⟨rfl, g1, g2⟩
  have h0 := tk_bounds hi
  obtain ⟨n1, n2, n3⟩ := h.lok.none i (by omega) (fun t ht => hout t (by rw [← h.xn]; exact ht))
  refine ⟨rfl, h.turnL ⟨_, g1, h.lok.like rfl rfl (fun j => ?_) (fun t ht j hj => h.lok.taken t ht j hj), h.xn, h.al.set i _⟩ g2⟩
  show ((upd x.st.node i (⟨k, 0, 0, 0, 0, 0⟩ : Nd)) j).tag = _ ∧ ((upd x.st.node i (⟨k, 0, 0, 0, 0, 0⟩ : Nd)) j).prev = _ ∧ ((upd x.st.node i (⟨k, 0, 0, 0, 0, 0⟩ : Nd)) j).next = _
  by_cases e : j = i
  · subst e
    rw [upd_same]
    exact ⟨n1.symm, n2.symm, n3.symm⟩
  · rw [upd_other _ _ _ e]
    exact ⟨rfl, rfl, rfl⟩
theorem sq_free (h : SQ w0 w p b ix n l A T K) (i : Nat) (hi : A.tk i = true) (hout : ∀ t, t < n → i ∉ l t) :
    Calls Try.prog 67 #[ptr b, .int .i32 i] w fun e w' => e = .returned (.bool true) ∧ SQ w0 w' p b ix n l (A.free i) T K ∧ Kept K w w' := by
  obtain ⟨x, F, G, h⟩ := h
  have hi' : x.st.tk i = true := by rw [h.al.tk]; exact hi
  have hh := h.heldl
  have h0 := tk_bounds hi'
  have his : x.st.is i = true := by unfold St.is; rw [decide_eq_true (by omega)]; simpa using hi'
  have hsm := hh.small
  have hroom := hh.ok.room
  obtain ⟨e, h1, h2, h3, h4, h5, h6, h7, h8⟩ := hh.mem
  have hc := held_free h1 hh.small (i : Nat) (by omega)
  refine hc.mono ?_
  rintro e' w' ⟨rfl, g1, g2⟩
  rw [his]
  have e1 : x.st.freeI i = x.st.free i := by unfold St.freeI; rw [his]; rfl
  rw [e1] at g1
  obtain ⟨n1, n2, n3⟩ := h.lok.none i (by omega) (fun t ht => hout t (by rw [← h.xn]; exact ht))
  have hh' : HeldL w0 w' p b { x with st := x.st.free i } (G ++ K) := ⟨hsm, hh.one, hh.eight, e, g1, h2, h3, h4, h5, h6, (g2 p (by simp)).trans h7, h8.of_block (g2 e (by simp))⟩
  refine ⟨rfl, h.turnL ⟨_, hh', h.lok.like rfl rfl (fun j => ?_) (fun t ht j hj => ?_), h.xn, h.al.free i⟩ (fun k hk => g2 k (by simp at hk ⊢; exact .inr (.inr hk)))⟩
  · show ((upd x.st.node i Nd.zero) j).tag = _ ∧ ((upd x.st.node i Nd.zero) j).prev = _ ∧ ((upd x.st.node i Nd.zero) j).next = _
    by_cases e : j = i
    · subst e
      rw [upd_same]
      exact ⟨n1.symm, n2.symm, n3.symm⟩
    · rw [upd_other _ _ _ e]
      exact ⟨rfl, rfl, rfl⟩
  · show (x.st.free i).tk j = true
    rw [free_tk]
    have hne : j ≠ i := fun e => hout t (by rw [← h.xn]; exact ht) (by rw [← e]; exact hj)
    rw [upd_other _ _ _ hne]
    exact h.lok.taken t ht j hj
def setV (flag : Bool) (y : Nd) (v : Int) : Nd := if flag then { y with flag := v } else { y with val := v }
def St.setVI (A : St) (i : Int) (y : Nd) : St := if A.is i then A.set i.toNat y else A
end
theorem q4_at {w : World} {g : Nat} {t : TypeId} {a0 a1 a2 a3 : Value} (h : w.heap[g]? = some (.cells #[a0, a1, a2, a3] t (0, 0))) :
    (w.cell? ⟨g, 0, none⟩ = some a0 ∧ w.cell? ⟨g, 1, none⟩ = some a1 ∧ w.cell? ⟨g, 2, none⟩ = some a2 ∧ w.cell? ⟨g, 3, none⟩ = some a3) ∧ w.frozen? ⟨g, 0, none⟩ = false ∧ w.frozen? ⟨g, 1, none⟩ = false ∧ w.frozen? ⟨g, 2, none⟩ = false ∧ w.frozen? ⟨g, 3, none⟩ = false :=
  ⟨⟨(head_row h).cell (i := 0) (by simp), (head_row h).cell (i := 1) (by simp), (head_row h).cell (i := 2) (by simp), (head_row h).cell (i := 3) (by simp)⟩, (head_row h).frozen 0, (head_row h).frozen 1, (head_row h).frozen 2, (head_row h).frozen 3⟩
theorem q6_heap {w1 : World} {g : Nat} {t : TypeId} {a0 a1 a2 a3 a4 a5 : Value} (hB : w1.heap[g]? = some (.cells #[a0, a1, a2, a3, a4, a5] t (0, 0))) (b0 b1 b2 b3 b4 b5 : Value) :
    ((((((w1.setCell ⟨g, 0, none⟩ b0).setCell ⟨g, 1, none⟩ b1).setCell ⟨g, 2, none⟩ b2).setCell ⟨g, 3, none⟩ b3).setCell ⟨g, 4, none⟩ b4).setCell ⟨g, 5, none⟩ b5).heap[g]? = some (.cells #[b0, b1, b2, b3, b4, b5] t (0, 0)) ∧ Only [g] w1 ((((((w1.setCell ⟨g, 0, none⟩ b0).setCell ⟨g, 1, none⟩ b1).setCell ⟨g, 2, none⟩ b2).setCell ⟨g, 3, none⟩ b3).setCell ⟨g, 4, none⟩ b4).setCell ⟨g, 5, none⟩ b5) :=
  ⟨by simp [World.setCell, Array.getElem?_modify, hB], ((((((Only.refl [g] w1).setCell (by simp) _).setCell (by simp) _).setCell (by simp) _).setCell (by simp) _).setCell (by simp) _).setCell (by simp) _⟩
theorem q6_at {w : World} {g : Nat} {t : TypeId} {a0 a1 a2 a3 a4 a5 : Value} (h : w.heap[g]? = some (.cells #[a0, a1, a2, a3, a4, a5] t (0, 0))) :
    (w.cell? ⟨g, 0, none⟩ = some a0 ∧ w.cell? ⟨g, 1, none⟩ = some a1 ∧ w.cell? ⟨g, 2, none⟩ = some a2 ∧ w.cell? ⟨g, 3, none⟩ = some a3 ∧ w.cell? ⟨g, 4, none⟩ = some a4 ∧ w.cell? ⟨g, 5, none⟩ = some a5) ∧ w.frozen? ⟨g, 0, none⟩ = false ∧ w.frozen? ⟨g, 1, none⟩ = false ∧ w.frozen? ⟨g, 2, none⟩ = false ∧ w.frozen? ⟨g, 3, none⟩ = false ∧ w.frozen? ⟨g, 4, none⟩ = false ∧ w.frozen? ⟨g, 5, none⟩ = false :=
  ⟨⟨(head_row h).cell (i := 0) (by simp), (head_row h).cell (i := 1) (by simp), (head_row h).cell (i := 2) (by simp), (head_row h).cell (i := 3) (by simp), (head_row h).cell (i := 4) (by simp), (head_row h).cell (i := 5) (by simp)⟩, (head_row h).frozen 0, (head_row h).frozen 1, (head_row h).frozen 2, (head_row h).frozen 3, (head_row h).frozen 4, (head_row h).frozen 5⟩
abbrev partsC (p n b ix : Nat) : Array Value := #[ptr p, .int .i64 (n : Nat), ptr b, ptr ix]
abbrev partsN : Array Value := #[.pointer none, .int .i64 0, .pointer none, .pointer none]
abbrev partsT : TypeId := 72
theorem open_walk {w : World} {sp p n b ix : Nat} (h : w.heap[sp]? = some (.cells (partsC p n b ix) 74 (0, 0))) :
    Calls Try.prog 46 #[ptr sp] w fun e w' => e = .returned (.agg (partsC p n b ix)) ∧ Below w.heap.size w w' := by
  obtain ⟨⟨c0, c1, c2, c3⟩, _⟩ := q4_at h
  have hsp : sp < w.heap.size := (head_row h).lt
  clear h
  go_enter Try.func46, Try.ntmps46
  go_wp2_with fail
  exact bodyPost_ret (v := .agg (partsC p n b ix)) (by simp [results, Try.results46, go_sem]) rfl ⟨rfl, (Below.refl w.heap.size w).alloc (Nat.le_refl _) _⟩
theorem open_nil (w : World) :
    Calls Try.prog 46 #[.pointer none] w fun e w' => e = .returned (.agg partsN) ∧ Below w.heap.size w w' := by
  go_enter Try.func46, Try.ntmps46
  go_wp2_with fail
  exact bodyPost_ret (v := .agg partsN) (by simp [results, Try.results46, go_sem]) rfl ⟨rfl, (Below.refl w.heap.size w).alloc (Nat.le_refl _) _⟩
abbrev zero6 : Array Value := #[.int .u64 0, .int .u64 0, .int .i64 0, .int .i64 0, .int .i32 0, .int .i32 0]
abbrev ndC (y : Nd) : Array Value := #[.int .u64 y.key, .int .u64 y.val, .int .i64 y.flag, .int .i64 y.tag, .int .i32 y.prev, .int .i32 y.next]
section
variable {w0 w : World} {p b ix n : Nat} {l : Nat → List Nat} {A : St} {T : Tb} {K : List Nat}
def FindPost (w0 w : World) (p b ix n : Nat) (l : Nat → List Nat) (A : St) (T : Tb) (K : List Nat) (i : Int) (e : Ending) (w' : World) : Prop :=
  ∃ y : Nd, e = .returned (.tuple #[.int .i32 i, .agg (ndC y)]) ∧ SQy w0 w' p b ix n l A T K i y ∧ Below w.heap.size w w'
set_option maxHeartbeats 1000000 in
theorem find_walk (h : SQ w0 w p b ix n l A T K) (hn : T.n ≤ 100000) (k : Nat) (hk : k < 18446744073709551616) (h32 : (T.get k).1 ≤ 2147483647) :
    Calls Try.prog 65 #[.agg (partsC p n b ix), .int .u64 (k : Nat)] w (FindPost w0 w p b ix n l A T K (T.get k).1) := by
  have hb2 := ((Below.refl w.heap.size w).alloc (Nat.le_refl _) (.cells (partsC p n b ix) 72)).alloc (by simp) (.cells zero6 84)
  have HG := Lib.hid (sq_get (h.still hb2).1 hn k hk)
  obtain ⟨x, F, G, hsp⟩ := h
  have HS := Lib.hid hsp
  obtain ⟨i, hi⟩ : ∃ i, (T.get k).1 = i := ⟨_, rfl⟩
  obtain ⟨ok, hok⟩ : ∃ ok, (T.get k).2 = ok := ⟨_, rfl⟩
  rw [hi] at h32 ⊢
  rw [hi, hok] at HG
  clear hsp hb2 hi hok
  go_enter Try.func65, Try.ntmps65
  go_wp2_with fail
  refine HG.out.mono ?_
  rintro e w1 ⟨rfl, hb⟩
  obtain ⟨hb1, hs1, hB0, hB1⟩ := two_blocks hb
  obtain ⟨⟨c0, c1, c2, c3⟩, _⟩ := q4_at hB0
  have HB1 := Lib.hid hb1
  have HH1 := Lib.hid hB1
  have HA := Lib.hid (sp_at (HS.out.still hb1) i h32)
  obtain ⟨y, hy⟩ : ∃ y, x.st.at_ i = y := ⟨_, rfl⟩
  have HY := Lib.hid hy
  rw [hy] at HA
  clear hy
  clear hb hb1 hB0 hB1 HG
  go_wp2_with fail
  refine HA.out.mono ?_
  rintro e w2 ⟨rfl, hb2⟩
  have hB2 := (hb2.block _ hs1).trans HH1.out
  have HT := Lib.hid (q6_heap hB2 (.int .u64 y.key) (.int .u64 y.val) (.int .i64 y.flag) (.int .i64 y.tag) (.int .i32 y.prev) (.int .i32 y.next))
  have HB2 := Lib.hid hb2
  obtain ⟨_, z0, z1, z2, z3, z4, z5⟩ := q6_at hB2
  clear hB2 hb2 c0 c1 c2 c3 HA
  go_wp2_with fail
  obtain ⟨t1, o1⟩ := HT.out
  generalize (((((w2.setCell ⟨w.heap.size + 1, 0, none⟩ (.int .u64 y.key)).setCell ⟨w.heap.size + 1, 1, none⟩ (.int .u64 y.val)).setCell ⟨w.heap.size + 1, 2, none⟩ (.int .i64 y.flag)).setCell ⟨w.heap.size + 1, 3, none⟩ (.int .i64 y.tag)).setCell ⟨w.heap.size + 1, 4, none⟩ (.int .i32 y.prev)).setCell ⟨w.heap.size + 1, 5, none⟩ (.int .i32 y.next) = V at t1 o1 ⊢
  obtain ⟨⟨v0, v1, v2, v3, v4, v5⟩, _⟩ := q6_at t1
  have hV : Below w.heap.size w V := (HB1.out.trans (HB2.out.mono HB1.out.size)).trans (o1.below (B := w.heap.size) (by simp) (Nat.le_trans HB1.out.size HB2.out.size))
  exact bodyPost_ret (v := .tuple #[.int .i32 i, .agg (ndC y)]) (by simp [results, Try.results65, go_sem, v0, v1, v2, v3, v4, v5]) rfl ⟨y, rfl, ⟨x, F, G, HS.out.still hV, HY.out⟩, hV⟩
theorem keyIn_walk (h : SQ w0 w p b ix n l A T K) (i : Int) (h32 : i ≤ 2147483647) :
    Calls Try.prog 70 #[.agg (partsC p n b ix), .int .i32 i] w fun e w' => e = .returned (.tuple #[.int .u64 (A.at_ i).key, .bool (!decide (i = 0))]) ∧ Below w.heap.size w w' := by
  have hb2 := ((Below.refl w.heap.size w).alloc (Nat.le_refl _) (.cells (partsC p n b ix) 72))
  have HA := Lib.hid (sq_at (h.still hb2).1 i h32)
  have HB := Lib.hid hb2
  clear h hb2
  have hfld : ∀ (y : Nd) (w : World), (Instr.field 84 y.v 0).run Try.prog w = .ok (.int .u64 y.key) w := fun _ _ => by kernel_rfl
  obtain ⟨z, hz⟩ : ∃ z, (A.at_ i).key = z := ⟨_, rfl⟩
  have HZ := Lib.hid hz
  rw [hz]
  clear hz
  obtain ⟨d, hd⟩ : ∃ d, (!decide (i = 0)) = d := ⟨_, rfl⟩
  have HD := Lib.hid hd
  rw [hd]
  clear hd
  go_enter Try.func70, Try.ntmps70
  go_wp2_with fail
  refine HA.out.mono ?_
  rintro e w1 ⟨y, rfl, hy, hb⟩
  have HY := Lib.hid hy
  clear hy
  go_wp2
  exact bodyPost_ret (v := .tuple #[.int .u64 y.key, .bool (i != 0)]) (by simp [results, Try.results70, go_sem]) rfl ⟨by rw [← HZ.out, ← HD.out, HY.out.node.1]; rfl, HB.out.trans (hb.mono HB.out.size)⟩
end
end Go.Proofs.Ytkhikpnlpcankaa
