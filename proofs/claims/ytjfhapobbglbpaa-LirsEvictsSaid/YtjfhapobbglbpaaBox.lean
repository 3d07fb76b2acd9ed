/- Boxes of a few cells: what they hold, and stores into them; lists of keys beside them. -/
import Derived.Test.YtjfhapobbglbpaaSqO
namespace Go.Proofs.Ytjfhapobbglbpaa
open Go Go.RowKit Go.Deep

section
variable {w w1 : World} {g : Nat} {t : TypeId}
theorem set_one {c : Array Value} {i : Nat} {v : Value} (h : w.heap[g]? = some (.cells c t (0, 0))) : (w.setCell ⟨g, i, none⟩ v).heap[g]? = some (.cells (c.setIfInBounds i v) t (0, 0)) := by
  simp [World.setCell, Array.getElem?_modify, h]

theorem c2_at {a0 a1 : Value} (h : w.heap[g]? = some (.cells #[a0, a1] t (0, 0))) :
    (w.cell? ⟨g, 0, none⟩ = some a0 ∧ w.cell? ⟨g, 1, none⟩ = some a1) ∧ w.frozen? ⟨g, 0, none⟩ = false ∧ w.frozen? ⟨g, 1, none⟩ = false :=
  ⟨⟨(head_row h).cell (i := 0) (by simp), (head_row h).cell (i := 1) (by simp)⟩, (head_row h).frozen 0, (head_row h).frozen 1⟩

theorem c2_set {a0 a1 : Value} (h : w.heap[g]? = some (.cells #[a0, a1] t (0, 0))) (b0 b1 : Value) :
    ((w.setCell ⟨g, 0, none⟩ b0).setCell ⟨g, 1, none⟩ b1).heap[g]? = some (.cells #[b0, b1] t (0, 0)) ∧ Only [g] w ((w.setCell ⟨g, 0, none⟩ b0).setCell ⟨g, 1, none⟩ b1) :=
  ⟨set_one (set_one h), ((Only.refl [g] w).setCell (by simp) _).setCell (by simp) _⟩

theorem c3_at {a0 a1 a2 : Value} (h : w.heap[g]? = some (.cells #[a0, a1, a2] t (0, 0))) :
    (w.cell? ⟨g, 0, none⟩ = some a0 ∧ w.cell? ⟨g, 1, none⟩ = some a1 ∧ w.cell? ⟨g, 2, none⟩ = some a2) ∧ w.frozen? ⟨g, 0, none⟩ = false ∧ w.frozen? ⟨g, 1, none⟩ = false ∧ w.frozen? ⟨g, 2, none⟩ = false :=
  ⟨⟨(head_row h).cell (i := 0) (by simp), (head_row h).cell (i := 1) (by simp), (head_row h).cell (i := 2) (by simp)⟩, (head_row h).frozen 0, (head_row h).frozen 1, (head_row h).frozen 2⟩

theorem c3_set {a0 a1 a2 : Value} (h : w.heap[g]? = some (.cells #[a0, a1, a2] t (0, 0))) (b0 b1 b2 : Value) :
    (((w.setCell ⟨g, 0, none⟩ b0).setCell ⟨g, 1, none⟩ b1).setCell ⟨g, 2, none⟩ b2).heap[g]? = some (.cells #[b0, b1, b2] t (0, 0)) ∧ Only [g] w (((w.setCell ⟨g, 0, none⟩ b0).setCell ⟨g, 1, none⟩ b1).setCell ⟨g, 2, none⟩ b2) :=
  ⟨set_one (set_one (set_one h)), (((Only.refl [g] w).setCell (by simp) _).setCell (by simp) _).setCell (by simp) _⟩

theorem c4_at {a0 a1 a2 a3 : Value} (h : w.heap[g]? = some (.cells #[a0, a1, a2, a3] t (0, 0))) :
    (w.cell? ⟨g, 0, none⟩ = some a0 ∧ w.cell? ⟨g, 1, none⟩ = some a1 ∧ w.cell? ⟨g, 2, none⟩ = some a2 ∧ w.cell? ⟨g, 3, none⟩ = some a3) ∧ w.frozen? ⟨g, 0, none⟩ = false ∧ w.frozen? ⟨g, 1, none⟩ = false ∧ w.frozen? ⟨g, 2, none⟩ = false ∧ w.frozen? ⟨g, 3, none⟩ = false :=
  ⟨⟨(head_row h).cell (i := 0) (by simp), (head_row h).cell (i := 1) (by simp), (head_row h).cell (i := 2) (by simp), (head_row h).cell (i := 3) (by simp)⟩, (head_row h).frozen 0, (head_row h).frozen 1, (head_row h).frozen 2, (head_row h).frozen 3⟩

theorem c4_set {a0 a1 a2 a3 : Value} (h : w.heap[g]? = some (.cells #[a0, a1, a2, a3] t (0, 0))) (b0 b1 b2 b3 : Value) :
    ((((w.setCell ⟨g, 0, none⟩ b0).setCell ⟨g, 1, none⟩ b1).setCell ⟨g, 2, none⟩ b2).setCell ⟨g, 3, none⟩ b3).heap[g]? = some (.cells #[b0, b1, b2, b3] t (0, 0)) ∧ Only [g] w ((((w.setCell ⟨g, 0, none⟩ b0).setCell ⟨g, 1, none⟩ b1).setCell ⟨g, 2, none⟩ b2).setCell ⟨g, 3, none⟩ b3) :=
  ⟨set_one (set_one (set_one (set_one h))), ((((Only.refl [g] w).setCell (by simp) _).setCell (by simp) _).setCell (by simp) _).setCell (by simp) _⟩

theorem c5_at {a0 a1 a2 a3 a4 : Value} (h : w.heap[g]? = some (.cells #[a0, a1, a2, a3, a4] t (0, 0))) :
    (w.cell? ⟨g, 0, none⟩ = some a0 ∧ w.cell? ⟨g, 1, none⟩ = some a1 ∧ w.cell? ⟨g, 2, none⟩ = some a2 ∧ w.cell? ⟨g, 3, none⟩ = some a3 ∧ w.cell? ⟨g, 4, none⟩ = some a4) ∧ w.frozen? ⟨g, 0, none⟩ = false ∧ w.frozen? ⟨g, 1, none⟩ = false ∧ w.frozen? ⟨g, 2, none⟩ = false ∧ w.frozen? ⟨g, 3, none⟩ = false ∧ w.frozen? ⟨g, 4, none⟩ = false :=
  ⟨⟨(head_row h).cell (i := 0) (by simp), (head_row h).cell (i := 1) (by simp), (head_row h).cell (i := 2) (by simp), (head_row h).cell (i := 3) (by simp), (head_row h).cell (i := 4) (by simp)⟩, (head_row h).frozen 0, (head_row h).frozen 1, (head_row h).frozen 2, (head_row h).frozen 3, (head_row h).frozen 4⟩

theorem c5_set {a0 a1 a2 a3 a4 : Value} (h : w.heap[g]? = some (.cells #[a0, a1, a2, a3, a4] t (0, 0))) (b0 b1 b2 b3 b4 : Value) :
    (((((w.setCell ⟨g, 0, none⟩ b0).setCell ⟨g, 1, none⟩ b1).setCell ⟨g, 2, none⟩ b2).setCell ⟨g, 3, none⟩ b3).setCell ⟨g, 4, none⟩ b4).heap[g]? = some (.cells #[b0, b1, b2, b3, b4] t (0, 0)) ∧ Only [g] w (((((w.setCell ⟨g, 0, none⟩ b0).setCell ⟨g, 1, none⟩ b1).setCell ⟨g, 2, none⟩ b2).setCell ⟨g, 3, none⟩ b3).setCell ⟨g, 4, none⟩ b4) :=
  ⟨set_one (set_one (set_one (set_one (set_one h)))), (((((Only.refl [g] w).setCell (by simp) _).setCell (by simp) _).setCell (by simp) _).setCell (by simp) _).setCell (by simp) _⟩

theorem c6_at {a0 a1 a2 a3 a4 a5 : Value} (h : w.heap[g]? = some (.cells #[a0, a1, a2, a3, a4, a5] t (0, 0))) :
    (w.cell? ⟨g, 0, none⟩ = some a0 ∧ w.cell? ⟨g, 1, none⟩ = some a1 ∧ w.cell? ⟨g, 2, none⟩ = some a2 ∧ w.cell? ⟨g, 3, none⟩ = some a3 ∧ w.cell? ⟨g, 4, none⟩ = some a4 ∧ w.cell? ⟨g, 5, none⟩ = some a5) ∧ w.frozen? ⟨g, 0, none⟩ = false ∧ w.frozen? ⟨g, 1, none⟩ = false ∧ w.frozen? ⟨g, 2, none⟩ = false ∧ w.frozen? ⟨g, 3, none⟩ = false ∧ w.frozen? ⟨g, 4, none⟩ = false ∧ w.frozen? ⟨g, 5, none⟩ = false :=
  ⟨⟨(head_row h).cell (i := 0) (by simp), (head_row h).cell (i := 1) (by simp), (head_row h).cell (i := 2) (by simp), (head_row h).cell (i := 3) (by simp), (head_row h).cell (i := 4) (by simp), (head_row h).cell (i := 5) (by simp)⟩, (head_row h).frozen 0, (head_row h).frozen 1, (head_row h).frozen 2, (head_row h).frozen 3, (head_row h).frozen 4, (head_row h).frozen 5⟩

theorem c6_set {a0 a1 a2 a3 a4 a5 : Value} (h : w.heap[g]? = some (.cells #[a0, a1, a2, a3, a4, a5] t (0, 0))) (b0 b1 b2 b3 b4 b5 : Value) :
    ((((((w.setCell ⟨g, 0, none⟩ b0).setCell ⟨g, 1, none⟩ b1).setCell ⟨g, 2, none⟩ b2).setCell ⟨g, 3, none⟩ b3).setCell ⟨g, 4, none⟩ b4).setCell ⟨g, 5, none⟩ b5).heap[g]? = some (.cells #[b0, b1, b2, b3, b4, b5] t (0, 0)) ∧ Only [g] w ((((((w.setCell ⟨g, 0, none⟩ b0).setCell ⟨g, 1, none⟩ b1).setCell ⟨g, 2, none⟩ b2).setCell ⟨g, 3, none⟩ b3).setCell ⟨g, 4, none⟩ b4).setCell ⟨g, 5, none⟩ b5) :=
  ⟨set_one (set_one (set_one (set_one (set_one (set_one h))))), ((((((Only.refl [g] w).setCell (by simp) _).setCell (by simp) _).setCell (by simp) _).setCell (by simp) _).setCell (by simp) _).setCell (by simp) _⟩

end
theorem low_one (w : World) (o : Obj) : Below w.heap.size w (w.alloc o) := (Below.refl _ _).alloc (Nat.le_refl _) o
theorem low_two (w : World) (o o2 : Obj) : Below w.heap.size w ((w.alloc o).alloc o2) := (low_one w o).alloc (by simp) o2
/- A box that holds no key. -/
def isU : Value → Bool
  | .int .u64 _ => true
  | _ => false
def NoU (cs : Array Value) : Prop := cs.toList.all (fun u => !isU u) = true
theorem NoU.at_ {cs : Array Value} (h : NoU cs) {i : Nat} {k : Int} (hi : cs[i]? = some (.int .u64 k)) : False := by
  have hm : Value.int .u64 k ∈ cs.toList := by simpa using Array.mem_of_getElem? hi
  have := List.all_eq_true.1 h _ hm
  simp [isU] at this
def Bx (w : World) (g : Nat) : Prop := ∃ cs t, w.heap[g]? = some (.cells cs t (0, 0)) ∧ NoU cs ∧ t ≠ 35
section
variable {w w' : World} {v : Value} {ks : List Nat} {S : List Nat}
theorem KV.only (h : KV w v ks) (ho : Only S w w') (hS : ∀ g ∈ S, Bx w g) : KV w' v ks := by
  obtain ⟨hl, ⟨F, c, e, h1, h2, h3⟩⟩ := h
  refine ⟨hl, ⟨F, c, e, h1, h2, fun j u hu => ?_⟩⟩
  obtain ⟨ad, e2, h4, h5⟩ := h3 j u hu
  have hb : (ad.add j).block = ad.block := ad_block ad j
  refine ⟨ad, e2, Nat.lt_of_lt_of_le h4 ho.size, ?_⟩
  rw [← h5]
  refine World.cell?_of_block (w := w) ?_
  rw [hb]
  refine ho.block _ h4 (fun hm => ?_)
  obtain ⟨cs, t, hg, hn, _⟩ := hS _ hm
  obtain ⟨x, rfl⟩ : ∃ x : Nat, u = .int .u64 (x : Nat) := by
    obtain ⟨hj, hju⟩ := List.getElem?_eq_some_iff.1 hu
    exact ⟨ks[j]'(by simpa [u64L] using hj), by rw [← hju]; simp [u64L]⟩
  unfold World.cell? at h5
  rw [hb, hg] at h5
  have h6 : (if (ad.add j).spot.isSome then none else cs[(ad.add j).off]?) = some (Value.int .u64 (x : Nat)) := h5
  split at h6
  · cases h6
  · exact hn.at_ h6
theorem KO.only {B : Nat} {w0 : World} (h : KO B w0 w v ks) (ho : Only S w w') (hS : ∀ g ∈ S, Bx w g ∧ B ≤ g) (hB : B ≤ w.heap.size) : KO B w0 w' v ks := by
  refine ⟨h.low.trans (ho.below (fun g hg => (hS g hg).2) hB), h.own.1, ?_⟩
  rcases h.own.2 with q | ⟨g, cap, cur, e1, e2, e3, e4⟩
  · exact .inl q
  · refine .inr ⟨g, cap, cur, e1, e2, (ho.block g (Array.getElem?_eq_some_iff.1 e3).1 (fun hm => ?_)).trans e3, e4⟩
    obtain ⟨⟨cs, t, hg, _, ht⟩, _⟩ := hS g hm
    rw [e3] at hg
    injection hg with hg
    injection hg with _ hg
    exact ht hg.symm
theorem Bx.keep {g : Nat} (h : Bx w g) (e : w'.heap[g]? = w.heap[g]?) : Bx w' g := by
  obtain ⟨cs, t, h1, h2⟩ := h
  exact ⟨cs, t, e.trans h1, h2⟩
theorem Ks.only {w0 : World} {l : List (Value × List Nat)} (h : Ks w0 w l) (ho : Only S w w') (hS : ∀ g ∈ S, Bx w g ∧ w0.heap.size ≤ g) : Ks w0 w' l :=
  ⟨h.low.trans (ho.below (fun g hg => (hS g hg).2) h.low.size), fun p hp => (h.all p hp).only ho (fun g hg => (hS g hg).1)⟩
end

/- The two boxes of a call on a state: the argument's, and the result's. -/
structure Bo (w w1 : World) (T : TypeId) (b r : Nat) (cs zs : Array Value) : Prop where
  low : Below w.heap.size w w1
  box : w1.heap[b]? = some (.cells cs T (0, 0))
  res : w1.heap[r]? = some (.cells zs T (0, 0))
  ge : w.heap.size ≤ b ∧ w.heap.size ≤ r ∧ b ≠ r
  nu : NoU cs ∧ NoU zs
  ty : T ≠ 35
theorem Bo.start (w : World) (T : TypeId) (cs zs : Array Value) (h1 : NoU cs) (h2 : NoU zs) (hT : T ≠ 35) : Bo w ((w.alloc (.cells cs T)).alloc (.cells zs T)) T w.heap.size (w.heap.size + 1) cs zs := by
  refine ⟨low_two w _ _, ?_, ?_, ⟨by omega, by omega, by omega⟩, ⟨h1, h2⟩, hT⟩
  · rw [Below.heap_alloc _ _ _ (by simp)]
    exact heap_alloc_new w _
  · have := heap_alloc_new (w.alloc (.cells cs T)) (.cells zs T)
    simpa using this
theorem Bo.start3 (w : World) (T TA : TypeId) (cs xs zs : Array Value) (h1 : NoU cs) (h2 : NoU zs) (hT : T ≠ 35) :
    Bo w (((w.alloc (.cells cs T)).alloc (.cells xs TA)).alloc (.cells zs T)) T w.heap.size (w.heap.size + 1 + 1) cs zs ∧ (((w.alloc (.cells cs T)).alloc (.cells xs TA)).alloc (.cells zs T)).heap[w.heap.size + 1]? = some (.cells xs TA (0, 0)) := by
  refine ⟨⟨(low_two w _ _).alloc (by simp; omega) _, ?_, ?_, ⟨by omega, by omega, by omega⟩, ⟨h1, h2⟩, hT⟩, ?_⟩
  · rw [Below.heap_alloc _ _ _ (by simp; omega), Below.heap_alloc _ _ _ (by simp)]
    exact heap_alloc_new w _
  · have := heap_alloc_new ((w.alloc (.cells cs T)).alloc (.cells xs TA)) (.cells zs T)
    simpa using this
  · rw [Below.heap_alloc _ _ _ (by simp)]
    have := heap_alloc_new (w.alloc (.cells cs T)) (.cells xs TA)
    simpa using this
section
variable {w w1 w2 : World} {T : TypeId} {b r : Nat} {cs zs : Array Value} {v : Value} {ks : List Nat}
theorem Bo.step (h : Bo w w1 T b r cs zs) (hb : Below w1.heap.size w1 w2) : Bo w w2 T b r cs zs :=
  ⟨h.low.trans (hb.mono h.low.size), (hb.block b (head_row h.box).lt).trans h.box, (hb.block r (head_row h.res).lt).trans h.res, h.ge, h.nu, h.ty⟩
theorem Bo.kt (h : Bo w w1 T b r cs zs) (hk : Kt 35 w1 w2) (hlow : Below w.heap.size w w2) : Bo w w2 T b r cs zs := ⟨hlow, hk _ _ _ _ h.box h.ty, hk _ _ _ _ h.res h.ty, h.ge, h.nu, h.ty⟩
theorem Bo.fin (h : Bo w w1 T b r cs zs) (ho : Only [b, r] w1 w2) : Below w.heap.size w w2 := h.low.trans (ho.below (by simp; exact ⟨h.ge.1, h.ge.2.1⟩) h.low.size)
theorem Bo.bx (h : Bo w w1 T b r cs zs) : ∀ g ∈ [b, r], Bx w1 g ∧ w.heap.size ≤ g := fun g hg => by
  simp only [List.mem_cons, List.not_mem_nil, or_false] at hg
  rcases hg with rfl | rfl
  · exact ⟨⟨_, _, h.box, h.nu.1, h.ty⟩, h.ge.1⟩
  · exact ⟨⟨_, _, h.res, h.nu.2, h.ty⟩, h.ge.2.1⟩
theorem Bo.kv (h : Bo w w1 T b r cs zs) (ho : Only [b, r] w1 w2) (hk : KV w1 v ks) : KV w2 v ks := hk.only ho (fun g hg => (h.bx g hg).1)
theorem Bo.ko (h : Bo w w1 T b r cs zs) (ho : Only [b, r] w1 w2) (hk : KO w.heap.size w w1 v ks) : KO w.heap.size w w2 v ks := hk.only ho h.bx h.low.size
theorem Bo.alloc (h : Bo w w1 T b r cs zs) (cs2 : Array Value) (hn : NoU cs2) : Bo w (w1.alloc (.cells cs2 T)) T w1.heap.size r cs2 zs := by
  have h2 := h.step (low_one w1 (.cells cs2 T))
  have hr := (head_row h.res).lt
  exact ⟨h2.low, heap_alloc_new w1 _, h2.res, ⟨h.low.size, h.ge.2.1, by omega⟩, ⟨hn, h.nu.2⟩, h.ty⟩
theorem Bo.set (h : Bo w w1 T b r cs zs) (i : Nat) (x : Value) (hn : NoU (cs.setIfInBounds i x)) : Bo w (w1.setCell ⟨b, i, none⟩ x) T b r (cs.setIfInBounds i x) zs ∧ Only [b, r] w1 (w1.setCell ⟨b, i, none⟩ x) := by
  have ho : Only [b] w1 (w1.setCell ⟨b, i, none⟩ x) := (Only.refl _ _).setCell (by simp) _
  have ho2 : Only [b, r] w1 (w1.setCell ⟨b, i, none⟩ x) := (Only.refl _ _).setCell (by simp) _
  exact ⟨⟨h.fin ho2, set_one h.box, (ho.block r (head_row h.res).lt (by simpa using fun e => h.ge.2.2 e.symm)).trans h.res, h.ge, ⟨hn, h.nu.2⟩, h.ty⟩, ho2⟩
end
/- Two boxes of two types. -/
structure Bp (w w1 : World) (T U : TypeId) (b r : Nat) (cs zs : Array Value) : Prop where
  low : Below w.heap.size w w1
  box : w1.heap[b]? = some (.cells cs T (0, 0))
  res : w1.heap[r]? = some (.cells zs U (0, 0))
  ge : w.heap.size ≤ b ∧ w.heap.size ≤ r ∧ b ≠ r
  nu : NoU cs ∧ NoU zs
  ty : T ≠ 35 ∧ U ≠ 35
section
variable {w w1 w2 : World} {T U : TypeId} {b r : Nat} {cs zs : Array Value} {v : Value} {ks : List Nat}
theorem Bp.step (h : Bp w w1 T U b r cs zs) (hb : Below w1.heap.size w1 w2) : Bp w w2 T U b r cs zs :=
  ⟨h.low.trans (hb.mono h.low.size), (hb.block b (head_row h.box).lt).trans h.box, (hb.block r (head_row h.res).lt).trans h.res, h.ge, h.nu, h.ty⟩
theorem Bp.fin (h : Bp w w1 T U b r cs zs) (ho : Only [b, r] w1 w2) : Below w.heap.size w w2 := h.low.trans (ho.below (by simp; exact ⟨h.ge.1, h.ge.2.1⟩) h.low.size)
theorem Bp.bx (h : Bp w w1 T U b r cs zs) : ∀ g ∈ [b, r], Bx w1 g ∧ w.heap.size ≤ g := fun g hg => by
  simp only [List.mem_cons, List.not_mem_nil, or_false] at hg
  rcases hg with rfl | rfl
  · exact ⟨⟨_, _, h.box, h.nu.1, h.ty.1⟩, h.ge.1⟩
  · exact ⟨⟨_, _, h.res, h.nu.2, h.ty.2⟩, h.ge.2.1⟩
theorem Bp.kv (h : Bp w w1 T U b r cs zs) (ho : Only [b, r] w1 w2) (hk : KV w1 v ks) : KV w2 v ks := hk.only ho (fun g hg => (h.bx g hg).1)
end
end Go.Proofs.Ytjfhapobbglbpaa
