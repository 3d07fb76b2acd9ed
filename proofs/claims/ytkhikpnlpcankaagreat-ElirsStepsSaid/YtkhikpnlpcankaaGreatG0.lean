/- Words and walks: Only RowB AppS OkT SqA SqU SqR. -/
import Derived.Test.YtkhikpnlpcankaaGreatProg
import Derived.WalkKit
import Derived.RowKit3
import Derived.Below
import Derived.Lib.Hide
import Derived.Deep.OwnRows
import Derived.Deep.Draws
import Derived.Test.YtkhikpnlpcankaaGreatRows
import Derived.OpenShut
import Derived.ProofKit
import Derived.Carry
import Derived.Deep.Slices
import Derived.Deep.Fields
import Derived.Lib.SmallJoins
import Derived.Laws.AppendOwnNone
import Derived.Maps.AppendAt
import Derived.OwnWalk
import Derived.Laws.OwnMore
import Derived.Deep.AppendLies
import Derived.IntWalk
import Derived.Deep.LoopGhost
import Derived.Deep.QuietTactic
import Derived.BigQuiet
namespace Go.Proofs.YtkhikpnlpcankaaGreat
open Go Go.RowKit Go.Deep
def upd {α : Type} (f : Nat → α) (i : Nat) (x : α) (j : Nat) : α := if j = i then x else f j
theorem upd_same {α : Type} (f : Nat → α) (i : Nat) (x : α) : upd f i x i = x := if_pos rfl
theorem upd_other {α : Type} (f : Nat → α) (i : Nat) (x : α) {j : Nat} (h : j ≠ i) : upd f i x j = f j := if_neg h
structure Only (S : List Nat) (w w' : World) : Prop where
  os : w'.os = w.os
  tape : w'.tape = w.tape
  output : w'.output = w.output
  size : w.heap.size ≤ w'.heap.size
  block : ∀ k, k < w.heap.size → k ∉ S → w'.heap[k]? = w.heap[k]?
section
variable {S T : List Nat} {w w' w'' : World}
theorem Only.refl (S : List Nat) (w : World) : Only S w w := ⟨rfl, rfl, rfl, Nat.le_refl _, fun _ _ _ => rfl⟩
theorem Only.trans (h : Only S w w') (k : Only T w' w'') (hT : ∀ g ∈ T, g ∈ S ∨ w.heap.size ≤ g) : Only S w w'' :=
  ⟨k.os.trans h.os, k.tape.trans h.tape, k.output.trans h.output, Nat.le_trans h.size k.size, fun i hi hS =>
    (k.block i (Nat.lt_of_lt_of_le hi h.size) (fun hi' => (hT i hi').elim hS (fun h1 => by omega))).trans (h.block i hi hS)⟩
theorem Only.mono (h : Only S w w') (hT : ∀ g ∈ S, g ∈ T) : Only T w w' := ⟨h.os, h.tape, h.output, h.size, fun i hi hS => h.block i hi (fun h' => hS (hT i h'))⟩
theorem Only.alloc (h : Only S w w') (o : Obj) : Only S w (w'.alloc o) :=
  ⟨h.os, h.tape, h.output, Nat.le_trans h.size (by simp), fun i hi hS => (Below.heap_alloc w' o i (Nat.lt_of_lt_of_le hi h.size)).trans (h.block i hi hS)⟩
theorem Only.setCell (h : Only S w w') {p : Addr} (hp : p.block ∈ S ∨ w.heap.size ≤ p.block) (u : Value) : Only S w (w'.setCell p u) :=
  ⟨h.os, h.tape, h.output, by simpa [World.setCell] using h.size, fun i hi hS => (Below.heap_setCell w' p u i (by
    rintro rfl
    rcases hp with hp | hp
    · exact hS hp
    · omega)).trans (h.block i hi hS)⟩
theorem Only.drew (h : Only S w w') : Only S w w'.drew := ⟨h.os, h.tape, h.output, h.size, h.block⟩
theorem Only.drewN (h : Only S w w') (n : Nat) : Only S w (w'.drewN n) := ⟨h.os, h.tape, h.output, h.size, h.block⟩
theorem Only.of_below (h : Below w.heap.size w w') : Only S w w' := ⟨h.os, h.tape, h.output, h.size, fun i hi _ => h.block i hi⟩
theorem Only.nil_below (h : Only [] w w') : Below w.heap.size w w' := ⟨h.os, h.tape, h.output, h.size, fun i hi => h.block i hi (by simp)⟩
theorem Only.below {B : Nat} (h : Only S w w') (hS : ∀ g ∈ S, B ≤ g) (hB : B ≤ w.heap.size) : Below B w w' :=
  ⟨h.os, h.tape, h.output, h.size, fun i hi => h.block i (by omega) (fun h' => by have := hS i h'; omega)⟩
theorem Only.row {b : Nat} {t : TypeId} {n : Nat} {f : Nat → Value} (h : Only S w w') (hr : w.rowIs b t n f) (hb : b ∉ S) : w'.rowIs b t n f :=
  hr.of_block (h.block b hr.lt hb)
end
theorem block_ne {w : World} {a b : Nat} {t u : TypeId} {n m : Nat} {f g : Nat → Value} (h : w.rowIs a t n f) (k : w.rowIs b u m g) (hne : t ≠ u) : a ≠ b := by
  rintro rfl
  obtain ⟨c, h1, _⟩ := h
  obtain ⟨d, k1, _⟩ := k
  rw [h1] at k1
  injection k1 with k1
  injection k1 with _ k2
  exact hne k2
theorem head_row {w : World} {b : Nat} {cs : Array Value} {t : TypeId} (h : w.heap[b]? = some (.cells cs t (0, 0))) : w.rowIs b t cs.size (fun i => cs.getD i undef) :=
  ⟨cs, h, rfl, fun i hi => by rw [Array.getElem?_eq_getElem hi]; simp [Array.getD, hi]⟩
end Go.Proofs.YtkhikpnlpcankaaGreat
namespace Go.Proofs.YtkhikpnlpcankaaGreat
open Go Go.ChangeShapes Go.WideShapes Go.RowKit Go.Deep
theorem ownNone : ownKnob Tryz.prog.godebug = none := by kernel_rfl
theorem laidAll : laidOutB Tryz.prog = true := by kernel_rfl
section
variable {H : Type} {enc : TypeId × Value → H} {P : Program} {W W' : World}
theorem trodAll_stay (hl : laidOutB P = true) (hb : Below W.heap.size W W') : ∀ (ts : List TypeId) {vs : List Value} {ds : List (DataW H)} {ps : List MemPlace},
    (∀ t ∈ ts, P.readableRec t = true ∧ t < P.types.size) → DataW.TrodAll enc P W 0 (fun _ => true) true ts vs ds ps → (∀ x ∈ ps, x.block < W.heap.size) →
    DataW.TrodAll enc P W' 0 (fun b => decide (b < W.heap.size)) true ts vs ds ps
  | [], vs, ds, ps, _, h, _ => by
    obtain ⟨rfl, rfl, rfl⟩ := trodAll_nil h
    exact trodAll_mk0
  | t :: ts, vs, ds, ps, ht, h, hlt => by
    obtain ⟨v, vs', d, ds', p, q, rfl, rfl, rfl, h1, h2⟩ := trodAll_cons h
    obtain ⟨hr, hs⟩ := ht t (by simp)
    exact trodAll_cons_mk (Below.trod hl hr hs h1 hb (fun x hx => hlt x (by simp [hx]))) (trodAll_stay hl hb ts (fun t' h' => ht t' (by simp [h'])) h2 (fun x hx => hlt x (by simp [hx])))
end
end Go.Proofs.YtkhikpnlpcankaaGreat
namespace Go.Proofs.YtkhikpnlpcankaaGreat
open Go Go.RowKit Go.Deep
theorem wpList_append_src {P : Program} {w : World} {ops : Array Oper} {rest : List Oper} {o : Oper} {a : Act} {Q : Exit → Act → World → Prop} (hgd : o.guard = none) (s x : Operand) (t : TypeId)
    (ho : o.op = .call { callee := .builtin .append, args := #[s, x], argTypes := #[t, t] }) (base : Nat) (e : TypeId) (z : Value) (size bytes : Nat) (ht : P.underlying t = some (.slice e))
    (hinfo : (P.info? e).map (fun i => (i.zero, i.size, i.bytes)) = some (some z, size, bytes)) (hzs : z.cells.size = size) (hsz : 0 < size)
    (v : Value) (n : Nat) (xs : List Value) (hs : a.eval s = v) (hown : w.ownsRow base e size v n xs) (A : Option Addr) (m c : Nat) (news : List Value) (hx : a.eval x = .slice A m c)
    (hsrc : (A = none ∧ m = 0 ∧ c = 0 ∧ news = []) ∨ ∃ ad, A = some ad ∧ news.length = m * size ∧ ∀ j u, news[j]? = some u → w.cell? (ad.add j) = some u) (h1 : ∀ u ∈ news, u.oneCell' = true)
    (hbound : (n + m) * bytes ≤ 140737488355328) (h63 : n + m ≤ 1000000000) (hbase : base ≤ w.heap.size)
    (h : ∀ v' w', w'.ownsRow base e size v' (n + m) (xs ++ news) → w.grownBy w' v.ownBlock → wpList P ops Q rest (a.put o.dst v') w') : wpList P ops Q (o :: rest) a w := by
  obtain ⟨i, hi, hz, hsize, hby⟩ := info_parts hinfo
  rcases hsrc with ⟨rfl, rfl, rfl, rfl⟩ | ⟨ad, rfl, hl, hc⟩
  · refine wpList_append_own_none hgd s x t ho base e i size ht hi v n xs hs hown hx ?_
    exact h v w (by simpa using hown) (World.grownBy.refl w _)
  · refine wpList_append_own w hgd s x t ho base e i z size bytes ht hi hz hsize hby hzs hsz v n xs hs hown ad m c news hx hl hc h1 (by unfold maxLen; omega) hbound hbase ?_
    intro v' w' h2 h3 _
    exact h v' w' h2 h3
theorem below_grown {B : Nat} {w0 w w' : World} {e : TypeId} {size n : Nat} {v : Value} {xs : List Value} (hb : Below B w0 w) (hown : w.ownsRow B e size v n xs) (hg : w.grownBy w' v.ownBlock) (hB : B ≤ w.heap.size) : Below B w0 w' :=
  hb.grown hg hB (fun k hk => (hown.lt k hk).1)
theorem two_blocks {w w1 : World} {c d : Array Value} {t u : TypeId} (hb : Below ((w.alloc (.cells c t)).alloc (.cells d u)).heap.size ((w.alloc (.cells c t)).alloc (.cells d u)) w1) :
    Below w.heap.size w w1 ∧ w.heap.size + 1 < w1.heap.size ∧ w1.heap[w.heap.size]? = some (.cells c t (0, 0)) ∧ w1.heap[w.heap.size + 1]? = some (.cells d u (0, 0)) := by
  have hs := hb.size
  simp at hs
  refine ⟨(((Below.refl _ _).alloc (Nat.le_refl _) _).alloc (by simp) _).trans (hb.mono (by simp; omega)), by omega, ?_, ?_⟩
  · rw [hb.block w.heap.size (by simp; omega), Below.heap_alloc _ _ _ (by simp)]
    exact heap_alloc_new w _
  · rw [hb.block (w.heap.size + 1) (by simp)]
    have := heap_alloc_new (w.alloc (.cells c t)) (.cells d u)
    simpa using this
def okT (e : TypeId) : Bool := e != 103 && e != 142 && e != 157 && e != 138 && e != 152 && e != 21 && e != 145 && e != 154 && e != 67
theorem below_drewn {B : Nat} {w0 w : World} (h : Below B w0 w) (n : Nat) : Below B w0 (w.drewN n) := ⟨h.os, h.tape, h.output, h.size, h.block⟩
theorem ad_block (a : Addr) (i : Nat) : (a.add i).block = a.block := by unfold Addr.add; split <;> rfl
def NP (w : World) (g : Nat) : Prop := ∃ o, w.heap[g]? = some o ∧ ∀ cs e f, o = Obj.cells cs e f → okT e = true
theorem NP.keep {w w' : World} {g : Nat} (h : NP w g) (e : w'.heap[g]? = w.heap[g]?) : NP w' g := by
  obtain ⟨o, h1, h2⟩ := h
  exact ⟨o, e.trans h1, h2⟩
theorem NP.lt {w : World} {g : Nat} (h : NP w g) : g < w.heap.size := by
  obtain ⟨o, h1, _⟩ := h
  exact (Array.getElem?_eq_some_iff.1 h1).1
theorem NP.below {w w' : World} {g : Nat} (h : NP w g) (hb : Below w.heap.size w w') : NP w' g := h.keep (hb.block g h.lt)
theorem NP.cells {w : World} {g : Nat} {cs : Array Value} {e : TypeId} {f : Nat × Nat} (h : w.heap[g]? = some (Obj.cells cs e f)) (he : okT e = true) : NP w g :=
  ⟨_, h, fun cs' e' f' h2 => by
    injection h2 with _ h2
    rw [← h2]
    exact he⟩
theorem NP.not {w : World} {g : Nat} {cs : Array Value} {e : TypeId} {f : Nat × Nat} (h : NP w g) (h2 : w.heap[g]? = some (Obj.cells cs e f)) (he : okT e = false) : False := by
  obtain ⟨o, h3, h4⟩ := h
  rw [h3] at h2
  injection h2 with h2
  have := h4 cs e f h2
  rw [he] at this
  cases this
structure RV (w : World) (size : Nat) (v : Value) (n : Nat) (xs : List Value) : Prop where
  len : xs.length = n * size
  mem : ∃ F c, v = .slice F n c ∧ n ≤ c ∧ (F = none → c = 0) ∧ ∀ j u, xs[j]? = some u → ∃ ad, F = some ad ∧ ad.block < w.heap.size ∧ w.cell? (ad.add j) = some u
  np : ∀ m c ad, v = .slice (some ad) (m + 1) c → NP w ad.block
section
variable {w w' : World} {v : Value} {size n : Nat} {xs : List Value}
theorem RV.below (h : RV w size v n xs) (hb : Below w.heap.size w w') : RV w' size v n xs := by
  obtain ⟨hl, ⟨F, c, e, h1, h2, h3⟩, hn⟩ := h
  refine ⟨hl, ⟨F, c, e, h1, h2, fun i u hi => ?_⟩, fun m c ad e => (hn m c ad e).below hb⟩
  obtain ⟨ad, e2, h4, h5⟩ := h3 i u hi
  exact ⟨ad, e2, Nat.lt_of_lt_of_le h4 hb.size, (hb.cell (p := ad.add i) (by rw [ad_block]; exact h4)).trans h5⟩
theorem RV.drewn (h : RV w size v n xs) (k : Nat) : RV (w.drewN k) size v n xs := ⟨h.len, h.mem, h.np⟩
theorem RV.nil (w : World) (size : Nat) : RV w size (.slice none 0 0) 0 [] := ⟨by simp, ⟨none, 0, rfl, Nat.le_refl _, fun _ => rfl, fun i u hi => by simp at hi⟩, fun m c ad e => by cases e⟩
theorem RV.of_own {B : Nat} {e : TypeId} (h : w.ownsRow B e size v n xs) (he : okT e = true := by decide) : RV w size v n xs := by
  refine ⟨h.1, ?_, ?_⟩
  rotate_left
  · intro m c ad e1
    rcases h.2 with ⟨rfl, h0⟩ | ⟨g, cap, cur, rfl, hB, hg, hle, _⟩
    · cases e1
    · injection e1 with e1
      injection e1 with e1
      subst e1
      exact NP.cells hg he
  rcases h.2 with ⟨rfl, h0⟩ | ⟨g, cap, cur, rfl, hB, hg, hle, _⟩
  · subst h0
    have : xs = [] := List.length_eq_zero_iff.1 (by have := h.1; omega)
    subst this
    exact (RV.nil w size).mem
  · exact ⟨_, _, rfl, hle, (fun e => by cases e), fun i u hi => ⟨_, rfl, (Array.getElem?_eq_some_iff.1 hg).1, h.cells (g := g) rfl i u hi⟩⟩
theorem RV.take (h : RV w size v n xs) (m : Nat) (hm : m ≤ n) : ∃ F c, v = .slice F n c ∧ RV w size (.slice F m c) m (xs.take (m * size)) := by
  obtain ⟨hl, ⟨F, c, e, h1, h2, h3⟩, hn⟩ := h
  have hle : m * size ≤ n * size := Nat.mul_le_mul_right _ hm
  refine ⟨F, c, e, by rw [List.length_take]; omega, ⟨F, c, rfl, by omega, h2, fun i u hi => ?_⟩, fun k c' ad e1 => by
    injection e1 with e1 e2 e3
    obtain ⟨n', rfl⟩ : ∃ n', n = n' + 1 := ⟨n - 1, by omega⟩
    exact hn n' c ad (by rw [e, e1])⟩
  rw [List.getElem?_take] at hi
  split at hi
  · exact h3 i u hi
  · cases hi
theorem RV.lt {F : Option Addr} {c : Nat} {ad : Addr} (h : RV w size (.slice F (n + 1) c) (n + 1) xs) (hs : 0 < size) (hF : F = some ad) : ad.block < w.heap.size := by
  obtain ⟨hl, ⟨F', c', e, h1, h2, h3⟩, _⟩ := h
  injection e with e1 e2 e3
  subst e1 e3
  have h0 : 0 < xs.length := by rw [hl]; exact Nat.mul_pos (Nat.succ_pos n) hs
  obtain ⟨ad', e4, h4, _⟩ := h3 0 xs[0] (List.getElem?_eq_getElem h0)
  rw [hF] at e4
  injection e4 with e4
  subst e4
  exact h4
def Off (u v : Value) : Prop := ∀ n c ad, u = .slice (some ad) (n + 1) c → v.ownBlock ≠ some ad.block
theorem Off.nil (u : Value) : Off u (.slice none 0 0) := fun _ _ _ _ h => by simp [Value.ownBlock] at h
theorem Off.of_lt {B : Nat} {e : TypeId} {u : Value} {m s : Nat} {ys : List Value} {w0 : World} (h : RV w0 s u m ys) (hs : 0 < s) (ho : w.ownsRow B e size v n xs) (hB : w0.heap.size ≤ B) : Off u v := fun k c ad hu hv => by
  subst hu
  obtain ⟨F, c', e, _⟩ := h.mem
  injection e with _ e2 _
  subst e2
  have h1 := h.lt hs rfl
  have h2 := (ho.lt _ hv).1
  omega
def Kp (w : World) (v : Value) (w' : World) (v' : Value) : Prop := ∀ s u m ys, 0 < s → RV w s u m ys → Off u v → RV w' s u m ys ∧ Off u v'
theorem Kp.refl (w : World) (v : Value) : Kp w v w v := fun _ _ _ _ _ h ho => ⟨h, ho⟩
theorem Kp.grown {v v' : Value} (hg : w.grownBy w' v.ownBlock) (hat : v'.ownBlock = v.ownBlock ∨ v'.ownBlock = some w.heap.size) : Kp w v w' v' := fun s u m ys hs h ho => by
  have hr := h
  obtain ⟨hl, ⟨F, c, rfl, h1, h2, h3⟩, hn⟩ := h
  refine ⟨⟨hl, ⟨F, c, rfl, h1, h2, fun j x hj => ?_⟩, fun k c' ad hu => (hn k c' ad hu).keep (hg.block _ (hn k c' ad hu).lt (fun e => ho k c' ad hu e.symm))⟩, fun k c' ad hu => ?_⟩
  · obtain ⟨ad, rfl, h4, h5⟩ := h3 j x hj
    have hm : 0 < m := by
      rcases Nat.eq_zero_or_pos m with rfl | h
      · have := (List.getElem?_eq_some_iff.1 hj).1
        omega
      · exact h
    obtain ⟨k, rfl⟩ : ∃ k, m = k + 1 := ⟨m - 1, by omega⟩
    exact ⟨ad, rfl, Nat.lt_of_lt_of_le h4 hg.size, hg.cell h5 (by rw [ad_block]; exact fun e => ho k c ad rfl e.symm)⟩
  · rcases hat with e | e
    · rw [e]; exact ho k c' ad hu
    · rw [e]
      intro e2
      injection e2 with e2
      injection hu with e3 e4 e5
      subst e4
      have := hr.lt hs e3
      omega
end
def Kt (e : TypeId) (w w' : World) : Prop := ∀ (g : Nat) (cs : Array Value) (t : TypeId) (f : Nat × Nat), w.heap[g]? = some (Obj.cells cs t f) → t ≠ e → w'.heap[g]? = some (Obj.cells cs t f)
theorem Kt.refl (e : TypeId) (w : World) : Kt e w w := fun _ _ _ _ h _ => h
theorem Kt.grown {B : Nat} {e : TypeId} {size n : Nat} {v : Value} {xs : List Value} {w w' : World} (hown : w.ownsRow B e size v n xs) (hg : w.grownBy w' v.ownBlock) : Kt e w w' := fun g cs t f h ht => by
  refine (hg.block g (Array.getElem?_eq_some_iff.1 h).1 (fun hv => ?_)).trans h
  rcases hown.2 with ⟨rfl, _⟩ | ⟨g', cap, cur, rfl, _, e3, _⟩
  · simp [Value.ownBlock] at hv
  · simp only [Value.ownBlock, Option.some.injEq] at hv
    subst hv
    rw [e3] at h
    injection h with h
    injection h with _ h
    exact ht h.symm
theorem wpList_append_raw {P : Program} {w : World} {ops : Array Oper} {rest : List Oper} {o : Oper} {a : Act} {Q : Exit → Act → World → Prop} (hgd : o.guard = none) (s x : Operand) (t : TypeId)
    (ho : o.op = .call { callee := .builtin .append, args := #[s, x], argTypes := #[t, t] }) (base : Nat) (e : TypeId) (z : Value) (size bytes : Nat) (ht : P.underlying t = some (.slice e))
    (hinfo : (P.info? e).map (fun i => (i.zero, i.size, i.bytes)) = some (some z, size, bytes)) (hzs : z.cells.size = size) (hsz : 0 < size)
    (v : Value) (n : Nat) (xs : List Value) (hs : a.eval s = v) (hown : w.ownsRow base e size v n xs) {w0 : World} (hbl : Below base w0 w) (m : Nat) (news : List Value) (F : Option Addr) (c : Nat) (hx : a.eval x = .slice F m c)
    (hl : news.length = m * size) (h3 : m ≤ c) (h4 : F = none → c = 0) (h5 : ∀ j u, news[j]? = some u → ∃ ad, F = some ad ∧ w.cell? (ad.add j) = some u) (h1 : ∀ u ∈ news, u.oneCell' = true) (hbound : (n + m) * bytes ≤ 140737488355328) (h63 : n + m ≤ 1000000000) (hbase : base ≤ w.heap.size)
    (h : ∀ v' w', w'.ownsRow base e size v' (n + m) (xs ++ news) → Below base w0 w' → w.grownBy w' v.ownBlock → (v'.ownBlock = v.ownBlock ∨ v'.ownBlock = some w.heap.size) → Kt e w w' → wpList P ops Q rest (a.put o.dst v') w') : wpList P ops Q (o :: rest) a w := by
  obtain ⟨i, hi, hz, hsize, hby⟩ := info_parts hinfo
  cases F with
  | none =>
    have hc := h4 rfl
    obtain rfl : c = 0 := hc
    obtain rfl : m = 0 := by omega
    obtain rfl : news = [] := List.length_eq_zero_iff.1 (by omega)
    refine wpList_append_own_none hgd s x t ho base e i size ht hi v n xs hs hown hx ?_
    exact h v w (by simpa using hown) hbl (World.grownBy.refl _ _) (.inl rfl) (Kt.refl e w)
  | some ad =>
    refine wpList_append_own_at w hgd s x t ho base e i z size bytes ht hi hz hsize hby hzs hsz v n xs hs hown ad m c news hx hl (fun j u hu => ?_) h1 (by unfold maxLen; omega) hbound hbase ?_
    · obtain ⟨ad', e2, h6⟩ := h5 j u hu
      injection e2 with e2
      subst e2
      exact h6
    · intro v' w' h2 h3 _ h6
      exact h v' w' h2 (below_grown hbl hown h3 hbase) h3 h6 (Kt.grown hown h3)
theorem wpList_append_rv {P : Program} {w : World} {ops : Array Oper} {rest : List Oper} {o : Oper} {a : Act} {Q : Exit → Act → World → Prop} (hgd : o.guard = none) (s x : Operand) (t : TypeId)
    (ho : o.op = .call { callee := .builtin .append, args := #[s, x], argTypes := #[t, t] }) (base : Nat) (e : TypeId) (z : Value) (size bytes : Nat) (ht : P.underlying t = some (.slice e))
    (hinfo : (P.info? e).map (fun i => (i.zero, i.size, i.bytes)) = some (some z, size, bytes)) (hzs : z.cells.size = size) (hsz : 0 < size)
    (v : Value) (n : Nat) (xs : List Value) (hs : a.eval s = v) (hown : w.ownsRow base e size v n xs) {w0 : World} (hbl : Below base w0 w) (y : Value) (m : Nat) (news : List Value) (hx : a.eval x = y)
    (hsrc : RV w size y m news) (h1 : ∀ u ∈ news, u.oneCell' = true) (hbound : (n + m) * bytes ≤ 140737488355328) (h63 : n + m ≤ 1000000000) (hbase : base ≤ w.heap.size)
    (h : ∀ v' w', w'.ownsRow base e size v' (n + m) (xs ++ news) → Below base w0 w' → Kp w v w' v' → Kt e w w' → wpList P ops Q rest (a.put o.dst v') w') : wpList P ops Q (o :: rest) a w := by
  obtain ⟨i, hi, hz, hsize, hby⟩ := info_parts hinfo
  obtain ⟨hl, ⟨F, c, rfl, h3, h4, h5⟩, _⟩ := hsrc
  cases F with
  | none =>
    have hc := h4 rfl
    obtain rfl : c = 0 := hc
    obtain rfl : m = 0 := by omega
    obtain rfl : news = [] := List.length_eq_zero_iff.1 (by omega)
    refine wpList_append_own_none hgd s x t ho base e i size ht hi v n xs hs hown hx ?_
    exact h v w (by simpa using hown) hbl (Kp.refl w v) (Kt.refl e w)
  | some ad =>
    refine wpList_append_own_at w hgd s x t ho base e i z size bytes ht hi hz hsize hby hzs hsz v n xs hs hown ad m c news hx hl (fun j u hu => ?_) h1 (by unfold maxLen; omega) hbound hbase ?_
    · obtain ⟨ad', e2, _, h6⟩ := h5 j u hu
      injection e2 with e2
      subst e2
      exact h6
    · intro v' w' h2 h3 _ h6
      exact h v' w' h2 (below_grown hbl hown h3 hbase) (Kp.grown h3 h6) (Kt.grown hown h3)
def u64L (ks : List Nat) : List Value := ks.map (fun k => .int .u64 (k : Nat))
theorem u64L_one (ks : List Nat) : ∀ u ∈ u64L ks, u.oneCell' = true := fun u hu => by
  obtain ⟨k, _, rfl⟩ := List.mem_map.1 hu
  rfl
theorem u64L_append (a b : List Nat) : u64L a ++ u64L b = u64L (a ++ b) := by simp [u64L]
theorem u64L_len (a : List Nat) : (u64L a).length = a.length := by simp [u64L]
def KV (w : World) (v : Value) (ks : List Nat) : Prop := RV w 1 v ks.length (u64L ks)
section
variable {w w' : World} {v : Value} {ks : List Nat}
theorem KV.mem (h : KV w v ks) : ∃ F c, v = .slice F ks.length c ∧ ks.length ≤ c ∧ (F = none → c = 0) ∧ ∀ i (h : i < ks.length), ∃ ad, F = some ad ∧ ad.block < w.heap.size ∧ w.cell? (ad.add i) = some (.int .u64 (ks[i] : Nat)) := by
  obtain ⟨_, ⟨F, c, e, h1, h2, h3⟩, _⟩ := h
  exact ⟨F, c, e, h1, h2, fun i hi => h3 i _ (by simp [u64L, hi])⟩
theorem KV.form (h : KV w v ks) : ∃ F n c, v = .slice F n c := by
  obtain ⟨F, c, e, _⟩ := h.mem
  exact ⟨F, _, c, e⟩
theorem KV.below (h : KV w v ks) (hb : Below w.heap.size w w') : KV w' v ks := RV.below h hb
theorem KV.drewn (h : KV w v ks) (k : Nat) : KV (w.drewN k) v ks := RV.drewn h k
theorem KV.nil (w : World) : KV w (.slice none 0 0) [] := RV.nil w 1
theorem KV.of_own {B : Nat} {e : TypeId} (h : w.ownsRow B e 1 v ks.length (u64L ks)) (he : okT e = true := by decide) : KV w v ks := RV.of_own h he
theorem KV.take (h : KV w v ks) (n : Nat) (hn : n ≤ ks.length) : ∃ F c, v = .slice F ks.length c ∧ KV w (.slice F n c) (ks.take n) := by
  obtain ⟨F, c, e, h1⟩ := RV.take h n hn
  refine ⟨F, c, e, ?_⟩
  have e1 : (ks.take n).length = n := by rw [List.length_take]; omega
  have e2 : u64L (ks.take n) = (u64L ks).take (n * 1) := by simp [u64L, List.map_take]
  rw [KV, e1, e2]
  exact h1
theorem KV.cut {F : Option Addr} {c : Nat} (h : KV w (.slice F ks.length c) ks) : KV w (.slice F (ks.length - 1) c) ks.dropLast := by
  obtain ⟨F', c', e, h1⟩ := h.take (ks.length - 1) (by omega)
  injection e with e1 _ e3
  subst e1 e3
  rw [← List.dropLast_eq_take] at h1
  exact h1
theorem Kp.kv {v v' : Value} (h : Kp w v w' v') {u : Value} (hk : KV w u ks) (ho : Off u v) : KV w' u ks ∧ Off u v' := h _ _ _ _ (by decide) hk ho
theorem KV.one (w : World) (x : Nat) : KV (w.alloc (.cells #[.int .u64 (x : Nat)] 32)) (.slice (some ⟨w.heap.size, 0, none⟩) 1 1) [x] :=
  KV.of_own (ks := [x]) (World.ownsRow_lit (base := 0) w #[.int .u64 (x : Nat)] 1 (Nat.zero_le _) (by unfold maxLen; omega) rfl)
end
theorem own_below {w w' : World} {B : Nat} {e : TypeId} {size n : Nat} {v : Value} {xs : List Value} (h : w.ownsRow B e size v n xs) (hb : Below w.heap.size w w') : w'.ownsRow B e size v n xs := by
  refine ⟨h.1, ?_⟩
  rcases h.2 with q | ⟨g, cap, cur, e1, e2, e3, e4⟩
  · exact .inl q
  · exact .inr ⟨g, cap, cur, e1, e2, (hb.block g (Array.getElem?_eq_some_iff.1 e3).1).trans e3, e4⟩
theorem own_low {w : World} {B B' size n : Nat} {e : TypeId} {v : Value} {xs : List Value} (h : w.ownsRow B e size v n xs) (hb : B' ≤ B) : w.ownsRow B' e size v n xs :=
  ⟨h.1, h.2.imp id (fun ⟨g, cap, cur, e1, e2, rest⟩ => ⟨g, cap, cur, e1, Nat.le_trans hb e2, rest⟩)⟩
structure KO (B : Nat) (w0 w : World) (v : Value) (ks : List Nat) : Prop where
  low : Below B w0 w
  own : w.ownsRow B 32 1 v ks.length (u64L ks)
section
variable {B : Nat} {w0 w w' : World} {v : Value} {ks : List Nat}
theorem KO.kv (h : KO B w0 w v ks) : KV w v ks := KV.of_own h.own
theorem KO.nil (h : Below B w0 w) : KO B w0 w (.slice none 0 0) [] := ⟨h, World.ownsRow_nil _ _ _ _⟩
theorem KO.alloc (h : KO B w0 w v ks) (hB : B ≤ w.heap.size) (o : Obj) : KO B w0 (w.alloc o) v ks := ⟨h.low.alloc hB o, h.own.alloc o⟩
theorem KO.drewn (h : KO B w0 w v ks) (k : Nat) : KO B w0 (w.drewN k) v ks := ⟨below_drewn h.low k, h.own⟩
theorem KO.below (h : KO B w0 w v ks) (hB : B ≤ w.heap.size) (hb : Below w.heap.size w w') : KO B w0 w' v ks := ⟨h.low.trans (hb.mono hB), own_below h.own hb⟩
theorem KO.one (hB : B ≤ w.heap.size) (h : Below B w0 w) (x : Nat) : KO B w0 (w.alloc (.cells #[.int .u64 (x : Nat)] 32)) (.slice (some ⟨w.heap.size, 0, none⟩) 1 1) [x] :=
  ⟨h.alloc hB _, World.ownsRow_lit w #[.int .u64 (x : Nat)] 1 hB (by unfold maxLen; omega) rfl⟩
theorem KO.empty (hB : B ≤ w.heap.size) (h : Below B w0 w) : KO B w0 (w.alloc (.cells #[] 32)) (.slice (some ⟨w.heap.size, 0, none⟩) 0 0) [] :=
  ⟨h.alloc hB _, World.ownsRow_lit w #[] 0 hB (by unfold maxLen; omega) rfl⟩
theorem Off.of_own {u : Value} {js : List Nat} {w1 : World} (hu : KV w1 u js) (h : KO B w0 w v ks) (hB : w1.heap.size ≤ B) : Off u v := Off.of_lt hu (by decide) h.own hB
end
theorem wpList_append_kv {P : Program} {w : World} {ops : Array Oper} {rest : List Oper} {o : Oper} {a : Act} {Q : Exit → Act → World → Prop} (hgd : o.guard = none) (s x : Operand)
    (ho : o.op = .call { callee := .builtin .append, args := #[s, x], argTypes := #[27, 27] }) (base : Nat) (ht : P.underlying 27 = some (.slice 32))
    (hinfo : (P.info? 32).map (fun i => (i.zero, i.size, i.bytes)) = some (some (.int .u64 0), 1, 8))
    (v : Value) (ks : List Nat) (hs : a.eval s = v) {w0 : World} (hown : KO base w0 w v ks) (y : Value) (js : List Nat) (hx : a.eval x = y)
    (hsrc : KV w y js) (h63 : ks.length + js.length ≤ 1000000000) (hbase : base ≤ w.heap.size)
    (h : ∀ v' w', KO base w0 w' v' (ks ++ js) → Kp w v w' v' → Kt 32 w w' → wpList P ops Q rest (a.put o.dst v') w') : wpList P ops Q (o :: rest) a w := by
  refine wpList_append_rv hgd s x _ ho base 32 (.int .u64 0) 1 8 ht hinfo rfl (by decide) v ks.length (u64L ks) hs hown.own hown.low y js.length (u64L js) hx hsrc (u64L_one js) (by omega) h63 hbase ?_
  intro v' w' h1 h2 h3 h4
  refine h v' w' ⟨h2, ?_⟩ h3 h4
  rw [List.length_append, ← u64L_append]
  exact h1
end Go.Proofs.YtkhikpnlpcankaaGreat
namespace Go.Proofs.YtkhikpnlpcankaaGreat
open Go Go.ChangeShapes Go.WideShapes Go.RowKit Go.Deep
theorem u64_nat {a : Int} (h : (Lit.int .u64 a).wf = true) : ∃ k : Nat, a = k ∧ k < 18446744073709551616 := by
  simp only [Lit.wf, Bool.and_eq_true, decide_eq_true_eq] at h
  have m1 : IntKind.u64.min = 0 := rfl
  have m2 : IntKind.u64.max = 18446744073709551615 := rfl
  exact ⟨a.toNat, by omega, by omega⟩
theorem u8_nat {a : Int} (h : (Lit.int .u8 a).wf = true) : ∃ k : Nat, a = k ∧ k < 256 := by
  simp only [Lit.wf, Bool.and_eq_true, decide_eq_true_eq] at h
  have m1 : IntKind.u8.min = 0 := rfl
  have m2 : IntKind.u8.max = 255 := rfl
  exact ⟨a.toNat, by omega, by omega⟩
end Go.Proofs.YtkhikpnlpcankaaGreat
namespace Go.Proofs.YtkhikpnlpcankaaGreat
open Go Go.RowKit Go.Deep
def OwnK (w : World) (ks : List Nat) (e : Ending) (w' : World) : Prop := ∃ v, e = .returned v ∧ KO w.heap.size w w' v ks
section
variable {w : World} {v : Value} {ks : List Nat}
theorem rhas_walk (h : KV w v ks) (hl : ks.length ≤ 100000000) (k : Nat) :
    Calls Tryz.prog 17 #[v, .int .u64 (k : Nat)] w fun e w' => e = .returned (.bool (decide (k ∈ ks))) ∧ w = w' := by
  obtain ⟨F, c, rfl, h1, h2, h3⟩ := h.mem
  have HC := Lib.hid h3
  obtain ⟨b, hb⟩ : ∃ b, decide (k ∈ ks) = b := ⟨_, rfl⟩
  have HB := Lib.hid hb
  rw [hb]
  clear h h3 h2 h1 hb
  go_enter Tryz.func17, Tryz.ntmps17
  go_wp2_with fail
  go_loopg [5] ks.length (fun gg s5 wr => ∃ i : Nat, i + gg = ks.length ∧ s5 = .int .i64 (i : Nat) ∧ wr = w ∧ Hid (∀ j (hj : j < ks.length), j < i → ks[j] ≠ k))
  case atStart => exact ⟨0, by omega, rfl, rfl, Lib.hid (fun j _ hj => by omega)⟩
  case round =>
    obtain ⟨i, hi, rfl, rfl, HN⟩ := hrel
    by_cases hlt : i < ks.length
    · have hltI : (i : Int) < (ks.length : Int) := by omega
      obtain ⟨ad, hF, _, q0⟩ := HC.out i hlt
      subst hF
      by_cases he : ks[i] = k
      · rw [he] at q0
        have HT : Hid (b = true) := Lib.hid (by rw [← HB.out]; exact decide_eq_true (he ▸ List.getElem_mem hlt))
        clear he
        go_wp2
        go_ret
        exact ⟨congrArg (fun x : Bool => Ending.returned (Value.bool x)) HT.out.symm, rfl⟩
      · have HNX : Hid (∀ j (hj : j < ks.length), j < i + 1 → ks[j] ≠ k) := Lib.hid (fun j hj hji => by
          rcases Nat.lt_or_ge j i with h | h
          · exact HN.out j hj h
          · have : j = i := by omega
            subst this
            exact he)
        have hne : (((ks[i] : Nat) : Int) == (k : Int)) = false := by
          rw [beq_eq_false_iff_ne]
          omega
        generalize ks[i] = x at q0 hne
        clear he
        go_wp2
        go_roundg (gk - 1)
        case measure => omega
        case rel => exact ⟨i + 1, by omega, by go_num, rfl, HNX⟩
    · have hltI : ¬ (i : Int) < (ks.length : Int) := by omega
      have HF : Hid (b = false) := Lib.hid (by
        rw [← HB.out]
        refine decide_eq_false (fun hm => ?_)
        obtain ⟨j, hj, e⟩ := List.getElem_of_mem hm
        exact HN.out j hj (by omega) e)
      go_wp2
      go_ret
      exact ⟨congrArg (fun x : Bool => Ending.returned (Value.bool x)) HF.out.symm, rfl⟩
def wo (k : Nat) (ks : List Nat) : List Nat := ks.filter (fun x => x != k)
theorem wo_take {ks : List Nat} {k i : Nat} (hi : i < ks.length) : wo k (ks.take (i + 1)) = wo k (ks.take i) ++ (if ks[i] = k then [] else [ks[i]]) := by
  unfold wo
  rw [List.take_succ_eq_append_getElem hi, List.filter_append]
  congr 1
  by_cases e : ks[i] = k
  · rw [if_pos e]; simp [e]
  · rw [if_neg e]; simp [e]
theorem wo_len (k : Nat) (ks : List Nat) : (wo k ks).length ≤ ks.length := List.length_filter_le _ _
set_option maxHeartbeats 100000000 in
theorem rwithout_walk (h : KV w v ks) (hl : ks.length ≤ 100000000) (k : Nat) :
    Calls Tryz.prog 77 #[v, .int .u64 (k : Nat)] w (OwnK w (wo k ks)) := by
  have H := Lib.hid h
  obtain ⟨F, c, rfl, h1, h2, h3⟩ := h.mem
  clear h h3 h2 h1
  go_enter Tryz.func77, Tryz.ntmps77
  go_wp2_with fail
  go_loopg [5, 6] ks.length (fun gg s5 s6 wr => ∃ (i : Nat) (v5 : Value), i + gg = ks.length ∧ v5 = s5 ∧ s6 = .int .i64 (i : Nat) ∧ Hid (KO w.heap.size w wr v5 (wo k (ks.take i))))
  case atStart => exact ⟨0, _, by omega, rfl, rfl, Lib.hid (KO.nil (Below.refl _ _))⟩
  case round =>
    obtain ⟨i, v5, hi, rfl, rfl, HI⟩ := hrel
    by_cases hlt : i < ks.length
    · have hltI : (i : Int) < (ks.length : Int) := by omega
      obtain ⟨F', c', e, _, _, h3⟩ := (H.out.below HI.out.low).mem
      injection e with e1 e2 e3
      subst e1 e3
      obtain ⟨ad, hF, hadb, q0⟩ := h3 i hlt
      subst hF
      have HW := Lib.hid (wo_take (k := k) hlt)
      have hszw := HI.out.low.size
      clear h3
      by_cases he : ks[i] = k
      · have HW2 : Hid (wo k (ks.take (i + 1)) = wo k (ks.take i)) := Lib.hid (by rw [HW.out, if_pos he, List.append_nil])
        rw [he] at q0
        have HN := HI.out
        rw [← HW2.out] at HN
        have HNX := Lib.hid HN
        clear he HN HI HW
        go_wp2
        go_roundg (gk - 1)
        case measure => omega
        case rel => exact ⟨i + 1, v5, by omega, rfl, by go_num, HNX⟩
      · have hne : (((ks[i] : Nat) : Int) == (k : Int)) = false := by
          rw [beq_eq_false_iff_ne]
          omega
        have hne2 : (((ks[i] : Nat) : Int) != (k : Int)) = true := by
          rw [bne_iff_ne]
          omega
        have HW2 : Hid (wo k (ks.take i) ++ [ks[i]] = wo k (ks.take (i + 1))) := Lib.hid (by rw [HW.out, if_neg he])
        have hwl := wo_len k (ks.take i)
        rw [List.length_take] at hwl
        obtain ⟨ys, hys⟩ : ∃ ys, wo k (ks.take i) = ys := ⟨_, rfl⟩
        obtain ⟨zs, hzs⟩ : ∃ zs, wo k (ks.take (i + 1)) = zs := ⟨_, rfl⟩
        rw [hys] at HI HW2 hwl
        rw [hzs] at HW2
        have HZS := Lib.hid hzs
        obtain ⟨x, hx⟩ : ∃ x, ks[i] = x := ⟨_, rfl⟩
        rw [hx] at q0 hne hne2 HW2
        have hyl : ys.length ≤ 100000000 := by omega
        clear he hys hzs hx HW hwl
        have HOW := Lib.hid (HI.out.alloc hszw (.cells #[.int .u64 (x : Nat)] 32))
        have HSRC := Lib.hid (KV.one wr x)
        have hszA : w.heap.size ≤ (wr.alloc (.cells #[.int .u64 (x : Nat)] 32)).heap.size := by simp; omega
        go_wp2_with (at_builtin; refine wpList_append_kv rfl (.tmp 19) (.tmp 24) rfl w.heap.size (by kernel_rfl) (by kernel_rfl) v5 ys rfl HOW.out _ [x] rfl HSRC.out (by simp; omega) hszA ?_)
        intro v6 w6 hown6 _ _
        rw [HW2.out, ← HZS.out] at hown6
        have HN := Lib.hid hown6
        clear hown6 hne hne2 q0 hadb
        go_wp2
        go_roundg (gk - 1)
        case measure => omega
        case rel => exact ⟨i + 1, v6, by omega, rfl, by go_num, HN⟩
    · have hltI : ¬ (i : Int) < (ks.length : Int) := by omega
      obtain rfl : i = ks.length := by omega
      have hfin := HI.out
      rw [List.take_length] at hfin
      have HF := Lib.hid hfin
      clear hfin HI
      go_wp2
      go_ret
      exact ⟨_, rfl, HF.out⟩
end
end Go.Proofs.YtkhikpnlpcankaaGreat
