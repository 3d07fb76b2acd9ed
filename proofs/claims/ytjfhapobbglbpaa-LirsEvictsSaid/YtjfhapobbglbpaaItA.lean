/- Lists of items (a key, and a number), as values that are read; own rows of them. -/
import Derived.Test.YtjfhapobbglbpaaPoP
import Derived.Test.YtjfhapobbglbpaaStepA
namespace Go.Proofs.Ytjfhapobbglbpaa
open Go Go.RowKit Go.Deep

structure It where
  key : Nat
  f : Nat
deriving DecidableEq
def itV (x : It) : List Value := [.int .u64 (x.key : Nat), .int .i64 (x.f : Nat)]
def itL (xs : List It) : List Value := xs.flatMap itV
theorem itL_cons (x : It) (xs : List It) : itL (x :: xs) = itV x ++ itL xs := rfl
theorem itL_append (a b : List It) : itL a ++ itL b = itL (a ++ b) := by simp [itL]
theorem itL_len : ∀ (xs : List It), (itL xs).length = xs.length * 2
  | [] => rfl
  | x :: xs => by rw [itL_cons, List.length_append, itL_len xs, List.length_cons]; simp [itV]; omega
theorem itL_one (xs : List It) : ∀ u ∈ itL xs, u.oneCell' = true := fun u hu => by
  obtain ⟨x, _, hx⟩ := List.mem_flatMap.1 hu
  simp only [itV, List.mem_cons, List.not_mem_nil, or_false] at hx
  rcases hx with rfl | rfl <;> rfl
theorem itL_at : ∀ (xs : List It) (i : Nat) (h : i < xs.length), (itL xs)[i * 2]? = some (.int .u64 (xs[i].key : Nat)) ∧ (itL xs)[i * 2 + 1]? = some (.int .i64 (xs[i].f : Nat))
  | x :: xs, 0, _ => ⟨rfl, rfl⟩
  | x :: xs, i + 1, h => by
    have := itL_at xs i (by simpa using h)
    rw [itL_cons]
    refine ⟨?_, ?_⟩
    · rw [List.getElem?_append_right (by simp [itV]; omega)]
      simpa [itV, show (i + 1) * 2 - 2 = i * 2 by omega] using this.1
    · rw [List.getElem?_append_right (by simp [itV]; omega)]
      simpa [itV, show (i + 1) * 2 + 1 - 2 = i * 2 + 1 by omega] using this.2
theorem itL_take : ∀ (xs : List It) (m : Nat), itL (xs.take m) = (itL xs).take (m * 2)
  | [], m => by simp [itL]
  | x :: xs, 0 => by simp [itL]
  | x :: xs, m + 1 => by
    rw [List.take_succ_cons, itL_cons, itL_cons, itL_take xs m]
    show _ = List.take ((m + 1) * 2) (_ :: _ :: itL xs)
    rw [show (m + 1) * 2 = m * 2 + 1 + 1 by omega, List.take_succ_cons, List.take_succ_cons]
    rfl
def keysI (xs : List It) : List Nat := xs.map It.key
/- The value v reads as the items xs. -/
def IV (w : World) (v : Value) (xs : List It) : Prop := RV w 2 v xs.length (itL xs)
section
variable {w w' : World} {v : Value} {xs : List It} {S : List Nat}
theorem IV.form (h : IV w v xs) : ∃ F n c, v = .slice F n c := by
  obtain ⟨_, ⟨F, c, e, _⟩⟩ := h
  exact ⟨F, _, c, e⟩
theorem IV.mem (h : IV w v xs) : ∃ F c, v = .slice F xs.length c ∧ xs.length ≤ c ∧ (F = none → c = 0) ∧ ∀ i (h : i < xs.length), ∃ g off, F = some ⟨g, off, none⟩ ∧ g < w.heap.size ∧ w.cell? ⟨g, off + i * 2, none⟩ = some (.int .u64 (xs[i].key : Nat)) ∧ w.cell? ⟨g, off + i * 2 + 1, none⟩ = some (.int .i64 (xs[i].f : Nat)) := by
  obtain ⟨_, ⟨F, c, e, h1, h2, h3⟩⟩ := h
  refine ⟨F, c, e, h1, h2, fun i hi => ?_⟩
  obtain ⟨a1, a2⟩ := itL_at xs i hi
  obtain ⟨ad, rfl, h4, h5⟩ := h3 _ _ a1
  obtain ⟨ad2, e2, _, h6⟩ := h3 _ _ a2
  injection e2 with e2
  subst e2
  obtain ⟨g, off, sp⟩ := ad
  cases sp with
  | none =>
    rw [Addr.add_lit] at h5 h6
    exact ⟨g, off, rfl, h4, h5, h6⟩
  | some s =>
    obtain ⟨ad, e3, _, h7⟩ := h3 0 _ (itL_at xs 0 (by omega)).1
    injection e3 with e3
    subst e3
    unfold World.cell? at h7
    simp [Addr.add] at h7
    split at h7 <;> cases h7
theorem IV.below (h : IV w v xs) (hb : Below w.heap.size w w') : IV w' v xs := RV.below h hb
theorem IV.drewn (h : IV w v xs) (k : Nat) : IV (w.drewN k) v xs := RV.drewn h k
theorem IV.nil (w : World) : IV w (.slice none 0 0) [] := RV.nil w 2
theorem IV.of_own {B : Nat} {e : TypeId} (h : w.ownsRow B e 2 v xs.length (itL xs)) : IV w v xs := RV.of_own h
theorem IV.take (h : IV w v xs) (n : Nat) (hn : n ≤ xs.length) : ∃ F c, v = .slice F xs.length c ∧ IV w (.slice F n c) (xs.take n) := by
  obtain ⟨F, c, e, h1⟩ := RV.take h n hn
  refine ⟨F, c, e, ?_⟩
  have e1 : (xs.take n).length = n := by rw [List.length_take]; omega
  rw [IV, e1, itL_take]
  exact h1
theorem IV.only (h : IV w v xs) (ho : Only S w w') (hS : ∀ g ∈ S, Bx w g) : IV w' v xs := by
  have hm := h.mem
  obtain ⟨hl, ⟨F, c, e, h1, h2, h3⟩⟩ := h
  refine ⟨hl, ⟨F, c, e, h1, h2, fun j u hu => ?_⟩⟩
  obtain ⟨ad, e2, h4, h5⟩ := h3 j u hu
  refine ⟨ad, e2, Nat.lt_of_lt_of_le h4 ho.size, ?_⟩
  rw [← h5]
  have hb : (ad.add j).block = ad.block := ad_block ad j
  refine World.cell?_of_block (w := w) ?_
  rw [hb]
  refine ho.block _ h4 (fun hm2 => ?_)
  obtain ⟨cs, t, hg, hn, _⟩ := hS _ hm2
  obtain ⟨F', c', e', _, _, h6⟩ := hm
  have hj := (List.getElem?_eq_some_iff.1 hu).1
  rw [itL_len] at hj
  obtain ⟨g, off, e3, _, h7, _⟩ := h6 0 (by omega)
  rw [e] at e'
  injection e' with e4 _ _
  rw [← e4, e2] at e3
  injection e3 with e3
  subst e3
  unfold World.cell? at h7
  rw [hg] at h7
  exact hn.at_ (by simpa using h7)
end
/- An own row of items; e: the items' type. -/
structure OwnI (e : TypeId) (B : Nat) (w0 w : World) (v : Value) (xs : List It) : Prop where
  low : Below B w0 w
  own : w.ownsRow B e 2 v xs.length (itL xs)
section
variable {e : TypeId} {B : Nat} {w0 w w' : World} {v : Value} {xs : List It}
theorem OwnI.iv (h : OwnI e B w0 w v xs) : IV w v xs := IV.of_own h.own
theorem OwnI.nil (h : Below B w0 w) : OwnI e B w0 w (.slice none 0 0) [] := ⟨h, World.ownsRow_nil _ _ _ _⟩
theorem OwnI.alloc (h : OwnI e B w0 w v xs) (hB : B ≤ w.heap.size) (o : Obj) : OwnI e B w0 (w.alloc o) v xs := ⟨h.low.alloc hB o, h.own.alloc o⟩
theorem OwnI.drewn (h : OwnI e B w0 w v xs) (k : Nat) : OwnI e B w0 (w.drewN k) v xs := ⟨below_drewn h.low k, h.own⟩
theorem OwnI.below (h : OwnI e B w0 w v xs) (hB : B ≤ w.heap.size) (hb : Below w.heap.size w w') : OwnI e B w0 w' v xs := ⟨h.low.trans (hb.mono hB), own_below h.own hb⟩
theorem OwnI.one (hB : B ≤ w.heap.size) (h : Below B w0 w) (x : It) : OwnI e B w0 (w.alloc (.cells #[.int .u64 (x.key : Nat), .int .i64 (x.f : Nat)] e)) (.slice (some ⟨w.heap.size, 0, none⟩) 1 1) [x] :=
  ⟨h.alloc hB _, World.ownsRow_lit (size := 2) w #[.int .u64 (x.key : Nat), .int .i64 (x.f : Nat)] 1 hB (by unfold maxLen; omega) rfl⟩
theorem OwnI.empty (hB : B ≤ w.heap.size) (h : Below B w0 w) : OwnI e B w0 (w.alloc (.cells #[] e)) (.slice (some ⟨w.heap.size, 0, none⟩) 0 0) [] :=
  ⟨h.alloc hB _, World.ownsRow_lit (size := 2) w #[] 0 hB (by unfold maxLen; omega) rfl⟩
theorem IV.one (w : World) (e : TypeId) (x : It) : IV (w.alloc (.cells #[.int .u64 (x.key : Nat), .int .i64 (x.f : Nat)] e)) (.slice (some ⟨w.heap.size, 0, none⟩) 1 1) [x] := (OwnI.one (e := e) (Nat.le_refl _) (Below.refl _ _) x).iv
theorem OwnI.lt (h : OwnI e B w0 w v xs) : ∀ g, v.ownBlock = some g → g < w.heap.size := fun _ hg => (h.own.lt _ hg).2
theorem Nw.of_iown {B' : Nat} (u : Value) (h : OwnI e B w0 w v xs) (hB : B' ≤ B) : Nw B' u v := fun n c ad e => by
  subst e
  have := (h.own.lt _ rfl).1
  exact .inr (by omega)
theorem Kp.iv {v' : Value} {u : Value} {ys : List It} (h : Kp w v w' v') (hu : IV w u ys) (ho : Off u v) : IV w' u ys ∧ Off u v' := h _ _ _ _ (by decide) hu ho
end
section
variable {w w1 w2 : World} {T U : TypeId} {b r : Nat} {cs zs : Array Value} {v : Value} {xs : List It}
theorem Bo.iv (h : Bo w w1 T b r cs zs) (ho : Only [b, r] w1 w2) (hk : IV w1 v xs) : IV w2 v xs := hk.only ho (fun g hg => (h.bx g hg).1)
theorem Bp.iv (h : Bp w w1 T U b r cs zs) (ho : Only [b, r] w1 w2) (hk : IV w1 v xs) : IV w2 v xs := hk.only ho (fun g hg => (h.bx g hg).1)
end
theorem Bo.kti {w w1 w2 : World} {T : TypeId} {b r : Nat} {cs zs : Array Value} {e : TypeId} (h : Bo w w1 T b r cs zs) (hk : Kt e w1 w2) (hT : T ≠ e) (hlow : Below w.heap.size w w2) : Bo w w2 T b r cs zs := ⟨hlow, hk _ _ _ _ h.box hT, hk _ _ _ _ h.res hT, h.ge, h.nu, h.ty⟩
/- A box of one item, as a list of one. -/
theorem IV.box {w : World} {g c : Nat} {x : It} (h : IV w (.slice (some ⟨g, 0, none⟩) 1 c) [x]) : g < w.heap.size ∧ w.cell? ⟨g, 0, none⟩ = some (.int .u64 (x.key : Nat)) ∧ w.cell? ⟨g, 1, none⟩ = some (.int .i64 (x.f : Nat)) := by
  obtain ⟨F, c', e, _, _, h3⟩ := h.mem
  obtain ⟨g', off, e2, hg, q0, q1⟩ := h3 0 (by simp)
  injection e with e3 e4 e5
  rw [← e3] at e2
  injection e2 with e2
  injection e2 with e6 e7 e8
  subst e6 e7
  simpa using ⟨hg, q0, q1⟩
theorem Off.blk {g n c g' n' c' : Nat} {off off' : Nat} (h : g' ≠ g) : Off (.slice (some ⟨g, off, none⟩) n c) (.slice (some ⟨g', off', none⟩) n' c') := fun m d ad e => by
  injection e with e1 e2 e3
  injection e1 with e1
  subst e1
  simpa [Value.ownBlock] using h
/- append of items. -/
theorem wpList_append_iv {P : Program} {w : World} {ops : Array Oper} {rest : List Oper} {o : Oper} {a : Act} {Q : Exit → Act → World → Prop} {e t : TypeId} (hgd : o.guard = none) (s x : Operand)
    (ho : o.op = .call { callee := .builtin .append, args := #[s, x], argTypes := #[t, t] }) (base : Nat) (ht : P.underlying t = some (.slice e))
    (hinfo : (P.info? e).map (fun i => (i.zero, i.size, i.bytes)) = some (some (.agg #[.int .u64 0, .int .i64 0]), 2, 16))
    (v : Value) (xs : List It) (hs : a.eval s = v) {w0 : World} (hown : OwnI e base w0 w v xs) (y : Value) (ys : List It) (hx : a.eval x = y)
    (hsrc : IV w y ys) (h63 : xs.length + ys.length ≤ 1000000000) (hbase : base ≤ w.heap.size)
    (h : ∀ v' w', OwnI e base w0 w' v' (xs ++ ys) → Kp w v w' v' → Kt e w w' → wpList P ops Q rest (a.put o.dst v') w') : wpList P ops Q (o :: rest) a w := by
  refine wpList_append_rv hgd s x _ ho base e (.agg #[.int .u64 0, .int .i64 0]) 2 16 ht hinfo rfl (by decide) v xs.length (itL xs) hs hown.own hown.low y ys.length (itL ys) hx hsrc (itL_one ys) (by omega) h63 hbase ?_
  intro v' w' h1 h2 h3 h4
  refine h v' w' ⟨h2, ?_⟩ h3 h4
  rw [List.length_append, ← itL_append]
  exact h1
theorem step_append_iv {P : Program} {w : World} {ops : Array Oper} {o : Oper} {a : Act} {K : Act → World → Prop} {Q : Exit → Act → World → Prop} {E : Prop} {e t : TypeId} (hgd : o.guard = none) (s x : Operand)
    (ho : o.op = .call { callee := .builtin .append, args := #[s, x], argTypes := #[t, t] }) (base : Nat) (ht : P.underlying t = some (.slice e))
    (hinfo : (P.info? e).map (fun i => (i.zero, i.size, i.bytes)) = some (some (.agg #[.int .u64 0, .int .i64 0]), 2, 16))
    (v : Value) (xs : List It) (hs : a.eval s = v) {w0 : World} (hown : OwnI e base w0 w v xs) (y : Value) (ys : List It) (hx : a.eval x = y)
    (hsrc : IV w y ys) (h63 : xs.length + ys.length ≤ 1000000000) (hbase : base ≤ w.heap.size)
    (h : ∀ v' w', OwnI e base w0 w' v' (xs ++ ys) → K (a.put o.dst v') w') : if Region.wanted o (yielded ops a.tmps) = true then Oper.wp P o a w K Q else E := by
  obtain ⟨hl, ⟨F, c, rfl, h3, h4, h5⟩⟩ := hsrc
  refine step_append_src hgd s x t ho base e (.agg #[.int .u64 0, .int .i64 0]) 2 16 ht hinfo rfl (by decide) v xs.length (itL xs) hs hown.own F ys.length c (itL ys) hx ?_ (itL_one ys) (by omega) h63 hbase
    (fun v' w' h1 h2 => h v' w' ⟨below_grown hown.low hown.own h2 hbase, by rw [List.length_append, ← itL_append]; exact h1⟩)
  cases F with
  | none =>
    have hc := h4 rfl
    refine .inl ⟨rfl, by omega, hc, List.length_eq_zero_iff.1 (by omega)⟩
  | some ad =>
    refine .inr ⟨ad, rfl, hl, fun j u hu => ?_⟩
    obtain ⟨ad', e2, _, h6⟩ := h5 j u hu
    injection e2 with e2
    subst e2
    exact h6
end Go.Proofs.Ytjfhapobbglbpaa
