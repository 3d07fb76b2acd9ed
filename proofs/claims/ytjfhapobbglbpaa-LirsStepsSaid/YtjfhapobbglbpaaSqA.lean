/- Rows in memory as values that are only read: nil, own, or handed in; lists of keys among them; append onto a row of the call's own. -/
import Derived.Test.YtjfhapobbglbpaaAppS
import Derived.Laws.OwnMore
import Derived.Deep.AppendLies
namespace Go.Proofs.Ytjfhapobbglbpaa
open Go Go.RowKit Go.Deep

theorem below_drewn {B : Nat} {w0 w : World} (h : Below B w0 w) (n : Nat) : Below B w0 (w.drewN n) := ⟨h.os, h.tape, h.output, h.size, h.block⟩
theorem ad_block (a : Addr) (i : Nat) : (a.add i).block = a.block := by unfold Addr.add; split <;> rfl
/- The value v reads as n elements of so many cells each: xs. -/
structure RV (w : World) (size : Nat) (v : Value) (n : Nat) (xs : List Value) : Prop where
  len : xs.length = n * size
  mem : ∃ F c, v = .slice F n c ∧ n ≤ c ∧ (F = none → c = 0) ∧ ∀ j u, xs[j]? = some u → ∃ ad, F = some ad ∧ ad.block < w.heap.size ∧ w.cell? (ad.add j) = some u
section
variable {w w' : World} {v : Value} {size n : Nat} {xs : List Value}
theorem RV.below (h : RV w size v n xs) (hb : Below w.heap.size w w') : RV w' size v n xs := by
  obtain ⟨hl, ⟨F, c, e, h1, h2, h3⟩⟩ := h
  refine ⟨hl, ⟨F, c, e, h1, h2, fun i u hi => ?_⟩⟩
  obtain ⟨ad, e2, h4, h5⟩ := h3 i u hi
  exact ⟨ad, e2, Nat.lt_of_lt_of_le h4 hb.size, (hb.cell (p := ad.add i) (by rw [ad_block]; exact h4)).trans h5⟩
theorem RV.drewn (h : RV w size v n xs) (k : Nat) : RV (w.drewN k) size v n xs := ⟨h.len, h.mem⟩
theorem RV.nil (w : World) (size : Nat) : RV w size (.slice none 0 0) 0 [] := ⟨by simp, ⟨none, 0, rfl, Nat.le_refl _, fun _ => rfl, fun i u hi => by simp at hi⟩⟩
theorem RV.of_own {B : Nat} {e : TypeId} (h : w.ownsRow B e size v n xs) : RV w size v n xs := by
  refine ⟨h.1, ?_⟩
  rcases h.2 with ⟨rfl, h0⟩ | ⟨g, cap, cur, rfl, hB, hg, hle, _⟩
  · subst h0
    have : xs = [] := List.length_eq_zero_iff.1 (by have := h.1; omega)
    subst this
    exact (RV.nil w size).mem
  · exact ⟨_, _, rfl, hle, (fun e => by cases e), fun i u hi => ⟨_, rfl, (Array.getElem?_eq_some_iff.1 hg).1, h.cells (g := g) rfl i u hi⟩⟩
theorem RV.take (h : RV w size v n xs) (m : Nat) (hm : m ≤ n) : ∃ F c, v = .slice F n c ∧ RV w size (.slice F m c) m (xs.take (m * size)) := by
  obtain ⟨hl, ⟨F, c, e, h1, h2, h3⟩⟩ := h
  have hle : m * size ≤ n * size := Nat.mul_le_mul_right _ hm
  refine ⟨F, c, e, by rw [List.length_take]; omega, ⟨F, c, rfl, by omega, h2, fun i u hi => ?_⟩⟩
  rw [List.getElem?_take] at hi
  split at hi
  · exact h3 i u hi
  · cases hi
theorem RV.lt {F : Option Addr} {c : Nat} {ad : Addr} (h : RV w size (.slice F (n + 1) c) (n + 1) xs) (hs : 0 < size) (hF : F = some ad) : ad.block < w.heap.size := by
  obtain ⟨hl, ⟨F', c', e, h1, h2, h3⟩⟩ := h
  injection e with e1 e2 e3
  subst e1 e3
  have h0 : 0 < xs.length := by rw [hl]; exact Nat.mul_pos (Nat.succ_pos n) hs
  obtain ⟨ad', e4, h4, _⟩ := h3 0 xs[0] (List.getElem?_eq_getElem h0)
  rw [hF] at e4
  injection e4 with e4
  subst e4
  exact h4
/- The other value's row, if it has elements, lies in another block. -/
def Off (u v : Value) : Prop := ∀ n c ad, u = .slice (some ad) (n + 1) c → v.ownBlock ≠ some ad.block
theorem Off.nil (u : Value) : Off u (.slice none 0 0) := fun _ _ _ _ h => by simp [Value.ownBlock] at h
theorem Off.of_lt {B : Nat} {e : TypeId} {u : Value} {m s : Nat} {ys : List Value} {w0 : World} (h : RV w0 s u m ys) (hs : 0 < s) (ho : w.ownsRow B e size v n xs) (hB : w0.heap.size ≤ B) : Off u v := fun k c ad hu hv => by
  subst hu
  obtain ⟨F, c', e, _⟩ := h.mem
  injection e with _ e2 _
  subst e2
  have h1 := h.lt hs rfl
  have h2 := (ho.lt _ hv).1
  omega
/- What is read elsewhere is read still, and lies elsewhere still. -/
def Kp (w : World) (v : Value) (w' : World) (v' : Value) : Prop := ∀ s u m ys, 0 < s → RV w s u m ys → Off u v → RV w' s u m ys ∧ Off u v'
theorem Kp.refl (w : World) (v : Value) : Kp w v w v := fun _ _ _ _ _ h ho => ⟨h, ho⟩
theorem Kp.grown {v v' : Value} (hg : w.grownBy w' v.ownBlock) (hat : v'.ownBlock = v.ownBlock ∨ v'.ownBlock = some w.heap.size) : Kp w v w' v' := fun s u m ys hs h ho => by
  have hr := h
  obtain ⟨hl, ⟨F, c, rfl, h1, h2, h3⟩⟩ := h
  refine ⟨⟨hl, ⟨F, c, rfl, h1, h2, fun j x hj => ?_⟩⟩, fun k c' ad hu => ?_⟩
  · obtain ⟨ad, rfl, h4, h5⟩ := h3 j x hj
    have hm : 0 < m := by
      rcases Nat.eq_zero_or_pos m with rfl | h
      · have := (List.getElem?_eq_some_iff.1 hj).1
        omega
      · exact h
    obtain ⟨k, rfl⟩ : ∃ k, m = k + 1 := ⟨m - 1, by omega⟩
    exact ⟨ad, rfl, Nat.lt_of_lt_of_le h4 hg.size, hg.cell h5 (by rw [ad_block]; exact fun e => ho k c ad rfl e.symm)⟩
  · rcases hat with e | e
    · rw [e]; exact ho k c' ad hu
    · rw [e]
      intro e2
      injection e2 with e2
      injection hu with e3 e4 e5
      subst e4
      have := hr.lt hs e3
      omega
end
/- Blocks of other types stay. -/
def Kt (e : TypeId) (w w' : World) : Prop := ∀ (g : Nat) (cs : Array Value) (t : TypeId) (f : Nat × Nat), w.heap[g]? = some (Obj.cells cs t f) → t ≠ e → w'.heap[g]? = some (Obj.cells cs t f)
theorem Kt.refl (e : TypeId) (w : World) : Kt e w w := fun _ _ _ _ h _ => h
theorem Kt.grown {B : Nat} {e : TypeId} {size n : Nat} {v : Value} {xs : List Value} {w w' : World} (hown : w.ownsRow B e size v n xs) (hg : w.grownBy w' v.ownBlock) : Kt e w w' := fun g cs t f h ht => by
  refine (hg.block g (Array.getElem?_eq_some_iff.1 h).1 (fun hv => ?_)).trans h
  rcases hown.2 with ⟨rfl, _⟩ | ⟨g', cap, cur, rfl, _, e3, _⟩
  · simp [Value.ownBlock] at hv
  · simp only [Value.ownBlock, Option.some.injEq] at hv
    subst hv
    rw [e3] at h
    injection h with h
    injection h with _ h
    exact ht h.symm
/- append onto a row of the call's own, whatever its source is. -/
theorem wpList_append_rv {P : Program} {w : World} {ops : Array Oper} {rest : List Oper} {o : Oper} {a : Act} {Q : Exit → Act → World → Prop} (hgd : o.guard = none) (s x : Operand) (t : TypeId)
    (ho : o.op = .call { callee := .builtin .append, args := #[s, x], argTypes := #[t, t] }) (base : Nat) (e : TypeId) (z : Value) (size bytes : Nat) (ht : P.underlying t = some (.slice e))
    (hinfo : (P.info? e).map (fun i => (i.zero, i.size, i.bytes)) = some (some z, size, bytes)) (hzs : z.cells.size = size) (hsz : 0 < size)
    (v : Value) (n : Nat) (xs : List Value) (hs : a.eval s = v) (hown : w.ownsRow base e size v n xs) {w0 : World} (hbl : Below base w0 w) (y : Value) (m : Nat) (news : List Value) (hx : a.eval x = y)
    (hsrc : RV w size y m news) (h1 : ∀ u ∈ news, u.oneCell' = true) (hbound : (n + m) * bytes ≤ 140737488355328) (h63 : n + m ≤ 1000000000) (hbase : base ≤ w.heap.size)
    (h : ∀ v' w', w'.ownsRow base e size v' (n + m) (xs ++ news) → Below base w0 w' → Kp w v w' v' → Kt e w w' → wpList P ops Q rest (a.put o.dst v') w') : wpList P ops Q (o :: rest) a w := by
  obtain ⟨i, hi, hz, hsize, hby⟩ := info_parts hinfo
  obtain ⟨hl, ⟨F, c, rfl, h3, h4, h5⟩⟩ := hsrc
  cases F with
  | none =>
    have hc := h4 rfl
    obtain rfl : c = 0 := hc
    obtain rfl : m = 0 := by omega
    obtain rfl : news = [] := List.length_eq_zero_iff.1 (by omega)
    refine wpList_append_own_none hgd s x t ho base e i size ht hi v n xs hs hown hx ?_
    exact h v w (by simpa using hown) hbl (Kp.refl w v) (Kt.refl e w)
  | some ad =>
    refine wpList_append_own_at w hgd s x t ho base e i z size bytes ht hi hz hsize hby hzs hsz v n xs hs hown ad m c news hx hl (fun j u hu => ?_) h1 (by unfold maxLen; omega) hbound hbase ?_
    · obtain ⟨ad', e2, _, h6⟩ := h5 j u hu
      injection e2 with e2
      subst e2
      exact h6
    · intro v' w' h2 h3 _ h6
      exact h v' w' h2 (below_grown hbl hown h3 hbase) (Kp.grown h3 h6) (Kt.grown hown h3)

/- Lists of keys. -/
def u64L (ks : List Nat) : List Value := ks.map (fun k => .int .u64 (k : Nat))
theorem u64L_one (ks : List Nat) : ∀ u ∈ u64L ks, u.oneCell' = true := fun u hu => by
  obtain ⟨k, _, rfl⟩ := List.mem_map.1 hu
  rfl
theorem u64L_append (a b : List Nat) : u64L a ++ u64L b = u64L (a ++ b) := by simp [u64L]
theorem u64L_len (a : List Nat) : (u64L a).length = a.length := by simp [u64L]
/- The value v reads as the keys ks. -/
def KV (w : World) (v : Value) (ks : List Nat) : Prop := RV w 1 v ks.length (u64L ks)
section
variable {w w' : World} {v : Value} {ks : List Nat}
theorem KV.mem (h : KV w v ks) : ∃ F c, v = .slice F ks.length c ∧ ks.length ≤ c ∧ (F = none → c = 0) ∧ ∀ i (h : i < ks.length), ∃ ad, F = some ad ∧ ad.block < w.heap.size ∧ w.cell? (ad.add i) = some (.int .u64 (ks[i] : Nat)) := by
  obtain ⟨_, ⟨F, c, e, h1, h2, h3⟩⟩ := h
  exact ⟨F, c, e, h1, h2, fun i hi => h3 i _ (by simp [u64L, hi])⟩
theorem KV.form (h : KV w v ks) : ∃ F n c, v = .slice F n c := by
  obtain ⟨F, c, e, _⟩ := h.mem
  exact ⟨F, _, c, e⟩
theorem KV.below (h : KV w v ks) (hb : Below w.heap.size w w') : KV w' v ks := RV.below h hb
theorem KV.drewn (h : KV w v ks) (k : Nat) : KV (w.drewN k) v ks := RV.drewn h k
theorem KV.nil (w : World) : KV w (.slice none 0 0) [] := RV.nil w 1
theorem KV.of_own {B : Nat} {e : TypeId} (h : w.ownsRow B e 1 v ks.length (u64L ks)) : KV w v ks := RV.of_own h
theorem KV.take (h : KV w v ks) (n : Nat) (hn : n ≤ ks.length) : ∃ F c, v = .slice F ks.length c ∧ KV w (.slice F n c) (ks.take n) := by
  obtain ⟨F, c, e, h1⟩ := RV.take h n hn
  refine ⟨F, c, e, ?_⟩
  have e1 : (ks.take n).length = n := by rw [List.length_take]; omega
  have e2 : u64L (ks.take n) = (u64L ks).take (n * 1) := by simp [u64L, List.map_take]
  rw [KV, e1, e2]
  exact h1
theorem KV.cut {F : Option Addr} {c : Nat} (h : KV w (.slice F ks.length c) ks) : KV w (.slice F (ks.length - 1) c) ks.dropLast := by
  obtain ⟨F', c', e, h1⟩ := h.take (ks.length - 1) (by omega)
  injection e with e1 _ e3
  subst e1 e3
  rw [← List.dropLast_eq_take] at h1
  exact h1
theorem Kp.kv {v v' : Value} (h : Kp w v w' v') {u : Value} (hk : KV w u ks) (ho : Off u v) : KV w' u ks ∧ Off u v' := h _ _ _ _ (by decide) hk ho
theorem KV.one (w : World) (x : Nat) : KV (w.alloc (.cells #[.int .u64 (x : Nat)] 35)) (.slice (some ⟨w.heap.size, 0, none⟩) 1 1) [x] :=
  KV.of_own (ks := [x]) (World.ownsRow_lit (base := 0) w #[.int .u64 (x : Nat)] 1 (Nat.zero_le _) (by unfold maxLen; omega) rfl)
end
/- Own rows of keys, in worlds that only grow. -/
theorem own_below {w w' : World} {B : Nat} {e : TypeId} {size n : Nat} {v : Value} {xs : List Value} (h : w.ownsRow B e size v n xs) (hb : Below w.heap.size w w') : w'.ownsRow B e size v n xs := by
  refine ⟨h.1, ?_⟩
  rcases h.2 with q | ⟨g, cap, cur, e1, e2, e3, e4⟩
  · exact .inl q
  · exact .inr ⟨g, cap, cur, e1, e2, (hb.block g (Array.getElem?_eq_some_iff.1 e3).1).trans e3, e4⟩
theorem own_low {w : World} {B B' size n : Nat} {e : TypeId} {v : Value} {xs : List Value} (h : w.ownsRow B e size v n xs) (hb : B' ≤ B) : w.ownsRow B' e size v n xs :=
  ⟨h.1, h.2.imp id (fun ⟨g, cap, cur, e1, e2, rest⟩ => ⟨g, cap, cur, e1, Nat.le_trans hb e2, rest⟩)⟩
/- The own row v has the keys ks: nothing below B has changed since w0. -/
structure KO (B : Nat) (w0 w : World) (v : Value) (ks : List Nat) : Prop where
  low : Below B w0 w
  own : w.ownsRow B 35 1 v ks.length (u64L ks)
section
variable {B : Nat} {w0 w w' : World} {v : Value} {ks : List Nat}
theorem KO.kv (h : KO B w0 w v ks) : KV w v ks := KV.of_own h.own
theorem KO.nil (h : Below B w0 w) : KO B w0 w (.slice none 0 0) [] := ⟨h, World.ownsRow_nil _ _ _ _⟩
theorem KO.alloc (h : KO B w0 w v ks) (hB : B ≤ w.heap.size) (o : Obj) : KO B w0 (w.alloc o) v ks := ⟨h.low.alloc hB o, h.own.alloc o⟩
theorem KO.drewn (h : KO B w0 w v ks) (k : Nat) : KO B w0 (w.drewN k) v ks := ⟨below_drewn h.low k, h.own⟩
theorem KO.below (h : KO B w0 w v ks) (hB : B ≤ w.heap.size) (hb : Below w.heap.size w w') : KO B w0 w' v ks := ⟨h.low.trans (hb.mono hB), own_below h.own hb⟩
theorem KO.one (hB : B ≤ w.heap.size) (h : Below B w0 w) (x : Nat) : KO B w0 (w.alloc (.cells #[.int .u64 (x : Nat)] 35)) (.slice (some ⟨w.heap.size, 0, none⟩) 1 1) [x] :=
  ⟨h.alloc hB _, World.ownsRow_lit w #[.int .u64 (x : Nat)] 1 hB (by unfold maxLen; omega) rfl⟩
theorem KO.empty (hB : B ≤ w.heap.size) (h : Below B w0 w) : KO B w0 (w.alloc (.cells #[] 35)) (.slice (some ⟨w.heap.size, 0, none⟩) 0 0) [] :=
  ⟨h.alloc hB _, World.ownsRow_lit w #[] 0 hB (by unfold maxLen; omega) rfl⟩
theorem Off.of_own {u : Value} {js : List Nat} {w1 : World} (hu : KV w1 u js) (h : KO B w0 w v ks) (hB : w1.heap.size ≤ B) : Off u v := Off.of_lt hu (by decide) h.own hB
end
/- append of keys. -/
theorem wpList_append_kv {P : Program} {w : World} {ops : Array Oper} {rest : List Oper} {o : Oper} {a : Act} {Q : Exit → Act → World → Prop} (hgd : o.guard = none) (s x : Operand)
    (ho : o.op = .call { callee := .builtin .append, args := #[s, x], argTypes := #[25, 25] }) (base : Nat) (ht : P.underlying 25 = some (.slice 35))
    (hinfo : (P.info? 35).map (fun i => (i.zero, i.size, i.bytes)) = some (some (.int .u64 0), 1, 8))
    (v : Value) (ks : List Nat) (hs : a.eval s = v) {w0 : World} (hown : KO base w0 w v ks) (y : Value) (js : List Nat) (hx : a.eval x = y)
    (hsrc : KV w y js) (h63 : ks.length + js.length ≤ 1000000000) (hbase : base ≤ w.heap.size)
    (h : ∀ v' w', KO base w0 w' v' (ks ++ js) → Kp w v w' v' → Kt 35 w w' → wpList P ops Q rest (a.put o.dst v') w') : wpList P ops Q (o :: rest) a w := by
  refine wpList_append_rv hgd s x _ ho base 35 (.int .u64 0) 1 8 ht hinfo rfl (by decide) v ks.length (u64L ks) hs hown.own hown.low y js.length (u64L js) hx hsrc (u64L_one js) (by omega) h63 hbase ?_
  intro v' w' h1 h2 h3 h4
  refine h v' w' ⟨h2, ?_⟩ h3 h4
  rw [List.length_append, ← u64L_append]
  exact h1
end Go.Proofs.Ytjfhapobbglbpaa
