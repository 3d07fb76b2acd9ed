/- Lists of items: a part from a place on, another kind stored into an own row; a list without an item. -/
import Derived.Test.YtjfhapobbglbpaaLiV
import Derived.Test.YtjfhapobbglbpaaLiR
namespace Go.Proofs.Ytjfhapobbglbpaa
open Go Go.RowKit Go.Deep

abbrev TI12 : TypeId := 66
/- l[i:] . -/
def tailI (F : Option Addr) (n c i : Nat) : Value := .slice (if c = i then F else F.map (fun a => a.add (i * 2))) (n - i) (c - i)
theorem itL_drop : ∀ (xs : List It) (m : Nat), itL (xs.drop m) = (itL xs).drop (m * 2)
  | [], m => by simp [itL]
  | x :: xs, 0 => by simp
  | x :: xs, m + 1 => by
    rw [List.drop_succ_cons, itL_cons, itL_drop xs m]
    show _ = List.drop ((m + 1) * 2) (_ :: _ :: itL xs)
    rw [show (m + 1) * 2 = m * 2 + 1 + 1 by omega, List.drop_succ_cons, List.drop_succ_cons]
theorem IV.tail {w : World} {F : Option Addr} {c : Nat} {xs : List It} (h : IV w (.slice F xs.length c) xs) {i : Nat} (hi : i ≤ xs.length) : IV w (tailI F xs.length c i) (xs.drop i) := by
  obtain ⟨hl, ⟨F', c', e, h1, h2, h3⟩⟩ := h
  injection e with e1 e2 e3
  subst e1 e3
  refine ⟨itL_len _, ⟨(if c = i then F else F.map (fun a => a.add (i * 2))), c - i, by simp [tailI], by simp; omega, fun hn => ?_, fun j u hj => ?_⟩⟩
  · split at hn
    · omega
    · cases F with
      | none => have := h2 rfl; omega
      | some a => cases hn
  · have hd : (itL xs)[i * 2 + j]? = some u := by
      rw [itL_drop, List.getElem?_drop] at hj
      exact hj
    obtain ⟨ad, rfl, h4, h5⟩ := h3 _ _ hd
    have hlt : i * 2 + j < xs.length * 2 := by
      have := (List.getElem?_eq_some_iff.1 hd).1
      rw [itL_len] at this
      exact this
    rw [if_neg (by omega)]
    refine ⟨ad.add (i * 2), rfl, by rw [ad_block]; exact h4, ?_⟩
    rw [← h5]
    rw [Addr.add_add]
/- The cells hold the items, from a place on. -/
def Hold (cur : Array Value) (off : Nat) (xs : List It) : Prop := ∀ i (h : i < xs.length), cur[off + i * 2]? = some (.int .u64 (xs[i].key : Nat)) ∧ cur[off + i * 2 + 1]? = some (.int .i64 (xs[i].f : Nat))
theorem IV.of_hold {w : World} {g off c : Nat} {cur : Array Value} {t : TypeId} {xs : List It} (hg : w.heap[g]? = some (.cells cur t (0, 0))) (h : Hold cur off xs) (hc : xs.length ≤ c) : IV w (.slice (some ⟨g, off, none⟩) xs.length c) xs := by
  refine ⟨itL_len xs, ⟨_, c, rfl, hc, (fun e => by cases e), fun j u hu => ⟨_, rfl, (Array.getElem?_eq_some_iff.1 hg).1, ?_⟩⟩⟩
  have hj := (List.getElem?_eq_some_iff.1 hu).1
  rw [itL_len] at hj
  rw [Addr.add_lit, cell_of_row w g (off + j) cur t (0, 0) hg]
  obtain ⟨i, hi | hi⟩ : ∃ i, j = i * 2 ∨ j = i * 2 + 1 := ⟨j / 2, by omega⟩
  · subst hi
    have hi2 : i < xs.length := by omega
    rw [(h i hi2).1, ← (itL_at xs i hi2).1, hu]
  · subst hi
    have hi2 : i < xs.length := by omega
    rw [← Nat.add_assoc, (h i hi2).2, ← (itL_at xs i hi2).2, hu]
theorem arr_set_other {cur : Array Value} {j k : Nat} {x : Value} (h : k ≠ j) : (cur.setIfInBounds j x)[k]? = cur[k]? := by
  rw [Array.getElem?_setIfInBounds]
  split
  · omega
  · rfl
theorem arr_set_same {cur : Array Value} {j : Nat} {x : Value} (h : j < cur.size) : (cur.setIfInBounds j x)[j]? = some x := by
  rw [Array.getElem?_setIfInBounds]
  simp [h]
/- A kind stored into an own row. -/
structure SetI (B : Nat) (w0 w : World) (g c i f : Nat) (xs : List It) : Prop where
  lt : g < w.heap.size
  cell : ∃ f0 : Nat, w.cell? ⟨g, i * 2 + 1, none⟩ = some (.int .i64 (f0 : Nat))
  free : w.frozen? ⟨g, i * 2 + 1, none⟩ = false
  low : Below B w0 (w.setCell ⟨g, i * 2 + 1, none⟩ (.int .i64 (f : Nat)))
  iv : IV (w.setCell ⟨g, i * 2 + 1, none⟩ (.int .i64 (f : Nat))) (.slice (some ⟨g, 0, none⟩) xs.length c) xs
theorem OwnI.set {e : TypeId} {B : Nat} {w0 w : World} {v : Value} {xs : List It} (h : OwnI e B w0 w v xs) (hB : B ≤ w.heap.size) {i : Nat} (hi : i < xs.length) (f : Nat) :
    ∃ g c, v = .slice (some ⟨g, 0, none⟩) xs.length c ∧ xs.length ≤ c ∧ SetI B w0 w g c i f (xs.set i ⟨xs[i].key, f⟩) := by
  rcases h.own.2 with ⟨rfl, h0⟩ | ⟨g, c, cur, rfl, hBg, hg, hle, hc, hsz, htk⟩
  · omega
  · have hh : Hold cur 0 xs := fun p hp => by
      obtain ⟨a1, a2⟩ := itL_at xs p hp
      rw [← htk, List.getElem?_take] at a1 a2
      rw [if_pos (by omega)] at a1 a2
      rw [Nat.zero_add]
      exact ⟨by simpa using a1, by simpa using a2⟩
    have hro := head_row hg
    have h1 := (hh i hi).2
    rw [Nat.zero_add] at h1
    have hlt : i * 2 + 1 < cur.size := (Array.getElem?_eq_some_iff.1 h1).1
    refine ⟨g, c, rfl, hle, ⟨hro.lt, ⟨xs[i].f, (cell_of_row w g (i * 2 + 1) cur e (0, 0) hg).trans h1⟩, hro.frozen _, ((Only.refl [g] w).setCell (by simp) _).below (by simp; exact hBg) hB |> h.low.trans, ?_⟩⟩
    have hh2 : Hold (cur.setIfInBounds (i * 2 + 1) (.int .i64 (f : Nat))) 0 (xs.set i ⟨xs[i].key, f⟩) := fun p hp => by
      rw [List.length_set] at hp
      have h2 := hh p hp
      rw [List.getElem_set, Nat.zero_add] at *
      by_cases hpi : i = p
      · subst hpi
        rw [if_pos rfl]
        refine ⟨?_, arr_set_same hlt⟩
        rw [arr_set_other (by omega)]
        exact h2.1
      · rw [if_neg hpi]
        rw [arr_set_other (by omega), arr_set_other (by omega)]
        exact h2
    exact IV.of_hold (set_one hg) hh2 (by rw [List.length_set]; exact hle)
/- What tells a list of items. -/
def RetI (w : World) (xs : List It) (e : Ending) (w' : World) : Prop := ∃ v, e = .returned v ∧ Below w.heap.size w w' ∧ IV w' v xs ∧ ∀ u, Nw w.heap.size u v
/- A list without an item: without its key, where keys are apart. -/
theorem cut_is {xs : List It} (hnd : ∀ a, tot a xs ≤ 1) {i : Nat} (hi : i < xs.length) : xs.take i ++ xs.drop (i + 1) = wi xs[i].key xs := by
  induction xs generalizing i with
  | nil => simp at hi
  | cons x xs ih =>
    have hnd2 : ∀ a, tot a xs ≤ 1 := fun a => by have := hnd a; rw [tot_cons] at this; omega
    cases i with
    | zero =>
      have h0 := hnd x.key
      rw [tot_cons, if_pos rfl] at h0
      have hw : wi x.key xs = xs := wi_none (by omega)
      show xs = _
      unfold wi at *
      rw [List.getElem_cons_zero, List.filter_cons, if_neg (by simp), hw]
    | succ i =>
      have hi2 : i < xs.length := by simpa using hi
      rw [List.take_succ_cons, List.drop_succ_cons, List.cons_append, ih hnd2 hi2, List.getElem_cons_succ]
      unfold wi
      rw [List.filter_cons, if_pos]
      have h1 := hnd x.key
      rw [tot_cons, if_pos rfl] at h1
      have h2 : 0 < tot xs[i].key xs := tot_in.1 (List.mem_map_of_mem (List.getElem_mem hi2))
      simp only [bne_iff_ne, ne_eq]
      intro e
      rw [e] at h1
      omega
theorem set_is {xs : List It} (hnd : ∀ a, tot a xs ≤ 1) {i : Nat} (hi : i < xs.length) (f : Nat) : xs.set i ⟨xs[i].key, f⟩ = setI xs[i].key f xs := by
  induction xs generalizing i with
  | nil => simp at hi
  | cons x xs ih =>
    have hnd2 : ∀ a, tot a xs ≤ 1 := fun a => by have := hnd a; rw [tot_cons] at this; omega
    have hno : ∀ {k : Nat} {l : List It}, tot k l = 0 → setI k f l = l := by
      intro k l h
      unfold setI
      refine (List.map_congr_left (fun y hy => ?_)).trans (List.map_id l)
      rw [if_neg]
      · rfl
      · rintro rfl
        have h2 : 0 < tot y.key l := tot_in.1 (List.mem_map_of_mem hy)
        omega
    cases i with
    | zero =>
      have h0 := hnd x.key
      rw [tot_cons, if_pos rfl] at h0
      have h1 : setI x.key f xs = xs := hno (by omega)
      rw [List.set_cons_zero, List.getElem_cons_zero]
      unfold setI at *
      rw [List.map_cons, if_pos rfl, h1]
    | succ i =>
      have hi2 : i < xs.length := by simpa using hi
      rw [List.set_cons_succ, List.getElem_cons_succ, ih hnd2 hi2]
      unfold setI
      rw [List.map_cons, if_neg]
      have h1 := hnd x.key
      rw [tot_cons, if_pos rfl] at h1
      have h2 : 0 < tot xs[i].key xs := tot_in.1 (List.mem_map_of_mem (List.getElem_mem hi2))
      intro e
      rw [e] at h1
      omega
/- The key of the last item of a kind, by its place. -/
theorem lastK_at {f : Nat} : ∀ {xs : List It} {m : Nat} (hm : m < xs.length), xs[m].f = f → (∀ j (hj : j < xs.length), m < j → xs[j].f ≠ f) → lastK f xs = xs[m].key
  | x :: xs, 0, _, h1, h2 => by
    have h3 : nk f xs = 0 := List.countP_eq_zero.2 (fun y hy => by
      obtain ⟨j, hj, rfl⟩ := List.getElem_of_mem hy
      have := h2 (j + 1) (by simpa using hj) (by omega)
      simpa using this)
    rw [lastK, if_neg (by omega), List.getElem_cons_zero, if_pos (show x.f = f from h1)]
  | x :: xs, m + 1, hm, h1, h2 => by
    have hm2 : m < xs.length := by simpa using hm
    have h3 : 0 < nk f xs := List.countP_pos_iff.2 ⟨xs[m], List.getElem_mem hm2, beq_iff_eq.2 h1⟩
    rw [lastK, if_pos h3, List.getElem_cons_succ]
    exact lastK_at hm2 h1 (fun j hj hmj => h2 (j + 1) (by simpa using hj) (by omega))
theorem low_none {f : Nat} {xs : List It} (h : ∀ j (hj : j < xs.length), xs[j].f ≠ f) : nk f xs = 0 := List.countP_eq_zero.2 (fun y hy => by
  obtain ⟨j, hj, rfl⟩ := List.getElem_of_mem hy
  simpa using h j hj)
end Go.Proofs.Ytjfhapobbglbpaa
