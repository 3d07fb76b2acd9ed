/- Words and walks: SsP SsZ SsV. -/
import Derived.Test.YtkhikpnlpcankaaGreatG10
import Derived.Test.YtkhikpnlpcankaaGreatG12
import Derived.Test.YtkhikpnlpcankaaGreatG6
namespace Go.Proofs.YtkhikpnlpcankaaGreat
open Go Go.RowKit Go.Deep
structure Ap (n : Nat) (l : Nat → List Nat) (A : St) : Prop where
  nd : ∀ t, t < n → (l t).Nodup
  ap : ∀ t u i, t < n → u < n → i ∈ l t → i ∈ l u → t = u
  tk : ∀ t i, t < n → i ∈ l t → A.tk i = true
theorem HL.ap {w0 w : World} {p b n : Nat} {l : Nat → List Nat} {A : St} {K : List Nat} (h : HL w0 w p b n l A K) : Ap n l A :=
  ⟨fun _ ht => h.nodup ht, fun _ _ _ ht hu hi hi' => h.apart ht hu hi hi', fun _ _ ht hi => h.taken ht hi⟩
structure Inv (n : Nat) (l : Nat → List Nat) (A : St) (T : Tb) (E : Nat → Ent) (Q : Nat → List Ent) (m : Nat) (U : Tb) (most : Nat) : Prop where
  node : ∀ i, (A.node i).key = (E i).key ∧ (A.node i).val = (E i).val ∧ (A.node i).flag = (E i).flag
  q : ∀ t, t < n → Q t = (l t).map E
  tab : ∀ k v, T.has k v ↔ ∃ t i, t < n ∧ i ∈ l t ∧ (E i).key = k ∧ v = ((i : Nat) : Int)
  ok : A.Ok
  good : T.Good
  keys : T.Keys
  good' : U.Good
  keys' : U.Keys
  sim : Sim T U
  cnt : T.cnt = sumE Q n
  live : A.used = sumE Q n + A.freed.length
  room : A.n = m
  le : sumE Q n ≤ most
  an : m ≤ 2 * most + 8
  tn : T.n ≤ 3 * most + 8
theorem sumE_upd {Q : Nat → List Ent} {t : Nat} {xs : List Ent} : ∀ n, t < n → sumE (upd Q t xs) n + (Q t).length = sumE Q n + xs.length
  | 0, h => by omega
  | n + 1, h => by
    unfold sumE
    rcases Nat.eq_or_lt_of_le (Nat.le_of_lt_succ h) with rfl | h2
    · have e : ∀ m, m ≤ t → sumE (upd Q t xs) m = sumE Q m := by
        intro m
        induction m with
        | zero => intro _; rfl
        | succ m ih =>
          intro hm
          unfold sumE
          rw [ih (by omega), upd_other _ _ _ (by omega)]
      rw [e t (Nat.le_refl _), upd_same]
      omega
    · have := sumE_upd n h2 (Q := Q) (t := t) (xs := xs)
      rw [upd_other _ _ _ (by omega)]
      omega
theorem nodup_inj {l : List Nat} (h : l.Nodup) {i j : Nat} (hi : i < l.length) (hj : j < l.length) (e : l[i] = l[j]) : i = j := by
  have hp := List.pairwise_iff_getElem.1 h
  rcases Nat.lt_trichotomy i j with q | q | q
  · exact absurd e (hp i j hi hj q)
  · exact q
  · exact absurd e.symm (hp j i hj hi q)
section
variable {n : Nat} {l : Nat → List Nat} {A : St} {T : Tb} {E : Nat → Ent} {Q : Nat → List Ent} {m : Nat} {U : Tb} {most : Nat}
theorem Inv.len (h : Inv n l A T E Q m U most) {t : Nat} (ht : t < n) : (Q t).length = (l t).length := by rw [h.q t ht]; simp
theorem Inv.at_q (h : Inv n l A T E Q m U most) {t i : Nat} (ht : t < n) (hi : i < (Q t).length) : ∃ (hi' : i < (l t).length), (Q t)[i] = E ((l t)[i]) := by
  have hl := h.len ht
  refine ⟨by omega, ?_⟩
  have e := h.q t ht
  have : (Q t)[i]? = ((l t).map E)[i]? := by rw [e]
  rw [List.getElem?_eq_getElem hi, List.getElem?_map, List.getElem?_eq_getElem (by omega)] at this
  simpa using this
theorem Inv.nokey (h : Inv n l A T E Q m U most) (k : Nat) : NoKey n Q k ↔ T.there k = false := by
  constructor
  · intro hn
    refine there_no h.good.ok (fun v hv => ?_)
    obtain ⟨t, i, ht, hi, hk, _⟩ := (h.tab k v).1 hv
    obtain ⟨j, hj, e⟩ := List.getElem_of_mem hi
    have hl := h.len ht
    obtain ⟨hj', e2⟩ := h.at_q ht (i := j) (by omega)
    exact hn t j ht (by omega) (by rw [e2, e, hk])
  · intro hn t i ht hi e
    obtain ⟨hi', e2⟩ := h.at_q ht hi
    have := there_yes h.good.ok ((h.tab k _).2 ⟨t, (l t)[i], ht, List.getElem_mem _, by rw [← e2, e], rfl⟩)
    rw [hn] at this
    cases this
theorem Inv.find (h : Inv n l A T E Q m U most) {k : Nat} (hk : T.there k = true) : ∃ t i, ∃ (_ : t < n) (hi : i < (l t).length) (hi' : i < (Q t).length), (E ((l t)[i])).key = k ∧ (Q t)[i] = E ((l t)[i]) ∧ T.get k = ((((l t)[i] : Nat) : Int), true) := by
  obtain ⟨v, hv⟩ := (T.there_has h.good.ok k).1 hk
  obtain ⟨t, s, ht, hs, hk, rfl⟩ := (h.tab k v).1 hv
  obtain ⟨i, hi, e⟩ := List.getElem_of_mem hs
  have hl := h.len ht
  obtain ⟨_, e2⟩ := h.at_q ht (i := i) (by omega)
  exact ⟨t, i, ht, hi, by omega, by rw [e]; exact hk, e2, by rw [get_yes h.good.ok hv, e]⟩
theorem Inv.same (h : Inv n l A T E Q m U most) {t u i j : Nat} (ht : t < n) (hu : u < n) (hi : i ∈ l t) (hj : j ∈ l u) (e : (E i).key = (E j).key) : i = j := by
  have h1 := (h.good.ok.has_iff _ _).1 ((h.tab _ _).2 ⟨t, i, ht, hi, rfl, rfl⟩)
  have h2 := (h.good.ok.has_iff _ _).1 ((h.tab _ _).2 ⟨u, j, hu, hj, rfl, rfl⟩)
  rw [e] at h1
  have := h1.2.symm.trans h2.2
  omega
theorem Inv.uq (h : Inv n l A T E Q m U most) (a : Ap n l A) : Uq n Q := by
  intro t u i j ht hu hi hj e
  obtain ⟨hi', e1⟩ := h.at_q ht hi
  obtain ⟨hj', e2⟩ := h.at_q hu hj
  rw [e1, e2] at e
  have hs := h.same ht hu (List.getElem_mem hi') (List.getElem_mem hj') e
  have htu := a.ap t u _ ht hu (List.getElem_mem hi') (by rw [hs]; exact List.getElem_mem _)
  subst htu
  exact ⟨rfl, nodup_inj (a.nd t ht) hi' hj' hs⟩
theorem Inv.key64 (h : Inv n l A T E Q m U most) {t i : Nat} (ht : t < n) (hi : i ∈ l t) : (E i).key < 18446744073709551616 := by
  obtain ⟨j, hj, e⟩ := (h.tab _ _).2 ⟨t, i, ht, hi, rfl, rfl⟩
  have := h.keys j hj
  rw [e] at this
  exact this
theorem Inv.more (h : Inv n l A T E Q m U most) {most' : Nat} (hm : most ≤ most') : Inv n l A T E Q m U most' :=
  { h with le := by have := h.le; omega, an := by have := h.an; omega, tn := by have := h.tn; omega }
theorem alloc_node (A : St) : A.alloc.node = A.node := by unfold St.alloc; split <;> rfl
theorem alloc_live (A : St) : A.alloc.used + A.freed.length = A.used + A.alloc.freed.length + 1 := by
  unfold St.alloc
  by_cases hp : 0 < A.freed.length
  · rw [if_pos hp]
    show A.used + A.freed.length = A.used + (A.freed.take (A.freed.length - 1)).length + 1
    rw [List.length_take]
    omega
  · rw [if_neg hp]
    show A.used + 1 + A.freed.length = A.used + 0 + 1
    omega
theorem alloc_room (h : A.Ok) {s : Nat} (hs : A.used = s + A.freed.length) : A.alloc.n = if A.n < s + 2 then 2 * A.n else A.n := by
  have hr := h.room
  unfold St.alloc
  by_cases hp : 0 < A.freed.length
  · rw [if_pos hp, if_neg (by omega)]
  · rw [if_neg hp]
    show (if A.used + 1 = A.n then 2 * A.n else A.n) = _
    by_cases e : A.used + 1 = A.n
    · rw [if_pos e, if_pos (by omega)]
    · rw [if_neg e, if_neg (by omega)]
def pushedQ (front : Bool) (Q : Nat → List Ent) (t k : Nat) : Nat → List Ent := upd Q t (if front then ⟨k, 0, 0⟩ :: Q t else Q t ++ [⟨k, 0, 0⟩])
theorem Inv.push (h : Inv n l A T E Q m U most) (a : Ap n l A) (front : Bool) {t k : Nat} (ht : t < n) (hk64 : k < 18446744073709551616) (hk : T.there k = false) :
    Inv n (upd l t (if front then A.next :: l t else l t ++ [A.next])) (A.alloc.set A.next ⟨k, 0, 0, 0, 0, 0⟩) (T.put k A.next) (upd E A.next ⟨k, 0, 0⟩) (pushedQ front Q t k) (roomE Q n m) (U.put k 1) (max most (sumE Q n + 1)) := by
  have hnx := (next_free h.ok).1
  have hout : ∀ u, u < n → A.next ∉ l u := fun u hu hi => by rw [a.tk u _ hu hi] at hnx; cases hnx
  have hmap : ∀ u, u < n → (l u).map (upd E A.next ⟨k, 0, 0⟩) = (l u).map E := fun u hu => List.map_congr_left (fun i hi => upd_other _ _ _ (fun e => hout u hu (by rw [← e]; exact hi)))
  obtain ⟨g1, g2, g3, g4⟩ := h.good.put_all k A.next
  obtain ⟨g1', g2', g3', g4'⟩ := h.good'.put_all k 1
  rw [hk] at g2
  simp only [Bool.false_eq_true, if_false] at g2
  have hsum : sumE (pushedQ front Q t k) n = sumE Q n + 1 := by
    have := sumE_upd (Q := Q) (t := t) (xs := if front then ⟨k, 0, 0⟩ :: Q t else Q t ++ [⟨k, 0, 0⟩]) n ht
    unfold pushedQ
    cases front
    · simp at this ⊢; omega
    · simp at this ⊢; omega
  have hlive := alloc_live A
  have hl0 := h.live
  have hroom := alloc_room h.ok hl0
  have hle := h.le
  have han := h.an
  have hr := h.room
  have hcn := h.cnt
  refine ⟨fun i => ?_, fun u hu => ?_, fun k' v => ?_, ?_, g1, h.keys.put k _ hk64, g1', h.keys'.put k _ hk64, h.sim.put k _ _, by rw [g2, hsum, hcn], ?_, ?_, ?_, ?_, ?_⟩
  · have e0 : (A.alloc.set A.next ⟨k, 0, 0, 0, 0, 0⟩).node = upd A.node A.next ⟨k, 0, 0, 0, 0, 0⟩ := by unfold St.set; rw [alloc_node]
    rw [e0]
    by_cases e : i = A.next
    · subst e
      rw [upd_same, upd_same]
      exact ⟨rfl, rfl, rfl⟩
    · rw [upd_other _ _ _ e, upd_other _ _ _ e]
      exact h.node i
  · unfold pushedQ
    by_cases e : u = t
    · subst e
      rw [upd_same, upd_same]
      cases front
      · rw [if_neg (by simp), if_neg (by simp), List.map_append, hmap u hu, h.q u hu]
        simp [upd_same]
      · rw [if_pos rfl, if_pos rfl, List.map_cons, hmap u hu, h.q u hu, upd_same]
    · rw [upd_other _ _ _ e, upd_other _ _ _ e, hmap u hu, h.q u hu]
  · rw [g4, h.tab]
    have hmem : ∀ u i, i ∈ upd l t (if front then A.next :: l t else l t ++ [A.next]) u ↔ (u = t ∧ i = A.next) ∨ i ∈ l u := by
      intro u i
      by_cases e : u = t
      · subst e
        rw [upd_same]
        cases front
        · simp [or_comm]
        · simp
      · rw [upd_other _ _ _ e]
        simp [e]
    constructor
    · rintro (⟨rfl, rfl⟩ | ⟨hne, u, i, hu, hi, hki, rfl⟩)
      · exact ⟨t, A.next, ht, (hmem _ _).2 (.inl ⟨rfl, rfl⟩), by rw [upd_same], rfl⟩
      · exact ⟨u, i, hu, (hmem _ _).2 (.inr hi), by rw [upd_other _ _ _ (fun e => hout u hu (by rw [← e]; exact hi))]; exact hki, rfl⟩
    · rintro ⟨u, i, hu, hi, hki, rfl⟩
      rcases (hmem _ _).1 hi with ⟨rfl, rfl⟩ | hi
      · rw [upd_same] at hki
        exact .inl ⟨hki.symm, rfl⟩
      · rw [upd_other _ _ _ (fun e => hout u hu (by rw [← e]; exact hi))] at hki
        refine .inr ⟨?_, u, i, hu, hi, hki, rfl⟩
        rintro rfl
        have := there_yes h.good.ok ((h.tab _ _).2 ⟨u, i, hu, hi, hki, rfl⟩)
        rw [hk] at this
        cases this
  · exact set_ok (alloc_ok h.ok) (by rw [alloc_tk h.ok, upd_same]) _
  · rw [hsum]
    show A.alloc.used = _ + A.alloc.freed.length
    omega
  · show A.alloc.n = roomE Q n m
    unfold roomE
    rw [hroom, hr]
  · rw [hsum]; omega
  · unfold roomE
    split <;> omega
  · have := h.good.put_n k A.next most h.tn
    rw [g2, hcn] at this
    exact this
theorem erase_cut : ∀ (xs : List Nat) (i : Nat) (hi : i < xs.length), xs.Nodup → xs.erase xs[i] = xs.take i ++ xs.drop (i + 1)
  | [], i, hi, _ => by simp at hi
  | x :: xs, 0, _, _ => by simp
  | x :: xs, i + 1, hi, hn => by
    have hi' : i < xs.length := by simpa using hi
    have hne : x ≠ xs[i] := fun e => (List.nodup_cons.1 hn).1 (e ▸ List.getElem_mem hi')
    simp only [List.getElem_cons_succ]
    rw [List.erase_cons_tail (by simpa using hne), erase_cut xs i hi' (List.nodup_cons.1 hn).2]
    rfl
theorem Ap.tag (a : Ap n l A) {t i : Nat} (ht : t < n) (hi : i ∈ l t) : tagI n l i = t := by
  have h0 := tk_bounds (a.tk t i ht hi)
  exact tagI_in ht (by omega) (by simpa using hi) (fun u hu hm => a.ap u t i hu ht (by simpa using hm) hi)
theorem Ap.rem (a : Ap n l A) {t i : Nat} (ht : t < n) (hi : i ∈ l t) : remL n l i = upd l t ((l t).erase i) := by
  unfold remL
  rw [a.tag ht hi, if_pos (by omega)]
  simp
theorem Ap.rem_mem (a : Ap n l A) {t i : Nat} (ht : t < n) (hi : i ∈ l t) {u j : Nat} (hu : u < n) : j ∈ upd l t ((l t).erase i) u ↔ j ≠ i ∧ j ∈ l u := by
  by_cases e : u = t
  · subst e
    rw [upd_same, (a.nd u hu).mem_erase_iff]
  · rw [upd_other _ _ _ e]
    constructor
    · intro hj
      exact ⟨fun e2 => e (a.ap u t i hu ht (by rw [← e2]; exact hj) hi), hj⟩
    · exact fun h => h.2
theorem map_cut (E : Nat → Ent) (xs : List Nat) (i : Nat) (hi : i < xs.length) (hn : xs.Nodup) : (xs.erase xs[i]).map E = cutE (xs.map E) i := by
  rw [erase_cut xs i hi hn]
  unfold cutE
  simp
theorem cutE_len (xs : List Ent) (i : Nat) (hi : i < xs.length) : (cutE xs i).length + 1 = xs.length := by
  unfold cutE
  simp
  omega
theorem Inv.rem (h : Inv n l A T E Q m U most) (a : Ap n l A) {t i : Nat} (ht : t < n) (hi : i < (l t).length) (hi' : i < (Q t).length) :
    Inv n (upd l t ((l t).erase (l t)[i])) (A.free (l t)[i]) (T.del (E (l t)[i]).key) (upd E (l t)[i] ⟨0, 0, 0⟩) (upd Q t (cutE (Q t) i)) m (U.del (E (l t)[i]).key) most := by
  have hm : (l t)[i] ∈ l t := List.getElem_mem _
  have hcut := map_cut E (l t) i hi (a.nd t ht)
  obtain ⟨s, hs⟩ : ∃ s, (l t)[i] = s := ⟨_, rfl⟩
  rw [hs] at hm hcut ⊢
  have htk := a.tk t s ht hm
  obtain ⟨b1, b2, b3⟩ := tk_bounds htk
  obtain ⟨g1, g2, g3, g4⟩ := h.good.del_all (E s).key
  obtain ⟨g1', g2', g3', g4'⟩ := h.good'.del_all (E s).key
  have hin := there_yes h.good.ok ((h.tab _ _).2 ⟨t, s, ht, hm, rfl, rfl⟩)
  rw [hin] at g2
  simp only [if_true] at g2
  have hsum := sumE_upd (Q := Q) (t := t) (xs := cutE (Q t) i) n ht
  have hcl := cutE_len (Q t) i hi'
  have hcn := h.cnt
  have hlv := h.live
  have hmem := fun (u j : Nat) (hu : u < n) => a.rem_mem ht hm (u := u) (j := j) hu
  have hmap : ∀ u, u < n → (upd l t ((l t).erase s) u).map (upd E s ⟨0, 0, 0⟩) = (upd l t ((l t).erase s) u).map E := fun u hu => List.map_congr_left (fun j hj => upd_other _ _ _ ((hmem u j hu).1 hj).1)
  refine ⟨fun j => ?_, fun u hu => ?_, fun k' v => ?_, free_ok h.ok htk, g1, h.keys.del h.good.ok.pos _, g1', h.keys'.del h.good'.ok.pos _, h.sim.del _, by omega, ?_, h.room, ?_, h.an, by rw [g3]; exact h.tn⟩
  · show ((upd A.node s Nd.zero) j).key = _ ∧ ((upd A.node s Nd.zero) j).val = _ ∧ ((upd A.node s Nd.zero) j).flag = _
    by_cases e : j = s
    · subst e
      rw [upd_same, upd_same]
      exact ⟨rfl, rfl, rfl⟩
    · rw [upd_other _ _ _ e, upd_other _ _ _ e]
      exact h.node j
  · rw [hmap u hu]
    by_cases e : u = t
    · subst e
      rw [upd_same, upd_same, h.q u hu, hcut]
    · rw [upd_other _ _ _ e, upd_other _ _ _ e, h.q u hu]
  · rw [g4, h.tab]
    constructor
    · rintro ⟨hne, u, j, hu, hj, hk, rfl⟩
      have hjs : j ≠ s := fun e => hne (by rw [← hk, e])
      exact ⟨u, j, hu, (hmem u j hu).2 ⟨hjs, hj⟩, by rw [upd_other _ _ _ hjs]; exact hk, rfl⟩
    · rintro ⟨u, j, hu, hj, hk, rfl⟩
      obtain ⟨hjs, hj⟩ := (hmem u j hu).1 hj
      rw [upd_other _ _ _ hjs] at hk
      refine ⟨fun e => hjs (h.same hu ht hj hm (by rw [hk, e])), u, j, hu, hj, hk, rfl⟩
  · show A.used = _ + (A.freed ++ [s]).length
    simp
    omega
  · have := h.le
    omega
theorem Ap.move (a : Ap n l A) {t i t1 : Nat} (ht : t < n) (hi : i ∈ l t) (ht1 : t1 < n) : moveL n l t1 i = upd (upd l t ((l t).erase i)) t1 (i :: upd l t ((l t).erase i) t1) := by
  unfold moveL moveOk
  rw [hasT_of ht1, a.tag ht hi, a.rem ht hi]
  simp
theorem Inv.move (h : Inv n l A T E Q m U most) (a : Ap n l A) {t i t1 : Nat} (ht : t < n) (hi : i < (l t).length) (hi' : i < (Q t).length) (ht1 : t1 < n) (he : (Q t)[i] = E (l t)[i]) :
    Inv n (upd (upd l t ((l t).erase (l t)[i])) t1 ((l t)[i] :: upd l t ((l t).erase (l t)[i]) t1)) A T E (movE Q t i t1 ((Q t)[i])) m U most := by
  have hm : (l t)[i] ∈ l t := List.getElem_mem _
  have hcut := map_cut E (l t) i hi (a.nd t ht)
  rw [he]
  obtain ⟨s, hs⟩ : ∃ s, (l t)[i] = s := ⟨_, rfl⟩
  rw [hs] at hm hcut ⊢
  have hmem := fun (u j : Nat) (hu : u < n) => a.rem_mem ht hm (u := u) (j := j) hu
  have hq : ∀ u, u < n → upd Q t (cutE (Q t) i) u = (upd l t ((l t).erase s) u).map E := by
    intro u hu
    by_cases e : u = t
    · subst e
      rw [upd_same, upd_same, h.q u hu, hcut]
    · rw [upd_other _ _ _ e, upd_other _ _ _ e, h.q u hu]
  have hsum : sumE (movE Q t i t1 (E s)) n = sumE Q n := by
    have h1 := sumE_upd (Q := Q) (t := t) (xs := cutE (Q t) i) n ht
    have h2 := sumE_upd (Q := upd Q t (cutE (Q t) i)) (t := t1) (xs := E s :: upd Q t (cutE (Q t) i) t1) n ht1
    have h3 := cutE_len (Q t) i hi'
    unfold movE
    simp at h2
    omega
  refine { h with q := fun u hu => ?_, tab := fun k v => ?_, cnt := by rw [hsum]; exact h.cnt, live := by rw [hsum]; exact h.live, le := by rw [hsum]; exact h.le }
  · unfold movE
    by_cases e : u = t1
    · subst e
      rw [upd_same, upd_same, List.map_cons, hq u hu]
    · rw [upd_other _ _ _ e, upd_other _ _ _ e, hq u hu]
  · rw [h.tab]
    have hmem2 : ∀ u j, u < n → (j ∈ upd (upd l t ((l t).erase s)) t1 (s :: upd l t ((l t).erase s) t1) u ↔ (j = s ∧ u = t1) ∨ (j ≠ s ∧ j ∈ l u)) := by
      intro u j hu
      by_cases e : u = t1
      · subst e
        rw [upd_same, List.mem_cons, hmem u j hu]
        simp
      · rw [upd_other _ _ _ e, hmem u j hu]
        simp [e]
    constructor
    · rintro ⟨u, j, hu, hj, hk, rfl⟩
      by_cases e : j = s
      · subst e
        exact ⟨t1, j, ht1, (hmem2 t1 j ht1).2 (.inl ⟨rfl, rfl⟩), hk, rfl⟩
      · exact ⟨u, j, hu, (hmem2 u j hu).2 (.inr ⟨e, hj⟩), hk, rfl⟩
    · rintro ⟨u, j, hu, hj, hk, rfl⟩
      rcases (hmem2 u j hu).1 hj with ⟨rfl, rfl⟩ | ⟨_, hj⟩
      · exact ⟨t, j, ht, hm, hk, rfl⟩
      · exact ⟨u, j, hu, hj, hk, rfl⟩
theorem map_set (E : Nat → Ent) (e : Ent) : ∀ (xs : List Nat) (i : Nat) (hi : i < xs.length), xs.Nodup → xs.map (upd E xs[i] e) = (xs.map E).set i e
  | [], i, hi, _ => by simp at hi
  | x :: xs, 0, _, hn => by
    have : ∀ y ∈ xs, upd E x e y = E y := fun y hy => upd_other _ _ _ (fun q => (List.nodup_cons.1 hn).1 (by rw [← q]; exact hy))
    simp only [List.getElem_cons_zero, List.map_cons, List.set_cons_zero, upd_same]
    rw [List.map_congr_left this]
  | x :: xs, i + 1, hi, hn => by
    have hi' : i < xs.length := by simpa using hi
    have hne : x ≠ xs[i] := fun q => (List.nodup_cons.1 hn).1 (q ▸ List.getElem_mem hi')
    simp only [List.getElem_cons_succ, List.map_cons, List.set_cons_succ]
    rw [map_set E e xs i hi' (List.nodup_cons.1 hn).2, upd_other _ _ _ hne]
def setN (flag : Bool) (y : Nd) (e : Ent) : Nd := if flag then { y with flag := e.flag } else { y with val := e.val }
theorem Inv.set (h : Inv n l A T E Q m U most) (a : Ap n l A) {t i : Nat} (ht : t < n) (hi : i < (l t).length) (hi' : i < (Q t).length) (he : (Q t)[i] = E (l t)[i]) (flag : Bool) (e : Ent) (y : Nd) (hy : y.key = (A.node (l t)[i]).key ∧ y.val = (A.node (l t)[i]).val ∧ y.flag = (A.node (l t)[i]).flag) :
    Inv n l (A.set (l t)[i] (setN flag y e)) T (upd E (l t)[i] (setE flag ((Q t)[i]) e)) (upd Q t ((Q t).set i (setE flag ((Q t)[i]) e))) m U most := by
  have hm : (l t)[i] ∈ l t := List.getElem_mem _
  have hmap := map_set E (setE flag (E (l t)[i]) e) (l t) i hi (a.nd t ht)
  rw [he]
  obtain ⟨s, hs⟩ : ∃ s, (l t)[i] = s := ⟨_, rfl⟩
  rw [hs] at hm hmap hy ⊢
  have htk := a.tk t s ht hm
  have hek : (setE flag (E s) e).key = (E s).key := by unfold setE; split <;> rfl
  have hE : ∀ j, (upd E s (setE flag (E s) e) j).key = (E j).key := fun j => by
    by_cases q : j = s
    · subst q; rw [upd_same, hek]
    · rw [upd_other _ _ _ q]
  have hsum : sumE (upd Q t ((Q t).set i (setE flag (E s) e))) n = sumE Q n := by
    have h1 := sumE_upd (Q := Q) (t := t) (xs := (Q t).set i (setE flag (E s) e)) n ht
    simp at h1
    omega
  refine { h with node := fun j => ?_, q := fun u hu => ?_, tab := fun k v => ?_, ok := set_ok h.ok htk _, cnt := by rw [hsum]; exact h.cnt, live := by rw [hsum]; exact h.live, le := by rw [hsum]; exact h.le }
  · show ((upd A.node s (setN flag y e)) j).key = _ ∧ ((upd A.node s (setN flag y e)) j).val = _ ∧ ((upd A.node s (setN flag y e)) j).flag = _
    by_cases q : j = s
    · subst q
      rw [upd_same, upd_same]
      have hn := h.node j
      unfold setN setE
      cases flag
      · exact ⟨hy.1.trans hn.1, rfl, hy.2.2.trans hn.2.2⟩
      · exact ⟨hy.1.trans hn.1, hy.2.1.trans hn.2.1, rfl⟩
    · rw [upd_other _ _ _ q, upd_other _ _ _ q]
      exact h.node j
  · by_cases q : u = t
    · subst q
      rw [upd_same, hmap, h.q u hu]
    · rw [upd_other _ _ _ q, h.q u hu]
      exact List.map_congr_left (fun j hj => (upd_other _ _ _ (fun q2 => q (a.ap u t s hu ht (by rw [← q2]; exact hj) hm))).symm)
  · rw [h.tab]
    exact ⟨fun ⟨u, j, hu, hj, hk, hv⟩ => ⟨u, j, hu, hj, by rw [hE]; exact hk, hv⟩, fun ⟨u, j, hu, hj, hk, hv⟩ => ⟨u, j, hu, hj, by rw [hE] at hk; exact hk, hv⟩⟩
end
def SetPost (w0 w : World) (sp n : Nat) (l : Nat → List Nat) (A : St) (T : Tb) (K : List Nat) (i : Int) (flag : Bool) (v : Int) (e : Ending) (w' : World) : Prop :=
  ∃ y : Nd, (y.key = (A.at_ i).key ∧ y.val = (A.at_ i).val ∧ y.flag = (A.at_ i).flag) ∧ e = .returned (.bool (A.is i)) ∧ SM w0 w' sp n l (A.setVI i (setV flag y v)) T K ∧ Kept K w w'
section
variable {w0 w : World} {sp n : Nat} {l : Nat → List Nat} {A : St} {T : Tb} {K : List Nat}
set_option maxHeartbeats 2000000 in
theorem sremo_yes (h : SM w0 w sp n l A T K) (ft : Fit A T) (k : Nat) (hk : k < 18446744073709551616) (t s : Nat) (ht : t < n) (hs : s ∈ l t) (hg : (T.get k).1 = (s : Nat)) (hth : T.there k = true) :
    Calls Tryz.prog 107 #[ptr sp, .int .u64 (k : Nat)] w fun e w' => e = .returned (.bool true) ∧ SM w0 w' sp n (upd l t ((l t).erase s)) (A.free s) (T.del k) K ∧ Kept K w w' := by
  have hold := h.old
  obtain ⟨p, b, ix, hc, hq, h3, h4⟩ := h
  have a : Ap n l A := ⟨hq.ap_.1, hq.ap_.2.1, hq.ap_.2.2.1⟩
  have HO := Lib.hid (open_walk hc)
  have HTN := Lib.hid (fun (W w' : World) (K1 : List Nat) => sm_turn (w' := w') (W := W) (l' := upd l t ((l t).erase s)) (A' := A.free s) (T' := T.del k) (K1 := K1) hc h3 h4 hold)
  have HF := Lib.hid (fun (W : World) (hb : Below w.heap.size w W) => find_walk (hq.still hb).1 ft.tn k hk (ft.g k))
  have HM := Lib.hid (fun (W : World) (B : Nat) (hb : Below w.heap.size w W) (hB : w.heap.size ≤ B ∧ B < W.heap.size) => sq_remove (hq.other hb (K' := B :: sp :: K) (fun x hx => by
    rcases List.mem_cons.1 hx with rfl | hx
    · exact ⟨.inr hB.1, hB.2⟩
    · exact ⟨.inl hx, Nat.lt_of_lt_of_le (hq.old x hx) hb.size⟩)) ((s : Nat) : Int) (hq.in32 ft.an ht hs).1)
  rw [a.tag ht hs, a.rem ht hs, decide_eq_true (show (0 : Int) ≤ (t : Nat) by omega)] at HM
  have HFR := Lib.hid (fun (W : World) (K1 : List Nat) (hz : SQ w0 W p b ix n (upd l t ((l t).erase s)) A T K1) => sq_free hz s (a.tk t s ht hs) (fun u hu hm => ((a.rem_mem ht hs hu).1 hm).1 rfl))
  have HDL := Lib.hid (fun (W : World) (K1 : List Nat) (hz : SQ w0 W p b ix n (upd l t ((l t).erase s)) (A.free s) T K1) => sq_del hz ft.tn k hk)
  rw [hg] at HF
  rw [hth] at HDL
  generalize upd l t ((l t).erase s) = l2 at HM HFR HDL HTN ⊢
  generalize T.del k = T2 at HDL HTN ⊢
  generalize A.free s = A2 at HFR HDL HTN ⊢
  clear hc hq ft h3 h4 hold a hs hg hth
  go_enter Tryz.func107, Tryz.ntmps107
  go_wp2_with fail
  refine HO.out.mono ?_
  rintro e w1 ⟨rfl, hb⟩
  have HB2 := Lib.hid (hb.alloc hb.size (.cells (partsC p n b ix) 101))
  have hbx := heap_alloc_new w1 (.cells (partsC p n b ix) 101)
  have HBX := Lib.hid hbx
  have hz1 := hb.size
  clear hb hbx
  go_wp2_with fail
  refine (HF.out _ HB2.out).mono ?_
  rintro e w2 ⟨y, rfl, hy, hb2⟩
  have HB3 := Lib.hid (HB2.out.trans (hb2.mono HB2.out.size))
  have hw12 : w1.heap.size < w2.heap.size := by have := hb2.size; simp at this; omega
  have HBX2 := Lib.hid ((hb2.block w1.heap.size (by simp)).trans HBX.out)
  have HB4 := Lib.hid (HB3.out.alloc HB3.out.size (.cells (ndC y) 117))
  have HBX3 := Lib.hid ((Below.heap_alloc w2 (.cells (ndC y) 117) w1.heap.size hw12).trans HBX2.out)
  obtain ⟨⟨c0, c1, c2, c3⟩, _⟩ := q4_at HBX2.out
  clear hb2 hy
  go_wp2_with fail
  refine (HM.out _ w1.heap.size HB4.out ⟨hz1, by simp; omega⟩).mono ?_
  rintro e w3 ⟨rfl, q1, q2⟩
  have Q1 := Lib.hid q1
  have KQ := Lib.hid q2
  clear c0 c1 c2 c3
  have HBX4 := Lib.hid ((q2 w1.heap.size (by simp)).trans HBX3.out)
  obtain ⟨⟨c0, c1, c2, c3⟩, _⟩ := q4_at HBX4.out
  clear q1 q2
  go_wp2_with fail
  refine (HFR.out _ _ Q1.out).mono ?_
  rintro e w4 ⟨rfl, q1, q2⟩
  have Q2 := Lib.hid q1
  have KQ2 := Lib.hid (Kept.trans KQ.out q2)
  clear c0 c1 c2 c3
  have HBX5 := Lib.hid ((q2 w1.heap.size (by simp)).trans HBX4.out)
  obtain ⟨⟨c0, c1, c2, c3⟩, _⟩ := q4_at HBX5.out
  clear q1 q2
  go_wp2_with fail
  refine (HDL.out _ _ Q2.out).mono ?_
  rintro e w5 ⟨rfl, q1, q2⟩
  have HE := Lib.hid (HTN.out _ _ _ HB4.out q1 (Kept.trans KQ2.out q2) (fun k hk => by simp; exact .inr hk))
  clear q1 q2 c0 c1 c2 c3
  go_wp2
  go_ret
  exact ⟨rfl, HE.out⟩
theorem tagI_zero (n : Nat) (l : Nat → List Nat) : tagI n l 0 = -1 := tagI_out (fun _ _ h => absurd h.1 (by decide))
set_option maxHeartbeats 1000000 in
theorem sremo_no (h : SM w0 w sp n l A T K) (ft : Fit A T) (k : Nat) (hk : k < 18446744073709551616) (hg : (T.get k).1 = 0) :
    Calls Tryz.prog 107 #[ptr sp, .int .u64 (k : Nat)] w fun e w' => e = .returned (.bool false) ∧ SM w0 w' sp n l A T K ∧ Kept K w w' := by
  have hold := h.old
  obtain ⟨p, b, ix, hc, hq, h3, h4⟩ := h
  have HO := Lib.hid (open_walk hc)
  have HTN := Lib.hid (fun (W w' : World) => sm_turn (w' := w') (W := W) (l' := l) (A' := A) (T' := T) (K1 := sp :: K) hc h3 h4 hold)
  have HF := Lib.hid (fun (W : World) (hb : Below w.heap.size w W) => find_walk (hq.still hb).1 ft.tn k hk (ft.g k))
  have HM := Lib.hid (fun (W : World) (hb : Below w.heap.size w W) => sq_remove (hq.still hb).1 0 (by decide))
  have e0 : remL n l 0 = l := by unfold remL; rw [tagI_zero]; rfl
  rw [tagI_zero, e0, decide_eq_false (by decide)] at HM
  rw [hg] at HF
  clear hc hq ft h3 h4 hold hg e0
  go_enter Tryz.func107, Tryz.ntmps107
  go_wp2_with fail
  refine HO.out.mono ?_
  rintro e w1 ⟨rfl, hb⟩
  have HB2 := Lib.hid (hb.alloc hb.size (.cells (partsC p n b ix) 101))
  have hbx := heap_alloc_new w1 (.cells (partsC p n b ix) 101)
  have HBX := Lib.hid hbx
  clear hb hbx
  go_wp2_with fail
  refine (HF.out _ HB2.out).mono ?_
  rintro e w2 ⟨y, rfl, hy, hb2⟩
  have HB3 := Lib.hid (HB2.out.trans (hb2.mono HB2.out.size))
  obtain ⟨⟨c0, c1, c2, c3⟩, _⟩ := q4_at ((hb2.block w1.heap.size (by simp)).trans HBX.out)
  have hw12 : w1.heap.size < w2.heap.size := by have := hb2.size; simp at this; omega
  have HB4 := Lib.hid (HB3.out.alloc HB3.out.size (.cells (ndC y) 117))
  clear hb2 hy
  go_wp2_with fail
  refine (HM.out _ HB4.out).mono ?_
  rintro e w3 ⟨rfl, q1, q2⟩
  have HE := Lib.hid (HTN.out _ _ HB4.out q1 q2 (fun k hk => by simpa using hk))
  clear q1 q2 c0 c1 c2 c3
  go_wp2
  go_ret
  exact ⟨rfl, HE.out⟩
end
section
variable {w0 w : World} {sp p b ix n : Nat} {l : Nat → List Nat} {A : St} {T : Tb} {K : List Nat}
theorem next_out (hq : SQ w0 w p b ix n l A T K) (ho : A.Ok) : ∀ t, t < n → A.next ∉ l t := fun t ht hi => by
  have := hq.ap_.2.2.1 t _ ht hi
  rw [(next_free ho).1] at this
  cases this
theorem laid_is (ho : A.Ok) (k : Nat) : (A.alloc.set A.next ⟨k, 0, 0, 0, 0, 0⟩).is (A.next : Nat) = true ∧ A.alloc.tk A.next = true := by
  have h1 := (next_free ho).2.1
  have h2 : A.alloc.tk A.next = true := by rw [alloc_tk ho, upd_same]
  refine ⟨?_, h2⟩
  unfold St.is
  rw [decide_eq_true (by omega)]
  simp only [Bool.true_and, Int.toNat_natCast]
  exact h2
theorem pushL_next (hq : SQ w0 w p b ix n l A T K) (ho : A.Ok) (k : Nat) (t : Nat) (ht : t < n) (front : Bool) :
    pushOk n l (A.alloc.set A.next ⟨k, 0, 0, 0, 0, 0⟩) t (A.next : Nat) = true ∧ pushL front n l (A.alloc.set A.next ⟨k, 0, 0, 0, 0, 0⟩) t (A.next : Nat) = upd l t (if front then A.next :: l t else l t ++ [A.next]) := by
  have hout := next_out hq ho
  have htg : tagI n l (A.next : Nat) = -1 := tagI_out (fun u hu hm => hout u hu (by simpa using hm.2))
  have hp : pushOk n l (A.alloc.set A.next ⟨k, 0, 0, 0, 0, 0⟩) t (A.next : Nat) = true := by
    unfold pushOk
    rw [hasT_of ht, (laid_is ho k).1, htg]
    rfl
  refine ⟨hp, ?_⟩
  unfold pushL
  rw [hp, if_pos rfl]
  simp only [Int.toNat_natCast]
set_option maxHeartbeats 2000000 in
theorem spushFront_yes (h : SM w0 w sp n l A T K) (ft : Fit A T) (ho : A.Ok) (k : Nat) (hk : k < 18446744073709551616) (t : Nat) (ht : t < n) (hg : (T.get k).2 = false) :
    Calls Tryz.prog 130 #[ptr sp, .int .i64 (t : Nat), .int .u64 (k : Nat)] w fun e w' => e = .returned (.bool true) ∧ SM w0 w' sp n (upd l t (if true then A.next :: l t else l t ++ [A.next])) (A.alloc.set A.next ⟨k, 0, 0, 0, 0, 0⟩) (T.put k A.next) K ∧ Kept K w w' := by
  have hold := h.old
  obtain ⟨p, b, ix, hc, hq, h3, h4⟩ := h
  have HO := Lib.hid (open_walk hc)
  have HTN := Lib.hid (fun (W w' : World) (K1 : List Nat) => sm_turn (w' := w') (W := W) (l' := upd l t (if true then A.next :: l t else l t ++ [A.next])) (A' := A.alloc.set A.next ⟨k, 0, 0, 0, 0, 0⟩) (T' := T.put k A.next) (K1 := K1) hc h3 h4 hold)
  have HG := Lib.hid (fun (W : World) (hb : Below w.heap.size w W) => sq_get (hq.still hb).1 ft.tn k hk)
  have HA := Lib.hid (fun (W : World) (B : Nat) (hb : Below w.heap.size w W) (hB : w.heap.size ≤ B ∧ B < W.heap.size) => sq_alloc (hq.other hb (K' := B :: sp :: K) (fun x hx => by
    rcases List.mem_cons.1 hx with rfl | hx
    · exact ⟨.inr hB.1, hB.2⟩
    · exact ⟨.inl hx, Nat.lt_of_lt_of_le (hq.old x hx) hb.size⟩)) ft.an)
  have HL := Lib.hid (fun (W : World) (K1 : List Nat) (hz : SQ w0 W p b ix n l A.alloc T K1) => sq_lay hz A.next (laid_is ho k).2 (next_out hq ho) k)
  have HP := Lib.hid (fun (W : World) (K1 : List Nat) (hz : SQ w0 W p b ix n l (A.alloc.set A.next ⟨k, 0, 0, 0, 0, 0⟩) T K1) => sq_put hz ft.tn k hk (A.next : Nat))
  have h32 : (A.next : Int) ≤ 2147483647 := by
    have := (next_free ho).2.2.2
    have := ho.room
    have := ft.an
    omega
  have HU := Lib.hid (fun (W : World) (K1 : List Nat) (hz : SQ w0 W p b ix n l (A.alloc.set A.next ⟨k, 0, 0, 0, 0, 0⟩) (T.put k A.next) K1) => sq_pushFront hz (t : Nat) (A.next : Nat) h32)
  rw [(pushL_next hq ho k t ht true).1, (pushL_next hq ho k t ht true).2] at HU
  rw [hg] at HG
  have hn8 := hq.ap_.2.2.2.2
  have htI : (t : Int) < (n : Int) := by omega
  have hnI : (n : Int) ≤ 8 := by omega
  generalize upd l t (if true then A.next :: l t else l t ++ [A.next]) = l2 at HU HTN ⊢
  generalize T.put k A.next = T2 at HP HU HTN ⊢
  generalize A.alloc.set A.next ⟨k, 0, 0, 0, 0, 0⟩ = A3 at HL HP HU HTN ⊢
  generalize A.alloc = A2 at HA HL
  generalize A.next = i at HA HL HP HU h32
  generalize (T.get k).1 = g0 at HG
  clear hc hq ft h3 h4 hold ho hg
  go_enter Tryz.func130, Tryz.ntmps130
  go_wp2_with fail
  refine HO.out.mono ?_
  rintro e w1 ⟨rfl, hb⟩
  have HB1 := Lib.hid hb
  clear hb
  go_wp2_with fail
  have HPU : Hid (Calls Tryz.prog 142 #[.agg (partsC p n b ix), .func (.func 141) #[] #[], .int .i64 (t : Nat), .int .u64 (k : Nat)] w1 fun e w' => e = .returned (.bool true) ∧ SM w0 w' sp n l2 A3 T2 K ∧ Kept K w w') := Lib.hid (by
    have HB2 := Lib.hid (HB1.out.alloc HB1.out.size (.cells (partsC p n b ix) 101))
    have hbx := heap_alloc_new w1 (.cells (partsC p n b ix) 101)
    have HBX := Lib.hid hbx
    have hz1 := HB1.out.size
    clear hbx HB1
    go_enter Tryz.func142, Tryz.ntmps142
    go_wp2_with fail
    refine (HG.out _ HB2.out).mono ?_
    rintro e w2 ⟨rfl, hb2⟩
    have HB3 := Lib.hid (HB2.out.trans (hb2.mono HB2.out.size))
    have HBX2 := Lib.hid ((hb2.block w1.heap.size (by simp)).trans HBX.out)
    have hw12 : w1.heap.size < w2.heap.size := by have := hb2.size; simp at this; omega
    obtain ⟨⟨c0, c1, c2, c3⟩, _⟩ := q4_at HBX2.out
    clear hb2
    go_wp2_with fail
    refine (HA.out _ w1.heap.size HB3.out ⟨hz1, hw12⟩).mono ?_
    rintro e w3 ⟨rfl, q1, q2⟩
    have Q1 := Lib.hid q1
    have KQ := Lib.hid q2
    clear c0 c1 c2 c3
    have HBX3 := Lib.hid ((q2 w1.heap.size (by simp)).trans HBX2.out)
    obtain ⟨⟨c0, c1, c2, c3⟩, _⟩ := q4_at HBX3.out
    clear q1 q2
    go_wp2_with fail
    refine (HL.out _ _ Q1.out).mono ?_
    rintro e w4 ⟨rfl, q1, q2⟩
    have Q2 := Lib.hid q1
    have KQ2 := Lib.hid (Kept.trans KQ.out q2)
    clear c0 c1 c2 c3
    have HBX4 := Lib.hid ((q2 w1.heap.size (by simp)).trans HBX3.out)
    obtain ⟨⟨c0, c1, c2, c3⟩, _⟩ := q4_at HBX4.out
    clear q1 q2
    go_wp2_with fail
    refine (HP.out _ _ Q2.out).mono ?_
    rintro e w5 ⟨rfl, q1, q2⟩
    have Q3 := Lib.hid q1
    have KQ3 := Lib.hid (Kept.trans KQ2.out q2)
    clear c0 c1 c2 c3
    have HBX5 := Lib.hid ((q2 w1.heap.size (by simp)).trans HBX4.out)
    obtain ⟨⟨c0, c1, c2, c3⟩, _⟩ := q4_at HBX5.out
    clear q1 q2
    go_wp2_with fail
    refine (HU.out _ _ Q3.out).mono ?_
    rintro e w6 ⟨rfl, q1, q2⟩
    have HE := Lib.hid (HTN.out _ _ _ HB3.out q1 (Kept.trans KQ3.out q2) (fun k hk => by simp; exact .inr hk))
    clear q1 q2 c0 c1 c2 c3
    go_wp2
    go_ret
    exact ⟨rfl, HE.out⟩)
  refine HPU.out.mono ?_
  rintro e w2 ⟨rfl, q1⟩
  have Q := Lib.hid q1
  clear q1
  go_wp2
  go_ret
  exact ⟨rfl, Q.out⟩
end
end Go.Proofs.YtkhikpnlpcankaaGreat
