/- A table whose slots are gone through from a key's home on: plain, no program. -/
import Derived.Test.YtdolljjfikfhpaaProg
namespace Go.Proofs.Ytdolljjfikfhpaa

/- The first of m numbers, from j on, that p has. -/
def firstIn (p : Nat → Bool) : Nat → Nat → Nat
  | 0, j => j
  | m + 1, j => if p j then j else firstIn p m (j + 1)
theorem firstIn_le (p : Nat → Bool) : ∀ m j, firstIn p m j ≤ j + m
  | 0, j => Nat.le_refl _
  | m + 1, j => by
    unfold firstIn
    split
    · omega
    · have := firstIn_le p m (j + 1); omega
theorem firstIn_ge (p : Nat → Bool) : ∀ m j, j ≤ firstIn p m j
  | 0, j => Nat.le_refl _
  | m + 1, j => by
    unfold firstIn
    split
    · omega
    · have := firstIn_ge p m (j + 1); omega
theorem firstIn_no (p : Nat → Bool) : ∀ m j i, j ≤ i → i < firstIn p m j → p i = false
  | 0, j, i => fun h1 h2 => by unfold firstIn at h2; omega
  | m + 1, j, i => fun h1 h2 => by
    unfold firstIn at h2
    split at h2
    · omega
    · rename_i hp
      rcases Nat.eq_or_lt_of_le h1 with rfl | h
      · exact eq_false_of_ne_true hp
      · exact firstIn_no p m (j + 1) i h h2
theorem firstIn_yes (p : Nat → Bool) : ∀ m j, firstIn p m j < j + m → p (firstIn p m j) = true
  | 0, j => fun h => by unfold firstIn at h; omega
  | m + 1, j => fun h => by
    unfold firstIn at h ⊢
    split
    · assumption
    · rename_i hp
      rw [if_neg hp] at h
      exact firstIn_yes p m (j + 1) (by omega)
theorem firstIn_lt (p : Nat → Bool) (m j i : Nat) (h1 : j ≤ i) (hp : p i = true) : firstIn p m j ≤ i := by
  rcases Nat.lt_or_ge i (firstIn p m j) with h | h
  · have := firstIn_no p m j i h1 h
    rw [hp] at this
    exact absurd this (by decide)
  · exact h

/- How many of the first m numbers f has. -/
def cntB (f : Nat → Bool) : Nat → Nat
  | 0 => 0
  | m + 1 => cntB f m + if f m then 1 else 0
theorem cntB_le (f : Nat → Bool) : ∀ m, cntB f m ≤ m
  | 0 => Nat.le_refl _
  | m + 1 => by
    have := cntB_le f m
    unfold cntB
    split <;> omega
theorem cntB_hole (f : Nat → Bool) : ∀ m, cntB f m < m → ∃ i, i < m ∧ f i = false
  | 0 => fun h => by omega
  | m + 1 => fun h => by
    unfold cntB at h
    by_cases hf : f m = true
    · rw [if_pos hf] at h
      obtain ⟨i, hi, e⟩ := cntB_hole f m (by omega)
      exact ⟨i, by omega, e⟩
    · exact ⟨m, by omega, eq_false_of_ne_true hf⟩
theorem cntB_lt_of_hole (f : Nat → Bool) : ∀ m i, i < m → f i = false → cntB f m < m
  | 0, i => fun h => by omega
  | m + 1, i => fun h hf => by
    unfold cntB
    rcases Nat.eq_or_lt_of_le (Nat.le_of_lt_succ h) with rfl | h2
    · rw [hf]
      have := cntB_le f i
      simp
      omega
    · have := cntB_lt_of_hole f m i h2 hf
      split <;> omega
theorem cntB_same {f g : Nat → Bool} : ∀ m, (∀ x, x < m → f x = g x) → cntB f m = cntB g m
  | 0 => fun _ => rfl
  | m + 1 => fun h => by
    unfold cntB
    rw [cntB_same m (fun x hx => h x (by omega)), h m (by omega)]
theorem cntB_up {f g : Nat → Bool} {i : Nat} (h : ∀ x, x ≠ i → f x = g x) (hf : f i = false) (hg : g i = true) : ∀ m, i < m → cntB g m = cntB f m + 1
  | 0 => fun h => by omega
  | m + 1 => fun hm => by
    unfold cntB
    rcases Nat.eq_or_lt_of_le (Nat.le_of_lt_succ hm) with rfl | h2
    · rw [cntB_same i (fun x hx => (h x (by omega)).symm), hf, hg]
      simp
    · rw [cntB_up h hf hg m h2, h m (by omega)]
      omega

structure Sl where
  key : Nat
  n : Int
  full : Bool
def Sl.no : Sl := ⟨0, 0, false⟩
structure Tb where
  n : Nat
  sl : Nat → Sl
/- Where a key belongs. (Told by its law alone, so that nobody reckons it out: the kernel would not come back.) -/
theorem hm_is : ∃ f : Nat → Nat → Nat, ∀ k n, f k n = (k * 11400714819323198485 % 18446744073709551616 ^^^ k * 11400714819323198485 % 18446744073709551616 / 4294967296) % n := ⟨_, fun _ _ => rfl⟩
noncomputable def hm : Nat → Nat → Nat := Classical.choose hm_is
theorem hm_eq (k n : Nat) : hm k n = (k * 11400714819323198485 % 18446744073709551616 ^^^ k * 11400714819323198485 % 18446744073709551616 / 4294967296) % n := Classical.choose_spec hm_is k n
theorem hm_lt (k : Nat) {n : Nat} (h : 0 < n) : hm k n < n := hm_eq k n ▸ Nat.mod_lt _ h

noncomputable def Tb.go (T : Tb) (k j : Nat) : Nat := (hm k T.n + j) % T.n
noncomputable def Tb.stops (T : Tb) (k j : Nat) : Bool := !(T.sl (T.go k j)).full || (T.sl (T.go k j)).key == k
noncomputable def Tb.steps (T : Tb) (k : Nat) : Nat := firstIn (T.stops k) T.n 0
noncomputable def Tb.look (T : Tb) (k : Nat) : Nat := T.go k (T.steps k)
def Tb.cnt (T : Tb) : Nat := cntB (fun i => (T.sl i).full) T.n
def Tb.has (T : Tb) (k : Nat) (v : Int) : Prop := ∃ i, i < T.n ∧ T.sl i = ⟨k, v, true⟩
structure Tb.Ok (T : Tb) : Prop where
  clean : ∀ i, i < T.n → (T.sl i).full = false → T.sl i = Sl.no
  hole : T.cnt < T.n
  near : ∀ i, i < T.n → (T.sl i).full = true → ∃ j, j < T.n ∧ T.go (T.sl i).key j = i ∧ ∀ x, x < j → (T.sl (T.go (T.sl i).key x)).full = true
  one : ∀ i j, i < T.n → j < T.n → (T.sl i).full = true → (T.sl j).full = true → (T.sl i).key = (T.sl j).key → i = j
noncomputable def Tb.lay (T : Tb) (s : Sl) : Tb := ⟨T.n, fun i => if i = T.look s.key then s else T.sl i⟩

theorem mod_go {h j n : Nat} (hh : h < n) (hj : j ≤ n) : (h + j) % n = if h + j < n then h + j else h + j - n := by
  split
  · exact Nat.mod_eq_of_lt ‹_›
  · rw [Nat.mod_eq_sub_mod (by omega), Nat.mod_eq_of_lt (by omega)]
theorem mod_go_inj {h i j n : Nat} (hh : h < n) (hi : i < n) (hj : j < n) (e : (h + i) % n = (h + j) % n) : i = j := by
  rw [mod_go hh (by omega), mod_go hh (by omega)] at e
  split at e <;> split at e <;> omega
theorem mod_go_onto {h x n : Nat} (hh : h < n) (hx : x < n) : ∃ j, j < n ∧ (h + j) % n = x := by
  by_cases hc : h ≤ x
  · exact ⟨x - h, by omega, by rw [mod_go hh (by omega)]; split <;> omega⟩
  · exact ⟨x + n - h, by omega, by rw [mod_go hh (by omega)]; split <;> omega⟩

section
variable {T : Tb}
theorem Tb.Ok.pos (h : T.Ok) : 0 < T.n := by have := h.hole; omega
theorem Tb.go_lt (hp : 0 < T.n) (k j : Nat) : T.go k j < T.n := Nat.mod_lt _ hp
theorem Tb.go_inj (hp : 0 < T.n) {k i j : Nat} (hi : i < T.n) (hj : j < T.n) (e : T.go k i = T.go k j) : i = j := mod_go_inj (hm_lt k hp) hi hj e
theorem Tb.go_onto (hp : 0 < T.n) (k : Nat) {x : Nat} (hx : x < T.n) : ∃ j, j < T.n ∧ T.go k j = x := mod_go_onto (hm_lt k hp) hx
theorem Tb.stops_iff (k j : Nat) : T.stops k j = true ↔ (T.sl (T.go k j)).full = false ∨ (T.sl (T.go k j)).key = k := by
  unfold Tb.stops
  simp
theorem Tb.Ok.steps_lt (h : T.Ok) (k : Nat) : T.steps k < T.n := by
  obtain ⟨i, hi, e⟩ := cntB_hole _ _ h.hole
  obtain ⟨j, hj, rfl⟩ := T.go_onto h.pos k hi
  have := firstIn_lt (T.stops k) T.n 0 j (by omega) ((T.stops_iff k j).2 (.inl e))
  unfold Tb.steps
  omega
theorem Tb.Ok.look_lt (h : T.Ok) (k : Nat) : T.look k < T.n := T.go_lt h.pos _ _
theorem Tb.Ok.look_stops (h : T.Ok) (k : Nat) : (T.sl (T.look k)).full = false ∨ (T.sl (T.look k)).key = k :=
  (T.stops_iff k _).1 (firstIn_yes _ _ _ (by have := h.steps_lt k; unfold Tb.steps at this; omega))
theorem Tb.path (k : Nat) {j : Nat} (hj : j < T.steps k) : (T.sl (T.go k j)).full = true ∧ (T.sl (T.go k j)).key ≠ k := by
  have := firstIn_no (T.stops k) T.n 0 j (by omega) hj
  unfold Tb.stops at this
  simpa using this
theorem Tb.Ok.look_has (h : T.Ok) {i : Nat} (hi : i < T.n) (hf : (T.sl i).full = true) : T.look (T.sl i).key = i := by
  obtain ⟨j, hj, e, hp⟩ := h.near i hi hf
  have h1 : T.steps (T.sl i).key ≤ j := firstIn_lt _ _ _ j (by omega) ((T.stops_iff _ j).2 (.inr (by rw [e])))
  rcases Nat.eq_or_lt_of_le h1 with h2 | h2
  · unfold Tb.look
    rw [h2, e]
  · have hf2 := hp _ h2
    have hk := (h.look_stops (T.sl i).key).resolve_left (by unfold Tb.look; rw [hf2]; decide)
    exact h.one _ _ (h.look_lt _) hi hf2 hf hk
theorem Tb.Ok.has_iff (h : T.Ok) (k : Nat) (v : Int) : T.has k v ↔ (T.sl (T.look k)).full = true ∧ (T.sl (T.look k)).n = v := by
  constructor
  · rintro ⟨i, hi, e⟩
    have := h.look_has hi (by rw [e])
    rw [e] at this
    rw [this, e]
    exact ⟨rfl, rfl⟩
  · rintro ⟨hf, hv⟩
    have hk := (h.look_stops k).resolve_left (by rw [hf]; decide)
    refine ⟨_, h.look_lt k, ?_⟩
    generalize T.sl (T.look k) = s at hf hv hk
    cases s
    simp_all
theorem Tb.Ok.absent (h : T.Ok) {k : Nat} (hn : (T.sl (T.look k)).full = false) {i : Nat} (hi : i < T.n) (hf : (T.sl i).full = true) : (T.sl i).key ≠ k := by
  rintro rfl
  rw [h.look_has hi hf, hf] at hn
  exact absurd hn (by decide)

theorem Tb.lay_at (s : Sl) : (T.lay s).sl (T.look s.key) = s := by unfold Tb.lay; simp
theorem Tb.lay_other (s : Sl) {i : Nat} (hi : i ≠ T.look s.key) : (T.lay s).sl i = T.sl i := by unfold Tb.lay; simp [hi]
theorem Tb.lay_full (s : Sl) (hs : s.full = true) {i : Nat} (hf : (T.sl i).full = true) : ((T.lay s).sl i).full = true := by
  by_cases e : i = T.look s.key
  · rw [e, T.lay_at, hs]
  · rw [T.lay_other s e, hf]
theorem Tb.Ok.lay_cnt (h : T.Ok) (s : Sl) (hs : s.full = true) : (T.lay s).cnt = T.cnt + if (T.sl (T.look s.key)).full then 0 else 1 := by
  unfold Tb.cnt
  show cntB _ T.n = _
  by_cases hf : (T.sl (T.look s.key)).full = true
  · rw [if_pos hf]
    refine cntB_same _ (fun x _ => ?_)
    by_cases e : x = T.look s.key
    · rw [e, T.lay_at, hs, hf]
    · rw [T.lay_other s e]
  · rw [if_neg hf]
    refine cntB_up (i := T.look s.key) (fun x hx => by rw [T.lay_other s hx]) (eq_false_of_ne_true hf) (by rw [T.lay_at, hs]) _ (h.look_lt _)
theorem Tb.Ok.lay_ok (h : T.Ok) (s : Sl) (hs : s.full = true) (hc : (T.lay s).cnt < T.n) : (T.lay s).Ok := by
  refine ⟨fun i hi hf => ?_, hc, fun i hi hf => ?_, fun i j hi hj hfi hfj e => ?_⟩
  · by_cases ei : i = T.look s.key
    · rw [ei, T.lay_at, hs] at hf
      exact absurd hf (by decide)
    · rw [T.lay_other s ei] at hf ⊢
      exact h.clean i hi hf
  · by_cases ei : i = T.look s.key
    · rw [ei, T.lay_at]
      exact ⟨T.steps s.key, h.steps_lt _, rfl, fun x hx => T.lay_full s hs (T.path s.key hx).1⟩
    · rw [T.lay_other s ei] at hf ⊢
      obtain ⟨j, hj, e, hp⟩ := h.near i hi hf
      exact ⟨j, hj, e, fun x hx => T.lay_full s hs (hp x hx)⟩
  · have key : ∀ x, x < T.n → x ≠ T.look s.key → (T.sl x).full = true → (T.sl x).key ≠ s.key := fun x hx hne hf e => hne (by rw [← e]; exact (h.look_has hx hf).symm)
    by_cases ei : i = T.look s.key
    · by_cases ej : j = T.look s.key
      · rw [ei, ej]
      · rw [ei, T.lay_at, T.lay_other s ej] at e
        rw [T.lay_other s ej] at hfj
        exact absurd e.symm (key j hj ej hfj)
    · by_cases ej : j = T.look s.key
      · rw [ej, T.lay_at, T.lay_other s ei] at e
        rw [T.lay_other s ei] at hfi
        exact absurd e (key i hi ei hfi)
      · rw [T.lay_other s ei, T.lay_other s ej] at e
        rw [T.lay_other s ei] at hfi
        rw [T.lay_other s ej] at hfj
        exact h.one i j hi hj hfi hfj e
theorem Tb.Ok.lay_has (h : T.Ok) (s : Sl) (hs : s.full = true) (k : Nat) (v : Int) : (T.lay s).has k v ↔ (k = s.key ∧ v = s.n) ∨ (k ≠ s.key ∧ T.has k v) := by
  constructor
  · rintro ⟨i, hi, e⟩
    by_cases ei : i = T.look s.key
    · rw [ei, T.lay_at] at e
      subst e
      exact .inl ⟨rfl, rfl⟩
    · rw [T.lay_other s ei] at e
      refine .inr ⟨?_, i, hi, e⟩
      rintro rfl
      have := h.look_has hi (by rw [e])
      rw [e] at this
      exact ei this.symm
  · rintro (⟨rfl, rfl⟩ | ⟨hk, i, hi, e⟩)
    · refine ⟨T.look s.key, h.look_lt _, ?_⟩
      rw [T.lay_at]
      cases s
      simp_all
    · refine ⟨i, hi, ?_⟩
      rw [T.lay_other, e]
      rintro rfl
      rcases h.look_stops s.key with g | g
      · rw [e] at g; simp at g
      · rw [e] at g; exact hk g
end
end Go.Proofs.Ytdolljjfikfhpaa
