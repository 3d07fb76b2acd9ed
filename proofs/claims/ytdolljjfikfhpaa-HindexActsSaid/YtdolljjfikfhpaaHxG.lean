/- The table: grown, put to, taken from: plain, no program. -/
import Derived.Test.YtdolljjfikfhpaaHxT
namespace Go.Proofs.Ytdolljjfikfhpaa

/- All that the first m slots have, laid into twice as many. -/
noncomputable def Tb.growUp (T : Tb) : Nat → Tb
  | 0 => ⟨2 * T.n, fun _ => Sl.no⟩
  | m + 1 => if (T.sl m).full then (T.growUp m).lay (T.sl m) else T.growUp m
noncomputable def Tb.grow (T : Tb) : Tb := T.growUp T.n
noncomputable def Tb.there (T : Tb) (k : Nat) : Bool := (T.sl (T.look k)).full
noncomputable def Tb.put (T : Tb) (k : Nat) (v : Int) : Tb := (if T.there k = false ∧ 3 * T.n < 4 * T.cnt + 4 then T.grow else T).lay ⟨k, v, true⟩
def Tb.new : Tb := ⟨8, fun _ => Sl.no⟩

/- m slots with nothing, from a on. -/
def Tb.wipe (T : Tb) (a : Nat) : Nat → Tb
  | 0 => T
  | m + 1 => ⟨T.n, fun i => if i = (a + m) % T.n then Sl.no else (T.wipe a m).sl i⟩
/- How many slots behind a have something, slot a itself having nothing. -/
def Tb.run (T : Tb) (a : Nat) : Nat := firstIn (fun j => !((T.wipe a 1).sl ((a + 1 + j) % T.n)).full) T.n 0
noncomputable def Tb.relay (T : Tb) (a r : Nat) : Nat → Tb
  | 0 => T.wipe a (r + 1)
  | m + 1 => (T.relay a r m).lay (T.sl ((a + 1 + m) % T.n))
noncomputable def Tb.del (T : Tb) (k : Nat) : Tb := if T.there k then T.relay (T.look k) (T.run (T.look k)) (T.run (T.look k)) else T

theorem none_cnt : ∀ m, cntB (fun _ => Sl.no.full) m = 0
  | 0 => rfl
  | m + 1 => by unfold cntB; rw [none_cnt m]; rfl
theorem none_ok (n : Nat) (hn : 0 < n) : Tb.Ok ⟨n, fun _ => Sl.no⟩ := by
  refine ⟨fun i _ _ => rfl, ?_, fun i _ hf => ?_, fun i j _ _ hf => ?_⟩
  · show cntB (fun _ => Sl.no.full) n < n
    rw [none_cnt]
    exact hn
  · exact absurd (show Sl.no.full = true from hf) (by decide)
  · exact absurd (show Sl.no.full = true from hf) (by decide)
theorem none_has (n k : Nat) (v : Int) : ¬ Tb.has ⟨n, fun _ => Sl.no⟩ k v := by
  rintro ⟨i, _, e⟩
  have : Sl.no.full = true := congrArg Sl.full e
  exact absurd this (by decide)

section
variable {T : Tb}
theorem Tb.lay_n (s : Sl) : (T.lay s).n = T.n := rfl
theorem Tb.there_iff (h : T.Ok) (k : Nat) : T.there k = true ↔ ∃ i, i < T.n ∧ (T.sl i).full = true ∧ (T.sl i).key = k := by
  constructor
  · intro hf
    exact ⟨_, h.look_lt k, hf, (h.look_stops k).resolve_left (by unfold Tb.there at hf; rw [hf]; decide)⟩
  · rintro ⟨i, hi, hf, rfl⟩
    unfold Tb.there
    rw [h.look_has hi hf, hf]
theorem Tb.there_has (h : T.Ok) (k : Nat) : T.there k = true ↔ ∃ v, T.has k v := by
  constructor
  · intro hf
    exact ⟨_, (h.has_iff k _).2 ⟨hf, rfl⟩⟩
  · rintro ⟨v, hv⟩
    exact ((h.has_iff k v).1 hv).1

structure GrowUp (T U : Tb) (m : Nat) : Prop where
  ok : U.Ok
  n : U.n = 2 * T.n
  cnt : U.cnt = cntB (fun i => (T.sl i).full) m
  has : ∀ k v, U.has k v ↔ ∃ i, i < m ∧ T.sl i = ⟨k, v, true⟩
theorem Tb.Ok.growUp (h : T.Ok) : ∀ m, m ≤ T.n → GrowUp T (T.growUp m) m
  | 0 => fun _ => by
    refine ⟨none_ok _ (by have := h.pos; omega), rfl, none_cnt _, fun k v => ⟨fun g => absurd g (none_has _ k v), fun ⟨i, hi, _⟩ => by omega⟩⟩
  | m + 1 => fun hm => by
    have ih := h.growUp m (by omega)
    unfold Tb.growUp
    by_cases hf : (T.sl m).full = true
    · rw [if_pos hf]
      have hab : ((T.growUp m).sl ((T.growUp m).look (T.sl m).key)).full = false := by
        refine eq_false_of_ne_true (fun g => ?_)
        obtain ⟨v, hv⟩ := ((T.growUp m).there_has ih.ok (T.sl m).key).1 g
        obtain ⟨i, hi, e⟩ := (ih.has _ _).1 hv
        have := h.one i m (by omega) (by omega) (by rw [e]) hf (by rw [e])
        omega
      have hc := ih.ok.lay_cnt (T.sl m) hf
      rw [hab, ih.cnt] at hc
      have hle := cntB_le (fun i => (T.sl i).full) m
      have hu := ih.n
      simp only [Bool.false_eq_true, if_false] at hc
      refine ⟨ih.ok.lay_ok _ hf (by omega), by rw [Tb.lay_n]; exact ih.n, by rw [hc]; show _ = cntB _ m + _; rw [if_pos hf], fun k v => ?_⟩
      rw [ih.ok.lay_has _ hf, ih.has]
      constructor
      · rintro (⟨rfl, rfl⟩ | ⟨_, i, hi, e⟩)
        · exact ⟨m, by omega, by generalize T.sl m = s at hf; cases s; simp_all⟩
        · exact ⟨i, by omega, e⟩
      · rintro ⟨i, hi, e⟩
        rcases Nat.eq_or_lt_of_le (Nat.le_of_lt_succ hi) with rfl | h2
        · exact .inl (by rw [e]; exact ⟨rfl, rfl⟩)
        · refine .inr ⟨fun hk => ?_, i, h2, e⟩
          have := h.one i m (by omega) (by omega) (by rw [e]) hf (by rw [e]; exact hk)
          omega
    · rw [if_neg hf]
      refine ⟨ih.ok, ih.n, by rw [ih.cnt]; show _ = cntB _ m + _; rw [if_neg hf]; rfl, fun k v => ?_⟩
      rw [ih.has]
      constructor
      · rintro ⟨i, hi, e⟩
        exact ⟨i, by omega, e⟩
      · rintro ⟨i, hi, e⟩
        rcases Nat.eq_or_lt_of_le (Nat.le_of_lt_succ hi) with rfl | h2
        · rw [e] at hf; exact absurd rfl hf
        · exact ⟨i, h2, e⟩
theorem Tb.Ok.grown (h : T.Ok) : T.grow.Ok ∧ T.grow.n = 2 * T.n ∧ T.grow.cnt = T.cnt ∧ ∀ k v, T.grow.has k v ↔ T.has k v :=
  have g := h.growUp T.n (Nat.le_refl _)
  ⟨g.ok, g.n, g.cnt, g.has⟩

/- What holds of a table at all times. -/
structure Tb.Good (T : Tb) : Prop where
  ok : T.Ok
  n8 : 8 ≤ T.n
  room : 4 * T.cnt ≤ 3 * T.n
  pow : ∃ p, T.n = 2 ^ p
theorem new_good : Tb.new.Good :=
  ⟨none_ok 8 (by decide), Nat.le_refl _, by show 4 * cntB (fun _ => Sl.no.full) 8 ≤ _; rw [none_cnt]; omega, 3, rfl⟩
theorem Tb.Good.put_all (h : T.Good) (k : Nat) (v : Int) : (T.put k v).Good ∧ (T.put k v).cnt = T.cnt + (if T.there k then 0 else 1) ∧
    (T.put k v).n = (if T.there k = false ∧ 3 * T.n < 4 * T.cnt + 4 then 2 * T.n else T.n) ∧ ∀ k' v', (T.put k v).has k' v' ↔ (k' = k ∧ v' = v) ∨ (k' ≠ k ∧ T.has k' v') := by
  obtain ⟨g1, g2, g3, g4⟩ := h.ok.grown
  have h8 := h.n8
  have hr := h.room
  obtain ⟨p, hp⟩ := h.pow
  unfold Tb.put
  by_cases hc : T.there k = false ∧ 3 * T.n < 4 * T.cnt + 4
  · rw [if_pos hc, if_pos hc, hc.1]
    have hab : (T.grow.sl (T.grow.look k)).full = false := by
      refine eq_false_of_ne_true (fun g => ?_)
      obtain ⟨u, hu⟩ := (T.grow.there_has g1 k).1 g
      have := (T.there_has h.ok k).2 ⟨u, (g4 _ _).1 hu⟩
      rw [hc.1] at this
      exact absurd this (by decide)
    have hcn := g1.lay_cnt ⟨k, v, true⟩ rfl
    rw [hab, g3] at hcn
    simp only [Bool.false_eq_true, if_false] at hcn ⊢
    refine ⟨⟨g1.lay_ok _ rfl (by omega), by rw [Tb.lay_n]; omega, by rw [Tb.lay_n]; omega, p + 1, by rw [Tb.lay_n, g2, hp, Nat.pow_succ, Nat.mul_comm]⟩, hcn, g2, fun k' v' => ?_⟩
    rw [g1.lay_has _ rfl, g4]
  · rw [if_neg hc, if_neg hc]
    have hcn := h.ok.lay_cnt ⟨k, v, true⟩ rfl
    have e : T.there k = (T.sl (T.look k)).full := rfl
    rw [e] at hc ⊢
    have hb : 4 * (T.lay ⟨k, v, true⟩).cnt ≤ 3 * T.n := by
      by_cases hf : (T.sl (T.look k)).full = true
      · rw [hcn, if_pos hf]; omega
      · have := eq_false_of_ne_true hf
        rw [hcn, if_neg hf]
        have : ¬ 3 * T.n < 4 * T.cnt + 4 := fun g => hc ⟨this, g⟩
        omega
    exact ⟨⟨h.ok.lay_ok _ rfl (by omega), h8, hb, p, hp⟩, hcn, rfl, fun k' v' => h.ok.lay_has _ rfl k' v'⟩
end
end Go.Proofs.Ytdolljjfikfhpaa
