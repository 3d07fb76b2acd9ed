/- Words and walks: HxG HxD HxR HxW HxK HxB. -/
import Derived.Test.YtkhikpnlpcankaaG0
import Derived.Test.YtkhikpnlpcankaaG7
import Derived.Below
import Derived.Deep.OwnRows
import Derived.Deep.Draws
import Derived.Deep.DeepCutAuto
namespace Go.Proofs.Ytkhikpnlpcankaa
noncomputable def Tb.growUp (T : Tb) : Nat → Tb
  | 0 => ⟨2 * T.n, fun _ => Sl.no⟩
  | m + 1 => if (T.sl m).full then (T.growUp m).lay (T.sl m) else T.growUp m
noncomputable def Tb.grow (T : Tb) : Tb := T.growUp T.n
noncomputable def Tb.there (T : Tb) (k : Nat) : Bool := (T.sl (T.look k)).full
noncomputable def Tb.put (T : Tb) (k : Nat) (v : Int) : Tb := (if T.there k = false ∧ 3 * T.n < 4 * T.cnt + 4 then T.grow else T).lay ⟨k, v, true⟩
def Tb.new : Tb := ⟨8, fun _ => Sl.no⟩
def Tb.wipe (T : Tb) (a : Nat) : Nat → Tb
  | 0 => T
  | m + 1 => ⟨T.n, fun i => if i = (a + m) % T.n then Sl.no else (T.wipe a m).sl i⟩
def Tb.run (T : Tb) (a : Nat) : Nat := firstIn (fun j => !((T.wipe a 1).sl ((a + 1 + j) % T.n)).full) T.n 0
noncomputable def Tb.relay (T : Tb) (a r : Nat) : Nat → Tb
  | 0 => T.wipe a (r + 1)
  | m + 1 => (T.relay a r m).lay (T.sl ((a + 1 + m) % T.n))
noncomputable def Tb.del (T : Tb) (k : Nat) : Tb := if T.there k then T.relay (T.look k) (T.run (T.look k)) (T.run (T.look k)) else T
theorem none_cnt : ∀ m, cntB (fun _ => Sl.no.full) m = 0
  | 0 => rfl
  | m + 1 => by unfold cntB; rw [none_cnt m]; rfl
theorem none_ok (n : Nat) (hn : 0 < n) : Tb.Ok ⟨n, fun _ => Sl.no⟩ := by
  refine ⟨fun i _ _ => rfl, ?_, fun i _ hf => ?_, fun i j _ _ hf => ?_⟩
  · show cntB (fun _ => Sl.no.full) n < n
    rw [none_cnt]
    exact hn
  · exact absurd (show Sl.no.full = true from hf) (by decide)
  · exact absurd (show Sl.no.full = true from hf) (by decide)
theorem none_has (n k : Nat) (v : Int) : ¬ Tb.has ⟨n, fun _ => Sl.no⟩ k v := by
  rintro ⟨i, _, e⟩
  have : Sl.no.full = true := congrArg Sl.full e
  exact absurd this (by decide)
section
variable {T : Tb}
theorem Tb.lay_n (s : Sl) : (T.lay s).n = T.n := rfl
theorem Tb.there_has (h : T.Ok) (k : Nat) : T.there k = true ↔ ∃ v, T.has k v := by
  constructor
  · intro hf
    exact ⟨_, (h.has_iff k _).2 ⟨hf, rfl⟩⟩
  · rintro ⟨v, hv⟩
    exact ((h.has_iff k v).1 hv).1
structure GrowUp (T U : Tb) (m : Nat) : Prop where
  ok : U.Ok
  n : U.n = 2 * T.n
  cnt : U.cnt = cntB (fun i => (T.sl i).full) m
  has : ∀ k v, U.has k v ↔ ∃ i, i < m ∧ T.sl i = ⟨k, v, true⟩
theorem Tb.Ok.growUp (h : T.Ok) : ∀ m, m ≤ T.n → GrowUp T (T.growUp m) m
  | 0 => fun _ => by
    refine ⟨none_ok _ (by have := h.pos; omega), rfl, none_cnt _, fun k v => ⟨fun g => absurd g (none_has _ k v), fun ⟨i, hi, _⟩ => by omega⟩⟩
  | m + 1 => fun hm => by
    have ih := h.growUp m (by omega)
    unfold Tb.growUp
    by_cases hf : (T.sl m).full = true
    · rw [if_pos hf]
      have hab : ((T.growUp m).sl ((T.growUp m).look (T.sl m).key)).full = false := by
        refine eq_false_of_ne_true (fun g => ?_)
        obtain ⟨v, hv⟩ := ((T.growUp m).there_has ih.ok (T.sl m).key).1 g
        obtain ⟨i, hi, e⟩ := (ih.has _ _).1 hv
        have := h.one i m (by omega) (by omega) (by rw [e]) hf (by rw [e])
        omega
      have hc := ih.ok.lay_cnt (T.sl m) hf
      rw [hab, ih.cnt] at hc
      have hle := cntB_le (fun i => (T.sl i).full) m
      have hu := ih.n
      simp only [Bool.false_eq_true, if_false] at hc
      refine ⟨ih.ok.lay_ok _ hf (by omega), by rw [Tb.lay_n]; exact ih.n, by rw [hc]; show _ = cntB _ m + _; rw [if_pos hf], fun k v => ?_⟩
      rw [ih.ok.lay_has _ hf, ih.has]
      constructor
      · rintro (⟨rfl, rfl⟩ | ⟨_, i, hi, e⟩)
        · exact ⟨m, by omega, by generalize T.sl m = s at hf; cases s; simp_all⟩
        · exact ⟨i, by omega, e⟩
      · rintro ⟨i, hi, e⟩
        rcases Nat.eq_or_lt_of_le (Nat.le_of_lt_succ hi) with rfl | h2
        · exact .inl (by rw [e]; exact ⟨rfl, rfl⟩)
        · refine .inr ⟨fun hk => ?_, i, h2, e⟩
          have := h.one i m (by omega) (by omega) (by rw [e]) hf (by rw [e]; exact hk)
          omega
    · rw [if_neg hf]
      refine ⟨ih.ok, ih.n, by rw [ih.cnt]; show _ = cntB _ m + _; rw [if_neg hf]; rfl, fun k v => ?_⟩
      rw [ih.has]
      constructor
      · rintro ⟨i, hi, e⟩
        exact ⟨i, by omega, e⟩
      · rintro ⟨i, hi, e⟩
        rcases Nat.eq_or_lt_of_le (Nat.le_of_lt_succ hi) with rfl | h2
        · rw [e] at hf; exact absurd rfl hf
        · exact ⟨i, h2, e⟩
theorem Tb.Ok.grown (h : T.Ok) : T.grow.Ok ∧ T.grow.n = 2 * T.n ∧ T.grow.cnt = T.cnt ∧ ∀ k v, T.grow.has k v ↔ T.has k v :=
  have g := h.growUp T.n (Nat.le_refl _)
  ⟨g.ok, g.n, g.cnt, g.has⟩
structure Tb.Good (T : Tb) : Prop where
  ok : T.Ok
  n8 : 8 ≤ T.n
  room : 4 * T.cnt ≤ 3 * T.n
  pow : ∃ p, T.n = 2 ^ p
theorem new_good : Tb.new.Good :=
  ⟨none_ok 8 (by decide), Nat.le_refl _, by show 4 * cntB (fun _ => Sl.no.full) 8 ≤ _; rw [none_cnt]; omega, 3, rfl⟩
theorem Tb.Good.put_all (h : T.Good) (k : Nat) (v : Int) : (T.put k v).Good ∧ (T.put k v).cnt = T.cnt + (if T.there k then 0 else 1) ∧
    (T.put k v).n = (if T.there k = false ∧ 3 * T.n < 4 * T.cnt + 4 then 2 * T.n else T.n) ∧ ∀ k' v', (T.put k v).has k' v' ↔ (k' = k ∧ v' = v) ∨ (k' ≠ k ∧ T.has k' v') := by
  obtain ⟨g1, g2, g3, g4⟩ := h.ok.grown
  have h8 := h.n8
  have hr := h.room
  obtain ⟨p, hp⟩ := h.pow
  unfold Tb.put
  by_cases hc : T.there k = false ∧ 3 * T.n < 4 * T.cnt + 4
  · rw [if_pos hc, if_pos hc, hc.1]
    have hab : (T.grow.sl (T.grow.look k)).full = false := by
      refine eq_false_of_ne_true (fun g => ?_)
      obtain ⟨u, hu⟩ := (T.grow.there_has g1 k).1 g
      have := (T.there_has h.ok k).2 ⟨u, (g4 _ _).1 hu⟩
      rw [hc.1] at this
      exact absurd this (by decide)
    have hcn := g1.lay_cnt ⟨k, v, true⟩ rfl
    rw [hab, g3] at hcn
    simp only [Bool.false_eq_true, if_false] at hcn ⊢
    refine ⟨⟨g1.lay_ok _ rfl (by omega), by rw [Tb.lay_n]; omega, by rw [Tb.lay_n]; omega, p + 1, by rw [Tb.lay_n, g2, hp, Nat.pow_succ, Nat.mul_comm]⟩, hcn, g2, fun k' v' => ?_⟩
    rw [g1.lay_has _ rfl, g4]
  · rw [if_neg hc, if_neg hc]
    have hcn := h.ok.lay_cnt ⟨k, v, true⟩ rfl
    have e : T.there k = (T.sl (T.look k)).full := rfl
    rw [e] at hc ⊢
    have hb : 4 * (T.lay ⟨k, v, true⟩).cnt ≤ 3 * T.n := by
      by_cases hf : (T.sl (T.look k)).full = true
      · rw [hcn, if_pos hf]; omega
      · have := eq_false_of_ne_true hf
        rw [hcn, if_neg hf]
        have : ¬ 3 * T.n < 4 * T.cnt + 4 := fun g => hc ⟨this, g⟩
        omega
    exact ⟨⟨h.ok.lay_ok _ rfl (by omega), h8, hb, p, hp⟩, hcn, rfl, fun k' v' => h.ok.lay_has _ rfl k' v'⟩
end
end Go.Proofs.Ytkhikpnlpcankaa
namespace Go.Proofs.Ytkhikpnlpcankaa
section
variable {T : Tb}
theorem Tb.wipe_n (a : Nat) : ∀ m, (T.wipe a m).n = T.n
  | 0 => rfl
  | _ + 1 => rfl
theorem Tb.wipe_out (a : Nat) {i : Nat} : ∀ m, (∀ j, j < m → i ≠ (a + j) % T.n) → (T.wipe a m).sl i = T.sl i
  | 0 => fun _ => rfl
  | m + 1 => fun h => by
    show (if i = (a + m) % T.n then Sl.no else (T.wipe a m).sl i) = _
    rw [if_neg (h m (by omega)), Tb.wipe_out a m (fun j hj => h j (by omega))]
theorem Tb.wipe_in (a : Nat) {j : Nat} : ∀ m, j < m → (T.wipe a m).sl ((a + j) % T.n) = Sl.no
  | 0 => fun h => by omega
  | m + 1 => fun h => by
    show (if (a + j) % T.n = (a + m) % T.n then Sl.no else (T.wipe a m).sl ((a + j) % T.n)) = _
    split
    · rfl
    · rename_i hne
      refine Tb.wipe_in a m ?_
      rcases Nat.eq_or_lt_of_le (Nat.le_of_lt_succ h) with rfl | h2
      · exact absurd rfl hne
      · exact h2
theorem mod_shift {h x a y n : Nat} (e : (h + x) % n = (a + y) % n) (d : Nat) : (h + (x + d)) % n = (a + (y + d)) % n := by
  rw [← Nat.add_assoc, ← Nat.add_assoc, Nat.add_mod, e, ← Nat.add_mod]
structure RunAt (T : Tb) (a r : Nat) : Prop where
  lo : a < T.n
  short : r + 1 < T.n
  full : ∀ j, j < r + 1 → (T.sl ((a + j) % T.n)).full = true
  stop : (T.sl ((a + (r + 1)) % T.n)).full = false
theorem Tb.Ok.run_at (h : T.Ok) {a : Nat} (ha : a < T.n) (hf : (T.sl a).full = true) : RunAt T a (T.run a) := by
  have hp := h.pos
  have e0 : (a + 0) % T.n = a := Nat.mod_eq_of_lt (by omega)
  have hne : ∀ j, j + 1 < T.n → (a + 1 + j) % T.n ≠ a := fun j hj e => by
    have := mod_go_inj (h := a) (i := 1 + j) (j := 0) ha (by omega) hp (by rw [e0, ← e]; congr 1; omega)
    omega
  have hw : ∀ j, j + 1 < T.n → (T.wipe a 1).sl ((a + 1 + j) % T.n) = T.sl ((a + 1 + j) % T.n) := fun j hj => Tb.wipe_out a 1 (fun j' hj' => by
    obtain rfl : j' = 0 := by omega
    rw [e0]
    exact hne j hj)
  obtain ⟨x, hx, ex⟩ := cntB_hole _ _ h.hole
  obtain ⟨d, hd, rfl⟩ := mod_go_onto ha hx
  have hd0 : d ≠ 0 := by
    rintro rfl
    rw [e0] at ex
    rw [hf] at ex
    exact absurd ex (by decide)
  have ed : a + 1 + (d - 1) = a + d := by omega
  have hr : T.run a ≤ d - 1 := firstIn_lt _ _ _ (d - 1) (by omega) (by
    show (!((T.wipe a 1).sl ((a + 1 + (d - 1)) % T.n)).full) = true
    rw [hw _ (by omega), ed, ex]
    rfl)
  refine ⟨ha, by omega, fun j hj => ?_, ?_⟩
  · rcases Nat.eq_zero_or_pos j with rfl | hj0
    · rw [e0, hf]
    · have := firstIn_no _ T.n 0 (j - 1) (by omega) (show j - 1 < T.run a by omega)
      rw [hw _ (by omega), show a + 1 + (j - 1) = a + j by omega] at this
      simpa using this
  · have := firstIn_yes _ T.n 0 (show T.run a < 0 + T.n by omega)
    have this : (!((T.wipe a 1).sl ((a + 1 + T.run a) % T.n)).full) = true := this
    rw [hw _ (by omega), show a + 1 + T.run a = a + (T.run a + 1) by omega] at this
    simpa using this
section
variable {a r : Nat}
theorem RunAt.ne (h : RunAt T a r) {i j : Nat} (hi : i < T.n) (hj : j < T.n) (hne : i ≠ j) : (a + i) % T.n ≠ (a + j) % T.n := fun e => hne (mod_go_inj h.lo hi hj e)
theorem RunAt.cnt (h : RunAt T a r) : ∀ m, m ≤ r + 1 → (T.wipe a m).cnt + m = T.cnt
  | 0 => fun _ => rfl
  | m + 1 => fun hm => by
    have ih := h.cnt m (by omega)
    have hr := h.short
    have := cntB_up (f := fun i => ((T.wipe a (m + 1)).sl i).full) (g := fun i => ((T.wipe a m).sl i).full) (i := (a + m) % T.n) (fun x hx => by
        show (if x = (a + m) % T.n then Sl.no else (T.wipe a m).sl x).full = _
        rw [if_neg hx]) (by show ((T.wipe a (m + 1)).sl _).full = _; rw [Tb.wipe_in a (m + 1) (by omega)]; rfl)
      (by
        show ((T.wipe a m).sl _).full = _
        rw [Tb.wipe_out a m (fun j hj => h.ne (by omega) (by omega) (by omega))]
        exact h.full m (by omega)) T.n (Nat.mod_lt _ (by omega))
    unfold Tb.cnt at ih ⊢
    rw [Tb.wipe_n] at ih ⊢
    omega
theorem Tb.wiped {i : Nat} (hf : ((T.wipe a (r + 1)).sl i).full = true) : (∀ j, j < r + 1 → i ≠ (a + j) % T.n) ∧ (T.wipe a (r + 1)).sl i = T.sl i := by
  have hn : ∀ j, j < r + 1 → i ≠ (a + j) % T.n := by
    rintro j hj rfl
    rw [Tb.wipe_in a (r + 1) hj] at hf
    exact absurd hf (by decide)
  exact ⟨hn, Tb.wipe_out a _ hn⟩
theorem RunAt.ok (h : RunAt T a r) (g : T.Ok) : (T.wipe a (r + 1)).Ok := by
  refine ⟨fun i hi hf => ?_, by have := h.cnt (r + 1) (Nat.le_refl _); have := g.hole; rw [Tb.wipe_n]; omega, fun i hi hf => ?_, fun i j hi hj hfi hfj e => ?_⟩
  · by_cases q : ∃ j, j < r + 1 ∧ i = (a + j) % T.n
    · obtain ⟨j, hj, rfl⟩ := q
      exact Tb.wipe_in a (r + 1) hj
    · have es := Tb.wipe_out a (r + 1) (fun j hj ej => q ⟨j, hj, ej⟩)
      rw [es] at hf ⊢
      rw [Tb.wipe_n] at hi
      exact g.clean i hi hf
  · obtain ⟨hn, es⟩ := Tb.wiped hf
    rw [Tb.wipe_n] at hi ⊢
    rw [es] at hf ⊢
    obtain ⟨j, hj, e, hp⟩ := g.near i hi hf
    refine ⟨j, hj, ?_, fun x hx => ?_⟩
    · show (hm _ (T.wipe a (r + 1)).n + j) % (T.wipe a (r + 1)).n = i
      rw [Tb.wipe_n]
      exact e
    · have eg : (T.wipe a (r + 1)).go (T.sl i).key x = T.go (T.sl i).key x := by
        show (hm _ (T.wipe a (r + 1)).n + x) % (T.wipe a (r + 1)).n = _
        rw [Tb.wipe_n]
        rfl
      rw [eg, Tb.wipe_out a (r + 1), hp x hx]
      intro y hy ey
      have sh := fun d => mod_shift (h := hm (T.sl i).key T.n) (x := x) ey d
      rcases Nat.lt_trichotomy (x + (r + 1 - y)) j with q | q | q
      · have := hp _ q
        rw [show T.go (T.sl i).key (x + (r + 1 - y)) = _ from sh (r + 1 - y), show y + (r + 1 - y) = r + 1 by omega, h.stop] at this
        exact absurd this (by decide)
      · have e2 := sh (r + 1 - y)
        rw [q, show y + (r + 1 - y) = r + 1 by omega] at e2
        have e3 : i = (a + (r + 1)) % T.n := e.symm.trans e2
        rw [e3, h.stop] at hf
        exact absurd hf (by decide)
      · have e2 := sh (j - x)
        rw [show x + (j - x) = j by omega] at e2
        exact hn (y + (j - x)) (by omega) (e.symm.trans e2)
  · rw [Tb.wipe_n] at hi hj
    have e1 := (Tb.wiped hfi).2
    have e2 := (Tb.wiped hfj).2
    rw [e1] at hfi e
    rw [e2] at hfj e
    exact g.one i j hi hj hfi hfj e
theorem Tb.wiped_has (a r k : Nat) (v : Int) : (T.wipe a (r + 1)).has k v ↔ ∃ i, i < T.n ∧ (∀ j, j < r + 1 → i ≠ (a + j) % T.n) ∧ T.sl i = ⟨k, v, true⟩ := by
  constructor
  · rintro ⟨i, hi, e⟩
    obtain ⟨hn, es⟩ := Tb.wiped (i := i) (by rw [e])
    exact ⟨i, by rw [Tb.wipe_n] at hi; exact hi, hn, by rw [← es, e]⟩
  · rintro ⟨i, hi, hn, e⟩
    exact ⟨i, by rw [Tb.wipe_n]; exact hi, by rw [Tb.wipe_out a _ hn, e]⟩
structure RelayUp (T U : Tb) (a r m : Nat) : Prop where
  ok : U.Ok
  n : U.n = T.n
  cnt : U.cnt + (r + 1) = T.cnt + m
  has : ∀ k v, U.has k v ↔ (∃ i, i < T.n ∧ (∀ j, j < r + 1 → i ≠ (a + j) % T.n) ∧ T.sl i = ⟨k, v, true⟩) ∨ ∃ j, j < m ∧ T.sl ((a + (j + 1)) % T.n) = ⟨k, v, true⟩
theorem RunAt.relay (h : RunAt T a r) (g : T.Ok) : ∀ m, m ≤ r → RelayUp T (T.relay a r m) a r m
  | 0 => fun _ => ⟨h.ok g, Tb.wipe_n a _, h.cnt (r + 1) (Nat.le_refl _), fun k v => by
    show (T.wipe a (r + 1)).has k v ↔ _
    rw [Tb.wiped_has]
    exact ⟨.inl, fun q => q.elim id (fun ⟨j, hj, _⟩ => by omega)⟩⟩
  | m + 1 => fun hm => by
    have ih := h.relay g m (by omega)
    have hr := h.short
    have hgh := g.hole
    have ep : a + 1 + m = a + (m + 1) := by omega
    have hf := h.full (m + 1) (by omega)
    have hlt : (a + (m + 1)) % T.n < T.n := Nat.mod_lt _ (by omega)
    unfold Tb.relay
    rw [ep]
    obtain ⟨i0, hi0⟩ : ∃ i0, (a + (m + 1)) % T.n = i0 := ⟨_, rfl⟩
    have hout : ∀ k v, (T.relay a r m).has k v → k ≠ (T.sl i0).key := by
      rintro k v hv rfl
      rcases (ih.has _ _).1 hv with ⟨i, hi, hn, e⟩ | ⟨j, hj, e⟩
      · have := g.one i i0 hi (by omega) (by rw [e]) (by rw [← hi0]; exact hf) (by rw [e])
        exact hn (m + 1) (by omega) (this.trans hi0.symm)
      · have := g.one _ i0 (Nat.mod_lt (a + (j + 1)) (by omega)) (by omega) (by rw [e]) (by rw [← hi0]; exact hf) (by rw [e])
        exact h.ne (i := j + 1) (j := m + 1) (by omega) (by omega) (by omega) (this.trans hi0.symm)
    rw [hi0] at hf hlt ⊢
    have hab : ((T.relay a r m).sl ((T.relay a r m).look (T.sl i0).key)).full = false := by
      refine eq_false_of_ne_true (fun q => ?_)
      obtain ⟨v, hv⟩ := ((T.relay a r m).there_has ih.ok (T.sl i0).key).1 q
      exact hout _ _ hv rfl
    have hc := ih.ok.lay_cnt (T.sl i0) hf
    rw [hab] at hc
    simp only [Bool.false_eq_true, if_false] at hc
    have hcn := ih.cnt
    have hn := ih.n
    refine ⟨ih.ok.lay_ok _ hf (by omega), by rw [Tb.lay_n]; exact hn, by omega, fun k v => ?_⟩
    rw [ih.ok.lay_has _ hf]
    constructor
    · rintro (⟨rfl, rfl⟩ | ⟨_, hv⟩)
      · exact .inr ⟨m, by omega, by rw [hi0]; generalize T.sl i0 = s at hf; cases s; simp_all⟩
      · exact ((ih.has _ _).1 hv).imp id (fun ⟨j, hj, e⟩ => ⟨j, by omega, e⟩)
    · intro q
      have hv : (k = (T.sl i0).key ∧ v = (T.sl i0).n) ∨ (T.relay a r m).has k v := by
        rcases q with q | ⟨j, hj, e⟩
        · exact .inr ((ih.has _ _).2 (.inl q))
        · rcases Nat.eq_or_lt_of_le (Nat.le_of_lt_succ hj) with rfl | h2
          · rw [hi0] at e
            exact .inl (by rw [e]; exact ⟨rfl, rfl⟩)
          · exact .inr ((ih.has _ _).2 (.inr ⟨j, h2, e⟩))
      rcases hv with hv | hv
      · exact .inl hv
      · exact .inr ⟨hout _ _ hv, hv⟩
end
theorem Tb.Good.del_at (h : T.Good) {a r : Nat} (hr : RunAt T a r) : (T.relay a r r).Good ∧ (T.relay a r r).cnt + 1 = T.cnt ∧ (T.relay a r r).n = T.n ∧ ∀ k' v, (T.relay a r r).has k' v ↔ k' ≠ (T.sl a).key ∧ T.has k' v := by
  have g := hr.relay h.ok _ (Nat.le_refl _)
  have hl := hr.lo
  have hf : (T.sl ((a + 0) % T.n)).full = true := hr.full 0 (by omega)
  have e0 : (a + 0) % T.n = a := Nat.mod_eq_of_lt (by omega)
  rw [e0] at hf
  have hc := g.cnt
  have hn := g.n
  have hroom := h.room
  refine ⟨⟨g.ok, by have := h.n8; omega, by omega, by rw [hn]; exact h.pow⟩, by omega, hn, fun k' v => ?_⟩
  rw [g.has]
  constructor
  · rintro (⟨i, hi, hne, e⟩ | ⟨j, hj, e⟩)
    · refine ⟨fun ek => ?_, i, hi, e⟩
      have := h.ok.one i _ hi hl (by rw [e]) hf (by rw [e]; exact ek)
      exact hne 0 (by omega) (this.trans e0.symm)
    · refine ⟨fun ek => ?_, _, Nat.mod_lt _ (by omega), e⟩
      have := h.ok.one _ _ (Nat.mod_lt (a + (j + 1)) (by omega)) hl (by rw [e]) hf (by rw [e]; exact ek)
      have hrr := hr.short
      exact hr.ne (i := j + 1) (j := 0) (by omega) (by omega) (by omega) (this.trans e0.symm)
  · rintro ⟨hne, i, hi, e⟩
    by_cases q : ∃ j, j < r + 1 ∧ i = (a + j) % T.n
    · obtain ⟨j, hj, rfl⟩ := q
      rcases Nat.eq_zero_or_pos j with rfl | hj0
      · rw [e0] at e
        rw [e] at hne
        exact absurd rfl hne
      · exact .inr ⟨j - 1, by omega, by rw [show j - 1 + 1 = j by omega]; exact e⟩
    · exact .inl ⟨i, hi, fun j hj ej => q ⟨j, hj, ej⟩, e⟩
theorem Tb.Good.del_all (h : T.Good) (k : Nat) : (T.del k).Good ∧ (T.del k).cnt + (if T.there k then 1 else 0) = T.cnt ∧ (T.del k).n = T.n ∧ ∀ k' v, (T.del k).has k' v ↔ k' ≠ k ∧ T.has k' v := by
  unfold Tb.del
  by_cases hf : T.there k = true
  · rw [if_pos hf, if_pos hf]
    have hk : (T.sl (T.look k)).key = k := (h.ok.look_stops k).resolve_left (by unfold Tb.there at hf; rw [hf]; exact Bool.noConfusion)
    have g := h.del_at (h.ok.run_at (h.ok.look_lt k) hf)
    rw [hk] at g
    exact g
  · rw [if_neg hf, if_neg hf]
    refine ⟨h, Nat.add_zero _, rfl, fun k' v => ⟨fun q => ⟨?_, q⟩, fun q => q.2⟩⟩
    rintro rfl
    exact hf ((T.there_has h.ok k').2 ⟨v, q⟩)
end
end Go.Proofs.Ytkhikpnlpcankaa
namespace Go.Proofs.Ytkhikpnlpcankaa
open Go Go.RowKit Go.Deep
def SlAt (w : World) (g i : Nat) (s : Sl) : Prop := w.cell? ⟨g, i * 3, none⟩ = some (.int .u64 (s.key : Nat)) ∧ w.cell? ⟨g, i * 3 + 1, none⟩ = some (.int .i32 s.n) ∧ w.cell? ⟨g, i * 3 + 2, none⟩ = some (.bool s.full)
structure RefT (w : World) (T : Tb) (g : Nat) : Prop where
  lt : g < w.heap.size
  sl : ∀ i, i < T.n → SlAt w g i (T.sl i)
abbrev tabV (g n c : Nat) : Value := .agg #[.slice (some ⟨g, 0, none⟩) n c]
theorem RefT.below {w w' : World} {T : Tb} {g : Nat} (h : RefT w T g) (hb : Below w.heap.size w w') : RefT w' T g :=
  ⟨Nat.lt_of_lt_of_le h.lt hb.size, fun i hi => by
    obtain ⟨h1, h2, h3⟩ := h.sl i hi
    exact ⟨(hb.cell h.lt).trans h1, (hb.cell h.lt).trans h2, (hb.cell h.lt).trans h3⟩⟩
theorem hm_mixN (k n : Nat) : hm k n = mixN k % n := hm_eq k n
theorem go_succ (T : Tb) (k i : Nat) : (T.go k i + 1) % T.n = T.go k (i + 1) := by
  unfold Tb.go
  rw [Nat.mod_add_mod, Nat.add_assoc]
noncomputable def Tb.get (T : Tb) (k : Nat) : Int × Bool := ((T.sl (T.look k)).n, T.there k)
def slotW (s : Sl) (j : Nat) : Value := match j with
  | 0 => .int .u64 (s.key : Nat)
  | 1 => .int .i32 s.n
  | _ => .bool s.full
def slV (sl : Nat → Sl) (p : Nat) : Value := slotW (sl (p / 3)) (p % 3)
theorem slV_at (sl : Nat → Sl) (i j : Nat) (hj : j < 3) : slV sl (i * 3 + j) = slotW (sl i) j := by
  unfold slV
  rw [show (i * 3 + j) / 3 = i by omega, show (i * 3 + j) % 3 = j by omega]
theorem split3 (p i : Nat) : p / 3 ≠ i ∨ p = i * 3 ∨ p = i * 3 + 1 ∨ p = i * 3 + 2 := by omega
theorem RefT.cell {w : World} {T : Tb} {g : Nat} (h : RefT w T g) (p : Nat) (hp : p < T.n * 3) : w.cell? ⟨g, p, none⟩ = some (slV T.sl p) := by
  obtain ⟨h0, h1, h2⟩ := h.sl (p / 3) (by omega)
  have e : p = p / 3 * 3 + p % 3 := by omega
  have hm : p % 3 < 3 := Nat.mod_lt _ (by decide)
  unfold slV
  generalize p / 3 = i at e h0 h1 h2
  generalize p % 3 = j at e hm
  subst e
  match j, hm with
  | 0, _ => exact h0
  | 1, _ => exact h1
  | 2, _ => exact h2
theorem RefT.src {w : World} {T : Tb} {g c : Nat} (h : RefT w T g) :
    (some (⟨g, 0, none⟩ : Addr) = none ∧ T.n = 0 ∧ c = 0 ∧ (List.range (T.n * 3)).map (slV T.sl) = []) ∨ ∃ ad, some (⟨g, 0, none⟩ : Addr) = some ad ∧ ((List.range (T.n * 3)).map (slV T.sl)).length = T.n * 3 ∧ ∀ j u, ((List.range (T.n * 3)).map (slV T.sl))[j]? = some u → w.cell? (ad.add j) = some u := by
  refine .inr ⟨_, rfl, by simp, fun j u hu => ?_⟩
  rw [List.getElem?_map] at hu
  rcases Nat.lt_or_ge j (T.n * 3) with hj | hj
  · rw [List.getElem?_range hj] at hu
    simp only [Option.map_some, Option.some.injEq] at hu
    subst hu
    have := h.cell j hj
    simpa [Addr.add_lit] using this
  · rw [List.getElem?_eq_none (by simpa using hj)] at hu; cases hu
def TabPost (w : World) (T : Tb) (f : Value → Value) (e : Ending) (w' : World) : Prop := ∃ g c, e = .returned (f (tabV g T.n c)) ∧ Below w.heap.size w w' ∧ RefT w' T g ∧ w.heap.size ≤ g
end Go.Proofs.Ytkhikpnlpcankaa
namespace Go.Proofs.Ytkhikpnlpcankaa
def Tb.Keys (T : Tb) : Prop := ∀ i, i < T.n → (T.sl i).key < 18446744073709551616
section
variable {T : Tb}
theorem new_keys : Tb.new.Keys := fun _ _ => by show Sl.no.key < _; decide
theorem Tb.Keys.lay (h : T.Keys) (s : Sl) (hs : s.key < 18446744073709551616) : (T.lay s).Keys := fun i hi => by
  by_cases e : i = T.look s.key
  · rw [e, T.lay_at]; exact hs
  · rw [T.lay_other s e]; exact h i hi
theorem Tb.Keys.growUp (h : T.Keys) : ∀ m, m ≤ T.n → (T.growUp m).Keys
  | 0 => fun _ _ _ => by show Sl.no.key < _; decide
  | m + 1 => fun hm => by
    unfold Tb.growUp
    split
    · exact (h.growUp m (by omega)).lay _ (h m (by omega))
    · exact h.growUp m (by omega)
theorem Tb.Keys.put (h : T.Keys) (k : Nat) (v : Int) (hk : k < 18446744073709551616) : (T.put k v).Keys := by
  unfold Tb.put
  split
  · exact (h.growUp T.n (Nat.le_refl _)).lay _ hk
  · exact h.lay _ hk
theorem Tb.Keys.wipe (h : T.Keys) (a : Nat) : ∀ m, (T.wipe a m).Keys
  | 0 => h
  | m + 1 => fun i hi => by
    show (if i = (a + m) % T.n then Sl.no else (T.wipe a m).sl i).key < _
    split
    · decide
    · exact h.wipe a m i (by rw [Tb.wipe_n]; exact hi)
theorem Tb.Keys.relay (h : T.Keys) (hp : 0 < T.n) (a r : Nat) : ∀ m, (T.relay a r m).Keys
  | 0 => h.wipe a (r + 1)
  | m + 1 => (h.relay hp a r m).lay _ (h _ (Nat.mod_lt _ hp))
theorem Tb.Keys.del (h : T.Keys) (hp : 0 < T.n) (k : Nat) : (T.del k).Keys := by
  unfold Tb.del
  split
  · exact h.relay hp _ _ _
  · exact h
theorem Tb.Good.put_n (h : T.Good) (k : Nat) (v : Int) (most : Nat) (hn : T.n ≤ 3 * most + 8) : (T.put k v).n ≤ 3 * max most (T.put k v).cnt + 8 := by
  obtain ⟨_, hc, e, _⟩ := h.put_all k v
  rw [e]
  split
  · rename_i g
    rw [g.1] at hc
    simp only [Bool.false_eq_true, if_false] at hc
    omega
  · omega
end
end Go.Proofs.Ytkhikpnlpcankaa
namespace Go.Proofs.Ytkhikpnlpcankaa
def away (h x n : Nat) : Nat := (x + n - h) % n
theorem away_eq {h x n : Nat} (hh : h < n) (hx : x < n) : away h x n = if h ≤ x then x - h else x + n - h := by
  unfold away
  split
  · rw [show x + n - h = x - h + n by omega, Nat.add_mod_right, Nat.mod_eq_of_lt (by omega)]
  · exact Nat.mod_eq_of_lt (by omega)
theorem away_lt {h x n : Nat} (hh : h < n) (hx : x < n) : away h x n < n := by rw [away_eq hh hx]; split <;> omega
theorem away_go {h x n : Nat} (hh : h < n) (hx : x < n) : (h + away h x n) % n = x := by
  rw [away_eq hh hx, mod_go hh (by split <;> omega)]
  split <;> split <;> omega
theorem away_of {h x d n : Nat} (hh : h < n) (hd : d < n) (e : (h + d) % n = x) : away h x n = d := by
  have hx : x < n := e ▸ Nat.mod_lt _ (by omega)
  exact mod_go_inj hh (away_lt hh hx) hd ((away_go hh hx).trans e.symm)
theorem mod_back {h x a y n d : Nat} (hd : d ≤ n) (e : (h + (x + d)) % n = (a + (y + d)) % n) : (h + x) % n = (a + y) % n := by
  have := mod_shift e (n - d)
  rw [show h + (x + d + (n - d)) = h + x + n by omega, show a + (y + d + (n - d)) = a + y + n by omega, Nat.add_mod_right, Nat.add_mod_right] at this
  exact this
theorem firstIn_is (p : Nat → Bool) (m d : Nat) (hd : d < m) (hp : p d = true) (hn : ∀ i, i < d → p i = false) : firstIn p m 0 = d := by
  have h1 := firstIn_lt p m 0 d (by omega) hp
  rcases Nat.lt_or_ge (firstIn p m 0) d with h | h
  · have h2 := firstIn_yes p m 0 (by omega)
    rw [hn _ h] at h2
    exact absurd h2 (by decide)
  · omega
noncomputable def Tb.back (T : Tb) (a : Nat) : Nat → Nat × (Nat → Sl)
  | 0 => (a, T.sl)
  | m + 1 =>
    if away (T.back a m).1 ((a + (m + 1)) % T.n) T.n ≤ away (hm ((T.back a m).2 ((a + (m + 1)) % T.n)).key T.n) ((a + (m + 1)) % T.n) T.n then
      ((a + (m + 1)) % T.n, fun i => if i = (T.back a m).1 then (T.back a m).2 ((a + (m + 1)) % T.n) else (T.back a m).2 i)
    else T.back a m
structure BackAt (T : Tb) (a r m g x : Nat) (sl : Nat → Sl) : Prop where
  le : g ≤ m
  at_ : x = (a + g) % T.n
  out : ∀ i, (∀ j, j < r + 1 → i ≠ (a + j) % T.n) → sl i = T.sl i
  beh : ∀ j, g < j → j ≤ r → sl ((a + j) % T.n) = T.sl ((a + j) % T.n)
  pre : ∀ j, j < g → (sl ((a + j) % T.n)).full = true
  relG : (T.relay a r m).sl ((a + g) % T.n) = Sl.no
  relB : ∀ j, m < j → j ≤ r → (T.relay a r m).sl ((a + j) % T.n) = Sl.no
  relO : ∀ i, i ≠ (a + g) % T.n → (∀ j, m < j → j ≤ r → i ≠ (a + j) % T.n) → (T.relay a r m).sl i = sl i
section
variable {T : Tb} {a r : Nat}
theorem RunAt.relay_out (h : RunAt T a r) (g : T.Ok) {m : Nat} (hm : m + 1 ≤ r) {i : Nat} (hi : i < T.n) (hf : ((T.relay a r m).sl i).full = true) : ((T.relay a r m).sl i).key ≠ (T.sl ((a + (m + 1)) % T.n)).key := by
  have ih := h.relay g m (by omega)
  have hr := h.short
  have hfx := h.full (m + 1) (by omega)
  obtain ⟨i0, hi0⟩ : ∃ i0, (a + (m + 1)) % T.n = i0 := ⟨_, rfl⟩
  have hlt : i0 < T.n := hi0 ▸ Nat.mod_lt _ (by omega)
  rw [hi0] at hfx ⊢
  intro ek
  have hv : (T.relay a r m).has (T.sl i0).key ((T.relay a r m).sl i).n := ⟨i, by rw [ih.n]; exact hi, by rw [← ek]; generalize (T.relay a r m).sl i = s at hf; cases s; simp_all⟩
  rcases (ih.has _ _).1 hv with ⟨i, hi, hn, e⟩ | ⟨j, hj, e⟩
  · have := g.one i i0 hi hlt (by rw [e]) hfx (by rw [e])
    exact hn (m + 1) (by omega) (this.trans hi0.symm)
  · have := g.one _ i0 (Nat.mod_lt (a + (j + 1)) (by omega)) hlt (by rw [e]) hfx (by rw [e])
    exact h.ne (i := j + 1) (j := m + 1) (by omega) (by omega) (by omega) (this.trans hi0.symm)
theorem Tb.go_of_n {U : Tb} (hn : U.n = T.n) (k j : Nat) : U.go k j = T.go k j := by unfold Tb.go; rw [hn]
theorem RunAt.back_at (h : RunAt T a r) (g : T.Ok) : ∀ m, m ≤ r → ∃ gg, BackAt T a r m gg (T.back a m).1 (T.back a m).2
  | 0 => fun _ => ⟨0, ⟨Nat.le_refl _, (Nat.mod_eq_of_lt h.lo).symm, fun _ _ => rfl, fun _ _ _ => rfl, fun _ hj => by omega, Tb.wipe_in a (r + 1) (by omega), fun j _ hj => Tb.wipe_in a (r + 1) (by omega), fun i h1 h2 => Tb.wipe_out a (r + 1) (fun j hj => by
      rcases Nat.eq_zero_or_pos j with rfl | h0
      · exact h1
      · exact h2 j h0 (by omega))⟩⟩
  | m + 1 => fun hmr => by
    obtain ⟨gg, ih⟩ := h.back_at g m (by omega)
    have hr := h.short
    have hle := ih.le
    have hp : 0 < T.n := by omega
    have rl := h.relay g m (by omega)
    have hab := fun i hi hf => h.relay_out g hmr (i := i) hi hf
    obtain ⟨d, hd, ed, hpath⟩ := g.near ((a + (m + 1)) % T.n) (Nat.mod_lt _ hp) (h.full (m + 1) (by omega))
    have hsx := ih.beh (m + 1) (by omega) hmr
    have hfx := h.full (m + 1) (by omega)
    have hgA : away (T.back a m).1 ((a + (m + 1)) % T.n) T.n = m + 1 - gg := by
      rw [ih.at_]
      refine away_of (Nat.mod_lt _ hp) (by omega) ?_
      rw [Nat.mod_add_mod]
      congr 1
      omega
    have hdA : away (hm ((T.back a m).2 ((a + (m + 1)) % T.n)).key T.n) ((a + (m + 1)) % T.n) T.n = d := by
      rw [hsx]
      exact away_of (hm_lt _ hp) hd ed
    have hne := fun {i j : Nat} (hi : i ≤ r) (hj : j ≤ r) (e : i ≠ j) => h.ne (i := i) (j := j) (by omega) (by omega) e
    obtain ⟨k, hk⟩ : ∃ k, (T.sl ((a + (m + 1)) % T.n)).key = k := ⟨_, rfl⟩
    have eU : T.relay a r (m + 1) = (T.relay a r m).lay (T.sl ((a + (m + 1)) % T.n)) := by
      show (T.relay a r m).lay (T.sl ((a + 1 + m) % T.n)) = _
      rw [show a + 1 + m = a + (m + 1) by omega]
    rw [hk] at hab ed hpath
    -- where the walk to x comes upon the run
    have hL : ∀ y j, y < d → j ≤ r → T.go k y = (a + j) % T.n → j + (d - y) = m + 1 := by
      intro y j hy hj e
      have sh := fun e2 => mod_shift (h := hm k T.n) (x := y) e e2
      have hge : d ≤ y + (r + 1 - j) := by
        rcases Nat.lt_or_ge (y + (r + 1 - j)) d with q | q
        · have h1 := hpath _ q
          rw [show T.go k (y + (r + 1 - j)) = _ from sh (r + 1 - j), show j + (r + 1 - j) = r + 1 by omega, h.stop] at h1
          exact absurd h1 (by decide)
        · exact q
      have e2 := sh (d - y)
      rw [show y + (d - y) = d by omega] at e2
      exact mod_go_inj h.lo (by omega) (by omega) (e2.symm.trans ed)
    have hW : ∀ y, y < d → (∀ j, j ≤ r → T.go k y = (a + j) % T.n → j ≤ m ∧ j ≠ gg ∧ ((T.back a m).2 ((a + j) % T.n)).full = true) → ((T.relay a r m).sl (T.go k y)).full = true := by
      intro y hy hj
      by_cases q : ∃ j, j ≤ r ∧ T.go k y = (a + j) % T.n
      · obtain ⟨j, hjr, e⟩ := q
        obtain ⟨h1, h2, h3⟩ := hj j hjr e
        rw [e, ih.relO _ (hne hjr (by omega) h2) (fun i hi hir => hne hjr hir (by omega)), h3]
      · rw [ih.relO _ (fun e => q ⟨gg, by omega, e⟩) (fun i _ hir e => q ⟨i, hir, e⟩), ih.out _ (fun j hj e => q ⟨j, by omega, e⟩), hpath y hy]
    have hlook : ∀ y, y ≤ d → (∀ z, z < y → ((T.relay a r m).sl (T.go k z)).full = true) → ((T.relay a r m).sl (T.go k y)).full = false → (T.relay a r m).look k = T.go k y := by
      intro y hy hz hy2
      have : (T.relay a r m).steps k = y := by
        refine firstIn_is _ _ _ (by rw [rl.n]; omega) ((Tb.stops_iff k y).2 (.inl (by rw [Tb.go_of_n rl.n]; exact hy2))) (fun z hzy => ?_)
        refine eq_false_of_ne_true (fun q => ?_)
        rcases (Tb.stops_iff k z).1 q with q | q
        · rw [Tb.go_of_n rl.n, hz z hzy] at q
          exact absurd q (by decide)
        · rw [Tb.go_of_n rl.n] at q
          exact hab _ (T.go_lt hp k z) (hz z hzy) q
      unfold Tb.look
      rw [this, Tb.go_of_n rl.n]
    by_cases hc : m + 1 - gg ≤ d
    · have e0 : T.go k (d - (m + 1 - gg)) = (a + gg) % T.n := by
        refine mod_back (d := m + 1 - gg) (by omega) ?_
        rw [show d - (m + 1 - gg) + (m + 1 - gg) = d by omega, show gg + (m + 1 - gg) = m + 1 by omega]
        exact ed
      have hlk : (T.relay a r m).look k = (a + gg) % T.n := by
        rw [hlook (d - (m + 1 - gg)) (by omega) (fun z hz => hW z (by omega) (fun j hj e => ?_)) (by rw [e0, ih.relG]; rfl), e0]
        have := hL z j (by omega) hj e
        exact ⟨by omega, by omega, ih.pre j (by omega)⟩
      have hb : T.back a (m + 1) = ((a + (m + 1)) % T.n, fun i => if i = (T.back a m).1 then (T.back a m).2 ((a + (m + 1)) % T.n) else (T.back a m).2 i) := by
        rw [Tb.back, if_pos (by rw [hgA, hdA]; exact hc)]
      rw [hb]
      have hatg := (T.relay a r m).lay_at (T.sl ((a + (m + 1)) % T.n))
      have hoth := fun {i : Nat} (hi : i ≠ (a + gg) % T.n) => (T.relay a r m).lay_other (T.sl ((a + (m + 1)) % T.n)) (i := i) (by rw [hk, hlk]; exact hi)
      rw [hk, hlk] at hatg
      refine ⟨m + 1, ⟨Nat.le_refl _, rfl, fun i hi => ?_, fun j hj hjr => ?_, fun j hj => ?_, ?_, fun j hj hjr => ?_, fun i h1 h2 => ?_⟩⟩
      · show (if i = (T.back a m).1 then _ else _) = _
        rw [ih.at_, if_neg (hi gg (by omega)), ih.out i hi]
      · show (if _ = (T.back a m).1 then _ else _) = _
        rw [ih.at_, if_neg (hne hjr (by omega) (by omega)), ih.beh j (by omega) hjr]
      · show (if _ = (T.back a m).1 then _ else _ : Sl).full = true
        rw [ih.at_]
        split
        · rw [hsx, hfx]
        · rename_i q
          have hjg : j ≠ gg := fun e => q (by rw [e])
          rcases Nat.lt_or_ge j gg with h1 | h1
          · exact ih.pre j h1
          · rw [ih.beh j (by omega) (by omega), h.full j (by omega)]
      · rw [eU, hoth (hne (by omega) (by omega) (by omega)), ih.relB (m + 1) (by omega) hmr]
      · rw [eU, hoth (hne hjr (by omega) (by omega)), ih.relB j (by omega) hjr]
      · show _ = (if i = (T.back a m).1 then _ else _)
        rw [eU, ih.at_]
        split
        · rename_i q
          rw [q, hatg, hsx]
        · rename_i q
          rw [hoth q, ih.relO i q (fun j hj hjr => ?_)]
          rcases Nat.eq_or_lt_of_le hj with rfl | h3
          · exact h1
          · exact h2 j h3 hjr
    · have hlk : (T.relay a r m).look k = (a + (m + 1)) % T.n := by
        rw [hlook d (Nat.le_refl _) (fun z hz => hW z hz (fun j hj e => ?_)) (by rw [ed, ih.relB (m + 1) (by omega) hmr]; rfl), ed]
        have := hL z j hz hj e
        exact ⟨by omega, by omega, by rw [ih.beh j (by omega) hj, h.full j (by omega)]⟩
      have hb : T.back a (m + 1) = T.back a m := by
        rw [Tb.back, if_neg (by rw [hgA, hdA]; exact hc)]
      rw [hb]
      have hatg := (T.relay a r m).lay_at (T.sl ((a + (m + 1)) % T.n))
      have hoth := fun {i : Nat} (hi : i ≠ (a + (m + 1)) % T.n) => (T.relay a r m).lay_other (T.sl ((a + (m + 1)) % T.n)) (i := i) (by rw [hk, hlk]; exact hi)
      rw [hk, hlk] at hatg
      refine ⟨gg, ⟨by omega, ih.at_, ih.out, ih.beh, ih.pre, ?_, fun j hj hjr => ?_, fun i h1 h2 => ?_⟩⟩
      · rw [eU, hoth (hne (by omega) (by omega) (by omega)), ih.relG]
      · rw [eU, hoth (hne hjr (by omega) (by omega)), ih.relB j (by omega) hjr]
      · rw [eU]
        by_cases q : i = (a + (m + 1)) % T.n
        · rw [q, hatg, hsx]
        · rw [hoth q, ih.relO i h1 (fun j hj hjr => ?_)]
          rcases Nat.eq_or_lt_of_le hj with rfl | h3
          · exact q
          · exact h2 j h3 hjr
theorem RunAt.back_end (h : RunAt T a r) (g : T.Ok) : T.relay a r r = ⟨T.n, fun i => if i = (T.back a r).1 then Sl.no else (T.back a r).2 i⟩ ∧ (T.back a r).1 < T.n := by
  obtain ⟨gg, b⟩ := h.back_at g r (Nat.le_refl _)
  have hn := (h.relay g r (Nat.le_refl _)).n
  have hr := h.short
  refine ⟨?_, by rw [b.at_]; exact Nat.mod_lt _ (by omega)⟩
  have : (T.relay a r r).sl = fun i => if i = (T.back a r).1 then Sl.no else (T.back a r).2 i := by
    funext i
    rw [b.at_]
    split
    · rename_i q; rw [q, b.relG]
    · rename_i q; exact b.relO i q (fun j h1 h2 => by omega)
  rw [← this, ← hn]
theorem RunAt.back_next (h : RunAt T a r) (g : T.Ok) {m : Nat} (hm : m ≤ r) : ((T.back a m).2 ((a + (m + 1)) % T.n)).full = decide (m < r) := by
  obtain ⟨gg, b⟩ := h.back_at g m hm
  have hle := b.le
  have hr := h.short
  by_cases hc : m < r
  · rw [b.beh (m + 1) (by omega) (by omega), h.full (m + 1) (by omega), decide_eq_true hc]
  · obtain rfl : m = r := by omega
    rw [b.out _ (fun j hj => h.ne (by omega) (by omega) (by omega)), h.stop, decide_eq_false hc]
theorem RunAt.back_lt (h : RunAt T a r) (g : T.Ok) {m : Nat} (hm : m ≤ r) : (T.back a m).1 < T.n := by
  obtain ⟨gg, b⟩ := h.back_at g m hm
  have hr := h.short
  rw [b.at_]
  exact Nat.mod_lt _ (by omega)
end
end Go.Proofs.Ytkhikpnlpcankaa
