/- The table: what is taken out, and what lay behind it laid anew: plain, no program. -/
import Derived.Test.YtdolljjfikfhpaaHxG
namespace Go.Proofs.Ytdolljjfikfhpaa

section
variable {T : Tb}
theorem Tb.wipe_n (a : Nat) : ∀ m, (T.wipe a m).n = T.n
  | 0 => rfl
  | _ + 1 => rfl
theorem Tb.wipe_out (a : Nat) {i : Nat} : ∀ m, (∀ j, j < m → i ≠ (a + j) % T.n) → (T.wipe a m).sl i = T.sl i
  | 0 => fun _ => rfl
  | m + 1 => fun h => by
    show (if i = (a + m) % T.n then Sl.no else (T.wipe a m).sl i) = _
    rw [if_neg (h m (by omega)), Tb.wipe_out a m (fun j hj => h j (by omega))]
theorem Tb.wipe_in (a : Nat) {j : Nat} : ∀ m, j < m → (T.wipe a m).sl ((a + j) % T.n) = Sl.no
  | 0 => fun h => by omega
  | m + 1 => fun h => by
    show (if (a + j) % T.n = (a + m) % T.n then Sl.no else (T.wipe a m).sl ((a + j) % T.n)) = _
    split
    · rfl
    · rename_i hne
      refine Tb.wipe_in a m ?_
      rcases Nat.eq_or_lt_of_le (Nat.le_of_lt_succ h) with rfl | h2
      · exact absurd rfl hne
      · exact h2
theorem mod_shift {h x a y n : Nat} (e : (h + x) % n = (a + y) % n) (d : Nat) : (h + (x + d)) % n = (a + (y + d)) % n := by
  rw [← Nat.add_assoc, ← Nat.add_assoc, Nat.add_mod, e, ← Nat.add_mod]

/- A run: slots a, and r behind it, have something, and the next one has not. -/
structure RunAt (T : Tb) (a r : Nat) : Prop where
  lo : a < T.n
  short : r + 1 < T.n
  full : ∀ j, j < r + 1 → (T.sl ((a + j) % T.n)).full = true
  stop : (T.sl ((a + (r + 1)) % T.n)).full = false
theorem Tb.Ok.run_at (h : T.Ok) {a : Nat} (ha : a < T.n) (hf : (T.sl a).full = true) : RunAt T a (T.run a) := by
  have hp := h.pos
  have e0 : (a + 0) % T.n = a := Nat.mod_eq_of_lt (by omega)
  have hne : ∀ j, j + 1 < T.n → (a + 1 + j) % T.n ≠ a := fun j hj e => by
    have := mod_go_inj (h := a) (i := 1 + j) (j := 0) ha (by omega) hp (by rw [e0, ← e]; congr 1; omega)
    omega
  have hw : ∀ j, j + 1 < T.n → (T.wipe a 1).sl ((a + 1 + j) % T.n) = T.sl ((a + 1 + j) % T.n) := fun j hj => Tb.wipe_out a 1 (fun j' hj' => by
    obtain rfl : j' = 0 := by omega
    rw [e0]
    exact hne j hj)
  obtain ⟨x, hx, ex⟩ := cntB_hole _ _ h.hole
  obtain ⟨d, hd, rfl⟩ := mod_go_onto ha hx
  have hd0 : d ≠ 0 := by
    rintro rfl
    rw [e0] at ex
    rw [hf] at ex
    exact absurd ex (by decide)
  have ed : a + 1 + (d - 1) = a + d := by omega
  have hr : T.run a ≤ d - 1 := firstIn_lt _ _ _ (d - 1) (by omega) (by
    show (!((T.wipe a 1).sl ((a + 1 + (d - 1)) % T.n)).full) = true
    rw [hw _ (by omega), ed, ex]
    rfl)
  refine ⟨ha, by omega, fun j hj => ?_, ?_⟩
  · rcases Nat.eq_zero_or_pos j with rfl | hj0
    · rw [e0, hf]
    · have := firstIn_no _ T.n 0 (j - 1) (by omega) (show j - 1 < T.run a by omega)
      rw [hw _ (by omega), show a + 1 + (j - 1) = a + j by omega] at this
      simpa using this
  · have := firstIn_yes _ T.n 0 (show T.run a < 0 + T.n by omega)
    have this : (!((T.wipe a 1).sl ((a + 1 + T.run a) % T.n)).full) = true := this
    rw [hw _ (by omega), show a + 1 + T.run a = a + (T.run a + 1) by omega] at this
    simpa using this

section
variable {a r : Nat}
theorem RunAt.ne (h : RunAt T a r) {i j : Nat} (hi : i < T.n) (hj : j < T.n) (hne : i ≠ j) : (a + i) % T.n ≠ (a + j) % T.n := fun e => hne (mod_go_inj h.lo hi hj e)
theorem RunAt.cnt (h : RunAt T a r) : ∀ m, m ≤ r + 1 → (T.wipe a m).cnt + m = T.cnt
  | 0 => fun _ => rfl
  | m + 1 => fun hm => by
    have ih := h.cnt m (by omega)
    have hr := h.short
    have := cntB_up (f := fun i => ((T.wipe a (m + 1)).sl i).full) (g := fun i => ((T.wipe a m).sl i).full) (i := (a + m) % T.n) (fun x hx => by
        show (if x = (a + m) % T.n then Sl.no else (T.wipe a m).sl x).full = _
        rw [if_neg hx]) (by show ((T.wipe a (m + 1)).sl _).full = _; rw [Tb.wipe_in a (m + 1) (by omega)]; rfl)
      (by
        show ((T.wipe a m).sl _).full = _
        rw [Tb.wipe_out a m (fun j hj => h.ne (by omega) (by omega) (by omega))]
        exact h.full m (by omega)) T.n (Nat.mod_lt _ (by omega))
    unfold Tb.cnt at ih ⊢
    rw [Tb.wipe_n] at ih ⊢
    omega
theorem Tb.wiped {i : Nat} (hf : ((T.wipe a (r + 1)).sl i).full = true) : (∀ j, j < r + 1 → i ≠ (a + j) % T.n) ∧ (T.wipe a (r + 1)).sl i = T.sl i := by
  have hn : ∀ j, j < r + 1 → i ≠ (a + j) % T.n := by
    rintro j hj rfl
    rw [Tb.wipe_in a (r + 1) hj] at hf
    exact absurd hf (by decide)
  exact ⟨hn, Tb.wipe_out a _ hn⟩
theorem RunAt.ok (h : RunAt T a r) (g : T.Ok) : (T.wipe a (r + 1)).Ok := by
  refine ⟨fun i hi hf => ?_, by have := h.cnt (r + 1) (Nat.le_refl _); have := g.hole; rw [Tb.wipe_n]; omega, fun i hi hf => ?_, fun i j hi hj hfi hfj e => ?_⟩
  · by_cases q : ∃ j, j < r + 1 ∧ i = (a + j) % T.n
    · obtain ⟨j, hj, rfl⟩ := q
      exact Tb.wipe_in a (r + 1) hj
    · have es := Tb.wipe_out a (r + 1) (fun j hj ej => q ⟨j, hj, ej⟩)
      rw [es] at hf ⊢
      rw [Tb.wipe_n] at hi
      exact g.clean i hi hf
  · obtain ⟨hn, es⟩ := Tb.wiped hf
    rw [Tb.wipe_n] at hi ⊢
    rw [es] at hf ⊢
    obtain ⟨j, hj, e, hp⟩ := g.near i hi hf
    refine ⟨j, hj, ?_, fun x hx => ?_⟩
    · show (hm _ (T.wipe a (r + 1)).n + j) % (T.wipe a (r + 1)).n = i
      rw [Tb.wipe_n]
      exact e
    · have eg : (T.wipe a (r + 1)).go (T.sl i).key x = T.go (T.sl i).key x := by
        show (hm _ (T.wipe a (r + 1)).n + x) % (T.wipe a (r + 1)).n = _
        rw [Tb.wipe_n]
        rfl
      rw [eg, Tb.wipe_out a (r + 1), hp x hx]
      intro y hy ey
      have sh := fun d => mod_shift (h := hm (T.sl i).key T.n) (x := x) ey d
      rcases Nat.lt_trichotomy (x + (r + 1 - y)) j with q | q | q
      · have := hp _ q
        rw [show T.go (T.sl i).key (x + (r + 1 - y)) = _ from sh (r + 1 - y), show y + (r + 1 - y) = r + 1 by omega, h.stop] at this
        exact absurd this (by decide)
      · have e2 := sh (r + 1 - y)
        rw [q, show y + (r + 1 - y) = r + 1 by omega] at e2
        have e3 : i = (a + (r + 1)) % T.n := e.symm.trans e2
        rw [e3, h.stop] at hf
        exact absurd hf (by decide)
      · have e2 := sh (j - x)
        rw [show x + (j - x) = j by omega] at e2
        exact hn (y + (j - x)) (by omega) (e.symm.trans e2)
  · rw [Tb.wipe_n] at hi hj
    have e1 := (Tb.wiped hfi).2
    have e2 := (Tb.wiped hfj).2
    rw [e1] at hfi e
    rw [e2] at hfj e
    exact g.one i j hi hj hfi hfj e
theorem Tb.wiped_has (a r k : Nat) (v : Int) : (T.wipe a (r + 1)).has k v ↔ ∃ i, i < T.n ∧ (∀ j, j < r + 1 → i ≠ (a + j) % T.n) ∧ T.sl i = ⟨k, v, true⟩ := by
  constructor
  · rintro ⟨i, hi, e⟩
    obtain ⟨hn, es⟩ := Tb.wiped (i := i) (by rw [e])
    exact ⟨i, by rw [Tb.wipe_n] at hi; exact hi, hn, by rw [← es, e]⟩
  · rintro ⟨i, hi, hn, e⟩
    exact ⟨i, by rw [Tb.wipe_n]; exact hi, by rw [Tb.wipe_out a _ hn, e]⟩

structure RelayUp (T U : Tb) (a r m : Nat) : Prop where
  ok : U.Ok
  n : U.n = T.n
  cnt : U.cnt + (r + 1) = T.cnt + m
  has : ∀ k v, U.has k v ↔ (∃ i, i < T.n ∧ (∀ j, j < r + 1 → i ≠ (a + j) % T.n) ∧ T.sl i = ⟨k, v, true⟩) ∨ ∃ j, j < m ∧ T.sl ((a + (j + 1)) % T.n) = ⟨k, v, true⟩
theorem RunAt.relay (h : RunAt T a r) (g : T.Ok) : ∀ m, m ≤ r → RelayUp T (T.relay a r m) a r m
  | 0 => fun _ => ⟨h.ok g, Tb.wipe_n a _, h.cnt (r + 1) (Nat.le_refl _), fun k v => by
    show (T.wipe a (r + 1)).has k v ↔ _
    rw [Tb.wiped_has]
    exact ⟨.inl, fun q => q.elim id (fun ⟨j, hj, _⟩ => by omega)⟩⟩
  | m + 1 => fun hm => by
    have ih := h.relay g m (by omega)
    have hr := h.short
    have hgh := g.hole
    have ep : a + 1 + m = a + (m + 1) := by omega
    have hf := h.full (m + 1) (by omega)
    have hlt : (a + (m + 1)) % T.n < T.n := Nat.mod_lt _ (by omega)
    unfold Tb.relay
    rw [ep]
    obtain ⟨i0, hi0⟩ : ∃ i0, (a + (m + 1)) % T.n = i0 := ⟨_, rfl⟩
    have hout : ∀ k v, (T.relay a r m).has k v → k ≠ (T.sl i0).key := by
      rintro k v hv rfl
      rcases (ih.has _ _).1 hv with ⟨i, hi, hn, e⟩ | ⟨j, hj, e⟩
      · have := g.one i i0 hi (by omega) (by rw [e]) (by rw [← hi0]; exact hf) (by rw [e])
        exact hn (m + 1) (by omega) (this.trans hi0.symm)
      · have := g.one _ i0 (Nat.mod_lt (a + (j + 1)) (by omega)) (by omega) (by rw [e]) (by rw [← hi0]; exact hf) (by rw [e])
        exact h.ne (i := j + 1) (j := m + 1) (by omega) (by omega) (by omega) (this.trans hi0.symm)
    rw [hi0] at hf hlt ⊢
    have hab : ((T.relay a r m).sl ((T.relay a r m).look (T.sl i0).key)).full = false := by
      refine eq_false_of_ne_true (fun q => ?_)
      obtain ⟨v, hv⟩ := ((T.relay a r m).there_has ih.ok (T.sl i0).key).1 q
      exact hout _ _ hv rfl
    have hc := ih.ok.lay_cnt (T.sl i0) hf
    rw [hab] at hc
    simp only [Bool.false_eq_true, if_false] at hc
    have hcn := ih.cnt
    have hn := ih.n
    refine ⟨ih.ok.lay_ok _ hf (by omega), by rw [Tb.lay_n]; exact hn, by omega, fun k v => ?_⟩
    rw [ih.ok.lay_has _ hf]
    constructor
    · rintro (⟨rfl, rfl⟩ | ⟨_, hv⟩)
      · exact .inr ⟨m, by omega, by rw [hi0]; generalize T.sl i0 = s at hf; cases s; simp_all⟩
      · exact ((ih.has _ _).1 hv).imp id (fun ⟨j, hj, e⟩ => ⟨j, by omega, e⟩)
    · intro q
      have hv : (k = (T.sl i0).key ∧ v = (T.sl i0).n) ∨ (T.relay a r m).has k v := by
        rcases q with q | ⟨j, hj, e⟩
        · exact .inr ((ih.has _ _).2 (.inl q))
        · rcases Nat.eq_or_lt_of_le (Nat.le_of_lt_succ hj) with rfl | h2
          · rw [hi0] at e
            exact .inl (by rw [e]; exact ⟨rfl, rfl⟩)
          · exact .inr ((ih.has _ _).2 (.inr ⟨j, h2, e⟩))
      rcases hv with hv | hv
      · exact .inl hv
      · exact .inr ⟨hout _ _ hv, hv⟩
end

theorem Tb.Good.del_at (h : T.Good) {a r : Nat} (hr : RunAt T a r) : (T.relay a r r).Good ∧ (T.relay a r r).cnt + 1 = T.cnt ∧ (T.relay a r r).n = T.n ∧ ∀ k' v, (T.relay a r r).has k' v ↔ k' ≠ (T.sl a).key ∧ T.has k' v := by
  have g := hr.relay h.ok _ (Nat.le_refl _)
  have hl := hr.lo
  have hf : (T.sl ((a + 0) % T.n)).full = true := hr.full 0 (by omega)
  have e0 : (a + 0) % T.n = a := Nat.mod_eq_of_lt (by omega)
  rw [e0] at hf
  have hc := g.cnt
  have hn := g.n
  have hroom := h.room
  refine ⟨⟨g.ok, by have := h.n8; omega, by omega, by rw [hn]; exact h.pow⟩, by omega, hn, fun k' v => ?_⟩
  rw [g.has]
  constructor
  · rintro (⟨i, hi, hne, e⟩ | ⟨j, hj, e⟩)
    · refine ⟨fun ek => ?_, i, hi, e⟩
      have := h.ok.one i _ hi hl (by rw [e]) hf (by rw [e]; exact ek)
      exact hne 0 (by omega) (this.trans e0.symm)
    · refine ⟨fun ek => ?_, _, Nat.mod_lt _ (by omega), e⟩
      have := h.ok.one _ _ (Nat.mod_lt (a + (j + 1)) (by omega)) hl (by rw [e]) hf (by rw [e]; exact ek)
      have hrr := hr.short
      exact hr.ne (i := j + 1) (j := 0) (by omega) (by omega) (by omega) (this.trans e0.symm)
  · rintro ⟨hne, i, hi, e⟩
    by_cases q : ∃ j, j < r + 1 ∧ i = (a + j) % T.n
    · obtain ⟨j, hj, rfl⟩ := q
      rcases Nat.eq_zero_or_pos j with rfl | hj0
      · rw [e0] at e
        rw [e] at hne
        exact absurd rfl hne
      · exact .inr ⟨j - 1, by omega, by rw [show j - 1 + 1 = j by omega]; exact e⟩
    · exact .inl ⟨i, hi, fun j hj ej => q ⟨j, hj, ej⟩, e⟩
theorem Tb.Good.del_all (h : T.Good) (k : Nat) : (T.del k).Good ∧ (T.del k).cnt + (if T.there k then 1 else 0) = T.cnt ∧ (T.del k).n = T.n ∧ ∀ k' v, (T.del k).has k' v ↔ k' ≠ k ∧ T.has k' v := by
  unfold Tb.del
  by_cases hf : T.there k = true
  · rw [if_pos hf, if_pos hf]
    have hk : (T.sl (T.look k)).key = k := (h.ok.look_stops k).resolve_left (by unfold Tb.there at hf; rw [hf]; exact Bool.noConfusion)
    have g := h.del_at (h.ok.run_at (h.ok.look_lt k) hf)
    rw [hk] at g
    exact g
  · rw [if_neg hf, if_neg hf]
    refine ⟨h, Nat.add_zero _, rfl, fun k' v => ⟨fun q => ⟨?_, q⟩, fun q => q.2⟩⟩
    rintro rfl
    exact hf ((T.there_has h.ok k').2 ⟨v, q⟩)
end
end Go.Proofs.Ytdolljjfikfhpaa
