/- The table: to shift back what lies behind a hole is to lay it anew: plain, no program. -/
import Derived.Test.YtdolljjfikfhpaaHxK
namespace Go.Proofs.Ytdolljjfikfhpaa

/- How far x is behind h, of n. -/
def away (h x n : Nat) : Nat := (x + n - h) % n
theorem away_eq {h x n : Nat} (hh : h < n) (hx : x < n) : away h x n = if h ≤ x then x - h else x + n - h := by
  unfold away
  split
  · rw [show x + n - h = x - h + n by omega, Nat.add_mod_right, Nat.mod_eq_of_lt (by omega)]
  · exact Nat.mod_eq_of_lt (by omega)
theorem away_lt {h x n : Nat} (hh : h < n) (hx : x < n) : away h x n < n := by rw [away_eq hh hx]; split <;> omega
theorem away_go {h x n : Nat} (hh : h < n) (hx : x < n) : (h + away h x n) % n = x := by
  rw [away_eq hh hx, mod_go hh (by split <;> omega)]
  split <;> split <;> omega
theorem away_of {h x d n : Nat} (hh : h < n) (hd : d < n) (e : (h + d) % n = x) : away h x n = d := by
  have hx : x < n := e ▸ Nat.mod_lt _ (by omega)
  exact mod_go_inj hh (away_lt hh hx) hd ((away_go hh hx).trans e.symm)
theorem mod_back {h x a y n d : Nat} (hd : d ≤ n) (e : (h + (x + d)) % n = (a + (y + d)) % n) : (h + x) % n = (a + y) % n := by
  have := mod_shift e (n - d)
  rw [show h + (x + d + (n - d)) = h + x + n by omega, show a + (y + d + (n - d)) = a + y + n by omega, Nat.add_mod_right, Nat.add_mod_right] at this
  exact this
theorem firstIn_is (p : Nat → Bool) (m d : Nat) (hd : d < m) (hp : p d = true) (hn : ∀ i, i < d → p i = false) : firstIn p m 0 = d := by
  have h1 := firstIn_lt p m 0 d (by omega) hp
  rcases Nat.lt_or_ge (firstIn p m 0) d with h | h
  · have h2 := firstIn_yes p m 0 (by omega)
    rw [hn _ h] at h2
    exact absurd h2 (by decide)
  · omega

/- m steps behind slot a: the gap, and all slots. -/
noncomputable def Tb.back (T : Tb) (a : Nat) : Nat → Nat × (Nat → Sl)
  | 0 => (a, T.sl)
  | m + 1 =>
    if away (T.back a m).1 ((a + (m + 1)) % T.n) T.n ≤ away (hm ((T.back a m).2 ((a + (m + 1)) % T.n)).key T.n) ((a + (m + 1)) % T.n) T.n then
      ((a + (m + 1)) % T.n, fun i => if i = (T.back a m).1 then (T.back a m).2 ((a + (m + 1)) % T.n) else (T.back a m).2 i)
    else T.back a m

structure BackAt (T : Tb) (a r m g x : Nat) (sl : Nat → Sl) : Prop where
  le : g ≤ m
  at_ : x = (a + g) % T.n
  out : ∀ i, (∀ j, j < r + 1 → i ≠ (a + j) % T.n) → sl i = T.sl i
  beh : ∀ j, g < j → j ≤ r → sl ((a + j) % T.n) = T.sl ((a + j) % T.n)
  pre : ∀ j, j < g → (sl ((a + j) % T.n)).full = true
  relG : (T.relay a r m).sl ((a + g) % T.n) = Sl.no
  relB : ∀ j, m < j → j ≤ r → (T.relay a r m).sl ((a + j) % T.n) = Sl.no
  relO : ∀ i, i ≠ (a + g) % T.n → (∀ j, m < j → j ≤ r → i ≠ (a + j) % T.n) → (T.relay a r m).sl i = sl i

section
variable {T : Tb} {a r : Nat}
theorem RunAt.relay_out (h : RunAt T a r) (g : T.Ok) {m : Nat} (hm : m + 1 ≤ r) {i : Nat} (hi : i < T.n) (hf : ((T.relay a r m).sl i).full = true) : ((T.relay a r m).sl i).key ≠ (T.sl ((a + (m + 1)) % T.n)).key := by
  have ih := h.relay g m (by omega)
  have hr := h.short
  have hfx := h.full (m + 1) (by omega)
  obtain ⟨i0, hi0⟩ : ∃ i0, (a + (m + 1)) % T.n = i0 := ⟨_, rfl⟩
  have hlt : i0 < T.n := hi0 ▸ Nat.mod_lt _ (by omega)
  rw [hi0] at hfx ⊢
  intro ek
  have hv : (T.relay a r m).has (T.sl i0).key ((T.relay a r m).sl i).n := ⟨i, by rw [ih.n]; exact hi, by rw [← ek]; generalize (T.relay a r m).sl i = s at hf; cases s; simp_all⟩
  rcases (ih.has _ _).1 hv with ⟨i, hi, hn, e⟩ | ⟨j, hj, e⟩
  · have := g.one i i0 hi hlt (by rw [e]) hfx (by rw [e])
    exact hn (m + 1) (by omega) (this.trans hi0.symm)
  · have := g.one _ i0 (Nat.mod_lt (a + (j + 1)) (by omega)) hlt (by rw [e]) hfx (by rw [e])
    exact h.ne (i := j + 1) (j := m + 1) (by omega) (by omega) (by omega) (this.trans hi0.symm)

theorem Tb.go_of_n {U : Tb} (hn : U.n = T.n) (k j : Nat) : U.go k j = T.go k j := by unfold Tb.go; rw [hn]

theorem RunAt.back_at (h : RunAt T a r) (g : T.Ok) : ∀ m, m ≤ r → ∃ gg, BackAt T a r m gg (T.back a m).1 (T.back a m).2
  | 0 => fun _ => ⟨0, ⟨Nat.le_refl _, (Nat.mod_eq_of_lt h.lo).symm, fun _ _ => rfl, fun _ _ _ => rfl, fun _ hj => by omega, Tb.wipe_in a (r + 1) (by omega), fun j _ hj => Tb.wipe_in a (r + 1) (by omega), fun i h1 h2 => Tb.wipe_out a (r + 1) (fun j hj => by
      rcases Nat.eq_zero_or_pos j with rfl | h0
      · exact h1
      · exact h2 j h0 (by omega))⟩⟩
  | m + 1 => fun hmr => by
    obtain ⟨gg, ih⟩ := h.back_at g m (by omega)
    have hr := h.short
    have hle := ih.le
    have hp : 0 < T.n := by omega
    have rl := h.relay g m (by omega)
    have hab := fun i hi hf => h.relay_out g hmr (i := i) hi hf
    obtain ⟨d, hd, ed, hpath⟩ := g.near ((a + (m + 1)) % T.n) (Nat.mod_lt _ hp) (h.full (m + 1) (by omega))
    have hsx := ih.beh (m + 1) (by omega) hmr
    have hfx := h.full (m + 1) (by omega)
    have hgA : away (T.back a m).1 ((a + (m + 1)) % T.n) T.n = m + 1 - gg := by
      rw [ih.at_]
      refine away_of (Nat.mod_lt _ hp) (by omega) ?_
      rw [Nat.mod_add_mod]
      congr 1
      omega
    have hdA : away (hm ((T.back a m).2 ((a + (m + 1)) % T.n)).key T.n) ((a + (m + 1)) % T.n) T.n = d := by
      rw [hsx]
      exact away_of (hm_lt _ hp) hd ed
    have hne := fun {i j : Nat} (hi : i ≤ r) (hj : j ≤ r) (e : i ≠ j) => h.ne (i := i) (j := j) (by omega) (by omega) e
    obtain ⟨k, hk⟩ : ∃ k, (T.sl ((a + (m + 1)) % T.n)).key = k := ⟨_, rfl⟩
    have eU : T.relay a r (m + 1) = (T.relay a r m).lay (T.sl ((a + (m + 1)) % T.n)) := by
      show (T.relay a r m).lay (T.sl ((a + 1 + m) % T.n)) = _
      rw [show a + 1 + m = a + (m + 1) by omega]
    rw [hk] at hab ed hpath
    -- where the walk to x comes upon the run
    have hL : ∀ y j, y < d → j ≤ r → T.go k y = (a + j) % T.n → j + (d - y) = m + 1 := by
      intro y j hy hj e
      have sh := fun e2 => mod_shift (h := hm k T.n) (x := y) e e2
      have hge : d ≤ y + (r + 1 - j) := by
        rcases Nat.lt_or_ge (y + (r + 1 - j)) d with q | q
        · have h1 := hpath _ q
          rw [show T.go k (y + (r + 1 - j)) = _ from sh (r + 1 - j), show j + (r + 1 - j) = r + 1 by omega, h.stop] at h1
          exact absurd h1 (by decide)
        · exact q
      have e2 := sh (d - y)
      rw [show y + (d - y) = d by omega] at e2
      exact mod_go_inj h.lo (by omega) (by omega) (e2.symm.trans ed)
    have hW : ∀ y, y < d → (∀ j, j ≤ r → T.go k y = (a + j) % T.n → j ≤ m ∧ j ≠ gg ∧ ((T.back a m).2 ((a + j) % T.n)).full = true) → ((T.relay a r m).sl (T.go k y)).full = true := by
      intro y hy hj
      by_cases q : ∃ j, j ≤ r ∧ T.go k y = (a + j) % T.n
      · obtain ⟨j, hjr, e⟩ := q
        obtain ⟨h1, h2, h3⟩ := hj j hjr e
        rw [e, ih.relO _ (hne hjr (by omega) h2) (fun i hi hir => hne hjr hir (by omega)), h3]
      · rw [ih.relO _ (fun e => q ⟨gg, by omega, e⟩) (fun i _ hir e => q ⟨i, hir, e⟩), ih.out _ (fun j hj e => q ⟨j, by omega, e⟩), hpath y hy]
    have hlook : ∀ y, y ≤ d → (∀ z, z < y → ((T.relay a r m).sl (T.go k z)).full = true) → ((T.relay a r m).sl (T.go k y)).full = false → (T.relay a r m).look k = T.go k y := by
      intro y hy hz hy2
      have : (T.relay a r m).steps k = y := by
        refine firstIn_is _ _ _ (by rw [rl.n]; omega) ((Tb.stops_iff k y).2 (.inl (by rw [Tb.go_of_n rl.n]; exact hy2))) (fun z hzy => ?_)
        refine eq_false_of_ne_true (fun q => ?_)
        rcases (Tb.stops_iff k z).1 q with q | q
        · rw [Tb.go_of_n rl.n, hz z hzy] at q
          exact absurd q (by decide)
        · rw [Tb.go_of_n rl.n] at q
          exact hab _ (T.go_lt hp k z) (hz z hzy) q
      unfold Tb.look
      rw [this, Tb.go_of_n rl.n]
    by_cases hc : m + 1 - gg ≤ d
    · have e0 : T.go k (d - (m + 1 - gg)) = (a + gg) % T.n := by
        refine mod_back (d := m + 1 - gg) (by omega) ?_
        rw [show d - (m + 1 - gg) + (m + 1 - gg) = d by omega, show gg + (m + 1 - gg) = m + 1 by omega]
        exact ed
      have hlk : (T.relay a r m).look k = (a + gg) % T.n := by
        rw [hlook (d - (m + 1 - gg)) (by omega) (fun z hz => hW z (by omega) (fun j hj e => ?_)) (by rw [e0, ih.relG]; rfl), e0]
        have := hL z j (by omega) hj e
        exact ⟨by omega, by omega, ih.pre j (by omega)⟩
      have hb : T.back a (m + 1) = ((a + (m + 1)) % T.n, fun i => if i = (T.back a m).1 then (T.back a m).2 ((a + (m + 1)) % T.n) else (T.back a m).2 i) := by
        rw [Tb.back, if_pos (by rw [hgA, hdA]; exact hc)]
      rw [hb]
      have hatg := (T.relay a r m).lay_at (T.sl ((a + (m + 1)) % T.n))
      have hoth := fun {i : Nat} (hi : i ≠ (a + gg) % T.n) => (T.relay a r m).lay_other (T.sl ((a + (m + 1)) % T.n)) (i := i) (by rw [hk, hlk]; exact hi)
      rw [hk, hlk] at hatg
      refine ⟨m + 1, ⟨Nat.le_refl _, rfl, fun i hi => ?_, fun j hj hjr => ?_, fun j hj => ?_, ?_, fun j hj hjr => ?_, fun i h1 h2 => ?_⟩⟩
      · show (if i = (T.back a m).1 then _ else _) = _
        rw [ih.at_, if_neg (hi gg (by omega)), ih.out i hi]
      · show (if _ = (T.back a m).1 then _ else _) = _
        rw [ih.at_, if_neg (hne hjr (by omega) (by omega)), ih.beh j (by omega) hjr]
      · show (if _ = (T.back a m).1 then _ else _ : Sl).full = true
        rw [ih.at_]
        split
        · rw [hsx, hfx]
        · rename_i q
          have hjg : j ≠ gg := fun e => q (by rw [e])
          rcases Nat.lt_or_ge j gg with h1 | h1
          · exact ih.pre j h1
          · rw [ih.beh j (by omega) (by omega), h.full j (by omega)]
      · rw [eU, hoth (hne (by omega) (by omega) (by omega)), ih.relB (m + 1) (by omega) hmr]
      · rw [eU, hoth (hne hjr (by omega) (by omega)), ih.relB j (by omega) hjr]
      · show _ = (if i = (T.back a m).1 then _ else _)
        rw [eU, ih.at_]
        split
        · rename_i q
          rw [q, hatg, hsx]
        · rename_i q
          rw [hoth q, ih.relO i q (fun j hj hjr => ?_)]
          rcases Nat.eq_or_lt_of_le hj with rfl | h3
          · exact h1
          · exact h2 j h3 hjr
    · have hlk : (T.relay a r m).look k = (a + (m + 1)) % T.n := by
        rw [hlook d (Nat.le_refl _) (fun z hz => hW z hz (fun j hj e => ?_)) (by rw [ed, ih.relB (m + 1) (by omega) hmr]; rfl), ed]
        have := hL z j hz hj e
        exact ⟨by omega, by omega, by rw [ih.beh j (by omega) hj, h.full j (by omega)]⟩
      have hb : T.back a (m + 1) = T.back a m := by
        rw [Tb.back, if_neg (by rw [hgA, hdA]; exact hc)]
      rw [hb]
      have hatg := (T.relay a r m).lay_at (T.sl ((a + (m + 1)) % T.n))
      have hoth := fun {i : Nat} (hi : i ≠ (a + (m + 1)) % T.n) => (T.relay a r m).lay_other (T.sl ((a + (m + 1)) % T.n)) (i := i) (by rw [hk, hlk]; exact hi)
      rw [hk, hlk] at hatg
      refine ⟨gg, ⟨by omega, ih.at_, ih.out, ih.beh, ih.pre, ?_, fun j hj hjr => ?_, fun i h1 h2 => ?_⟩⟩
      · rw [eU, hoth (hne (by omega) (by omega) (by omega)), ih.relG]
      · rw [eU, hoth (hne hjr (by omega) (by omega)), ih.relB j (by omega) hjr]
      · rw [eU]
        by_cases q : i = (a + (m + 1)) % T.n
        · rw [q, hatg, hsx]
        · rw [hoth q, ih.relO i h1 (fun j hj hjr => ?_)]
          rcases Nat.eq_or_lt_of_le hj with rfl | h3
          · exact q
          · exact h2 j h3 hjr
/- What is left at the end is what is left where all behind is laid anew. -/
theorem RunAt.back_end (h : RunAt T a r) (g : T.Ok) : T.relay a r r = ⟨T.n, fun i => if i = (T.back a r).1 then Sl.no else (T.back a r).2 i⟩ ∧ (T.back a r).1 < T.n := by
  obtain ⟨gg, b⟩ := h.back_at g r (Nat.le_refl _)
  have hn := (h.relay g r (Nat.le_refl _)).n
  have hr := h.short
  refine ⟨?_, by rw [b.at_]; exact Nat.mod_lt _ (by omega)⟩
  have : (T.relay a r r).sl = fun i => if i = (T.back a r).1 then Sl.no else (T.back a r).2 i := by
    funext i
    rw [b.at_]
    split
    · rename_i q; rw [q, b.relG]
    · rename_i q; exact b.relO i q (fun j h1 h2 => by omega)
  rw [← this, ← hn]
/- What comes behind the mth step: something, up to the end of the run. -/
theorem RunAt.back_next (h : RunAt T a r) (g : T.Ok) {m : Nat} (hm : m ≤ r) : ((T.back a m).2 ((a + (m + 1)) % T.n)).full = decide (m < r) := by
  obtain ⟨gg, b⟩ := h.back_at g m hm
  have hle := b.le
  have hr := h.short
  by_cases hc : m < r
  · rw [b.beh (m + 1) (by omega) (by omega), h.full (m + 1) (by omega), decide_eq_true hc]
  · obtain rfl : m = r := by omega
    rw [b.out _ (fun j hj => h.ne (by omega) (by omega) (by omega)), h.stop, decide_eq_false hc]
theorem RunAt.back_lt (h : RunAt T a r) (g : T.Ok) {m : Nat} (hm : m ≤ r) : (T.back a m).1 < T.n := by
  obtain ⟨gg, b⟩ := h.back_at g m hm
  have hr := h.short
  rw [b.at_]
  exact Nat.mod_lt _ (by omega)
theorem Tb.back_keys (hk : T.Keys) (hp : 0 < T.n) (a : Nat) : ∀ m i, i < T.n → ((T.back a m).2 i).key < 18446744073709551616
  | 0 => hk
  | m + 1 => fun i hi => by
    have ih := Tb.back_keys hk hp a m
    unfold Tb.back
    split
    · show (if i = _ then _ else _ : Sl).key < _
      split
      · exact ih _ (Nat.mod_lt _ hp)
      · exact ih i hi
    · exact ih i hi
end
end Go.Proofs.Ytdolljjfikfhpaa
