/- The table: keys stay in their bounds, and how many slots there come to be: plain, no program. -/
import Derived.Test.YtdolljjfikfhpaaHxD
namespace Go.Proofs.Ytdolljjfikfhpaa

def Tb.Keys (T : Tb) : Prop := ∀ i, i < T.n → (T.sl i).key < 18446744073709551616
section
variable {T : Tb}
theorem new_keys : Tb.new.Keys := fun _ _ => by show Sl.no.key < _; decide
theorem Tb.Keys.lay (h : T.Keys) (s : Sl) (hs : s.key < 18446744073709551616) : (T.lay s).Keys := fun i hi => by
  by_cases e : i = T.look s.key
  · rw [e, T.lay_at]; exact hs
  · rw [T.lay_other s e]; exact h i hi
theorem Tb.Keys.growUp (h : T.Keys) : ∀ m, m ≤ T.n → (T.growUp m).Keys
  | 0 => fun _ _ _ => by show Sl.no.key < _; decide
  | m + 1 => fun hm => by
    unfold Tb.growUp
    split
    · exact (h.growUp m (by omega)).lay _ (h m (by omega))
    · exact h.growUp m (by omega)
theorem Tb.Keys.put (h : T.Keys) (k : Nat) (v : Int) (hk : k < 18446744073709551616) : (T.put k v).Keys := by
  unfold Tb.put
  split
  · exact (h.growUp T.n (Nat.le_refl _)).lay _ hk
  · exact h.lay _ hk
theorem Tb.Keys.wipe (h : T.Keys) (a : Nat) : ∀ m, (T.wipe a m).Keys
  | 0 => h
  | m + 1 => fun i hi => by
    show (if i = (a + m) % T.n then Sl.no else (T.wipe a m).sl i).key < _
    split
    · decide
    · exact h.wipe a m i (by rw [Tb.wipe_n]; exact hi)
theorem Tb.Keys.relay (h : T.Keys) (hp : 0 < T.n) (a r : Nat) : ∀ m, (T.relay a r m).Keys
  | 0 => h.wipe a (r + 1)
  | m + 1 => (h.relay hp a r m).lay _ (h _ (Nat.mod_lt _ hp))
theorem Tb.Keys.del (h : T.Keys) (hp : 0 < T.n) (k : Nat) : (T.del k).Keys := by
  unfold Tb.del
  split
  · exact h.relay hp _ _ _
  · exact h

/- No more than three times as many slots as keys were there at once, and 8. -/
theorem Tb.Good.put_n (h : T.Good) (k : Nat) (v : Int) (most : Nat) (hn : T.n ≤ 3 * most + 8) : (T.put k v).n ≤ 3 * max most (T.put k v).cnt + 8 := by
  obtain ⟨_, hc, e, _⟩ := h.put_all k v
  rw [e]
  split
  · rename_i g
    rw [g.1] at hc
    simp only [Bool.false_eq_true, if_false] at hc
    omega
  · omega
theorem Tb.Good.del_n (h : T.Good) (k : Nat) (most : Nat) (hn : T.n ≤ 3 * most + 8) : (T.del k).n ≤ 3 * max most (T.del k).cnt + 8 := by
  obtain ⟨_, _, e, _⟩ := h.del_all k
  rw [e]
  omega
/- From a key's home on all slots ahead of the key's have something. -/
theorem Tb.Ok.ahead (h : T.Ok) {i : Nat} (hi : i < T.n) (hf : (T.sl i).full = true) : T.go (T.sl i).key (T.steps (T.sl i).key) = i ∧ ∀ x, x < T.steps (T.sl i).key → (T.sl (T.go (T.sl i).key x)).full = true :=
  ⟨h.look_has hi hf, fun _ hx => (T.path _ hx).1⟩
end
end Go.Proofs.Ytdolljjfikfhpaa
