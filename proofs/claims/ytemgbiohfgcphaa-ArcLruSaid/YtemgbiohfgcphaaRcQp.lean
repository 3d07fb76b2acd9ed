/- Adaptive replacement where no key comes again, plain: it is least recently used. -/
import Derived.Test.YtemgbiohfgcphaaRcP
namespace Go.Proofs.Ytemgbiohfgcphaa
open Go Go.RowKit Go.Deep

def L8.arc (s : L8) : L11 := ⟨s.c, 0, s.l, [], [], []⟩
def L8.comes (s : L8) (ks : List Nat) : L8 := ks.foldl L8.adm s
theorem L8.comes_next (s : L8) {ks : List Nat} {i : Nat} (hi : i < ks.length) : s.comes (ks.take (i + 1)) = (s.comes (ks.take i)).adm ks[i] := by
  unfold L8.comes
  rw [List.take_succ_eq_append_getElem hi, List.foldl_append]
  rfl
theorem L8.Ok.comes {s : L8} (h : s.Ok) : ∀ (ks : List Nat), (∀ x ∈ ks, x < 18446744073709551616) → (s.comes ks).Ok
  | [], _ => h
  | x :: ks, hx => L8.Ok.comes (h.adm x (hx x (by simp))) ks (fun y hy => hx y (by simp [hy]))
theorem L8.adm_sub (s : L8) (k : Nat) : ∀ x ∈ (s.adm k).l, x ∈ s.l ∨ x = k := by
  intro x hx
  unfold L8.adm at hx
  split at hx
  · exact .inl hx
  · rcases fr_mem.1 hx with h | ⟨h, _⟩
    · exact .inr h
    · exact .inl (List.mem_of_mem_take h)
theorem L8.comes_sub : ∀ (ks : List Nat) (s : L8), ∀ x ∈ (s.comes ks).l, x ∈ s.l ∨ x ∈ ks
  | [], _, _, hx => .inl hx
  | k :: ks, s, x, hx => by
    rcases L8.comes_sub ks (s.adm k) x hx with h | h
    · rcases s.adm_sub k x h with h | h
      · exact .inl h
      · exact .inr (by simp [h])
    · exact .inr (by simp [h])
/- Of keys that are apart the next one is none of those that are there. -/
theorem L8.comes_new {s : L8} (hs : s.l = []) {ks : List Nat} (hn : ks.Nodup) {i : Nat} (hi : i < ks.length) : ks[i] ∉ (s.comes (ks.take i)).l := by
  intro hm
  rcases L8.comes_sub _ _ _ hm with h | h
  · rw [hs] at h
    cases h
  · obtain ⟨j, hj, e⟩ := List.getElem_of_mem h
    rw [List.length_take] at hj
    rw [List.getElem_take] at e
    have := (List.getElem_inj hn).1 e
    omega
theorem L8.Ok.arc {s : L8} (h : s.Ok) : s.arc.Ok := by
  have hl := h.len
  refine ⟨h.pos, h.cap, ⟨fun a => ?_, fun a ha => h.key a ?_⟩, Nat.zero_le _, ?_, ?_, Nat.zero_le _⟩
  · have := List.nodup_iff_count.1 h.nd a
    simpa [L11.cnt, L8.arc] using this
  · rw [← List.count_pos_iff]
    simpa [L11.cnt, L8.arc] using ha
  · simpa [L8.arc] using hl
  · simpa [L8.arc] using hl
theorem L8.arc_cut {c : Nat} {l : List Nat} {n : Nat} (h : l.length ≤ n) (g : Bool) : (⟨c, 0, l, [], [], []⟩ : L11).cut n g = ⟨c, 0, l, [], [], []⟩ ∧ (⟨c, 0, l, [], [], []⟩ : L11).cutOut n g = [] := by
  have hm : (⟨c, 0, l, [], [], []⟩ : L11).many n = 0 := by
    show l.length + 0 - n = 0
    omega
  unfold L11.cut L11.cutOut L11.li L11.lm
  rw [hm]
  simp [cuI, cuM, cuO]
/- What a key that is nowhere does: the same in both. -/
theorem L8.Ok.arc_adm {s : L8} (h : s.Ok) {k : Nat} (hk : k ∉ s.l) : s.arc.adm k = (s.adm k).arc ∧ s.arc.admitOut k = s.admitOut k := by
  have hp := h.pos
  have hl := h.len
  obtain ⟨c, l⟩ := s
  simp only at hk hp hl
  have k1 : k ∉ (⟨c, 0, l, [], [], []⟩ : L11).keys := by simpa [L11.keys] using hk
  unfold L8.arc L11.adm L11.admitOut L8.adm L8.admitOut
  simp only [if_neg hk, if_neg k1]
  rw [if_neg (by simp), if_neg (by simp), if_neg (by simp), if_neg (by simp)]
  unfold L11.room L11.roomOut L11.all
  simp only [List.length_nil, Nat.add_zero]
  by_cases h1 : l.length < c
  · rw [if_pos h1, if_pos h1, if_neg (show ¬ 2 * c ≤ l.length by omega)]
    obtain ⟨e1, e2⟩ := L8.arc_cut (c := c) (l := l) (n := c - 1) (by omega) false
    rw [e1, e2, List.take_of_length_le (by omega), List.drop_of_length_le (by omega)]
    exact ⟨rfl, rfl⟩
  · rw [if_neg h1, if_neg h1, if_neg h1, if_neg h1]
    have hlc : l.length = c := by omega
    have e : l.drop (c - 1) = [l.getD (l.length - 1) 0] := by
      rw [List.drop_eq_getElem_cons (by omega), List.drop_of_length_le (by omega)]
      simp [List.getD_eq_getElem?_getD, hlc, List.getElem?_eq_getElem (show c - 1 < l.length by omega)]
    rw [e]
    unfold L11.lost L11.came
    simp [hlc]
end Go.Proofs.Ytemgbiohfgcphaa
