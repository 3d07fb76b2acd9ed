/- Lists that two functions link: what lies between two slots. -/
import Derived.Test.YtlmcodmglcmmoaaArB
namespace Go.Proofs.Ytlmcodmglcmmoaa
open Go Go.RowKit Go.Deep

def Seg (nx pv : Nat → Int) : Nat → List Nat → Nat → Prop
  | a, [], c => nx a = c ∧ pv c = a
  | a, i :: l, c => nx a = i ∧ pv i = a ∧ Seg nx pv i l c

section
variable {nx pv nx' pv' : Nat → Int} {c i p q : Nat} {l2 : List Nat}
theorem seg_append : ∀ (l1 : List Nat) (a : Nat), Seg nx pv a (l1 ++ i :: l2) c ↔ Seg nx pv a l1 i ∧ Seg nx pv i l2 c
  | [], a => by simp [Seg, and_assoc]
  | y :: r, a => by simp [Seg, seg_append r y, and_assoc]
theorem seg_split : ∀ (l1 : List Nat) (a : Nat), Seg nx pv a (l1 ++ l2) c ↔ Seg nx pv a l1 (l2.headD c) ∧ Seg nx pv (l1.getLastD a) l2 c
  | [], a => by
    cases l2 with
    | nil => simp [Seg]
    | cons y r => simp only [List.nil_append, List.getLastD_nil, List.headD_cons, Seg]; exact ⟨fun h => ⟨⟨h.1, h.2.1⟩, h⟩, fun h => h.2⟩
  | y :: r, a => by
    simp only [List.cons_append, Seg, seg_split r y, List.getLastD_cons, and_assoc]
theorem seg_congr : ∀ (l : List Nat) (a : Nat), (∀ j, j = a ∨ j ∈ l → nx' j = nx j) → (∀ j, j = c ∨ j ∈ l → pv' j = pv j) → Seg nx pv a l c → Seg nx' pv' a l c
  | [], a, h1, h2, h => ⟨(h1 a (.inl rfl)).trans h.1, (h2 c (.inl rfl)).trans h.2⟩
  | y :: r, a, h1, h2, h => ⟨(h1 a (.inl rfl)).trans h.1, (h2 y (.inr (by simp))).trans h.2.1, seg_congr r y (fun j hj => h1 j (.inr (by simpa using hj))) (fun j hj => h2 j (hj.imp id (fun g => by simp [g]))) h.2.2⟩
theorem getLastD_mem' : ∀ (l : List Nat) (a : Nat), l.getLastD a = a ∨ l.getLastD a ∈ l
  | [], a => .inl rfl
  | y :: r, a => .inr (by rw [List.getLastD_cons]; exact List.mem_cons.2 (getLastD_mem' r y))
theorem headD_mem' : ∀ (l : List Nat) (a : Nat), l.headD a = a ∨ l.headD a ∈ l
  | [], a => .inl rfl
  | y :: r, a => .inr (by simp)
theorem seg_last : ∀ (l : List Nat) (a : Nat), Seg nx pv a l c → pv c = (l.getLastD a : Nat)
  | [], _, h => h.2
  | y :: r, _, h => by rw [List.getLastD_cons]; exact seg_last r y h.2.2
theorem seg_head : ∀ (l : List Nat) (a : Nat), Seg nx pv a l c → nx a = (l.headD c : Nat)
  | [], _, h => h.1
  | _ :: _, _, h => h.1
theorem seg_left : ∀ (l : List Nat) (a : Nat), Seg nx pv a l i → (a :: l).Nodup → (∀ j, (j = a ∨ j ∈ l) → j ≠ l.getLastD a → nx' j = nx j) → nx' (l.getLastD a) = q → (∀ j ∈ l, pv' j = pv j) → pv' q = (l.getLastD a : Nat) → Seg nx' pv' a l q
  | [], a, _, _, _, h2, _, h4 => ⟨h2, h4⟩
  | y :: r, a, h, hn, h1, h2, h3, h4 => by
    rw [List.getLastD_cons] at h1 h2 h4
    have hn' := List.nodup_cons.1 hn
    have ha : a ≠ r.getLastD y := fun e => hn'.1 (by rw [e]; exact List.mem_cons.2 (getLastD_mem' r y))
    exact ⟨(h1 a (.inl rfl) ha).trans h.1, (h3 y (by simp)).trans h.2.1, seg_left r y h.2.2 hn'.2 (fun j hj => h1 j (.inr (by simpa using hj))) h2 (fun j hj => h3 j (by simp [hj])) h4⟩
theorem seg_right (l : List Nat) (h : Seg nx pv i l c) (hn : (c :: l).Nodup) (h1 : ∀ j ∈ l, nx' j = nx j) (h2 : nx' p = (l.headD c : Nat)) (h3 : pv' (l.headD c) = p) (h4 : ∀ j, (j = c ∨ j ∈ l) → j ≠ l.headD c → pv' j = pv j) : Seg nx' pv' p l c := by
  cases l with
  | nil => exact ⟨h2, h3⟩
  | cons y r =>
    simp only [List.headD_cons] at h2 h3 h4
    have hn1 := List.nodup_cons.1 hn
    have hn2 := List.nodup_cons.1 hn1.2
    refine ⟨h2, h3, seg_congr r y (fun j hj => h1 j (by simpa using hj)) (fun j hj => h4 j (hj.imp id (fun g => by simp [g])) ?_) h.2.2⟩
    rintro rfl
    rcases hj with rfl | hj
    · exact hn1.1 (by simp)
    · exact hn2.1 hj
end
end Go.Proofs.Ytlmcodmglcmmoaa
