/- Values that read as lists of keys, in a world that only grows; literals. -/
import Derived.Test.YtjfhapobbglbpaaSqG
namespace Go.Proofs.Ytjfhapobbglbpaa
open Go Go.RowKit Go.Deep

/- A new list of keys is told. -/
def RetK (w : World) (ks : List Nat) (e : Ending) (w' : World) : Prop := ∃ v, e = .returned v ∧ Below w.heap.size w w' ∧ KV w' v ks
def RetB (w : World) (b : Bool) (e : Ending) (w' : World) : Prop := e = .returned (.bool b) ∧ Below w.heap.size w w'
def RetTwo (w : World) (ks js : List Nat) (e : Ending) (w' : World) : Prop := ∃ v u, e = .returned (.tuple #[v, u]) ∧ Below w.heap.size w w' ∧ KV w' v ks ∧ KV w' u js
def RetBack (w : World) (ks : List Nat) (e : Ending) (w' : World) : Prop := ∃ v, e = .returned (.tuple #[.int .u64 ((ks.getLastD 0 : Nat) : Int), v, .bool (decide (0 < ks.length))]) ∧ Below w.heap.size w w' ∧ KV w' v ks.dropLast
theorem OwnK.ret {w w' : World} {ks : List Nat} {e : Ending} (h : OwnK w ks e w') : RetK w ks e w' := by
  obtain ⟨v, rfl, h⟩ := h
  exact ⟨v, rfl, h.low, h.kv⟩
/- Some values that read as lists of keys, in a world that has only grown. -/
structure Ks (w0 w : World) (l : List (Value × List Nat)) : Prop where
  low : Below w0.heap.size w0 w
  all : ∀ p ∈ l, KV w p.1 p.2
section
variable {w0 w w' : World} {l : List (Value × List Nat)} {v : Value} {ks : List Nat}
theorem Ks.kv (h : Ks w0 w l) (hm : (v, ks) ∈ l) : KV w v ks := h.all _ hm
theorem Ks.step (h : Ks w0 w l) (hb : Below w.heap.size w w') : Ks w0 w' l := ⟨h.low.trans (hb.mono h.low.size), fun p hp => (h.all p hp).below hb⟩
theorem Ks.add (h : Ks w0 w l) (hb : Below w.heap.size w w') (hk : KV w' v ks) : Ks w0 w' ((v, ks) :: l) := ⟨(h.step hb).low, fun p hp => by
  rcases List.mem_cons.1 hp with rfl | hp
  · exact hk
  · exact (h.step hb).all p hp⟩
theorem Ks.drewn (h : Ks w0 w l) (n : Nat) : Ks w0 (w.drewN n) l := ⟨below_drewn h.low n, fun p hp => (h.all p hp).drewn n⟩
theorem Ks.alloc (h : Ks w0 w l) (o : Obj) : Ks w0 (w.alloc o) l := h.step ((Below.refl _ _).alloc (Nat.le_refl _) o)
theorem Ks.start (h : KV w v ks) : Ks w w [(v, ks)] := ⟨Below.refl _ _, fun p hp => by
  rw [List.mem_singleton] at hp
  subst hp
  exact h⟩
theorem Ks.none (w : World) : Ks w w [] := ⟨Below.refl _ _, fun p hp => by cases hp⟩
end
/- Literals of lists. -/
theorem KVV.lit {w : World} (vs : List Value) (kss : List (List Nat)) (hl : vs.length = kss.length) (h : ∀ i (h1 : i < vs.length) (h2 : i < kss.length), KV w vs[i] kss[i]) (t : TypeId) :
    KVV (w.alloc (.cells vs.toArray t)) (.slice (some ⟨w.heap.size, 0, none⟩) kss.length kss.length) kss := by
  refine ⟨_, _, rfl, fun i hi => ⟨_, vs[i]'(by omega), rfl, by simp, ?_, (h i (by omega) hi).below ((Below.refl _ _).alloc (Nat.le_refl _) _)⟩⟩
  have := (head_row (heap_alloc_new w (.cells vs.toArray t))).cell (i := i) (by simp; omega)
  rw [Addr.add_lit, Nat.zero_add, this]
  simp [List.getElem?_eq_getElem (show i < vs.length by omega)]
theorem KVV.one {w : World} {v : Value} {ks : List Nat} (h : KV w v ks) (t : TypeId) : KVV (w.alloc (.cells #[v] t)) (.slice (some ⟨w.heap.size, 0, none⟩) 1 1) [ks] :=
  KVV.lit [v] [ks] rfl (fun i h1 h2 => by
    obtain rfl : i = 0 := by simp at h1; exact h1
    exact h) t
theorem KVV.two {w : World} {v u : Value} {ks js : List Nat} (h : KV w v ks) (h2 : KV w u js) (t : TypeId) : KVV (w.alloc (.cells #[v, u] t)) (.slice (some ⟨w.heap.size, 0, none⟩) 2 2) [ks, js] :=
  KVV.lit [v, u] [ks, js] rfl (fun i h3 h4 => by
    match i with
    | 0 => exact h
    | 1 => exact h2
    | i + 2 => exact absurd h3 (by simp)) t
theorem KV.lit {w : World} (ks : List Nat) (hl : ks.length ≤ 1000) : KV (w.alloc (.cells (u64L ks).toArray 35)) (.slice (some ⟨w.heap.size, 0, none⟩) ks.length ks.length) ks :=
  KV.of_own (World.ownsRow_lit (base := 0) w (u64L ks).toArray ks.length (Nat.zero_le _) (by unfold maxLen; omega) (by simp [u64L]))
theorem KVV.none (w : World) : KVV w (.slice none 0 0) [] := ⟨_, _, rfl, fun i hi => by simp at hi⟩
theorem wo_nodup {ks : List Nat} (h : ks.Nodup) (k : Nat) : (wo k ks).Nodup := List.Pairwise.filter _ h
theorem not_wo (ks : List Nat) (k : Nat) : k ∉ wo k ks := by simp [wo]
theorem fr_nodup {ks : List Nat} (h : ks.Nodup) (k : Nat) : (fr k ks).Nodup := List.nodup_cons.2 ⟨not_wo ks k, wo_nodup h k⟩
end Go.Proofs.Ytjfhapobbglbpaa
