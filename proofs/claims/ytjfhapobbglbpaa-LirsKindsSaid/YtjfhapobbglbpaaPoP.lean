/- Where lists lie: in a given place, or in new memory. -/
import Derived.Test.YtjfhapobbglbpaaBox
namespace Go.Proofs.Ytjfhapobbglbpaa
open Go Go.RowKit Go.Deep

/- v, if it has elements, lies where u lies, or in a block from B on. -/
def Nw (B : Nat) (u v : Value) : Prop := ∀ n c ad, v = .slice (some ad) (n + 1) c → (∃ n' c', u = .slice (some ad) (n' + 1) c') ∨ B ≤ ad.block
theorem Nw.refl (B : Nat) (u : Value) : Nw B u u := fun n c _ h => .inl ⟨n, c, h⟩
theorem Nw.take (B : Nat) (F : Option Addr) {n k : Nat} (d : Nat) (hk : k ≤ n) : Nw B (.slice F n d) (.slice F k d) := fun m c ad h => by
  injection h with h1 h2 h3
  subst h1 h2 h3
  obtain ⟨j, rfl⟩ : ∃ j, n = j + 1 := ⟨n - 1, by omega⟩
  exact .inl ⟨j, _, rfl⟩
theorem Nw.trans {B B' : Nat} {u v x : Value} (h : Nw B u v) (h2 : Nw B' v x) (hB : B ≤ B') : Nw B u x := fun n c ad e => by
  rcases h2 n c ad e with ⟨n', c', e2⟩ | h3
  · exact h n' c' ad e2
  · exact .inr (Nat.le_trans hB h3)
theorem Nw.of_own {B B' : Nat} {w0 w : World} {v : Value} {ks : List Nat} (u : Value) (h : KO B' w0 w v ks) (hB : B ≤ B') : Nw B u v := fun n c ad e => by
  subst e
  have := (h.own.lt _ rfl).1
  exact .inr (by omega)
theorem Nw.off {B : Nat} {u v a : Value} (h : Nw B u v) (ho : Off u a) (ha : ∀ g, a.ownBlock = some g → g < B) : Off v a := fun n c ad e => by
  rcases h n c ad e with ⟨n', c', e2⟩ | h3
  · exact ho n' c' ad e2
  · intro e2
    have := ha _ e2
    omega
theorem KO.lt {B : Nat} {w0 w : World} {v : Value} {ks : List Nat} (h : KO B w0 w v ks) : ∀ g, v.ownBlock = some g → g < w.heap.size := fun _ hg => (h.own.lt _ hg).2
theorem KO.off_start {w : World} {u v : Value} {js ks : List Nat} {w1 : World} (hu : KV w u js) (h : KO w.heap.size w w1 v ks) : Off u v := Off.of_own hu h (Nat.le_refl _)
end Go.Proofs.Ytjfhapobbglbpaa
