/- The document's own lists of keys: Front. -/
import Derived.Test.YtemgbiohfgcphaaSqS
namespace Go.Proofs.Ytemgbiohfgcphaa
open Go Go.RowKit Go.Deep

section
variable {w : World} {v : Value} {ks : List Nat}
def fr (k : Nat) (ks : List Nat) : List Nat := k :: wo k ks
theorem fr_len (k : Nat) (ks : List Nat) : (fr k ks).length ≤ ks.length + 1 := by
  have := wo_len k ks
  simp [fr]
  omega
theorem rfront_walk (h : KV w v ks) (hl : ks.length ≤ 100000000) (k : Nat) :
    Calls Try.prog 47 #[v, .int .u64 (k : Nat)] w (OwnK w (fr k ks)) := by
  have hb0 : Below w.heap.size w (w.alloc (.cells #[.int .u64 (k : Nat)] 32)) := (Below.refl _ _).alloc (Nat.le_refl _) _
  have KK := rwithout_walk (h.below hb0) hl k
  have HO := Lib.hid (KO.one (Nat.le_refl _) (Below.refl w.heap.size w) k)
  have hwl := wo_len k ks
  obtain ⟨ys, hys⟩ : ∃ ys, wo k ks = ys := ⟨_, rfl⟩
  have HY := Lib.hid hys
  rw [hys] at KK hwl
  rw [show fr k ks = [k] ++ ys by rw [← hys]; rfl]
  clear h hb0 hys
  go_enter Try.func47, Try.ntmps47
  go_wp2_with fail
  refine KK.mono ?_
  rintro e w1 ⟨v1, rfl, h1⟩
  have hsz := h1.low.size
  have HO1 := Lib.hid (HO.out.below (by simp) (h1.low.mono (by simp)))
  have HSRC := Lib.hid h1.kv
  simp at hsz
  have hszA : w.heap.size ≤ w1.heap.size := by omega
  clear h1 HO
  go_wp2_with (at_builtin; refine wpList_append_kv rfl (.tmp 6) (.tmp 9) rfl w.heap.size (by kernel_rfl) (by kernel_rfl) _ [k] rfl HO1.out _ ys rfl HSRC.out (by simp; omega) hszA ?_)
  intro v6 w6 hown6 _ _
  have HN := Lib.hid hown6
  clear hown6
  go_wp2
  go_ret
  exact ⟨_, rfl, HN.out⟩
theorem drop_rev {m : Nat} (hm : m < ks.length) : (ks.drop m).reverse = (ks.drop (m + 1)).reverse ++ [ks[m]] := by
  rw [List.drop_eq_getElem_cons hm, List.reverse_cons]
end
end Go.Proofs.Ytemgbiohfgcphaa
