/- slices.Concat of lists of keys; a list's end (l[i:]). -/
import Derived.Test.YtjfhapobbglbpaaSqP1
namespace Go.Proofs.Ytjfhapobbglbpaa
open Go Go.RowKit Go.Deep

theorem flat_take {kss : List (List Nat)} (i : Nat) : (kss.take i).flatten.length ≤ kss.flatten.length := by
  conv => rhs; rw [← List.take_append_drop i kss, List.flatten_append, List.length_append]
  omega
theorem flat_next {kss : List (List Nat)} {i : Nat} (hi : i < kss.length) : (kss.take (i + 1)).flatten = (kss.take i).flatten ++ kss[i] := by
  rw [List.take_succ_eq_append_getElem hi, List.flatten_append]
  simp
section
variable {w : World} {v : Value} {kss : List (List Nat)}
end
/- l[i:] . -/
def tailV (F : Option Addr) (n c i : Nat) : Value := .slice (if c = i then F else F.map (fun a => a.add i)) (n - i) (c - i)
theorem KV.tail {w : World} {F : Option Addr} {c : Nat} {ks : List Nat} (h : KV w (.slice F ks.length c) ks) {i : Nat} (hi : i ≤ ks.length) : KV w (tailV F ks.length c i) (ks.drop i) := by
  obtain ⟨hl, ⟨F', c', e, h1, h2, h3⟩⟩ := h
  injection e with e1 e2 e3
  subst e1 e3
  refine ⟨by simp [u64L], ⟨(if c = i then F else F.map (fun a => a.add i)), c - i, by simp [tailV], by simp; omega, fun hn => ?_, fun j u hj => ?_⟩⟩
  · split at hn
    · omega
    · cases F with
      | none => have := h2 rfl; omega
      | some a => cases hn
  · have hd : (u64L ks)[i + j]? = some u := by
      simp only [u64L, List.map_drop, List.getElem?_drop] at hj ⊢
      exact hj
    obtain ⟨ad, rfl, h4, h5⟩ := h3 _ _ hd
    have hlt : i + j < ks.length := by
      have := (List.getElem?_eq_some_iff.1 hd).1
      simpa [u64L] using this
    rw [if_neg (by omega)]
    refine ⟨ad.add i, rfl, by rw [ad_block]; exact h4, ?_⟩
    rw [← h5]
    rw [Addr.add_add]
end Go.Proofs.Ytjfhapobbglbpaa
