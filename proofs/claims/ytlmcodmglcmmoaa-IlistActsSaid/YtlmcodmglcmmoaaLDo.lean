/- The laws' do: an act on the lists. -/
import Derived.Test.YtlmcodmglcmmoaaLsAwk
namespace Go.Proofs.Ytlmcodmglcmmoaa
open Go Go.RowKit Go.Deep

structure Actl where
  kind : Nat
  tag : Int
  i : Int
structure Actl.Wf (a : Actl) : Prop where
  k : a.kind < 256
  hi : a.i ≤ 2147483647
abbrev actlCells (a : Actl) : Array Value := #[.int .u8 a.kind, .int .i64 a.tag, .int .i32 a.i]
def doneL (n : Nat) (l : Nat → List Nat) (A : St) (a : Actl) : Bool :=
  if a.kind % 4 = 0 then pushOk n l A a.tag a.i else if a.kind % 4 = 1 then pushOk n l A a.tag a.i else if a.kind % 4 = 2 then decide (0 ≤ tagI n l a.i) else moveOk n l a.tag a.i
def actL (n : Nat) (l : Nat → List Nat) (A : St) (a : Actl) : Nat → List Nat :=
  if a.kind % 4 = 0 then pushL true n l A a.tag a.i else if a.kind % 4 = 1 then pushL false n l A a.tag a.i else if a.kind % 4 = 2 then remL n l a.i else moveL n l a.tag a.i

section
variable {w0 w : World} {p b n : Nat} {l : Nat → List Nat} {A : St} {K : List Nat}
theorem do_0 (h : HL w0 w p b n l A K) (a : Actl) (wf : a.Wf) (hk : a.kind % 4 = 0) :
    Calls Try.prog 10 #[.pointer (some ⟨p, 0, none⟩), .agg (actlCells a)] w fun e w' => e = .returned (.bool (pushOk n l A a.tag a.i)) ∧ HL w0 w' p b n (pushL true n l A a.tag a.i) A K ∧ Kept K w w' := by
  have hs := h.still ((Below.refl _ _).alloc (Nat.le_refl _) (.cells (actlCells a) 37))
  have HC := Lib.hid (hl_pushFront hs.1 a.tag a.i wf.hi)
  have HK := Lib.hid hs.2
  have k1 := wf.k
  have e1 : (a.kind : Int) % 4 = 0 := by omega
  have e2 : (a.kind : Int).tmod 4 = 0 := by rw [Int.tmod_eq_emod_of_nonneg (by omega)]; exact e1
  clear h hs wf
  go_enter Try.func10, Try.ntmps10
  go_wp2_with fail
  refine HC.out.mono ?_
  rintro e w1 ⟨rfl, h1, h2⟩
  have H1 := Lib.hid h1
  have HK1 : Hid (Kept K w w1) := Lib.hid (HK.out.trans h2)
  clear h1 h2
  go_wp2
  go_ret
  exact ⟨rfl, H1.out, HK1.out⟩
theorem do_1 (h : HL w0 w p b n l A K) (a : Actl) (wf : a.Wf) (hk : a.kind % 4 = 1) :
    Calls Try.prog 10 #[.pointer (some ⟨p, 0, none⟩), .agg (actlCells a)] w fun e w' => e = .returned (.bool (pushOk n l A a.tag a.i)) ∧ HL w0 w' p b n (pushL false n l A a.tag a.i) A K ∧ Kept K w w' := by
  have hs := h.still ((Below.refl _ _).alloc (Nat.le_refl _) (.cells (actlCells a) 37))
  have HC := Lib.hid (hl_pushBack hs.1 a.tag a.i wf.hi)
  have HK := Lib.hid hs.2
  have k1 := wf.k
  have e1 : (a.kind : Int) % 4 = 1 := by omega
  have e2 : (a.kind : Int).tmod 4 = 1 := by rw [Int.tmod_eq_emod_of_nonneg (by omega)]; exact e1
  clear h hs wf
  go_enter Try.func10, Try.ntmps10
  go_wp2_with fail
  refine HC.out.mono ?_
  rintro e w1 ⟨rfl, h1, h2⟩
  have H1 := Lib.hid h1
  have HK1 : Hid (Kept K w w1) := Lib.hid (HK.out.trans h2)
  clear h1 h2
  go_wp2
  go_ret
  exact ⟨rfl, H1.out, HK1.out⟩
theorem do_2 (h : HL w0 w p b n l A K) (a : Actl) (wf : a.Wf) (hk : a.kind % 4 = 2) :
    Calls Try.prog 10 #[.pointer (some ⟨p, 0, none⟩), .agg (actlCells a)] w fun e w' => e = .returned (.bool (decide (0 ≤ tagI n l a.i))) ∧ HL w0 w' p b n (remL n l a.i) A K ∧ Kept K w w' := by
  have hs := h.still ((Below.refl _ _).alloc (Nat.le_refl _) (.cells (actlCells a) 37))
  have HC := Lib.hid (hl_remove hs.1 a.i wf.hi)
  have HK := Lib.hid hs.2
  have k1 := wf.k
  have e1 : (a.kind : Int) % 4 = 2 := by omega
  have e2 : (a.kind : Int).tmod 4 = 2 := by rw [Int.tmod_eq_emod_of_nonneg (by omega)]; exact e1
  clear h hs wf
  go_enter Try.func10, Try.ntmps10
  go_wp2_with fail
  refine HC.out.mono ?_
  rintro e w1 ⟨rfl, h1, h2⟩
  have H1 := Lib.hid h1
  have HK1 : Hid (Kept K w w1) := Lib.hid (HK.out.trans h2)
  clear h1 h2
  go_wp2
  go_ret
  exact ⟨rfl, H1.out, HK1.out⟩
theorem do_3 (h : HL w0 w p b n l A K) (a : Actl) (wf : a.Wf) (hk : a.kind % 4 = 3) :
    Calls Try.prog 10 #[.pointer (some ⟨p, 0, none⟩), .agg (actlCells a)] w fun e w' => e = .returned (.bool (moveOk n l a.tag a.i)) ∧ HL w0 w' p b n (moveL n l a.tag a.i) A K ∧ Kept K w w' := by
  have hs := h.still ((Below.refl _ _).alloc (Nat.le_refl _) (.cells (actlCells a) 37))
  have HC := Lib.hid (hl_moveFront hs.1 a.tag a.i wf.hi)
  have HK := Lib.hid hs.2
  have k1 := wf.k
  have e1 : (a.kind : Int) % 4 = 3 := by omega
  have e2 : (a.kind : Int).tmod 4 = 3 := by rw [Int.tmod_eq_emod_of_nonneg (by omega)]; exact e1
  clear h hs wf
  go_enter Try.func10, Try.ntmps10
  go_wp2_with fail
  refine HC.out.mono ?_
  rintro e w1 ⟨rfl, h1, h2⟩
  have H1 := Lib.hid h1
  have HK1 : Hid (Kept K w w1) := Lib.hid (HK.out.trans h2)
  clear h1 h2
  go_wp2
  go_ret
  exact ⟨rfl, H1.out, HK1.out⟩
theorem do_walk (h : HL w0 w p b n l A K) (a : Actl) (wf : a.Wf) :
    Calls Try.prog 10 #[.pointer (some ⟨p, 0, none⟩), .agg (actlCells a)] w fun e w' => e = .returned (.bool (doneL n l A a)) ∧ HL w0 w' p b n (actL n l A a) A K ∧ Kept K w w' := by
  unfold doneL actL
  by_cases h0 : a.kind % 4 = 0
  · rw [if_pos h0, if_pos h0]; exact do_0 h a wf h0
  · rw [if_neg h0, if_neg h0]
    by_cases h1 : a.kind % 4 = 1
    · rw [if_pos h1, if_pos h1]; exact do_1 h a wf h1
    · rw [if_neg h1, if_neg h1]
      by_cases h2 : a.kind % 4 = 2
      · rw [if_pos h2, if_pos h2]; exact do_2 h a wf h2
      · rw [if_neg h2, if_neg h2]; exact do_3 h a wf (by omega)
end

/- Acts that came in: n of them, in one row. -/
def Actls (w : World) (A : Option Addr) (n : Nat) (l : Nat → Actl) : Prop := ∀ k, k < n → (l k).Wf ∧ ∃ g off, A = some ⟨g, off, none⟩ ∧ g < w.heap.size ∧
  w.cell? ⟨g, off + k * 3, none⟩ = some (.int .u8 (l k).kind) ∧ w.cell? ⟨g, off + k * 3 + 1, none⟩ = some (.int .i64 (l k).tag) ∧ w.cell? ⟨g, off + k * 3 + 2, none⟩ = some (.int .i32 (l k).i)
theorem Actls.below {w w' : World} {A : Option Addr} {n : Nat} {l : Nat → Actl} (h : Actls w A n l) (hb : Below w.heap.size w w') : Actls w' A n l := fun k hk => by
  obtain ⟨wf, g, off, hA, hg, c0, c1, c2⟩ := h k hk
  exact ⟨wf, g, off, hA, Nat.lt_of_lt_of_le hg hb.size, (hb.cell hg).trans c0, (hb.cell hg).trans c1, (hb.cell hg).trans c2⟩
end Go.Proofs.Ytlmcodmglcmmoaa
