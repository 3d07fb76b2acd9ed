/- Package ilist: After, Before, Tag; what is written of the ends, and of a node. -/
import Derived.Test.YtlmcodmglcmmoaaLsB
namespace Go.Proofs.Ytlmcodmglcmmoaa
open Go Go.RowKit Go.Deep

section
variable {w0 w w' : World} {p b e : Nat} {x : LSt} {K : List Nat}
theorem heldl_at (h : HeldL w0 w p b x K) (i : Int) (h32 : i ≤ 2147483647) :
    Calls Try.prog 25 #[.pointer (some ⟨b, 0, none⟩), .int .i32 i] w fun e w' => e = .returned (x.st.at_ i).v ∧ Below w.heap.size w w' := by
  obtain ⟨e, h1, _⟩ := h.mem
  exact held_at h1 h.small i h32
theorem heldl_is (h : HeldL w0 w p b x K) (i : Int) (h32 : i ≤ 2147483647) :
    Calls Try.prog 49 #[.pointer (some ⟨b, 0, none⟩), .int .i32 i] w fun e w' => e = .returned (.bool (x.st.is i)) ∧ w = w' := by
  obtain ⟨e, h1, _⟩ := h.mem
  exact held_is h1 h.small i h32
theorem after_walk (h : HeldL w0 w p b x K) (i : Int) (h32 : i ≤ 2147483647) :
    Calls Try.prog 29 #[.pointer (some ⟨p, 0, none⟩), .int .i32 i] w fun e w' => e = .returned (.int .i32 (x.st.at_ i).next) ∧ Below w.heap.size w w' := by
  obtain ⟨e, hs⟩ := h.seen
  have c0 := hs.c0
  have HA := Lib.hid (heldl_at h i h32)
  clear h hs
  obtain ⟨y, hy⟩ : ∃ y, x.st.at_ i = y := ⟨_, rfl⟩
  rw [hy] at HA ⊢
  clear hy
  have hfld : ∀ w : World, (Instr.field 56 y.v 5).run Try.prog w = .ok (.int .i32 y.next) w := fun _ => by kernel_rfl
  go_enter Try.func29, Try.ntmps29
  go_wp2_with fail
  refine HA.out.mono ?_
  rintro e w' ⟨rfl, hb⟩
  go_wp2
  go_ret
  exact ⟨rfl, hb⟩

theorem before_walk (h : HeldL w0 w p b x K) (i : Int) (h32 : i ≤ 2147483647) :
    Calls Try.prog 24 #[.pointer (some ⟨p, 0, none⟩), .int .i32 i] w fun e w' => e = .returned (.int .i32 (x.st.at_ i).prev) ∧ Below w.heap.size w w' := by
  obtain ⟨e, hs⟩ := h.seen
  have c0 := hs.c0
  have HA := Lib.hid (heldl_at h i h32)
  clear h hs
  obtain ⟨y, hy⟩ : ∃ y, x.st.at_ i = y := ⟨_, rfl⟩
  rw [hy] at HA ⊢
  clear hy
  have hfld : ∀ w : World, (Instr.field 56 y.v 4).run Try.prog w = .ok (.int .i32 y.prev) w := fun _ => by kernel_rfl
  go_enter Try.func24, Try.ntmps24
  go_wp2_with fail
  refine HA.out.mono ?_
  rintro e w' ⟨rfl, hb⟩
  go_wp2
  go_ret
  exact ⟨rfl, hb⟩
theorem tag_walk (h : HeldL w0 w p b x K) (i : Int) (h32 : i ≤ 2147483647) (ht : 0 ≤ (x.st.at_ i).tag ∧ (x.st.at_ i).tag ≤ 8) :
    Calls Try.prog 21 #[.pointer (some ⟨p, 0, none⟩), .int .i32 i] w fun e w' => e = .returned (.int .i64 ((x.st.at_ i).tag - 1)) ∧ Below w.heap.size w w' := by
  obtain ⟨e, hs⟩ := h.seen
  have c0 := hs.c0
  have HA := Lib.hid (heldl_at h i h32)
  clear h hs
  obtain ⟨y, hy⟩ : ∃ y, x.st.at_ i = y := ⟨_, rfl⟩
  rw [hy] at HA ht ⊢
  clear hy
  have hfld : ∀ w : World, (Instr.field 56 y.v 3).run Try.prog w = .ok (.int .i64 y.tag) w := fun _ => by kernel_rfl
  obtain ⟨t1, t2⟩ := ht
  have e1 : IntKind.i64.wrap (y.tag - 1) = y.tag - 1 := IntWalk.i64_in _ (by omega)
  go_enter Try.func21, Try.ntmps21
  go_wp2_with fail
  refine HA.out.mono ?_
  rintro e w' ⟨rfl, hb⟩
  go_wp2
  go_ret
  exact ⟨rfl, hb⟩

/- The ends, and a node, laid anew. -/
def LSt.setEn (x : LSt) (t : Nat) (E : En) : LSt := { x with en := upd x.en t E }
def LSt.setNd (x : LSt) (i : Nat) (y : Nd) : LSt := { x with st := x.st.set i y }
theorem heldl_set (h : HeldL w0 w p b x K) (i : Nat) (hi : x.st.tk i = true) (y : Nd) :
    Calls Try.prog 30 #[.pointer (some ⟨b, 0, none⟩), .int .i32 i, y.v] w fun e w' => e = .returned (.bool true) ∧ HeldL w0 w' p b (x.setNd i y) K ∧ Kept K w w' := by
  obtain ⟨e, h1, h2, h3, h4, h5, h6, h7, h8⟩ := h.mem
  have his : x.st.is i = true := by unfold St.is; rw [decide_eq_true (by have := tk_bounds hi; omega)]; simpa using hi
  have hlt : i < x.st.n := by have := tk_bounds hi; have := h1.ok.room; omega
  have hsm := h.small
  refine (held_set h1 h.small i (by omega) y).mono ?_
  rintro e' w' ⟨rfl, g1, g2⟩
  rw [his]
  have e1 : x.st.setI i y = x.st.set i y := by unfold St.setI; rw [his]; rfl
  rw [e1] at g1
  exact ⟨rfl, ⟨h.small, h.one, h.eight, e, g1, h2, h3, h4, h5, h6, (g2 p (by simp)).trans h7, h8.of_block (g2 e (by simp))⟩, fun k hk => g2 k (by simp [hk])⟩

theorem row_en {w : World} {e : Nat} {t : TypeId} {n : Nat} {en : Nat → En} (h : w.rowIs e t (n * 3) (enV en)) (i j : Nat) (hj : j < 3) (E : En) (v : Value) (hv : v = enCell E j) (ho : ∀ k, k < 3 → k ≠ j → enCell E k = enCell (en i) k) :
    (w.setCell ⟨e, i * 3 + j, none⟩ v).rowIs e t (n * 3) (enV (upd en i E)) := by
  refine (h.set _ _).congr fun q _ => ?_
  by_cases hq : q / 3 = i
  · obtain ⟨k, hk, rfl⟩ : ∃ k, k < 3 ∧ q = i * 3 + k := ⟨q % 3, by omega, by omega⟩
    rw [enV_at (upd en i E) _ _ hk, upd_same]
    by_cases e1 : k = j
    · subst e1; rw [if_pos rfl, hv]
    · rw [if_neg (by omega), enV_at _ _ _ hk, ho k hk e1]
  · rw [if_neg (by omega)]
    unfold enV
    rw [upd_other _ _ _ hq]
theorem HeldL.store (h : HeldL w0 w p b x K) (hs : Seen w p b e x) (t j : Nat) (hj : j < 3) (E : En) (v : Value) (hv : v = enCell E j) (ho : ∀ k, k < 3 → k ≠ j → enCell E k = enCell (x.en t) k) :
    HeldL w0 (w.setCell ⟨e, t * 3 + j, none⟩ v) p b (x.setEn t E) K ∧ Kept K w (w.setCell ⟨e, t * 3 + j, none⟩ v) := by
  obtain ⟨e', h1, h2, h3, h4, h5, h6, h7, h8⟩ := h.mem
  have c1 := hs.c1
  rw [(head_row h7).cell (i := 1) (by simp)] at c1
  simp at c1
  subst c1
  have hold := h1.old
  have ho' : Only [e'] w (w.setCell ⟨e', t * 3 + j, none⟩ v) := (Only.refl [e'] w).setCell (p := ⟨e', t * 3 + j, none⟩) (by simp) v
  have g := h1.mem
  obtain ⟨s, f, m1, m2, m3, kb, ks, kf, ha⟩ := g
  refine ⟨⟨h.small, h.one, h.eight, e', ⟨?_, h1.ok, fun k hk => Nat.lt_of_lt_of_le (hold k hk) ho'.size, s, f, m1, m2, m3, kb, ks, kf, ?_⟩, h2, h3, h4, h5, h6, ?_, row_en h8 t j hj E v hv ho⟩, ?_⟩
  · exact h1.below.trans (ho'.below (by simpa using h3) h1.below.size)
  · exact ha.keep ho' (fun g => kb (by simp at g; simp [g])) (fun g => ks (by simp at g; simp [g])) (fun g => kf (by simp at g; simp [g]))
  · exact (ho'.block p (hold p (by simp)) (by simpa using h4)).trans h7
  · intro k hk
    exact ho'.block k (hold k (by simp [hk])) (by simp; intro g; exact h6 (g ▸ hk))
end
end Go.Proofs.Ytlmcodmglcmmoaa
