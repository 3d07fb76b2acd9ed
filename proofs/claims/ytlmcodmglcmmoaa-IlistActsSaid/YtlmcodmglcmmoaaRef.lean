/- The document's own arena: what only looks: has, Is. -/
import Derived.Test.YtlmcodmglcmmoaaRNew
import Derived.Deep.LoopGhost
namespace Go.Proofs.Ytlmcodmglcmmoaa
open Go Go.RowKit Go.Deep

def nodeV (nd : Nat → Nd) (p : Nat) : Value := refNode (nd (p / 6)) (p % 6)
theorem nodeV_at (nd : Nat → Nd) (i j : Nat) (hj : j < 6) : nodeV nd (i * 6 + j) = refNode (nd i) j := by
  unfold nodeV
  rw [show (i * 6 + j) / 6 = i by omega, show (i * 6 + j) % 6 = j by omega]

structure FreedAt (w : World) (Fo : Option Addr) (l : List Nat) (fc : Nat) (K : List Nat) : Prop where
  cap : l.length ≤ fc
  mem : Fo = none ∧ l = [] ∧ fc = 0 ∨ ∃ fb, Fo = some ⟨fb, 0, none⟩ ∧ fb ∈ K ∧ ∀ i (h : i < l.length), w.cell? ⟨fb, i, none⟩ = some (.int .i32 (l[i] : Nat))
structure NodesAt (w : World) (nb m nc : Nat) (nd : Nat → Nd) (K : List Nat) : Prop where
  cap : m ≤ nc
  kin : nb ∈ K
  cells : ∀ p, p < m * 6 → w.cell? ⟨nb, p, none⟩ = some (nodeV nd p)
abbrev refV (n u : Nat) (Fo : Option Addr) (k fc nb m nc : Nat) : Value := .agg #[.int .i64 n, .int .i64 u, .slice Fo k fc, .slice (some ⟨nb, 0, none⟩) m nc]
abbrev refCells (n u : Nat) (Fo : Option Addr) (k fc nb m nc : Nat) : Array Value := #[.int .i64 n, .int .i64 u, .slice Fo k fc, .slice (some ⟨nb, 0, none⟩) m nc]
/- A value that reads as the arena's state. -/
def Ref (w : World) (v : Value) (st : St) (K : List Nat) : Prop := (∀ k ∈ K, k < w.heap.size) ∧ ∃ (Fo : Option Addr) (fc nb nc : Nat) (nd : Nat → Nd),
  v = refV st.n st.used Fo st.freed.length fc nb (st.used + 1) nc ∧ FreedAt w Fo st.freed fc K ∧ NodesAt w nb (st.used + 1) nc nd K ∧ ∀ i, st.tk i = true → nd i = st.node i

section
variable {w w' : World} {K : List Nat}
theorem FreedAt.kept {Fo : Option Addr} {l : List Nat} {fc : Nat} (h : FreedAt w Fo l fc K) (hk : Kept K w w') : FreedAt w' Fo l fc K :=
  ⟨h.cap, h.mem.imp id fun ⟨fb, e, hm, hc⟩ => ⟨fb, e, hm, fun i hi => (World.cell?_of_block (w := w) (hk fb hm)).trans (hc i hi)⟩⟩
theorem NodesAt.kept {nb m nc : Nat} {nd : Nat → Nd} (h : NodesAt w nb m nc nd K) (hk : Kept K w w') : NodesAt w' nb m nc nd K :=
  ⟨h.cap, h.kin, fun p hp => (World.cell?_of_block (w := w) (hk nb h.kin)).trans (h.cells p hp)⟩
theorem Ref.kept {v : Value} {st : St} (h : Ref w v st K) (hk : Kept K w w') (hs : w.heap.size ≤ w'.heap.size) : Ref w' v st K := by
  obtain ⟨h0, Fo, fc, nb, nc, nd, e, h1, h2, h3⟩ := h
  exact ⟨fun k g => Nat.lt_of_lt_of_le (h0 k g) hs, Fo, fc, nb, nc, nd, e, h1.kept hk, h2.kept hk, h3⟩
theorem kept_below (h0 : ∀ k ∈ K, k < w.heap.size) (hb : Below w.heap.size w w') : Kept K w w' := fun k hk => hb.block k (h0 k hk)
theorem Ref.below {v : Value} {st : St} (h : Ref w v st K) (hb : Below w.heap.size w w') : Ref w' v st K := h.kept (kept_below h.1 hb) hb.size
end

theorem has_false {w : World} {Fo : Option Addr} {l : List Nat} {fc : Nat} {K : List Nat} (h : FreedAt w Fo l fc K) (hl : l.length ≤ 1000000) (x : Nat) (hx : x ∉ l) :
    Calls Try.prog 58 #[.slice Fo l.length fc, .int .i32 x] w fun e w' => e = .returned (.bool false) ∧ w = w' := by
  have H := Lib.hid h
  have HX := Lib.hid hx
  clear h hx
  go_enter Try.func58, Try.ntmps58
  go_wp2
  go_loop [5] (fun i => ∃ k : Nat, k ≤ l.length ∧ i = .int .i64 k) (fun i => l.length - (intOf i).toNat)
  case atStart => exact ⟨0, by omega, rfl⟩
  case round =>
    obtain ⟨k, hk, rfl⟩ := hrel
    by_cases hlt : k < l.length
    · rcases H.out.mem with ⟨_, e, _⟩ | ⟨fb, e, _, hc⟩
      · rw [e] at hlt; simp at hlt
      · have c := hc k hlt
        have hne : ((l[k] : Int) == (x : Int)) = false := by
          have : l[k] ≠ x := fun e => HX.out (e ▸ List.getElem_mem hlt)
          simp; omega
        clear hc
        go_wp2
        go_round
        case rel => exact ⟨k + 1, by omega, by go_num⟩
        case measure => simp only [intOf]; omega
    · go_wp2
      go_ret
      exact ⟨rfl, rfl⟩

theorem has_true {w : World} {Fo : Option Addr} {l : List Nat} {fc : Nat} {K : List Nat} (h : FreedAt w Fo l fc K) (hl : l.length ≤ 1000000) (x : Nat) (hx : x ∈ l) :
    Calls Try.prog 58 #[.slice Fo l.length fc, .int .i32 x] w fun e w' => e = .returned (.bool true) ∧ w = w' := by
  have H := Lib.hid h
  obtain ⟨j, hj, rfl⟩ := List.getElem_of_mem hx
  clear h hx
  go_enter Try.func58, Try.ntmps58
  go_wp2
  go_loop [5] (fun i => ∃ k : Nat, k ≤ j ∧ i = .int .i64 k) (fun i => l.length - (intOf i).toNat)
  case atStart => exact ⟨0, by omega, rfl⟩
  case round =>
    obtain ⟨k, hk, rfl⟩ := hrel
    have hlt : k < l.length := by omega
    rcases H.out.mem with ⟨_, e, _⟩ | ⟨fb, e, _, hc⟩
    · rw [e] at hlt; simp at hlt
    · have c := hc k hlt
      clear hc
      by_cases heq : l[k] = l[j]
      · have hne : ((l[k] : Int) == (l[j] : Int)) = true := by simp; omega
        clear heq
        go_wp2
        go_ret
        exact ⟨rfl, rfl⟩
      · have hne : ((l[k] : Int) == (l[j] : Int)) = false := by simp; omega
        have hkj : k < j := by
          rcases Nat.lt_or_ge k j with h1 | h1
          · exact h1
          · obtain rfl : k = j := by omega
            exact absurd rfl heq
        clear heq
        go_wp2
        go_round
        case rel => exact ⟨k + 1, by omega, by go_num⟩
        case measure => simp only [intOf]; omega

theorem ris_walk {w : World} {v : Value} {st : St} {K : List Nat} (h : Ref w v st K) (ho : st.Ok) (hn : st.n ≤ 1000000) (i : Int) (h32 : i ≤ 2147483647) :
    Calls Try.prog 52 #[v, .int .i32 i] w fun e w' => e = .returned (.bool (st.is i)) ∧ Below w.heap.size w w' := by
  obtain ⟨h0, Fo, fc, nb, nc, nd, rfl, h1, h2, h3⟩ := h
  have hb : Below w.heap.size w (w.alloc (.cells (refCells st.n st.used Fo st.freed.length fc nb (st.used + 1) nc) 29)) := (Below.refl _ _).alloc (Nat.le_refl _) _
  have HF := Lib.hid (h1.kept (kept_below h0 hb))
  have hu := ho.room
  have hfl := freed_le ho
  clear h0 h1 h2 h3 hb
  by_cases hp : 0 < i
  · by_cases hq : i ≤ st.used
    · obtain ⟨k, rfl⟩ : ∃ k : Nat, i = k := ⟨i.toNat, by omega⟩
      by_cases hm : k ∈ st.freed
      · have HC := Lib.hid (has_true HF.out (by omega) k hm)
        have e : st.is k = false := by simp [St.is, St.tk, hm]
        rw [e]
        clear e hm
        go_enter Try.func52, Try.ntmps52
        go_wp2_with fail
        refine HC.out.mono ?_
        rintro e w' ⟨rfl, rfl⟩
        go_wp2
        go_ret
        exact ⟨rfl, (Below.refl _ _).alloc (Nat.le_refl _) _⟩
      · have HC := Lib.hid (has_false HF.out (by omega) k hm)
        have e : st.is k = true := by simp [St.is, St.tk, hm]; omega
        rw [e]
        clear e hm
        go_enter Try.func52, Try.ntmps52
        go_wp2_with fail
        refine HC.out.mono ?_
        rintro e w' ⟨rfl, rfl⟩
        go_wp2
        go_ret
        exact ⟨rfl, (Below.refl _ _).alloc (Nat.le_refl _) _⟩
    · have e : st.is i = false := by simp [St.is, St.tk]; omega
      rw [e]
      clear e
      go_enter Try.func52, Try.ntmps52
      go_wp2
      go_ret
      exact ⟨rfl, (Below.refl _ _).alloc (Nat.le_refl _) _⟩
  · have e : st.is i = false := by simp [St.is]; omega
    rw [e]
    clear e
    go_enter Try.func52, Try.ntmps52
    go_wp2
    go_ret
    exact ⟨rfl, (Below.refl _ _).alloc (Nat.le_refl _) _⟩

/- Two blocks that a call begins with, behind a call that makes memory. -/
theorem two_blocks {w w1 : World} {c d : Array Value} {t u : TypeId} (hb : Below ((w.alloc (.cells c t)).alloc (.cells d u)).heap.size ((w.alloc (.cells c t)).alloc (.cells d u)) w1) :
    Below w.heap.size w w1 ∧ w.heap.size + 1 < w1.heap.size ∧ w1.heap[w.heap.size]? = some (.cells c t (0, 0)) ∧ w1.heap[w.heap.size + 1]? = some (.cells d u (0, 0)) := by
  have hs := hb.size
  simp at hs
  refine ⟨(((Below.refl _ _).alloc (Nat.le_refl _) _).alloc (by simp) _).trans (hb.mono (by simp; omega)), by omega, ?_, ?_⟩
  · rw [hb.block w.heap.size (by simp; omega), Below.heap_alloc _ _ _ (by simp)]
    exact heap_alloc_new w _
  · rw [hb.block (w.heap.size + 1) (by simp)]
    have := heap_alloc_new (w.alloc (.cells c t)) (.cells d u)
    simpa using this

/- A node laid into a block of its own. -/
theorem six_set {w1 : World} {g : Nat} {t : TypeId} {a0 a1 a2 a3 a4 a5 : Value} (hB : w1.heap[g]? = some (.cells #[a0, a1, a2, a3, a4, a5] t (0, 0))) (b0 b1 b2 b3 b4 b5 : Value) :
    ((((((w1.setCell ⟨g, 0, none⟩ b0).setCell ⟨g, 1, none⟩ b1).setCell ⟨g, 2, none⟩ b2).setCell ⟨g, 3, none⟩ b3).setCell ⟨g, 4, none⟩ b4).setCell ⟨g, 5, none⟩ b5).heap[g]? = some (.cells #[b0, b1, b2, b3, b4, b5] t (0, 0)) ∧
    Only [g] w1 ((((((w1.setCell ⟨g, 0, none⟩ b0).setCell ⟨g, 1, none⟩ b1).setCell ⟨g, 2, none⟩ b2).setCell ⟨g, 3, none⟩ b3).setCell ⟨g, 4, none⟩ b4).setCell ⟨g, 5, none⟩ b5) := by
  have hs : ∀ (W : World) (c : Array Value) (i : Nat) (v : Value), W.heap[g]? = some (.cells c t (0, 0)) → (W.setCell ⟨g, i, none⟩ v).heap[g]? = some (.cells (c.setIfInBounds i v) t (0, 0)) := fun W c i v h => by
    simp [World.setCell, Array.getElem?_modify, h]
  refine ⟨?_, (((((((Only.refl [g] w1).setCell (by simp) _).setCell (by simp) _).setCell (by simp) _).setCell (by simp) _).setCell (by simp) _).setCell (by simp) _)⟩
  exact hs _ _ _ _ (hs _ _ _ _ (hs _ _ _ _ (hs _ _ _ _ (hs _ _ _ _ (hs _ _ _ _ hB)))))
theorem four_set {w1 : World} {g : Nat} {t : TypeId} {a0 a1 a2 a3 : Value} (hB : w1.heap[g]? = some (.cells #[a0, a1, a2, a3] t (0, 0))) (b0 b1 b2 b3 : Value) :
    ((((w1.setCell ⟨g, 0, none⟩ b0).setCell ⟨g, 1, none⟩ b1).setCell ⟨g, 2, none⟩ b2).setCell ⟨g, 3, none⟩ b3).heap[g]? = some (.cells #[b0, b1, b2, b3] t (0, 0)) ∧
    Only [g] w1 ((((w1.setCell ⟨g, 0, none⟩ b0).setCell ⟨g, 1, none⟩ b1).setCell ⟨g, 2, none⟩ b2).setCell ⟨g, 3, none⟩ b3) := by
  have hs : ∀ (W : World) (c : Array Value) (i : Nat) (v : Value), W.heap[g]? = some (.cells c t (0, 0)) → (W.setCell ⟨g, i, none⟩ v).heap[g]? = some (.cells (c.setIfInBounds i v) t (0, 0)) := fun W c i v h => by
    simp [World.setCell, Array.getElem?_modify, h]
  refine ⟨?_, (((((Only.refl [g] w1).setCell (by simp) _).setCell (by simp) _).setCell (by simp) _).setCell (by simp) _)⟩
  exact hs _ _ _ _ (hs _ _ _ _ (hs _ _ _ _ (hs _ _ _ _ hB)))
theorem below_only {w w1 w2 : World} {g : Nat} (h : Below w.heap.size w w1) (ho : Only [g] w1 w2) (hg : w.heap.size ≤ g) : Below w.heap.size w w2 := h.trans (ho.below (by simpa using hg) h.size)
theorem NodesAt.six {w : World} {nb m nc : Nat} {nd : Nat → Nd} {K : List Nat} (h : NodesAt w nb m nc nd K) {i : Nat} (hi : i < m) :
    w.cell? ⟨nb, i * 6, none⟩ = some (.int .u64 (nd i).key) ∧ w.cell? ⟨nb, i * 6 + 1, none⟩ = some (.int .u64 (nd i).val) ∧ w.cell? ⟨nb, i * 6 + 2, none⟩ = some (.int .i64 (nd i).flag) ∧
    w.cell? ⟨nb, i * 6 + 3, none⟩ = some (.int .i64 (nd i).tag) ∧ w.cell? ⟨nb, i * 6 + 4, none⟩ = some (.int .i32 (nd i).prev) ∧ w.cell? ⟨nb, i * 6 + 5, none⟩ = some (.int .i32 (nd i).next) := by
  have k : ∀ j, j < 6 → w.cell? ⟨nb, i * 6 + j, none⟩ = some (refNode (nd i) j) := fun j hj => by rw [← nodeV_at nd i j hj]; exact h.cells _ (by omega)
  exact ⟨k 0 (by decide), k 1 (by decide), k 2 (by decide), k 3 (by decide), k 4 (by decide), k 5 (by decide)⟩

end Go.Proofs.Ytlmcodmglcmmoaa
