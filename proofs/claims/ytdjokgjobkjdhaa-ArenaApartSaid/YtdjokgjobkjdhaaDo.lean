/- The laws' do: an act on an arena. -/
import Derived.Test.YtdjokgjobkjdhaaAwk
import Derived.Deep.RegionHeld3
namespace Go.Proofs.Ytdjokgjobkjdhaa
open Go Go.RowKit Go.Deep

structure Actn where
  kind : Nat
  i : Int
  x : Nd
abbrev actCells (a : Actn) : Array Value := #[.int .u8 a.kind, .int .i32 a.i, .int .u64 a.x.key, .int .u64 a.x.val, .int .i64 a.x.flag, .int .i64 a.x.tag, .int .i32 a.x.prev, .int .i32 a.x.next]
structure Actn.Wf (a : Actn) : Prop where
  k : a.kind < 256
  hi : a.i ≤ 2147483647

def St.act (st : St) (a : Actn) : St := if a.kind % 3 = 0 then st.alloc else if a.kind % 3 = 1 then st.freeI a.i else st.setI a.i a.x
def St.slot (st : St) (a : Actn) : Nat := if a.kind % 3 = 0 then st.next else 0
def St.done (st : St) (a : Actn) : Bool := if a.kind % 3 = 0 then false else st.is a.i

theorem box_cells {w w' : World} {a : Actn} {g : Nat} (hg : g = w.heap.size) (h : w'.heap[g]? = (w.alloc (.cells (actCells a) 54)).heap[g]?) :
    w'.cell? ⟨g, 1, none⟩ = some (.int .i32 a.i) ∧ w'.cell? ⟨g, 2, none⟩ = some (.int .u64 a.x.key) ∧ w'.cell? ⟨g, 3, none⟩ = some (.int .u64 a.x.val) ∧ w'.cell? ⟨g, 4, none⟩ = some (.int .i64 a.x.flag) ∧ w'.cell? ⟨g, 5, none⟩ = some (.int .i64 a.x.tag) ∧ w'.cell? ⟨g, 6, none⟩ = some (.int .i32 a.x.prev) ∧ w'.cell? ⟨g, 7, none⟩ = some (.int .i32 a.x.next) := by
  subst hg
  have hb : w'.heap[w.heap.size]? = some (.cells (actCells a) 54 (0, 0)) := h.trans (heap_alloc_new w _)
  have hr := head_row hb
  exact ⟨hr.cell (i := 1) (by simp), hr.cell (i := 2) (by simp), hr.cell (i := 3) (by simp), hr.cell (i := 4) (by simp), hr.cell (i := 5) (by simp), hr.cell (i := 6) (by simp), hr.cell (i := 7) (by simp)⟩

theorem do_alloc {w0 w : World} {b : Nat} {st : St} {K : List Nat} (h : Held w0 w b st K) (hn : st.n ≤ 1000000) (a : Actn) (wf : a.Wf) (hk : a.kind % 3 = 0) :
    Calls Try.prog 26 #[.pointer (some ⟨b, 0, none⟩), .agg (actCells a)] w fun e w' => e = .returned (.tuple #[.int .i32 st.next, .bool false]) ∧ Held w0 w' b st.alloc K ∧ Kept K w w' := by
  have hs := h.still ((Below.refl _ _).alloc (Nat.le_refl _) (.cells (actCells a) 54))
  have H := Lib.hid hs.1
  have HK := Lib.hid hs.2
  have k1 := wf.k
  have e1 : (a.kind : Int) % 3 = 0 := by omega
  have e2 : (a.kind : Int).tmod 3 = 0 := by rw [Int.tmod_eq_emod_of_nonneg (by omega)]; exact e1
  clear h hs wf
  go_enter Try.func26, Try.ntmps26
  go_wp2_with fail
  refine (held_alloc H.out hn).mono ?_
  rintro e w1 ⟨rfl, h1, h2⟩
  have H1 := Lib.hid h1
  have HK1 : Hid (Kept K w w1) := Lib.hid (fun k hk => (h2 k hk).trans (HK.out k hk))
  clear h1 h2
  go_wp2
  go_ret2
  exact ⟨rfl, H1.out, HK1.out⟩

theorem do_free {w0 w : World} {b : Nat} {st : St} {K : List Nat} (h : Held w0 w b st K) (hn : st.n ≤ 1000000) (a : Actn) (wf : a.Wf) (hk : a.kind % 3 = 1) :
    Calls Try.prog 26 #[.pointer (some ⟨b, 0, none⟩), .agg (actCells a)] w fun e w' => e = .returned (.tuple #[.int .i32 0, .bool (st.is a.i)]) ∧ Held w0 w' b (st.freeI a.i) K ∧ Kept K w w' := by
  have hs := h.still ((Below.refl _ _).alloc (Nat.le_refl _) (.cells (actCells a) 54))
  have H := Lib.hid hs.1
  have HK := Lib.hid hs.2
  have k1 := wf.k
  have k2 := wf.hi
  have e1 : (a.kind : Int) % 3 = 1 := by omega
  have e2 : (a.kind : Int).tmod 3 = 1 := by rw [Int.tmod_eq_emod_of_nonneg (by omega)]; exact e1
  clear h hs wf
  go_enter Try.func26, Try.ntmps26
  go_wp2_with fail
  refine (held_free H.out hn a.i k2).mono ?_
  rintro e w1 ⟨rfl, h1, h2⟩
  have H1 := Lib.hid h1
  have HK1 : Hid (Kept K w w1) := Lib.hid (fun k hk => (h2 k hk).trans (HK.out k hk))
  clear h1 h2
  go_wp2
  go_ret2
  exact ⟨rfl, H1.out, HK1.out⟩

theorem do_set {w0 w : World} {b : Nat} {st : St} {K : List Nat} (h : Held w0 w b st K) (hn : st.n ≤ 1000000) (a : Actn) (wf : a.Wf) (hk : a.kind % 3 = 2) :
    Calls Try.prog 26 #[.pointer (some ⟨b, 0, none⟩), .agg (actCells a)] w fun e w' => e = .returned (.tuple #[.int .i32 0, .bool (st.is a.i)]) ∧ Held w0 w' b (st.setI a.i a.x) K ∧ Kept K w w' := by
  have hbl : Below w.heap.size w (w.alloc (.cells (actCells a) 54)) := (Below.refl _ _).alloc (Nat.le_refl _) _
  have H := Lib.hid (h.other (K' := w.heap.size :: K) hbl (fun k hk => by
    rcases List.mem_cons.1 hk with rfl | hk
    · exact ⟨.inr (Nat.le_refl _), by simp⟩
    · exact ⟨.inl hk, by have := h.old k hk; simp; omega⟩))
  have HK : Hid (Kept K w (w.alloc (.cells (actCells a) 54))) := Lib.hid (h.still hbl).2
  have HB := Lib.hid (fun w' => @box_cells w w' a w.heap.size rfl)
  have k1 := wf.k
  have k2 := wf.hi
  have e1 : (a.kind : Int) % 3 = 2 := by omega
  have e2 : (a.kind : Int).tmod 3 = 2 := by rw [Int.tmod_eq_emod_of_nonneg (by omega)]; exact e1
  clear h wf hbl
  go_enter Try.func26, Try.ntmps26
  go_wp2_with fail
  go_region_held3 (fun w' => w'.cell? ⟨w.heap.size, 1, none⟩ = some (.int .i32 a.i) ∧ w'.cell? ⟨w.heap.size, 2, none⟩ = some (.int .u64 a.x.key) ∧ w'.cell? ⟨w.heap.size, 3, none⟩ = some (.int .u64 a.x.val) ∧ w'.cell? ⟨w.heap.size, 4, none⟩ = some (.int .i64 a.x.flag) ∧ w'.cell? ⟨w.heap.size, 5, none⟩ = some (.int .i64 a.x.tag) ∧ w'.cell? ⟨w.heap.size, 6, none⟩ = some (.int .i32 a.x.prev) ∧ w'.cell? ⟨w.heap.size, 7, none⟩ = some (.int .i32 a.x.next))
    (first | go_keep | exact kk0 | exact ll0)
    (first
      | (go_at_call 15; refine (node_walk a.x _).mono ?_; rintro e w1 ⟨rfl, b1⟩; have kk0 := HB.out w1 (b1.block w.heap.size (by simp)))
      | (go_at_call 24; refine (held_set (H.out.still ((Below.refl _ _).drew.trans b1)).1 hn a.i k2 a.x).mono ?_; rintro e w2 ⟨rfl, h1, h2⟩; have ll0 := HB.out w2 ((h2 w.heap.size (by simp)).trans (b1.block w.heap.size (by simp)))))
  have H1 : Hid (Held w0 w2 b (st.setI a.i a.x) K) := Lib.hid (h1.other (Below.refl _ _) (fun k hk => ⟨.inl (by simp [hk]), h1.old k (by simp [hk])⟩))
  have HK1 : Hid (Kept K w w2) := Lib.hid (fun k hk => by
    have g1 := h2 k (by simp [hk])
    have g2 : k < w.heap.size + 1 := by have := H.out.old k (by simp [hk]); simpa using this
    have g3 := b1.block k (by simpa using g2)
    exact g1.trans (g3.trans (HK.out k hk)))
  clear h1 h2 ll0 kk0 b1
  go_wp2
  go_ret2
  exact ⟨rfl, H1.out, HK1.out⟩

theorem do_walk {w0 w : World} {b : Nat} {st : St} {K : List Nat} (h : Held w0 w b st K) (hn : st.n ≤ 1000000) (a : Actn) (wf : a.Wf) :
    Calls Try.prog 26 #[.pointer (some ⟨b, 0, none⟩), .agg (actCells a)] w fun e w' => e = .returned (.tuple #[.int .i32 (st.slot a), .bool (st.done a)]) ∧ Held w0 w' b (st.act a) K ∧ Kept K w w' := by
  unfold St.slot St.done St.act
  by_cases h0 : a.kind % 3 = 0
  · rw [if_pos h0, if_pos h0, if_pos h0]; exact do_alloc h hn a wf h0
  · rw [if_neg h0, if_neg h0, if_neg h0]
    by_cases h1 : a.kind % 3 = 1
    · rw [if_pos h1]; exact do_free h hn a wf h1
    · rw [if_neg h1]; exact do_set h hn a wf (by omega)
end Go.Proofs.Ytdjokgjobkjdhaa
