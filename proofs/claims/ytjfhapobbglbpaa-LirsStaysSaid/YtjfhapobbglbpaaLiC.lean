/- Inter-reference recency, the program's own: closures. -/
import Derived.Test.YtjfhapobbglbpaaLiY
import Derived.Test.YtjfhapobbglbpaaSqP3
import Derived.Deep.RegionLaw
namespace Go.Proofs.Ytjfhapobbglbpaa
open Go Go.RowKit Go.Deep

section
variable {w : World}
set_option maxHeartbeats 1000000 in
theorem other_walk {kb k : Nat} (hk : w.cell? ⟨kb, 0, none⟩ = some (.int .u64 (k : Nat))) (hkb : kb < w.heap.size) (x : It) :
    Calls Try.prog 71 #[.agg #[.int .u64 (x.key : Nat), .int .i64 (x.f : Nat)], .pointer (some ⟨kb, 0, none⟩)] w fun e w' => e = .returned (.tuple #[.agg #[.int .u64 (x.key : Nat), .int .i64 (x.f : Nat)], .bool (!decide (x.key = k))]) ∧ Below w.heap.size w w' := by
  obtain ⟨kx, fx⟩ := x
  dsimp only
  have hne : kb ≠ w.heap.size := by omega
  have hne2 : w.heap.size ≠ kb := by omega
  have hne3 : kb ≠ w.heap.size + 1 := by omega
  have HB := Lib.hid (low_two w)
  by_cases he : kx = k
  · subst he
    rw [decide_eq_true rfl]
    have hne4 : ((kx : Int) != (kx : Int)) = false := by simp
    go_enter Try.func71, Try.ntmps71
    go_wp2_with fail
    go_region
    go_wp2
    exact bodyPost_ret (v := .tuple #[.agg #[.int .u64 (kx : Nat), .int .i64 (fx : Nat)], .bool false]) (by simp [results, Try.results71, go_sem]) rfl ⟨rfl, below_drewn (HB.out _ _) 1⟩
  · rw [decide_eq_false he]
    have hne4 : ((kx : Int) != (k : Int)) = true := by rw [bne_iff_ne]; omega
    clear he
    go_enter Try.func71, Try.ntmps71
    go_wp2_with fail
    go_region
    go_wp2
    exact bodyPost_ret (v := .tuple #[.agg #[.int .u64 (kx : Nat), .int .i64 (fx : Nat)], .bool true]) (by simp [results, Try.results71, go_sem]) rfl ⟨rfl, below_drewn (HB.out _ _) 1⟩
theorem is_walk {kb k : Nat} (hk : w.cell? ⟨kb, 0, none⟩ = some (.int .u64 (k : Nat))) (hkb : kb < w.heap.size) (x : It) :
    Calls Try.prog 66 #[.agg #[.int .u64 (x.key : Nat), .int .i64 (x.f : Nat)], .pointer (some ⟨kb, 0, none⟩)] w fun e w' => e = .returned (.bool (decide (x.key = k))) ∧ Below w.heap.size w w' := by
  obtain ⟨kx, fx⟩ := x
  dsimp only
  have hne : kb ≠ w.heap.size := by omega
  have hne2 : w.heap.size ≠ kb := by omega
  have HB := Lib.hid (low_one w)
  by_cases he : kx = k
  · subst he
    rw [decide_eq_true rfl]
    go_enter Try.func66, Try.ntmps66
    go_wp2
    go_ret
    exact ⟨by simp, HB.out _⟩
  · rw [decide_eq_false he]
    have hne4 : ((kx : Int) == (k : Int)) = false := by rw [beq_eq_false_iff_ne]; omega
    clear he
    go_enter Try.func66, Try.ntmps66
    go_wp2
    go_ret
    exact ⟨by first | rfl | simp [hne4], HB.out _⟩
set_option maxHeartbeats 1000000 in
theorem forget1_walk (x : It) :
    Calls Try.prog 70 #[.agg #[.int .u64 (x.key : Nat), .int .i64 (x.f : Nat)]] w fun e w' => e = .returned (.tuple #[.agg #[.int .u64 (x.key : Nat), .int .i64 (x.f : Nat)], .bool false]) ∧ Below w.heap.size w w' := by
  obtain ⟨kx, fx⟩ := x
  dsimp only
  have HB := Lib.hid (low_two w)
  go_enter Try.func70, Try.ntmps70
  go_wp2
  exact bodyPost_ret (v := .tuple #[.agg #[.int .u64 (kx : Nat), .int .i64 (fx : Nat)], .bool false]) (by simp [results, Try.results70, go_sem]) rfl ⟨rfl, HB.out _ _⟩
/- A map of keys, whatever else a memory has. -/
def MapHas (w : World) (b : Nat) (L : List Nat) : Prop := ∃ (n : Nat) (D : DataW Unit), w.ownsMap Try.prog 35 (plainElem Try.prog 4) b n D ∧ ∀ k : Nat, k < 18446744073709551616 → D.atKey (.int .u64 (k : Nat)) (.lit (.bool false)) = .lit (.bool (decide (k ∈ L)))
theorem MapHas.keep {w w' : World} {b : Nat} {L : List Nat} (h : MapHas w b L) (e : w'.heap[b]? = w.heap[b]?) : MapHas w' b L := by
  obtain ⟨n, D, ⟨es, clock, h1, h2⟩, h3⟩ := h
  exact ⟨n, D, ⟨es, clock, e.trans h1, h2⟩, h3⟩
theorem MapHas.lt {w : World} {b : Nat} {L : List Nat} (h : MapHas w b L) : b < w.heap.size := by
  obtain ⟨n, D, h1, _⟩ := h
  exact h1.lt
theorem Seen.has {w0 w : World} {b : Nat} {L : List Nat} (h : Seen w0 w b L) : MapHas w b L := by
  obtain ⟨D, h1, _, h3⟩ := h.own
  exact ⟨_, D, h1, h3⟩
theorem MapHas.look {w : World} {b : Nat} {L : List Nat} (h : MapHas w b L) {k : Nat} (hk : k < 18446744073709551616) :
    (Instr.lookup 87 (.map (some b)) (.int .u64 (k : Nat)) false).run Try.prog w = .ok (.bool (decide (k ∈ L))) w := by
  obtain ⟨n, D, h1, h3⟩ := h
  obtain ⟨v, ps, hrun, hv⟩ := h1.lookup keyed64 Try.underlying87 (zeroB w) (plainElem_bool Try.underlying4 false) (key64 hk)
  rw [h3 k hk] at hv
  rw [hrun]
  unfold plainElem at hv
  rw [Try.underlying4] at hv
  cases v <;> simp at hv
  rw [hv.1]
set_option maxHeartbeats 1000000 in
theorem evict1_walk {mp mb : Nat} {L : List Nat} (hm : w.cell? ⟨mp, 0, none⟩ = some (.map (some mb))) (hmp : mp < w.heap.size) (hL : MapHas w mb L) (x : It) (hx : x.key < 18446744073709551616) :
    Calls Try.prog 68 #[.agg #[.int .u64 (x.key : Nat), .int .i64 (x.f : Nat)], .pointer (some ⟨mp, 0, none⟩)] w fun e w' => e = .returned (.tuple #[.agg #[.int .u64 ((if x.key ∈ L then (⟨x.key, 0⟩ : It) else x).key : Nat), .int .i64 ((if x.key ∈ L then (⟨x.key, 0⟩ : It) else x).f : Nat)], .bool true]) ∧ Below w.heap.size w w' := by
  obtain ⟨kx, fx⟩ := x
  dsimp only at hx ⊢
  have hne : mp ≠ w.heap.size := by omega
  have hne2 : w.heap.size ≠ mp := by omega
  have hne3 : mp ≠ w.heap.size + 1 := by omega
  have HB := Lib.hid (low_two w)
  have hmb := hL.lt
  have hlk := (hL.keep (w' := (w.alloc (.cells #[.int .u64 (kx : Nat), .int .i64 (fx : Nat)] PTI12)).alloc (.cells #[.int .u64 0, .int .i64 0] PTI12)) ((HB.out _ _).block mb hmb)).look hx
  clear hL hmb
  by_cases he : kx ∈ L
  · rw [decide_eq_true he] at hlk
    rw [if_pos he]
    clear he
    go_enter Try.func68, Try.ntmps68
    go_wp2
    exact bodyPost_ret (v := .tuple #[.agg #[.int .u64 (kx : Nat), .int .i64 0], .bool true]) (by simp [results, Try.results68, go_sem]) rfl ⟨rfl, HB.out _ _⟩
  · rw [decide_eq_false he] at hlk
    rw [if_neg he]
    clear he
    go_enter Try.func68, Try.ntmps68
    go_wp2
    exact bodyPost_ret (v := .tuple #[.agg #[.int .u64 (kx : Nat), .int .i64 (fx : Nat)], .bool true]) (by simp [results, Try.results68, go_sem]) rfl ⟨rfl, HB.out _ _⟩
end
end Go.Proofs.Ytjfhapobbglbpaa
