/- Inter-reference recency, the program's own: behind's closure. -/
import Derived.Test.YtjfhapobbglbpaaLiC2
namespace Go.Proofs.Ytjfhapobbglbpaa
open Go Go.RowKit Go.Deep

section
variable {w : World} {n kind seen most : Nat} {fv : Value}
set_option maxHeartbeats 2000000 in
theorem behind1_other (h : Bh w n kind seen most fv) (x : It) (hx : x.f ≠ kind) : Calls Try.prog 80 #[.agg #[.int .u64 (x.key : Nat), .int .i64 (x.f : Nat)], .pointer (some ⟨n, 0, none⟩), .pointer (some ⟨n + 1 + 1 + 1, 0, none⟩), .pointer (some ⟨n + 1, 0, none⟩), .pointer (some ⟨n + 1 + 1, 0, none⟩)] w fun e w' => e = .returned (.tuple #[.agg #[.int .u64 (x.key : Nat), .int .i64 (x.f : Nat)], .bool true]) ∧ Below w.heap.size w w' := by
  obtain ⟨kx, fx⟩ := x
  dsimp only at hx ⊢
  have hlt := (head_row h.s).lt
  have hk := (head_row h.k).cell (i := 0) (by simp)
  have hm := (head_row h.m).cell (i := 0) (by simp)
  have hf := (head_row h.f).cell (i := 0) (by simp)
  have hs0 := (head_row h.s).cell (i := 0) (by simp)
  have hsf := (head_row h.s).frozen 0
  have hn1 : n ≠ w.heap.size := by omega
  have hn2 : n ≠ w.heap.size + 1 := by omega
  have hn3 : n + 1 ≠ w.heap.size := by omega
  have hn4 : n + 1 ≠ w.heap.size + 1 := by omega
  have hn5 : n + 1 + 1 ≠ w.heap.size := by omega
  have hn6 : n + 1 + 1 ≠ w.heap.size + 1 := by omega
  have hn7 : n + 1 + 1 + 1 ≠ w.heap.size := by omega
  have hn8 : n + 1 + 1 + 1 ≠ w.heap.size + 1 := by omega
  have hn9 : w.heap.size ≠ n + 1 + 1 + 1 := by omega
  have hn10 : w.heap.size + 1 ≠ n + 1 + 1 + 1 := by omega
  have hl1 : n < w.heap.size := by omega
  have hl2 : n + 1 < w.heap.size := by omega
  have hl3 : n + 1 + 1 < w.heap.size := by omega
  have hxI : ((fx : Int) != (kind : Int)) = true := by rw [bne_iff_ne]; omega
  have HB := Lib.hid (low_two w)
  clear h hx
  go_enter Try.func80, Try.ntmps80
  go_wp2
  exact bodyPost_ret (v := .tuple #[.agg #[.int .u64 (kx : Nat), .int .i64 (fx : Nat)], .bool true]) (by simp [results, Try.results80, go_sem]) rfl ⟨rfl, HB.out _ _⟩
set_option maxHeartbeats 2000000 in
theorem behind1_few (h : Bh w n kind seen most fv) (x : It) (hx : x.f = kind) (hs : seen + 1 ≤ most) (hb : most ≤ 100000000) : Calls Try.prog 80 #[.agg #[.int .u64 (x.key : Nat), .int .i64 (x.f : Nat)], .pointer (some ⟨n, 0, none⟩), .pointer (some ⟨n + 1 + 1 + 1, 0, none⟩), .pointer (some ⟨n + 1, 0, none⟩), .pointer (some ⟨n + 1 + 1, 0, none⟩)] w fun e w' => e = .returned (.tuple #[.agg #[.int .u64 (x.key : Nat), .int .i64 (x.f : Nat)], .bool true]) ∧ Only [n + 1 + 1 + 1] w w' ∧ w'.heap[n + 1 + 1 + 1]? = some (.cells #[.int .i64 ((seen + 1 : Nat) : Int)] 3 (0, 0)) := by
  obtain ⟨kx, fx⟩ := x
  dsimp only at hx ⊢
  have hlt := (head_row h.s).lt
  have hk := (head_row h.k).cell (i := 0) (by simp)
  have hm := (head_row h.m).cell (i := 0) (by simp)
  have hf := (head_row h.f).cell (i := 0) (by simp)
  have hs0 := (head_row h.s).cell (i := 0) (by simp)
  have hsf := (head_row h.s).frozen 0
  have hn1 : n ≠ w.heap.size := by omega
  have hn2 : n ≠ w.heap.size + 1 := by omega
  have hn3 : n + 1 ≠ w.heap.size := by omega
  have hn4 : n + 1 ≠ w.heap.size + 1 := by omega
  have hn5 : n + 1 + 1 ≠ w.heap.size := by omega
  have hn6 : n + 1 + 1 ≠ w.heap.size + 1 := by omega
  have hn7 : n + 1 + 1 + 1 ≠ w.heap.size := by omega
  have hn8 : n + 1 + 1 + 1 ≠ w.heap.size + 1 := by omega
  have hn9 : w.heap.size ≠ n + 1 + 1 + 1 := by omega
  have hn10 : w.heap.size + 1 ≠ n + 1 + 1 + 1 := by omega
  have hl1 : n < w.heap.size := by omega
  have hl2 : n + 1 < w.heap.size := by omega
  have hl3 : n + 1 + 1 < w.heap.size := by omega
  subst hx
  have hx0 : ((fx : Int) != (fx : Int)) = false := by simp
  have hsI : (seen : Int) + 1 ≤ (most : Int) := by omega
  have hbI : (most : Int) ≤ 100000000 := by omega
  have hst : Hid ((w.setCell ⟨n + 1 + 1 + 1, 0, none⟩ (.int .i64 ((seen : Int) + 1))).heap[n + 1 + 1 + 1]? = some (.cells #[.int .i64 ((seen + 1 : Nat) : Int)] 3 (0, 0))) := Lib.hid (by
    have e : ((seen : Int) + 1) = ((seen + 1 : Nat) : Int) := by omega
    rw [e]
    exact set_one h.s)
  have HO : Hid (∀ o1 o2, Only [n + 1 + 1 + 1] w (((w.setCell ⟨n + 1 + 1 + 1, 0, none⟩ (.int .i64 ((seen : Int) + 1))).alloc o1).alloc o2)) := Lib.hid (fun o1 o2 => (((Only.refl _ _).setCell (by simp) _).alloc _).alloc _)
  clear h
  go_enter Try.func80, Try.ntmps80
  go_wp2
  exact bodyPost_ret (v := .tuple #[.agg #[.int .u64 (kx : Nat), .int .i64 (fx : Nat)], .bool true]) (by simp [results, Try.results80, go_sem]) rfl ⟨rfl, HO.out _ _, by
    rw [Below.heap_alloc _ _ _ (by simp; omega), Below.heap_alloc _ _ _ (by simp; omega)]
    exact hst.out⟩
/- Behind the first ones: another function is called. -/
set_option maxHeartbeats 2000000 in
theorem behind1_more {fn : Nat} {caps : Array Value} {y : It} {b : Bool} {R : World → Prop} (h : Bh w n kind seen most (.func (.func fn) #[] caps)) (x : It) (hx : x.f = kind) (hs : most < seen + 1) (hb : seen ≤ 100000000)
    (ent : ∀ (args : Array Value) (W : World), (callFunc fn args).run Try.prog W = .ok (.enter fn args) W)
    (hcall : ∀ W, Only [n + 1 + 1 + 1] w W → W.heap[n + 1 + 1 + 1]? = some (.cells #[.int .i64 ((seen + 1 : Nat) : Int)] 3 (0, 0)) → Calls Try.prog fn (#[.agg #[.int .u64 (x.key : Nat), .int .i64 (x.f : Nat)]] ++ caps) W fun e W' => e = .returned (.tuple #[.agg #[.int .u64 (y.key : Nat), .int .i64 (y.f : Nat)], .bool b]) ∧ R W' ∧ KeepT PTI12 W W')
    (hR : ∀ W W', R W → Below w.heap.size W W' → Kt PTI12 W W' → R W') : Calls Try.prog 80 #[.agg #[.int .u64 (x.key : Nat), .int .i64 (x.f : Nat)], .pointer (some ⟨n, 0, none⟩), .pointer (some ⟨n + 1 + 1 + 1, 0, none⟩), .pointer (some ⟨n + 1, 0, none⟩), .pointer (some ⟨n + 1 + 1, 0, none⟩)] w fun e w' => e = .returned (.tuple #[.agg #[.int .u64 (y.key : Nat), .int .i64 (y.f : Nat)], .bool b]) ∧ R w' ∧ KeepT PTI12 w w' := by
  obtain ⟨ky, fy⟩ := y
  dsimp only at hcall ⊢
  obtain ⟨kx, fx⟩ := x
  dsimp only at hx ⊢
  have hlt := (head_row h.s).lt
  have hk := (head_row h.k).cell (i := 0) (by simp)
  have hm := (head_row h.m).cell (i := 0) (by simp)
  have hf := (head_row h.f).cell (i := 0) (by simp)
  have hs0 := (head_row h.s).cell (i := 0) (by simp)
  have hsf := (head_row h.s).frozen 0
  have hn1 : n ≠ w.heap.size := by omega
  have hn2 : n ≠ w.heap.size + 1 := by omega
  have hn3 : n + 1 ≠ w.heap.size := by omega
  have hn4 : n + 1 ≠ w.heap.size + 1 := by omega
  have hn5 : n + 1 + 1 ≠ w.heap.size := by omega
  have hn6 : n + 1 + 1 ≠ w.heap.size + 1 := by omega
  have hn7 : n + 1 + 1 + 1 ≠ w.heap.size := by omega
  have hn8 : n + 1 + 1 + 1 ≠ w.heap.size + 1 := by omega
  have hn9 : w.heap.size ≠ n + 1 + 1 + 1 := by omega
  have hn10 : w.heap.size + 1 ≠ n + 1 + 1 + 1 := by omega
  have hl1 : n < w.heap.size := by omega
  have hl2 : n + 1 < w.heap.size := by omega
  have hl3 : n + 1 + 1 < w.heap.size := by omega
  subst hx
  have hx0 : ((fx : Int) != (fx : Int)) = false := by simp
  have hsI : ¬ (seen : Int) + 1 ≤ (most : Int) := by omega
  have hbI : (seen : Int) ≤ 100000000 := by omega
  have HST : Hid ((w.setCell ⟨n + 1 + 1 + 1, 0, none⟩ (.int .i64 ((seen : Int) + 1))).heap[n + 1 + 1 + 1]? = some (.cells #[.int .i64 ((seen + 1 : Nat) : Int)] 3 (0, 0))) := Lib.hid (by
    have e : ((seen : Int) + 1) = ((seen + 1 : Nat) : Int) := by omega
    rw [e]
    exact set_one h.s)
  have HO : Hid (∀ o1 o2, Only [n + 1 + 1 + 1] w (((w.setCell ⟨n + 1 + 1 + 1, 0, none⟩ (.int .i64 ((seen : Int) + 1))).alloc o1).alloc o2)) := Lib.hid (fun o1 o2 => (((Only.refl _ _).setCell (by simp) _).alloc _).alloc _)
  have HENT := Lib.hid ent
  have HCALL := Lib.hid hcall
  have HR := Lib.hid hR
  have HHT := Lib.hid h
  clear h ent hcall hR
  go_enter Try.func80, Try.ntmps80
  go_wp2_with fail
  rw [HENT.out, Oper.upon_enter]
  have hst2 : (((w.setCell ⟨n + 1 + 1 + 1, 0, none⟩ (.int .i64 ((seen : Int) + 1))).alloc (.cells #[.int .u64 (kx : Nat), .int .i64 (fx : Nat)] PTI12)).alloc (.cells #[.int .u64 0, .int .i64 0] PTI12)).heap[n + 1 + 1 + 1]? = some (.cells #[.int .i64 ((seen + 1 : Nat) : Int)] 3 (0, 0)) := by
    rw [Below.heap_alloc _ _ _ (by simp; omega), Below.heap_alloc _ _ _ (by simp; omega)]
    exact HST.out
  have hbr : (((w.setCell ⟨n + 1 + 1 + 1, 0, none⟩ (.int .i64 ((seen : Int) + 1))).alloc (.cells #[.int .u64 (kx : Nat), .int .i64 (fx : Nat)] PTI12)).alloc (.cells #[.int .u64 0, .int .i64 0] PTI12)).heap[w.heap.size + 1]? = some (.cells #[.int .u64 0, .int .i64 0] PTI12 (0, 0)) := by
    have := heap_alloc_new ((w.setCell ⟨n + 1 + 1 + 1, 0, none⟩ (.int .i64 ((seen : Int) + 1))).alloc (.cells #[.int .u64 (kx : Nat), .int .i64 (fx : Nat)] PTI12)) (.cells #[.int .u64 0, .int .i64 0] PTI12)
    simpa using this
  have hoW := HO.out (.cells #[.int .u64 (kx : Nat), .int .i64 (fx : Nat)] PTI12) (.cells #[.int .u64 0, .int .i64 0] PTI12)
  refine (HCALL.out _ hoW hst2).mono ?_
  rintro e w3 ⟨rfl, hr3, hk3⟩
  have hbr3 := hk3.same _ _ hbr
  obtain ⟨⟨r0, r1⟩, rf0, rf1⟩ := c2_at hbr3
  have hrr3 := (head_row hbr3).lt
  have hoF : Only [w.heap.size + 1] w3 ((w3.setCell ⟨w.heap.size + 1, 0, none⟩ (.int .u64 (ky : Nat))).setCell ⟨w.heap.size + 1, 1, none⟩ (.int .i64 (fy : Nat))) := ((Only.refl _ _).setCell (by simp) _).setCell (by simp) _
  have HF : Hid (R ((w3.setCell ⟨w.heap.size + 1, 0, none⟩ (.int .u64 (ky : Nat))).setCell ⟨w.heap.size + 1, 1, none⟩ (.int .i64 (fy : Nat))) ∧ KeepT PTI12 w ((w3.setCell ⟨w.heap.size + 1, 0, none⟩ (.int .u64 (ky : Nat))).setCell ⟨w.heap.size + 1, 1, none⟩ (.int .i64 (fy : Nat)))) := Lib.hid ⟨HR.out _ _ hr3 (hoF.below (by simp) (by omega)) (fun g cs t m hg ht => (hoF.block g (Array.getElem?_eq_some_iff.1 hg).1 (fun hm => by
      rw [List.mem_singleton] at hm
      subst hm
      rw [hbr3] at hg
      injection hg with hg
      injection hg with _ hg
      exact ht hg.symm)).trans hg), ⟨by have := hk3.size; simp at this ⊢; omega, fun g cs hg => by
      have hgl := (Array.getElem?_eq_some_iff.1 hg).1
      have h5 : g ≠ n + 1 + 1 + 1 := fun e => by
        rw [e, HHT.out.s] at hg
        injection hg with hg
        injection hg with _ hg
        exact absurd hg (by decide)
      exact (hoF.block g (Nat.lt_of_lt_of_le hgl (by have := hk3.size; simp at this; omega)) (by simp; omega)).trans (hk3.same g cs ((hoW.block g hgl (by simpa using h5)).trans hg))⟩⟩
  clear hr3 hk3 hbr3 hbr hst2 hoW hoF HCALL HR HHT HENT HST HO
  go_wp2
  exact bodyPost_ret (v := .tuple #[.agg #[.int .u64 (ky : Nat), .int .i64 (fy : Nat)], .bool b]) (by simp [results, Try.results80, go_sem, r0, r1]) rfl ⟨rfl, HF.out⟩
end
end Go.Proofs.Ytjfhapobbglbpaa
