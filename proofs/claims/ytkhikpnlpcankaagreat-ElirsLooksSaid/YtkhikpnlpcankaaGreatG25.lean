/- Words and walks: LiC3 LiC4. -/
import Derived.Test.YtkhikpnlpcankaaGreatG21
import Derived.Test.YtkhikpnlpcankaaGreatG24
namespace Go.Proofs.YtkhikpnlpcankaaGreat
open Go Go.RowKit Go.Deep
set_option maxRecDepth 8000
section
variable {w : World} {n kind seen most : Nat} {fv : Value}
set_option maxHeartbeats 2000000 in
theorem behind1_other (h : Bh w n kind seen most fv) (x : It) (hx : x.f ≠ kind) : Calls Tryz.prog 122 #[.agg #[.int .u64 (x.key : Nat), .int .i64 (x.f : Nat)], .pointer (some ⟨n, 0, none⟩), .pointer (some ⟨n + 1 + 1 + 1, 0, none⟩), .pointer (some ⟨n + 1, 0, none⟩), .pointer (some ⟨n + 1 + 1, 0, none⟩)] w fun e w' => e = .returned (.tuple #[.agg #[.int .u64 (x.key : Nat), .int .i64 (x.f : Nat)], .bool true]) ∧ Below w.heap.size w w' := by
  obtain ⟨kx, fx⟩ := x
  dsimp only at hx ⊢
  have hlt := (head_row h.s).lt
  have hk := (head_row h.k).cell (i := 0) (by simp)
  have hm := (head_row h.m).cell (i := 0) (by simp)
  have hf := (head_row h.f).cell (i := 0) (by simp)
  have hs0 := (head_row h.s).cell (i := 0) (by simp)
  have hsf := (head_row h.s).frozen 0
  have hn1 : n ≠ w.heap.size := by omega
  have hn2 : n ≠ w.heap.size + 1 := by omega
  have hn3 : n + 1 ≠ w.heap.size := by omega
  have hn4 : n + 1 ≠ w.heap.size + 1 := by omega
  have hn5 : n + 1 + 1 ≠ w.heap.size := by omega
  have hn6 : n + 1 + 1 ≠ w.heap.size + 1 := by omega
  have hn7 : n + 1 + 1 + 1 ≠ w.heap.size := by omega
  have hn8 : n + 1 + 1 + 1 ≠ w.heap.size + 1 := by omega
  have hn9 : w.heap.size ≠ n + 1 + 1 + 1 := by omega
  have hn10 : w.heap.size + 1 ≠ n + 1 + 1 + 1 := by omega
  have hl1 : n < w.heap.size := by omega
  have hl2 : n + 1 < w.heap.size := by omega
  have hl3 : n + 1 + 1 < w.heap.size := by omega
  have hxI : ((fx : Int) != (kind : Int)) = true := by rw [bne_iff_ne]; omega
  have HB := Lib.hid (low_two w)
  clear h hx
  go_enter Tryz.func122, Tryz.ntmps122
  go_wp2
  exact bodyPost_ret (v := .tuple #[.agg #[.int .u64 (kx : Nat), .int .i64 (fx : Nat)], .bool true]) (by simp [results, Tryz.results122, go_sem]) rfl ⟨rfl, HB.out _ _⟩
set_option maxHeartbeats 2000000 in
theorem behind1_few (h : Bh w n kind seen most fv) (x : It) (hx : x.f = kind) (hs : seen + 1 ≤ most) (hb : most ≤ 100000000) : Calls Tryz.prog 122 #[.agg #[.int .u64 (x.key : Nat), .int .i64 (x.f : Nat)], .pointer (some ⟨n, 0, none⟩), .pointer (some ⟨n + 1 + 1 + 1, 0, none⟩), .pointer (some ⟨n + 1, 0, none⟩), .pointer (some ⟨n + 1 + 1, 0, none⟩)] w fun e w' => e = .returned (.tuple #[.agg #[.int .u64 (x.key : Nat), .int .i64 (x.f : Nat)], .bool true]) ∧ Only [n + 1 + 1 + 1] w w' ∧ w'.heap[n + 1 + 1 + 1]? = some (.cells #[.int .i64 ((seen + 1 : Nat) : Int)] 3 (0, 0)) := by
  obtain ⟨kx, fx⟩ := x
  dsimp only at hx ⊢
  have hlt := (head_row h.s).lt
  have hk := (head_row h.k).cell (i := 0) (by simp)
  have hm := (head_row h.m).cell (i := 0) (by simp)
  have hf := (head_row h.f).cell (i := 0) (by simp)
  have hs0 := (head_row h.s).cell (i := 0) (by simp)
  have hsf := (head_row h.s).frozen 0
  have hn1 : n ≠ w.heap.size := by omega
  have hn2 : n ≠ w.heap.size + 1 := by omega
  have hn3 : n + 1 ≠ w.heap.size := by omega
  have hn4 : n + 1 ≠ w.heap.size + 1 := by omega
  have hn5 : n + 1 + 1 ≠ w.heap.size := by omega
  have hn6 : n + 1 + 1 ≠ w.heap.size + 1 := by omega
  have hn7 : n + 1 + 1 + 1 ≠ w.heap.size := by omega
  have hn8 : n + 1 + 1 + 1 ≠ w.heap.size + 1 := by omega
  have hn9 : w.heap.size ≠ n + 1 + 1 + 1 := by omega
  have hn10 : w.heap.size + 1 ≠ n + 1 + 1 + 1 := by omega
  have hl1 : n < w.heap.size := by omega
  have hl2 : n + 1 < w.heap.size := by omega
  have hl3 : n + 1 + 1 < w.heap.size := by omega
  subst hx
  have hx0 : ((fx : Int) != (fx : Int)) = false := by simp
  have hsI : (seen : Int) + 1 ≤ (most : Int) := by omega
  have hbI : (most : Int) ≤ 100000000 := by omega
  have hst : Hid ((w.setCell ⟨n + 1 + 1 + 1, 0, none⟩ (.int .i64 ((seen : Int) + 1))).heap[n + 1 + 1 + 1]? = some (.cells #[.int .i64 ((seen + 1 : Nat) : Int)] 3 (0, 0))) := Lib.hid (by
    have e : ((seen : Int) + 1) = ((seen + 1 : Nat) : Int) := by omega
    rw [e]
    exact set_one h.s)
  have HO : Hid (∀ o1 o2, Only [n + 1 + 1 + 1] w (((w.setCell ⟨n + 1 + 1 + 1, 0, none⟩ (.int .i64 ((seen : Int) + 1))).alloc o1).alloc o2)) := Lib.hid (fun o1 o2 => (((Only.refl _ _).setCell (by simp) _).alloc _).alloc _)
  clear h
  go_enter Tryz.func122, Tryz.ntmps122
  go_wp2
  exact bodyPost_ret (v := .tuple #[.agg #[.int .u64 (kx : Nat), .int .i64 (fx : Nat)], .bool true]) (by simp [results, Tryz.results122, go_sem]) rfl ⟨rfl, HO.out _ _, by
    rw [Below.heap_alloc _ _ _ (by simp; omega), Below.heap_alloc _ _ _ (by simp; omega)]
    exact hst.out⟩
set_option maxHeartbeats 2000000 in
theorem behind1_more {fn : Nat} {caps : Array Value} {y : It} {b : Bool} {R : World → Prop} (h : Bh w n kind seen most (.func (.func fn) #[] caps)) (x : It) (hx : x.f = kind) (hs : most < seen + 1) (hb : seen ≤ 100000000)
    (ent : ∀ (args : Array Value) (W : World), (callFunc fn args).run Tryz.prog W = .ok (.enter fn args) W)
    (hcall : ∀ W, Only [n + 1 + 1 + 1] w W → W.heap[n + 1 + 1 + 1]? = some (.cells #[.int .i64 ((seen + 1 : Nat) : Int)] 3 (0, 0)) → Calls Tryz.prog fn (#[.agg #[.int .u64 (x.key : Nat), .int .i64 (x.f : Nat)]] ++ caps) W fun e W' => e = .returned (.tuple #[.agg #[.int .u64 (y.key : Nat), .int .i64 (y.f : Nat)], .bool b]) ∧ R W' ∧ KeepT PTI12 W W')
    (hR : ∀ W W', R W → Below w.heap.size W W' → Kt PTI12 W W' → R W') : Calls Tryz.prog 122 #[.agg #[.int .u64 (x.key : Nat), .int .i64 (x.f : Nat)], .pointer (some ⟨n, 0, none⟩), .pointer (some ⟨n + 1 + 1 + 1, 0, none⟩), .pointer (some ⟨n + 1, 0, none⟩), .pointer (some ⟨n + 1 + 1, 0, none⟩)] w fun e w' => e = .returned (.tuple #[.agg #[.int .u64 (y.key : Nat), .int .i64 (y.f : Nat)], .bool b]) ∧ R w' ∧ KeepT PTI12 w w' := by
  obtain ⟨ky, fy⟩ := y
  dsimp only at hcall ⊢
  obtain ⟨kx, fx⟩ := x
  dsimp only at hx ⊢
  have hlt := (head_row h.s).lt
  have hk := (head_row h.k).cell (i := 0) (by simp)
  have hm := (head_row h.m).cell (i := 0) (by simp)
  have hf := (head_row h.f).cell (i := 0) (by simp)
  have hs0 := (head_row h.s).cell (i := 0) (by simp)
  have hsf := (head_row h.s).frozen 0
  have hn1 : n ≠ w.heap.size := by omega
  have hn2 : n ≠ w.heap.size + 1 := by omega
  have hn3 : n + 1 ≠ w.heap.size := by omega
  have hn4 : n + 1 ≠ w.heap.size + 1 := by omega
  have hn5 : n + 1 + 1 ≠ w.heap.size := by omega
  have hn6 : n + 1 + 1 ≠ w.heap.size + 1 := by omega
  have hn7 : n + 1 + 1 + 1 ≠ w.heap.size := by omega
  have hn8 : n + 1 + 1 + 1 ≠ w.heap.size + 1 := by omega
  have hn9 : w.heap.size ≠ n + 1 + 1 + 1 := by omega
  have hn10 : w.heap.size + 1 ≠ n + 1 + 1 + 1 := by omega
  have hl1 : n < w.heap.size := by omega
  have hl2 : n + 1 < w.heap.size := by omega
  have hl3 : n + 1 + 1 < w.heap.size := by omega
  subst hx
  have hx0 : ((fx : Int) != (fx : Int)) = false := by simp
  have hsI : ¬ (seen : Int) + 1 ≤ (most : Int) := by omega
  have hbI : (seen : Int) ≤ 100000000 := by omega
  have HST : Hid ((w.setCell ⟨n + 1 + 1 + 1, 0, none⟩ (.int .i64 ((seen : Int) + 1))).heap[n + 1 + 1 + 1]? = some (.cells #[.int .i64 ((seen + 1 : Nat) : Int)] 3 (0, 0))) := Lib.hid (by
    have e : ((seen : Int) + 1) = ((seen + 1 : Nat) : Int) := by omega
    rw [e]
    exact set_one h.s)
  have HO : Hid (∀ o1 o2, Only [n + 1 + 1 + 1] w (((w.setCell ⟨n + 1 + 1 + 1, 0, none⟩ (.int .i64 ((seen : Int) + 1))).alloc o1).alloc o2)) := Lib.hid (fun o1 o2 => (((Only.refl _ _).setCell (by simp) _).alloc _).alloc _)
  have HENT := Lib.hid ent
  have HCALL := Lib.hid hcall
  have HR := Lib.hid hR
  have HHT := Lib.hid h
  clear h ent hcall hR
  go_enter Tryz.func122, Tryz.ntmps122
  go_wp2_with fail
  rw [HENT.out, Oper.upon_enter]
  have hst2 : (((w.setCell ⟨n + 1 + 1 + 1, 0, none⟩ (.int .i64 ((seen : Int) + 1))).alloc (.cells #[.int .u64 (kx : Nat), .int .i64 (fx : Nat)] PTI12)).alloc (.cells #[.int .u64 0, .int .i64 0] PTI12)).heap[n + 1 + 1 + 1]? = some (.cells #[.int .i64 ((seen + 1 : Nat) : Int)] 3 (0, 0)) := by
    rw [Below.heap_alloc _ _ _ (by simp; omega), Below.heap_alloc _ _ _ (by simp; omega)]
    exact HST.out
  have hbr : (((w.setCell ⟨n + 1 + 1 + 1, 0, none⟩ (.int .i64 ((seen : Int) + 1))).alloc (.cells #[.int .u64 (kx : Nat), .int .i64 (fx : Nat)] PTI12)).alloc (.cells #[.int .u64 0, .int .i64 0] PTI12)).heap[w.heap.size + 1]? = some (.cells #[.int .u64 0, .int .i64 0] PTI12 (0, 0)) := by
    have := heap_alloc_new ((w.setCell ⟨n + 1 + 1 + 1, 0, none⟩ (.int .i64 ((seen : Int) + 1))).alloc (.cells #[.int .u64 (kx : Nat), .int .i64 (fx : Nat)] PTI12)) (.cells #[.int .u64 0, .int .i64 0] PTI12)
    simpa using this
  have hoW := HO.out (.cells #[.int .u64 (kx : Nat), .int .i64 (fx : Nat)] PTI12) (.cells #[.int .u64 0, .int .i64 0] PTI12)
  refine (HCALL.out _ hoW hst2).mono ?_
  rintro e w3 ⟨rfl, hr3, hk3⟩
  have hbr3 := hk3.same _ _ hbr
  obtain ⟨⟨r0, r1⟩, rf0, rf1⟩ := c2_at hbr3
  have hrr3 := (head_row hbr3).lt
  have hoF : Only [w.heap.size + 1] w3 ((w3.setCell ⟨w.heap.size + 1, 0, none⟩ (.int .u64 (ky : Nat))).setCell ⟨w.heap.size + 1, 1, none⟩ (.int .i64 (fy : Nat))) := ((Only.refl _ _).setCell (by simp) _).setCell (by simp) _
  have HF : Hid (R ((w3.setCell ⟨w.heap.size + 1, 0, none⟩ (.int .u64 (ky : Nat))).setCell ⟨w.heap.size + 1, 1, none⟩ (.int .i64 (fy : Nat))) ∧ KeepT PTI12 w ((w3.setCell ⟨w.heap.size + 1, 0, none⟩ (.int .u64 (ky : Nat))).setCell ⟨w.heap.size + 1, 1, none⟩ (.int .i64 (fy : Nat)))) := Lib.hid ⟨HR.out _ _ hr3 (hoF.below (by simp) (by omega)) (fun g cs t m hg ht => (hoF.block g (Array.getElem?_eq_some_iff.1 hg).1 (fun hm => by
      rw [List.mem_singleton] at hm
      subst hm
      rw [hbr3] at hg
      injection hg with hg
      injection hg with _ hg
      exact ht hg.symm)).trans hg), ⟨by have := hk3.size; simp at this ⊢; omega, fun g cs hg => by
      have hgl := (Array.getElem?_eq_some_iff.1 hg).1
      have h5 : g ≠ n + 1 + 1 + 1 := fun e => by
        rw [e, HHT.out.s] at hg
        injection hg with hg
        injection hg with _ hg
        exact absurd hg (by decide)
      exact (hoF.block g (Nat.lt_of_lt_of_le hgl (by have := hk3.size; simp at this; omega)) (by simp; omega)).trans (hk3.same g cs ((hoW.block g hgl (by simpa using h5)).trans hg))⟩⟩
  clear hr3 hk3 hbr3 hbr hst2 hoW hoF HCALL HR HHT HENT HST HO
  go_wp2
  exact bodyPost_ret (v := .tuple #[.agg #[.int .u64 (ky : Nat), .int .i64 (fy : Nat)], .bool b]) (by simp [results, Tryz.results122, go_sem, r0, r1]) rfl ⟨rfl, HF.out⟩
end
set_option maxRecDepth 8000
def gW (k : Nat) (xs : List It) (i : Nat) : It × Bool := (xs.getD i ⟨0, 0⟩, !decide ((xs.getD i ⟨0, 0⟩).key = k))
def gG (ks : List Nat) (xs : List It) (i : Nat) : It × Bool := (if (xs.getD i ⟨0, 0⟩).key ∈ ks then ⟨(xs.getD i ⟨0, 0⟩).key, 0⟩ else xs.getD i ⟨0, 0⟩, true)
def gF (c : Nat) (xs : List It) (i : Nat) : It × Bool := (xs.getD i ⟨0, 0⟩, !(decide ((xs.getD i ⟨0, 0⟩).f = 0) && decide (c < nk 0 (xs.take (i + 1)))))
def gC (r : Nat) (xs : List It) (i : Nat) : It × Bool := (if (xs.getD i ⟨0, 0⟩).f = 2 ∧ r < nk 2 (xs.take (i + 1)) then ⟨(xs.getD i ⟨0, 0⟩).key, 1⟩ else xs.getD i ⟨0, 0⟩, true)
section
variable {xs : List It} {i k : Nat}
theorem getD_at (hi : i < xs.length) : xs.getD i ⟨0, 0⟩ = xs[i] := by rw [List.getD_eq_getElem?_getD, List.getElem?_eq_getElem hi]; rfl
theorem res_W : ∀ i, i ≤ xs.length → res (gW k xs) i = wi k (xs.take i)
  | 0, _ => by simp [res, wi]
  | i + 1, h => by
    have hi : i < xs.length := h
    rw [res, res_W i (by omega), List.take_succ_eq_append_getElem hi, wi_append]
    congr 1
    unfold gW
    rw [getD_at hi]
    unfold wi
    by_cases e : xs[i].key = k <;> simp [e]
theorem res_G {ks : List Nat} : ∀ i, i ≤ xs.length → res (gG ks xs) i = goneK ks (xs.take i)
  | 0, _ => by simp [res, goneK]
  | i + 1, h => by
    have hi : i < xs.length := h
    rw [res, res_G i (by omega), List.take_succ_eq_append_getElem hi]
    unfold goneK
    rw [List.map_append]
    congr 1
    unfold gG
    rw [getD_at hi]
    simp
theorem nk_take (f : Nat) (hi : i < xs.length) : nk f (xs.take (i + 1)) = nk f (xs.take i) + if xs[i].f = f then 1 else 0 := by
  rw [List.take_succ_eq_append_getElem hi, nk_snoc]
theorem res_F {c : Nat} : ∀ i, i ≤ xs.length → res (gF c xs) i = dropK 0 c (xs.take i)
  | 0, _ => by simp [res, dropK]
  | i + 1, h => by
    have hi : i < xs.length := h
    have hn := nk_take 0 hi
    rw [res, res_F i (by omega)]
    unfold gF
    rw [getD_at hi, hn, List.take_succ_eq_append_getElem hi, dropK_append]
    congr 1
    rw [dropK]
    by_cases e : xs[i].f = 0
    · rw [if_pos e, if_pos e]
      by_cases hc : c < nk 0 (xs.take i) + 1
      · simp [e, hc, dropK, show c - nk 0 (xs.take i) = 0 by omega]
      · simp [e, hc, dropK, show ¬ c - nk 0 (xs.take i) = 0 by omega]
    · rw [if_neg e]
      simp [e, dropK]
theorem res_C {r : Nat} : ∀ i, i ≤ xs.length → res (gC r xs) i = coolK r (xs.take i)
  | 0, _ => by simp [res, coolK]
  | i + 1, h => by
    have hi : i < xs.length := h
    have hn := nk_take 2 hi
    rw [res, res_C i (by omega)]
    unfold gC
    rw [getD_at hi, hn, List.take_succ_eq_append_getElem hi, coolK_append]
    congr 1
    rw [coolK]
    by_cases e : xs[i].f = 2
    · rw [if_pos e, if_pos e]
      by_cases hc : r < nk 2 (xs.take i) + 1
      · simp [e, hc, coolK, show r - nk 2 (xs.take i) = 0 by omega]
      · simp [e, hc, coolK, show ¬ r - nk 2 (xs.take i) = 0 by omega]
    · rw [if_neg e]
      simp [e, coolK]
theorem coolO_next {r : Nat} (hi : i < xs.length) : coolO r (xs.take (i + 1)) = coolO r (xs.take i) ++ (if xs[i].f = 2 ∧ r < nk 2 (xs.take i) + 1 then [xs[i].key] else []) := by
  rw [List.take_succ_eq_append_getElem hi, coolO_append]
  congr 1
  rw [coolO]
  by_cases e : xs[i].f = 2
  · rw [if_pos e]
    by_cases hc : r < nk 2 (xs.take i) + 1
    · simp [e, hc, coolO, show r - nk 2 (xs.take i) = 0 by omega]
    · simp [e, hc, coolO, show ¬ r - nk 2 (xs.take i) = 0 by omega]
  · rw [if_neg e]
    simp [e, coolO]
end
section
variable {w : World} {u : Value} {xs : List It}
theorem chg_without (h : IV w u xs) (hl : xs.length ≤ 10000000) {kb k : Nat} (hk : w.cell? ⟨kb, 0, none⟩ = some (.int .u64 (k : Nat))) (hkb : kb < w.heap.size) : Calls Tryz.prog 100 #[u, .func (.func 104) #[] #[.pointer (some ⟨kb, 0, none⟩)]] w (RetP w (wi k xs)) := by
  refine (changed_walk (g := gW k xs) (Inv := fun _ W => Below w.heap.size w W) ⟨fun _ _ h => h.size, fun _ _ hb => h.below hb, fun _ _ _ h1 h2 _ => h1.trans h2, fun _ _ => rfl, fun i hi W hb => ?_⟩ hl (Below.refl _ _)).mono ?_
  · refine (other12_walk ((hb.cell (p := ⟨kb, 0, none⟩) hkb).trans hk) (Nat.lt_of_lt_of_le hkb hb.size) xs[i]).mono ?_
    rintro e w' ⟨rfl, hb2⟩
    refine ⟨?_, hb.trans (hb2.mono hb.size), KeepT.of_below hb2⟩
    unfold gW
    rw [getD_at hi]
  · rintro e w' ⟨v, rfl, ho, hb⟩
    rw [res_W _ (Nat.le_refl _), List.take_length] at ho
    exact ⟨v, rfl, hb, ho⟩
theorem chg_gone (h : IV w u xs) (hl : xs.length ≤ 10000000) (hkb : ∀ x ∈ xs, x.key < 18446744073709551616) {mp mb : Nat} {L : List Nat} (hm : w.cell? ⟨mp, 0, none⟩ = some (.map (some mb))) (hmp : mp < w.heap.size) (hL : MapHas w mb L) : Calls Tryz.prog 100 #[u, .func (.func 101) #[] #[.pointer (some ⟨mp, 0, none⟩)]] w (RetP w (goneK L xs)) := by
  have hmb := hL.lt
  refine (changed_walk (g := gG L xs) (Inv := fun _ W => Below w.heap.size w W) ⟨fun _ _ h => h.size, fun _ _ hb => h.below hb, fun _ _ _ h1 h2 _ => h1.trans h2, fun _ _ => rfl, fun i hi W hb => ?_⟩ hl (Below.refl _ _)).mono ?_
  · refine (evict1_walk ((hb.cell (p := ⟨mp, 0, none⟩) hmp).trans hm) (Nat.lt_of_lt_of_le hmp hb.size) (hL.keep (hb.block mb hmb)) xs[i] (hkb _ (List.getElem_mem hi))).mono ?_
    rintro e w' ⟨rfl, hb2⟩
    refine ⟨?_, hb.trans (hb2.mono hb.size), KeepT.of_below hb2⟩
    unfold gG
    rw [getD_at hi]
  · rintro e w' ⟨v, rfl, ho, hb⟩
    rw [res_G _ (Nat.le_refl _), List.take_length] at ho
    exact ⟨v, rfl, hb, ho⟩
theorem Bh.only {w w' : World} {n kind seen seen' most : Nat} {fv : Value} (h : Bh w n kind seen most fv) (ho : Only [n + 1 + 1 + 1] w w') (hs : w'.heap[n + 1 + 1 + 1]? = some (.cells #[.int .i64 (seen' : Nat)] 3 (0, 0))) : Bh w' n kind seen' most fv :=
  ⟨(ho.block _ (head_row h.k).lt (by simp; omega)).trans h.k, (ho.block _ (head_row h.m).lt (by simp)).trans h.m, (ho.block _ (head_row h.f).lt (by simp)).trans h.f, hs⟩
theorem Bh.bx {n kind seen most : Nat} {fv : Value} (h : Bh w n kind seen most fv) : ∀ g ∈ [n + 1 + 1 + 1], Bx w g := fun g hg => by
  rw [List.mem_singleton] at hg
  subst hg
  exact ⟨_, _, h.s, rfl, by decide⟩
theorem only_then {S : List Nat} {w W W' : World} (h : Only S w W) (hb : Below w.heap.size W W') : Only S w W' :=
  ⟨hb.os.trans h.os, hb.tape.trans h.tape, hb.output.trans h.output, Nat.le_trans h.size hb.size, fun k hk hS => (hb.block k hk).trans (h.block k hk hS)⟩
theorem Bh.stay {w W W' : World} {n kind seen most : Nat} {fv : Value} (h : Bh W n kind seen most fv) (hn : n + 1 + 1 + 1 < w.heap.size) (hb : Below w.heap.size W W') : Bh W' n kind seen most fv :=
  ⟨(hb.block _ (by omega)).trans h.k, (hb.block _ (by omega)).trans h.m, (hb.block _ (by omega)).trans h.f, (hb.block _ (by omega)).trans h.s⟩
theorem KeepT.of_only {W W' : World} {n : Nat} {cs : Array Value} (ho : Only [n] W W') (hn : W.heap[n]? = some (.cells cs 3 (0, 0))) : KeepT PTI12 W W' := ⟨ho.size, fun g cs' hg => (ho.block g (Array.getElem?_eq_some_iff.1 hg).1 (fun hm => by
  rw [List.mem_singleton] at hm
  subst hm
  rw [hn] at hg
  injection hg with hg
  injection hg with _ hg
  exact absurd hg (by decide))).trans hg⟩
theorem chg_forget (h : IV w u xs) (hl : xs.length ≤ 10000000) {n c : Nat} (hc : c ≤ 100000000) (hB : Bh w n 0 0 c (.func (.func 103) #[] #[])) : Calls Tryz.prog 100 #[u, .func (.func 122) #[] (capsB n)] w fun e w' => ∃ v, e = .returned v ∧ Only [n + 1 + 1 + 1] w w' ∧ w'.ownsRow w.heap.size PTI12 2 v (dropK 0 c xs).length (itL (dropK 0 c xs)) := by
  have hn := (head_row hB.s).lt
  refine (changed_walk (g := gF c xs) (Inv := fun i W => Only [n + 1 + 1 + 1] w W ∧ Bh W n 0 (nk 0 (xs.take i)) c (.func (.func 103) #[] #[])) ⟨fun _ _ h => h.1.size, fun _ _ hb => h.only hb.1 hB.bx, fun i W W' h1 h2 _ => ⟨only_then h1.1 h2, h1.2.stay hn h2⟩, fun _ _ => rfl, fun i hi W hb => ?_⟩ hl ⟨Only.refl _ _, hB⟩).mono ?_
  · have hnx := nk_take 0 hi
    have hle : nk 0 (xs.take i) ≤ 100000000 := by
      have h1 : nk 0 (xs.take i) ≤ (xs.take i).length := List.countP_le_length
      rw [List.length_take] at h1
      omega
    by_cases e : xs[i].f = 0
    · rw [if_pos e] at hnx
      by_cases hs : nk 0 (xs.take i) + 1 ≤ c
      · refine (behind1_few hb.2 xs[i] e hs hc).mono ?_
        rintro e' w' ⟨rfl, ho, hs2⟩
        refine ⟨?_, ⟨hb.1.trans ho (by simp), hb.2.only ho (by rw [hnx]; exact hs2)⟩, KeepT.of_only ho hb.2.s⟩
        unfold gF
        rw [getD_at hi, hnx]
        simp [show ¬ c < nk 0 (xs.take i) + 1 by omega]
      · refine (behind1_more (y := xs[i]) (b := false) (R := fun W' => Only [n + 1 + 1 + 1] w W' ∧ Bh W' n 0 (nk 0 (xs.take (i + 1))) c (.func (.func 103) #[] #[])) hb.2 xs[i] e (by omega) hle (fun _ _ => rfl) (fun W1 ho hs2 => ?_) (fun W1 W2 h1 h2 _ => ⟨only_then h1.1 (h2.mono hb.1.size), h1.2.stay (w := w) hn (h2.mono hb.1.size)⟩)).mono ?_
        · refine (forget1_walk xs[i]).mono ?_
          rintro e' w' ⟨rfl, hb2⟩
          have hB1 : Bh W1 n 0 (nk 0 (xs.take (i + 1))) c (.func (.func 103) #[] #[]) := hb.2.only ho (by rw [hnx]; exact hs2)
          exact ⟨rfl, ⟨(hb.1.trans ho (by simp)).trans (Only.of_below (S := []) hb2) (by simp), hB1.below hb2⟩, KeepT.of_below hb2⟩
        · rintro e' w' ⟨rfl, hR, hK⟩
          refine ⟨?_, hR, hK⟩
          unfold gF
          rw [getD_at hi, hnx]
          simp [e, show c < nk 0 (xs.take i) + 1 by omega]
    · rw [if_neg e, Nat.add_zero] at hnx
      refine (behind1_other hb.2 xs[i] e).mono ?_
      rintro e' w' ⟨rfl, hb2⟩
      refine ⟨?_, ⟨hb.1.trans (Only.of_below (S := []) hb2) (by simp), by rw [hnx]; exact hb.2.below hb2⟩, KeepT.of_below hb2⟩
      unfold gF
      rw [getD_at hi]
      simp [e]
  · rintro e w' ⟨v, rfl, ho, hb⟩
    rw [res_F _ (Nat.le_refl _), List.take_length] at ho
    exact ⟨v, rfl, hb.1, ho⟩
theorem CB.stay {w W W' : World} {B gc : Nat} {cs : List Nat} (h : CB W B gc cs) (hg : gc < w.heap.size) (hb : Below w.heap.size W W') (hk : Kt PTI12 W W') : CB W' B gc cs := by
  obtain ⟨v, h1, h2⟩ := h.row
  refine ⟨h.ge, v, (hb.block _ hg).trans h1, h2.1, h2.2.imp id ?_⟩
  rintro ⟨g, cap, cur, e1, e2, e3, e4⟩
  exact ⟨g, cap, cur, e1, e2, hk _ _ _ _ e3 (by decide), e4⟩
theorem CB.below {W W' : World} {B gc : Nat} {cs : List Nat} (h : CB W B gc cs) (hb : Below W.heap.size W W') : CB W' B gc cs := by
  obtain ⟨v, h1, h2⟩ := h.row
  exact ⟨h.ge, v, (hb.block _ (Array.getElem?_eq_some_iff.1 h1).1).trans h1, own_below h2 hb⟩
theorem CB.only {W W' : World} {B gc n : Nat} {cs : List Nat} {c0 : Array Value} (h : CB W B gc cs) (ho : Only [n] W W') (hn : W.heap[n]? = some (.cells c0 3 (0, 0))) : CB W' B gc cs := by
  obtain ⟨v, h1, h2⟩ := h.row
  refine ⟨h.ge, v, (ho.block _ (Array.getElem?_eq_some_iff.1 h1).1 (fun hm => ?_)).trans h1, own_other h2 ho (fun g hg cs' he => ?_)⟩
  · rw [List.mem_singleton] at hm
    subst hm
    rw [hn] at h1
    injection h1 with h1
    injection h1 with _ h1
    exact absurd h1 (by decide)
  · rw [List.mem_singleton] at hg
    subst hg
    rw [hn] at he
    injection he with he
    injection he with _ he
    exact absurd he (by decide)
theorem CB.ne {W : World} {B gc g : Nat} {cs : List Nat} {c0 : Array Value} {t : TypeId} (h : CB W B gc cs) (hg : W.heap[g]? = some (.cells c0 t (0, 0))) (ht : t ≠ KT) : g ≠ gc := fun e => by
  obtain ⟨v, h1, _⟩ := h.row
  rw [e, h1] at hg
  injection hg with hg
  injection hg with _ hg
  exact ht hg.symm
theorem Bh.keepB {W W' : World} {n kind seen most gc B : Nat} {cs : List Nat} {fv : Value} (h : Bh W n kind seen most fv) (hc : CB W B gc cs) (hk : KeepB gc W W') : Bh W' n kind seen most fv :=
  ⟨hk _ _ _ h.k (by decide) (hc.ne h.k (by decide)), hk _ _ _ h.m (by decide) (hc.ne h.m (by decide)), hk _ _ _ h.f (by decide) (hc.ne h.f (by decide)), hk _ _ _ h.s (by decide) (hc.ne h.s (by decide))⟩
theorem chg_cool {B n r gc : Nat} (hsrc : ∀ W, Below B w W → IV W u xs) (hl : xs.length ≤ 10000000) (hr : r ≤ 100000000) (hBw : B ≤ w.heap.size) (hBn : B ≤ n) (hB : Bh w n 2 0 r (.func (.func 106) #[] #[.pointer (some ⟨gc, 0, none⟩)])) (hC : CB w B gc []) : Calls Tryz.prog 100 #[u, .func (.func 122) #[] (capsB n)] w fun e w' => ∃ v, e = .returned v ∧ Below B w w' ∧ CB w' B gc (coolO r xs) ∧ w'.ownsRow w.heap.size PTI12 2 v (coolK r xs).length (itL (coolK r xs)) := by
  have hn := (head_row hB.s).lt
  have hg : gc < w.heap.size := by
    obtain ⟨v, h1, _⟩ := hC.row
    exact (Array.getElem?_eq_some_iff.1 h1).1
  refine (changed_walk (g := gC r xs) (Inv := fun i W => Below B w W ∧ w.heap.size ≤ W.heap.size ∧ Bh W n 2 (nk 2 (xs.take i)) r (.func (.func 106) #[] #[.pointer (some ⟨gc, 0, none⟩)]) ∧ CB W B gc (coolO r (xs.take i))) ⟨fun _ _ h => h.2.1, fun _ _ hb => hsrc _ hb.1, fun i W W' h1 h2 h3 => ⟨h1.1.trans (h2.mono hBw), Nat.le_trans h1.2.1 h2.size, h1.2.2.1.stay hn h2, h1.2.2.2.stay hg h2 h3⟩, fun _ _ => rfl, fun i hi W hb => ?_⟩ hl ⟨Below.refl _ _, Nat.le_refl _, hB, hC⟩).mono ?_
  · obtain ⟨hb1, hb2, hb3, hb4⟩ := hb
    have hnx := nk_take 2 hi
    have hcx := coolO_next (r := r) hi
    have hle : nk 2 (xs.take i) ≤ 10000000 := by
      have h1 : nk 2 (xs.take i) ≤ (xs.take i).length := List.countP_le_length
      rw [List.length_take] at h1
      omega
    have hlo : (coolO r (xs.take i)).length ≤ 10000000 := by
      have h1 := coolO_len (xs.take i) r
      rw [List.length_take] at h1
      omega
    by_cases e : xs[i].f = 2
    · rw [if_pos e] at hnx
      by_cases hs : nk 2 (xs.take i) + 1 ≤ r
      · rw [if_neg (by omega), List.append_nil] at hcx
        refine (behind1_few hb3 xs[i] e hs hr).mono ?_
        rintro e' w' ⟨rfl, ho, hs2⟩
        refine ⟨?_, ⟨hb1.trans (ho.below (by simp; omega) (by omega)), Nat.le_trans hb2 ho.size, hb3.only ho (by rw [hnx]; exact hs2), by rw [hcx]; exact hb4.only ho hb3.s⟩, KeepT.of_only ho hb3.s⟩
        unfold gC
        rw [getD_at hi, hnx, if_neg (by omega)]
      · rw [if_pos ⟨e, by omega⟩] at hcx
        refine (behind1_more (y := ⟨xs[i].key, 1⟩) (b := true) (R := fun W' => Below B w W' ∧ w.heap.size ≤ W'.heap.size ∧ Bh W' n 2 (nk 2 (xs.take (i + 1))) r (.func (.func 106) #[] #[.pointer (some ⟨gc, 0, none⟩)]) ∧ CB W' B gc (coolO r (xs.take (i + 1)))) hb3 xs[i] e (by omega) (by omega) (fun _ _ => rfl) (fun W1 ho hs2 => ?_) (fun W1 W2 h1 h2 h3 => ⟨h1.1.trans (h2.mono (by omega)), Nat.le_trans h1.2.1 h2.size, h1.2.2.1.stay (w := w) hn (h2.mono hb2), h1.2.2.2.stay (w := w) hg (h2.mono hb2) h3⟩)).mono ?_
        · have hB1 : Bh W1 n 2 (nk 2 (xs.take (i + 1))) r (.func (.func 106) #[] #[.pointer (some ⟨gc, 0, none⟩)]) := hb3.only ho (by rw [hnx]; exact hs2)
          have hC1 := hb4.only ho hb3.s
          have hsz := ho.size
          refine (cool1_walk hC1 (by omega) hlo xs[i]).mono ?_
          rintro e' w' ⟨rfl, hc2, hbz, hkz⟩
          refine ⟨rfl, ⟨(hb1.trans (ho.below (by simp; omega) (by omega))).trans hbz, by have := hbz.size; omega, hB1.keepB hC1 hkz, by rw [hcx]; exact hc2⟩, ⟨hbz.size, fun g cs hg2 => hkz _ _ _ hg2 (by decide) (hC1.ne hg2 (by decide))⟩⟩
        · rintro e' w' ⟨rfl, hR, hK⟩
          refine ⟨?_, hR, hK⟩
          unfold gC
          rw [getD_at hi, hnx, if_pos ⟨e, by omega⟩]
    · rw [if_neg e, Nat.add_zero] at hnx
      rw [if_neg (fun h => e h.1), List.append_nil] at hcx
      refine (behind1_other hb3 xs[i] e).mono ?_
      rintro e' w' ⟨rfl, hbz⟩
      refine ⟨?_, ⟨hb1.trans (hbz.mono (by omega)), Nat.le_trans hb2 hbz.size, by rw [hnx]; exact hb3.below hbz, by rw [hcx]; exact hb4.below hbz⟩, KeepT.of_below hbz⟩
      unfold gC
      rw [getD_at hi, if_neg (fun h => e h.1)]
  · rintro e w' ⟨v, rfl, ho, hb1, hb2, hb3, hb4⟩
    rw [res_C _ (Nat.le_refl _), List.take_length] at ho
    rw [List.take_length] at hb4
    exact ⟨v, rfl, hb1, hb4, ho⟩
end
end Go.Proofs.YtkhikpnlpcankaaGreat
