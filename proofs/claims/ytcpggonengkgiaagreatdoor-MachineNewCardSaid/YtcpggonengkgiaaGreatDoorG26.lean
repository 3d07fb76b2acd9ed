/- Words and walks: LiC4 LiG. -/
import Derived.Test.YtcpggonengkgiaaGreatDoorG25
/- Inter-reference recency, the program's own: ways through items, with each closure. -/
namespace Go.Proofs.YtcpggonengkgiaaGreatDoor
open Go Go.RowKit Go.Deep
set_option maxRecDepth 8000
def gW (k : Nat) (xs : List It) (i : Nat) : It × Bool := (xs.getD i ⟨0, 0⟩, !decide ((xs.getD i ⟨0, 0⟩).key = k))
def gG (ks : List Nat) (xs : List It) (i : Nat) : It × Bool := (if (xs.getD i ⟨0, 0⟩).key ∈ ks then ⟨(xs.getD i ⟨0, 0⟩).key, 0⟩ else xs.getD i ⟨0, 0⟩, true)
def gF (c : Nat) (xs : List It) (i : Nat) : It × Bool := (xs.getD i ⟨0, 0⟩, !(decide ((xs.getD i ⟨0, 0⟩).f = 0) && decide (c < nk 0 (xs.take (i + 1)))))
def gC (r : Nat) (xs : List It) (i : Nat) : It × Bool := (if (xs.getD i ⟨0, 0⟩).f = 2 ∧ r < nk 2 (xs.take (i + 1)) then ⟨(xs.getD i ⟨0, 0⟩).key, 1⟩ else xs.getD i ⟨0, 0⟩, true)
section
variable {xs : List It} {i k : Nat}
theorem getD_at (hi : i < xs.length) : xs.getD i ⟨0, 0⟩ = xs[i] := by rw [List.getD_eq_getElem?_getD, List.getElem?_eq_getElem hi]; rfl
theorem res_W : ∀ i, i ≤ xs.length → res (gW k xs) i = wi k (xs.take i)
  | 0, _ => by simp [res, wi]
  | i + 1, h => by
    have hi : i < xs.length := h
    rw [res, res_W i (by omega), List.take_succ_eq_append_getElem hi, wi_append]
    congr 1
    unfold gW
    rw [getD_at hi]
    unfold wi
    by_cases e : xs[i].key = k <;> simp [e]
theorem res_G {ks : List Nat} : ∀ i, i ≤ xs.length → res (gG ks xs) i = goneK ks (xs.take i)
  | 0, _ => by simp [res, goneK]
  | i + 1, h => by
    have hi : i < xs.length := h
    rw [res, res_G i (by omega), List.take_succ_eq_append_getElem hi]
    unfold goneK
    rw [List.map_append]
    congr 1
    unfold gG
    rw [getD_at hi]
    simp
theorem nk_take (f : Nat) (hi : i < xs.length) : nk f (xs.take (i + 1)) = nk f (xs.take i) + if xs[i].f = f then 1 else 0 := by
  rw [List.take_succ_eq_append_getElem hi, nk_snoc]
theorem res_F {c : Nat} : ∀ i, i ≤ xs.length → res (gF c xs) i = dropK 0 c (xs.take i)
  | 0, _ => by simp [res, dropK]
  | i + 1, h => by
    have hi : i < xs.length := h
    have hn := nk_take 0 hi
    rw [res, res_F i (by omega)]
    unfold gF
    rw [getD_at hi, hn, List.take_succ_eq_append_getElem hi, dropK_append]
    congr 1
    rw [dropK]
    by_cases e : xs[i].f = 0
    · rw [if_pos e, if_pos e]
      by_cases hc : c < nk 0 (xs.take i) + 1
      · simp [e, hc, dropK, show c - nk 0 (xs.take i) = 0 by omega]
      · simp [e, hc, dropK, show ¬ c - nk 0 (xs.take i) = 0 by omega]
    · rw [if_neg e]
      simp [e, dropK]
theorem res_C {r : Nat} : ∀ i, i ≤ xs.length → res (gC r xs) i = coolK r (xs.take i)
  | 0, _ => by simp [res, coolK]
  | i + 1, h => by
    have hi : i < xs.length := h
    have hn := nk_take 2 hi
    rw [res, res_C i (by omega)]
    unfold gC
    rw [getD_at hi, hn, List.take_succ_eq_append_getElem hi, coolK_append]
    congr 1
    rw [coolK]
    by_cases e : xs[i].f = 2
    · rw [if_pos e, if_pos e]
      by_cases hc : r < nk 2 (xs.take i) + 1
      · simp [e, hc, coolK, show r - nk 2 (xs.take i) = 0 by omega]
      · simp [e, hc, coolK, show ¬ r - nk 2 (xs.take i) = 0 by omega]
    · rw [if_neg e]
      simp [e, coolK]
theorem coolO_next {r : Nat} (hi : i < xs.length) : coolO r (xs.take (i + 1)) = coolO r (xs.take i) ++ (if xs[i].f = 2 ∧ r < nk 2 (xs.take i) + 1 then [xs[i].key] else []) := by
  rw [List.take_succ_eq_append_getElem hi, coolO_append]
  congr 1
  rw [coolO]
  by_cases e : xs[i].f = 2
  · rw [if_pos e]
    by_cases hc : r < nk 2 (xs.take i) + 1
    · simp [e, hc, coolO, show r - nk 2 (xs.take i) = 0 by omega]
    · simp [e, hc, coolO, show ¬ r - nk 2 (xs.take i) = 0 by omega]
  · rw [if_neg e]
    simp [e, coolO]
end
section
variable {w : World} {u : Value} {xs : List It}
theorem chg_without (h : IV w u xs) (hl : xs.length ≤ 10000000) {kb k : Nat} (hk : w.cell? ⟨kb, 0, none⟩ = some (.int .u64 (k : Nat))) (hkb : kb < w.heap.size) : Calls Tryz.prog 276 #[u, .func (.func 280) #[] #[.pointer (some ⟨kb, 0, none⟩)]] w (RetP w (wi k xs)) := by
  refine (changed_walk (g := gW k xs) (Inv := fun _ W => Below w.heap.size w W) ⟨fun _ _ h => h.size, fun _ _ hb => h.below hb, fun _ _ _ h1 h2 _ => h1.trans h2, fun _ _ => rfl, fun i hi W hb => ?_⟩ hl (Below.refl _ _)).mono ?_
  · refine (other12_walk ((hb.cell (p := ⟨kb, 0, none⟩) hkb).trans hk) (Nat.lt_of_lt_of_le hkb hb.size) xs[i]).mono ?_
    rintro e w' ⟨rfl, hb2⟩
    refine ⟨?_, hb.trans (hb2.mono hb.size), KeepT.of_below hb2⟩
    unfold gW
    rw [getD_at hi]
  · rintro e w' ⟨v, rfl, ho, hb⟩
    rw [res_W _ (Nat.le_refl _), List.take_length] at ho
    exact ⟨v, rfl, hb, ho⟩
theorem chg_gone (h : IV w u xs) (hl : xs.length ≤ 10000000) (hkb : ∀ x ∈ xs, x.key < 18446744073709551616) {mp mb : Nat} {L : List Nat} (hm : w.cell? ⟨mp, 0, none⟩ = some (.map (some mb))) (hmp : mp < w.heap.size) (hL : MapHas w mb L) : Calls Tryz.prog 276 #[u, .func (.func 277) #[] #[.pointer (some ⟨mp, 0, none⟩)]] w (RetP w (goneK L xs)) := by
  have hmb := hL.lt
  refine (changed_walk (g := gG L xs) (Inv := fun _ W => Below w.heap.size w W) ⟨fun _ _ h => h.size, fun _ _ hb => h.below hb, fun _ _ _ h1 h2 _ => h1.trans h2, fun _ _ => rfl, fun i hi W hb => ?_⟩ hl (Below.refl _ _)).mono ?_
  · refine (evict1_walk ((hb.cell (p := ⟨mp, 0, none⟩) hmp).trans hm) (Nat.lt_of_lt_of_le hmp hb.size) (hL.keep (hb.block mb hmb)) xs[i] (hkb _ (List.getElem_mem hi))).mono ?_
    rintro e w' ⟨rfl, hb2⟩
    refine ⟨?_, hb.trans (hb2.mono hb.size), KeepT.of_below hb2⟩
    unfold gG
    rw [getD_at hi]
  · rintro e w' ⟨v, rfl, ho, hb⟩
    rw [res_G _ (Nat.le_refl _), List.take_length] at ho
    exact ⟨v, rfl, hb, ho⟩
theorem Bh.only {w w' : World} {n kind seen seen' most : Nat} {fv : Value} (h : Bh w n kind seen most fv) (ho : Only [n + 1 + 1 + 1] w w') (hs : w'.heap[n + 1 + 1 + 1]? = some (.cells #[.int .i64 (seen' : Nat)] 3 (0, 0))) : Bh w' n kind seen' most fv :=
  ⟨(ho.block _ (head_row h.k).lt (by simp; omega)).trans h.k, (ho.block _ (head_row h.m).lt (by simp)).trans h.m, (ho.block _ (head_row h.f).lt (by simp)).trans h.f, hs⟩
theorem Bh.bx {n kind seen most : Nat} {fv : Value} (h : Bh w n kind seen most fv) : ∀ g ∈ [n + 1 + 1 + 1], Bx w g := fun g hg => by
  rw [List.mem_singleton] at hg
  subst hg
  exact ⟨_, _, h.s, rfl, by decide⟩
theorem only_then {S : List Nat} {w W W' : World} (h : Only S w W) (hb : Below w.heap.size W W') : Only S w W' :=
  ⟨hb.os.trans h.os, hb.tape.trans h.tape, hb.output.trans h.output, Nat.le_trans h.size hb.size, fun k hk hS => (hb.block k hk).trans (h.block k hk hS)⟩
theorem Bh.stay {w W W' : World} {n kind seen most : Nat} {fv : Value} (h : Bh W n kind seen most fv) (hn : n + 1 + 1 + 1 < w.heap.size) (hb : Below w.heap.size W W') : Bh W' n kind seen most fv :=
  ⟨(hb.block _ (by omega)).trans h.k, (hb.block _ (by omega)).trans h.m, (hb.block _ (by omega)).trans h.f, (hb.block _ (by omega)).trans h.s⟩
theorem KeepT.of_only {W W' : World} {n : Nat} {cs : Array Value} (ho : Only [n] W W') (hn : W.heap[n]? = some (.cells cs 3 (0, 0))) : KeepT PTI12 W W' := ⟨ho.size, fun g cs' hg => (ho.block g (Array.getElem?_eq_some_iff.1 hg).1 (fun hm => by
  rw [List.mem_singleton] at hm
  subst hm
  rw [hn] at hg
  injection hg with hg
  injection hg with _ hg
  exact absurd hg (by decide))).trans hg⟩
theorem chg_forget (h : IV w u xs) (hl : xs.length ≤ 10000000) {n c : Nat} (hc : c ≤ 100000000) (hB : Bh w n 0 0 c (.func (.func 279) #[] #[])) : Calls Tryz.prog 276 #[u, .func (.func 301) #[] (capsB n)] w fun e w' => ∃ v, e = .returned v ∧ Only [n + 1 + 1 + 1] w w' ∧ w'.ownsRow w.heap.size PTI12 2 v (dropK 0 c xs).length (itL (dropK 0 c xs)) := by
  have hn := (head_row hB.s).lt
  refine (changed_walk (g := gF c xs) (Inv := fun i W => Only [n + 1 + 1 + 1] w W ∧ Bh W n 0 (nk 0 (xs.take i)) c (.func (.func 279) #[] #[])) ⟨fun _ _ h => h.1.size, fun _ _ hb => h.only hb.1 hB.bx, fun i W W' h1 h2 _ => ⟨only_then h1.1 h2, h1.2.stay hn h2⟩, fun _ _ => rfl, fun i hi W hb => ?_⟩ hl ⟨Only.refl _ _, hB⟩).mono ?_
  · have hnx := nk_take 0 hi
    have hle : nk 0 (xs.take i) ≤ 100000000 := by
      have h1 : nk 0 (xs.take i) ≤ (xs.take i).length := List.countP_le_length
      rw [List.length_take] at h1
      omega
    by_cases e : xs[i].f = 0
    · rw [if_pos e] at hnx
      by_cases hs : nk 0 (xs.take i) + 1 ≤ c
      · refine (behind1_few hb.2 xs[i] e hs hc).mono ?_
        rintro e' w' ⟨rfl, ho, hs2⟩
        refine ⟨?_, ⟨hb.1.trans ho (by simp), hb.2.only ho (by rw [hnx]; exact hs2)⟩, KeepT.of_only ho hb.2.s⟩
        unfold gF
        rw [getD_at hi, hnx]
        simp [show ¬ c < nk 0 (xs.take i) + 1 by omega]
      · refine (behind1_more (y := xs[i]) (b := false) (R := fun W' => Only [n + 1 + 1 + 1] w W' ∧ Bh W' n 0 (nk 0 (xs.take (i + 1))) c (.func (.func 279) #[] #[])) hb.2 xs[i] e (by omega) hle (fun _ _ => rfl) (fun W1 ho hs2 => ?_) (fun W1 W2 h1 h2 _ => ⟨only_then h1.1 (h2.mono hb.1.size), h1.2.stay (w := w) hn (h2.mono hb.1.size)⟩)).mono ?_
        · refine (forget1_walk xs[i]).mono ?_
          rintro e' w' ⟨rfl, hb2⟩
          have hB1 : Bh W1 n 0 (nk 0 (xs.take (i + 1))) c (.func (.func 279) #[] #[]) := hb.2.only ho (by rw [hnx]; exact hs2)
          exact ⟨rfl, ⟨(hb.1.trans ho (by simp)).trans (Only.of_below (S := []) hb2) (by simp), hB1.below hb2⟩, KeepT.of_below hb2⟩
        · rintro e' w' ⟨rfl, hR, hK⟩
          refine ⟨?_, hR, hK⟩
          unfold gF
          rw [getD_at hi, hnx]
          simp [e, show c < nk 0 (xs.take i) + 1 by omega]
    · rw [if_neg e, Nat.add_zero] at hnx
      refine (behind1_other hb.2 xs[i] e).mono ?_
      rintro e' w' ⟨rfl, hb2⟩
      refine ⟨?_, ⟨hb.1.trans (Only.of_below (S := []) hb2) (by simp), by rw [hnx]; exact hb.2.below hb2⟩, KeepT.of_below hb2⟩
      unfold gF
      rw [getD_at hi]
      simp [e]
  · rintro e w' ⟨v, rfl, ho, hb⟩
    rw [res_F _ (Nat.le_refl _), List.take_length] at ho
    exact ⟨v, rfl, hb.1, ho⟩
theorem CB.stay {w W W' : World} {B gc : Nat} {cs : List Nat} (h : CB W B gc cs) (hg : gc < w.heap.size) (hb : Below w.heap.size W W') (hk : Kt PTI12 W W') : CB W' B gc cs := by
  obtain ⟨v, h1, h2⟩ := h.row
  refine ⟨h.ge, v, (hb.block _ hg).trans h1, h2.1, h2.2.imp id ?_⟩
  rintro ⟨g, cap, cur, e1, e2, e3, e4⟩
  exact ⟨g, cap, cur, e1, e2, hk _ _ _ _ e3 (by decide), e4⟩
theorem CB.below {W W' : World} {B gc : Nat} {cs : List Nat} (h : CB W B gc cs) (hb : Below W.heap.size W W') : CB W' B gc cs := by
  obtain ⟨v, h1, h2⟩ := h.row
  exact ⟨h.ge, v, (hb.block _ (Array.getElem?_eq_some_iff.1 h1).1).trans h1, own_below h2 hb⟩
theorem CB.only {W W' : World} {B gc n : Nat} {cs : List Nat} {c0 : Array Value} (h : CB W B gc cs) (ho : Only [n] W W') (hn : W.heap[n]? = some (.cells c0 3 (0, 0))) : CB W' B gc cs := by
  obtain ⟨v, h1, h2⟩ := h.row
  refine ⟨h.ge, v, (ho.block _ (Array.getElem?_eq_some_iff.1 h1).1 (fun hm => ?_)).trans h1, own_other h2 ho (fun g hg cs' he => ?_)⟩
  · rw [List.mem_singleton] at hm
    subst hm
    rw [hn] at h1
    injection h1 with h1
    injection h1 with _ h1
    exact absurd h1 (by decide)
  · rw [List.mem_singleton] at hg
    subst hg
    rw [hn] at he
    injection he with he
    injection he with _ he
    exact absurd he (by decide)
theorem CB.ne {W : World} {B gc g : Nat} {cs : List Nat} {c0 : Array Value} {t : TypeId} (h : CB W B gc cs) (hg : W.heap[g]? = some (.cells c0 t (0, 0))) (ht : t ≠ KT) : g ≠ gc := fun e => by
  obtain ⟨v, h1, _⟩ := h.row
  rw [e, h1] at hg
  injection hg with hg
  injection hg with _ hg
  exact ht hg.symm
theorem Bh.keepB {W W' : World} {n kind seen most gc B : Nat} {cs : List Nat} {fv : Value} (h : Bh W n kind seen most fv) (hc : CB W B gc cs) (hk : KeepB gc W W') : Bh W' n kind seen most fv :=
  ⟨hk _ _ _ h.k (by decide) (hc.ne h.k (by decide)), hk _ _ _ h.m (by decide) (hc.ne h.m (by decide)), hk _ _ _ h.f (by decide) (hc.ne h.f (by decide)), hk _ _ _ h.s (by decide) (hc.ne h.s (by decide))⟩
theorem chg_cool {B n r gc : Nat} (hsrc : ∀ W, Below B w W → IV W u xs) (hl : xs.length ≤ 10000000) (hr : r ≤ 100000000) (hBw : B ≤ w.heap.size) (hBn : B ≤ n) (hB : Bh w n 2 0 r (.func (.func 281) #[] #[.pointer (some ⟨gc, 0, none⟩)])) (hC : CB w B gc []) : Calls Tryz.prog 276 #[u, .func (.func 301) #[] (capsB n)] w fun e w' => ∃ v, e = .returned v ∧ Below B w w' ∧ CB w' B gc (coolO r xs) ∧ w'.ownsRow w.heap.size PTI12 2 v (coolK r xs).length (itL (coolK r xs)) := by
  have hn := (head_row hB.s).lt
  have hg : gc < w.heap.size := by
    obtain ⟨v, h1, _⟩ := hC.row
    exact (Array.getElem?_eq_some_iff.1 h1).1
  refine (changed_walk (g := gC r xs) (Inv := fun i W => Below B w W ∧ w.heap.size ≤ W.heap.size ∧ Bh W n 2 (nk 2 (xs.take i)) r (.func (.func 281) #[] #[.pointer (some ⟨gc, 0, none⟩)]) ∧ CB W B gc (coolO r (xs.take i))) ⟨fun _ _ h => h.2.1, fun _ _ hb => hsrc _ hb.1, fun i W W' h1 h2 h3 => ⟨h1.1.trans (h2.mono hBw), Nat.le_trans h1.2.1 h2.size, h1.2.2.1.stay hn h2, h1.2.2.2.stay hg h2 h3⟩, fun _ _ => rfl, fun i hi W hb => ?_⟩ hl ⟨Below.refl _ _, Nat.le_refl _, hB, hC⟩).mono ?_
  · obtain ⟨hb1, hb2, hb3, hb4⟩ := hb
    have hnx := nk_take 2 hi
    have hcx := coolO_next (r := r) hi
    have hle : nk 2 (xs.take i) ≤ 10000000 := by
      have h1 : nk 2 (xs.take i) ≤ (xs.take i).length := List.countP_le_length
      rw [List.length_take] at h1
      omega
    have hlo : (coolO r (xs.take i)).length ≤ 10000000 := by
      have h1 := coolO_len (xs.take i) r
      rw [List.length_take] at h1
      omega
    by_cases e : xs[i].f = 2
    · rw [if_pos e] at hnx
      by_cases hs : nk 2 (xs.take i) + 1 ≤ r
      · rw [if_neg (by omega), List.append_nil] at hcx
        refine (behind1_few hb3 xs[i] e hs hr).mono ?_
        rintro e' w' ⟨rfl, ho, hs2⟩
        refine ⟨?_, ⟨hb1.trans (ho.below (by simp; omega) (by omega)), Nat.le_trans hb2 ho.size, hb3.only ho (by rw [hnx]; exact hs2), by rw [hcx]; exact hb4.only ho hb3.s⟩, KeepT.of_only ho hb3.s⟩
        unfold gC
        rw [getD_at hi, hnx, if_neg (by omega)]
      · rw [if_pos ⟨e, by omega⟩] at hcx
        refine (behind1_more (y := ⟨xs[i].key, 1⟩) (b := true) (R := fun W' => Below B w W' ∧ w.heap.size ≤ W'.heap.size ∧ Bh W' n 2 (nk 2 (xs.take (i + 1))) r (.func (.func 281) #[] #[.pointer (some ⟨gc, 0, none⟩)]) ∧ CB W' B gc (coolO r (xs.take (i + 1)))) hb3 xs[i] e (by omega) (by omega) (fun _ _ => rfl) (fun W1 ho hs2 => ?_) (fun W1 W2 h1 h2 h3 => ⟨h1.1.trans (h2.mono (by omega)), Nat.le_trans h1.2.1 h2.size, h1.2.2.1.stay (w := w) hn (h2.mono hb2), h1.2.2.2.stay (w := w) hg (h2.mono hb2) h3⟩)).mono ?_
        · have hB1 : Bh W1 n 2 (nk 2 (xs.take (i + 1))) r (.func (.func 281) #[] #[.pointer (some ⟨gc, 0, none⟩)]) := hb3.only ho (by rw [hnx]; exact hs2)
          have hC1 := hb4.only ho hb3.s
          have hsz := ho.size
          refine (cool1_walk hC1 (by omega) hlo xs[i]).mono ?_
          rintro e' w' ⟨rfl, hc2, hbz, hkz⟩
          refine ⟨rfl, ⟨(hb1.trans (ho.below (by simp; omega) (by omega))).trans hbz, by have := hbz.size; omega, hB1.keepB hC1 hkz, by rw [hcx]; exact hc2⟩, ⟨hbz.size, fun g cs hg2 => hkz _ _ _ hg2 (by decide) (hC1.ne hg2 (by decide))⟩⟩
        · rintro e' w' ⟨rfl, hR, hK⟩
          refine ⟨?_, hR, hK⟩
          unfold gC
          rw [getD_at hi, hnx, if_pos ⟨e, by omega⟩]
    · rw [if_neg e, Nat.add_zero] at hnx
      rw [if_neg (fun h => e h.1), List.append_nil] at hcx
      refine (behind1_other hb3 xs[i] e).mono ?_
      rintro e' w' ⟨rfl, hbz⟩
      refine ⟨?_, ⟨hb1.trans (hbz.mono (by omega)), Nat.le_trans hb2 hbz.size, by rw [hnx]; exact hb3.below hbz, by rw [hcx]; exact hb4.below hbz⟩, KeepT.of_below hbz⟩
      unfold gC
      rw [getD_at hi, if_neg (fun h => e h.1)]
  · rintro e w' ⟨v, rfl, ho, hb1, hb2, hb3, hb4⟩
    rw [res_C _ (Nat.le_refl _), List.take_length] at ho
    rw [List.take_length] at hb4
    exact ⟨v, rfl, hb1, hb4, ho⟩
end
end Go.Proofs.YtcpggonengkgiaaGreatDoor
/- Inter-reference recency, the program's own: New, and what looks. -/
namespace Go.Proofs.YtcpggonengkgiaaGreatDoor
open Go Go.RowKit Go.Deep
set_option maxRecDepth 8000
def RevK12 (cur : Array Value) (ks : List Nat) (i : Nat) : Prop := ∀ p (hp : p < ks.length), cur[p]? = some (.int .u64 ((if p < i ∨ ks.length ≤ p + i then ks[ks.length - 1 - p]'(by omega) else ks[p] : Nat) : Int))
theorem RevK12.next {cur : Array Value} {ks : List Nat} {i j : Nat} (h : RevK12 cur ks i) (hij : i < j) (hn : i + j + 1 = ks.length) (hs : ks.length ≤ cur.size) :
    RevK12 ((cur.setIfInBounds i (.int .u64 ((ks[j]'(by omega) : Nat) : Int))).setIfInBounds j (.int .u64 ((ks[i]'(by omega) : Nat) : Int))) ks (i + 1) := fun p hp => by
  by_cases hpi : p = i
  · subst hpi
    rw [if_pos (by omega)]
    have e : ks.length - 1 - p = j := by omega
    simp only [e]
    rw [arr_set_other12 (by omega), arr_set_same12 (by omega)]
  · by_cases hpj : p = j
    · subst hpj
      rw [if_pos (by omega)]
      have e : ks.length - 1 - p = i := by omega
      simp only [e]
      rw [arr_set_same12 (by simp; omega)]
    · have h1 := h p hp
      rw [arr_set_other12 (by omega), arr_set_other12 (by omega)]
      by_cases hc : p < i ∨ ks.length ≤ p + i
      · rw [if_pos hc] at h1
        rw [if_pos (by omega)]
        exact h1
      · rw [if_neg hc] at h1
        rw [if_neg (by omega)]
        exact h1
def HoldK12 (cur : Array Value) (ks : List Nat) : Prop := ∀ i (h : i < ks.length), cur[i]? = some (.int .u64 (ks[i] : Nat))
def RkS12 (w wr : World) (g sz : Nat) (ks : List Nat) (i : Nat) : Prop := Only [g] w wr ∧ ∃ cur', wr.heap[g]? = some (.cells cur' 56 (0, 0)) ∧ cur'.size = sz ∧ RevK12 cur' ks i
theorem RkS12.next {w wr : World} {g sz i j : Nat} {ks : List Nat} (h : RkS12 w wr g sz ks i) (hij : i < j) (hn : i + j + 1 = ks.length) (hs : ks.length ≤ sz) {xi xj : Nat} (hi : ks[i]? = some xi) (hj : ks[j]? = some xj) :
    RkS12 w ((wr.setCell ⟨g, i, none⟩ (.int .u64 (xj : Nat))).setCell ⟨g, j, none⟩ (.int .u64 (xi : Nat))).drew g sz ks (i + 1) := by
  obtain ⟨ho, cur', hg', hs', hr'⟩ := h
  have h2 := RevK12.next hr' hij hn (by rw [hs']; exact hs)
  rw [List.getElem?_eq_getElem (by omega)] at hi hj
  injection hi with hi
  injection hj with hj
  subst hi hj
  exact ⟨((ho.setCell (by simp) _).setCell (by simp) _).drew, _, set_one (set_one hg'), by simpa using hs', h2⟩
section
variable {w : World}
set_option maxHeartbeats 2000000 in
theorem revK12_core {g c n : Nat} {cur : Array Value} {ks : List Nat} (hg : w.heap[g]? = some (.cells cur 56 (0, 0))) (hh : HoldK12 cur ks) (hn : ks.length = n + 1) (hs : n + 1 ≤ cur.size) (hl : n ≤ 100000000) :
    Calls Tryz.prog 266 #[.slice (some ⟨g, 0, none⟩) (n + 1) c] w fun e w' => e = .returned (.tuple #[]) ∧ Only [g] w w' ∧ ∃ cur', w'.heap[g]? = some (.cells cur' 56 (0, 0)) ∧ cur'.size = cur.size ∧ HoldK12 cur' ks.reverse := by
  have HI0 : Hid (RkS12 w w g cur.size ks 0) := Lib.hid ⟨Only.refl _ _, cur, hg, rfl, fun p hp => by
    rw [if_neg (by omega)]
    exact hh p hp⟩
  have HN := Lib.hid (And.intro hn hs)
  have hnI : (n : Int) ≤ 100000000 := by omega
  clear hg hh hn hs
  go_enter Tryz.func266, Tryz.ntmps266
  go_wp2_with fail
  go_loopg [2, 3] n (fun gg s2 s3 wr => ∃ (i j : Nat), i + j = n ∧ gg = j - i ∧ s2 = .int .i64 (i : Nat) ∧ s3 = .int .i64 (j : Nat) ∧ Hid (RkS12 w wr g cur.size ks i))
  case atStart => exact ⟨0, n, by omega, by omega, rfl, by go_num, HI0⟩
  case round =>
    obtain ⟨i, j, hij, hgg, rfl, rfl, HI⟩ := hrel
    by_cases hlt : i < j
    · have hltI : (i : Int) < (j : Int) := by omega
      have hi1 : (i : Int) < (n : Int) + 1 := by omega
      have hj1 : (j : Int) < (n : Int) + 1 := by omega
      obtain ⟨ho, cur', hg', hs', hr'⟩ := HI.out
      have hxl : i < ks.length := by have := HN.out.1; omega
      have hxj : j < ks.length := by have := HN.out.1; omega
      have pi0 := hr' i hxl
      have pj0 := hr' j hxj
      rw [if_neg (by have := HN.out.1; omega)] at pi0 pj0
      have hxI : ks[i]? = some ks[i] := List.getElem?_eq_getElem hxl
      have hxJ : ks[j]? = some ks[j] := List.getElem?_eq_getElem hxj
      have e0 := (cell_of_row wr g i cur' 56 (0, 0) hg').trans pi0
      have e2 := (cell_of_row wr g j cur' 56 (0, 0) hg').trans pj0
      have hro := head_row hg'
      have f0 := hro.frozen i
      have f2 := hro.frozen j
      have hglt := hro.lt
      obtain ⟨kj, hxjv⟩ : ∃ x, ks[j] = x := ⟨_, rfl⟩
      obtain ⟨ki, hxiv⟩ : ∃ x, ks[i] = x := ⟨_, rfl⟩
      rw [hxiv] at e0 hxI
      rw [hxjv] at e2 hxJ
      have HNX := Lib.hid (RkS12.next HI.out hlt (by have := HN.out.1; omega) (by have h2 := HN.out; rw [h2.1]; exact h2.2) hxI hxJ)
      have hne : i ≠ j := by omega
      clear ho hg' hs' hr' pi0 pj0 hro hxjv hxiv hxI hxJ hxl hxj HI
      go_wp2_with fail
      go_region
      go_wp2
      go_roundg (j - 1 - (i + 1))
      case measure => omega
      case rel => exact ⟨i + 1, j - 1, by omega, rfl, by go_num, congrArg (Value.int IntKind.i64) (by omega), HNX⟩
    · have hltI : ¬ (i : Int) < (j : Int) := by omega
      obtain ⟨ho, cur', hg', hs', hr'⟩ := HI.out
      have HF : Hid (Only [g] w wr ∧ ∃ cur', wr.heap[g]? = some (.cells cur' 56 (0, 0)) ∧ cur'.size = cur.size ∧ HoldK12 cur' ks.reverse) := Lib.hid ⟨ho, cur', hg', hs', fun p hp => by
        rw [List.length_reverse] at hp
        have h1 := hr' p hp
        rw [List.getElem_reverse]
        by_cases hc : p < i ∨ ks.length ≤ p + i
        · rw [if_pos hc] at h1
          exact h1
        · rw [if_neg hc] at h1
          have e : ks.length - 1 - p = p := by have := HN.out.1; omega
          simp only [e]
          exact h1⟩
      clear ho hg' hs' hr' HI
      go_wp2
      go_end0
      exact ⟨rfl, HF.out⟩
theorem revK12_nil (F : Option Addr) (c : Nat) : Calls Tryz.prog 266 #[.slice F 0 c] w fun e w' => e = .returned (.tuple #[]) ∧ w' = w := by
  go_enter Tryz.func266, Tryz.ntmps266
  go_wp2_with fail
  go_loopg [2, 3] 1 (fun gg s2 s3 wr => gg = 1 ∧ s2 = .int .i64 0 ∧ s3 = .int .i64 (-1) ∧ wr = w)
  case atStart => exact ⟨rfl, rfl, by go_num, rfl⟩
  case round =>
    obtain ⟨-, rfl, rfl, rfl⟩ := hrel
    go_wp2
    go_end0
    exact ⟨rfl, rfl⟩
theorem revK12_walk {B : Nat} {w0 : World} {v : Value} {ks : List Nat} (h : KO B w0 w v ks) (hB : B ≤ w.heap.size) (hl : ks.length ≤ 100000000) :
    Calls Tryz.prog 266 #[v] w fun e w' => e = .returned (.tuple #[]) ∧ KO B w0 w' v ks.reverse ∧ w.grownBy w' v.ownBlock := by
  rcases Nat.eq_zero_or_pos ks.length with h0 | h0
  · obtain rfl : ks = [] := List.length_eq_zero_iff.1 h0
    obtain ⟨F, c, rfl, _⟩ := h.kv.mem
    refine (revK12_nil F c).mono ?_
    rintro e w' ⟨rfl, rfl⟩
    exact ⟨rfl, h, World.grownBy.refl _ _⟩
  · rcases h.own.2 with ⟨rfl, h1⟩ | ⟨g, c, cur, rfl, hBg, hg, hle, hcm, hsz, htk⟩
    · omega
    · obtain ⟨n, hn⟩ : ∃ n, ks.length = n + 1 := ⟨ks.length - 1, by omega⟩
      have hh : HoldK12 cur ks := fun i hi => by
        have h2 : (u64L ks)[i]? = some (.int .u64 (ks[i] : Nat)) := by simp [u64L, hi]
        rw [← htk, List.getElem?_take, if_pos (by omega)] at h2
        simpa using h2
      have hr := revK12_core (c := c) hg hh hn (by omega) (by omega)
      rw [← hn] at hr
      refine hr.mono ?_
      rintro e w' ⟨rfl, ho, cur', hg', hs', hh'⟩
      refine ⟨rfl, ⟨h.low.trans (ho.below (by simpa using hBg) hB), ⟨by simp [u64L], .inr ⟨g, c, cur', by rw [List.length_reverse], hBg, hg', by rw [List.length_reverse]; exact hle, hcm, by rw [hs']; exact hsz, ?_⟩⟩⟩, ⟨ho.os, ho.tape, ho.output, ho.size, fun k hk hne => ho.block k hk (by simpa [Value.ownBlock] using fun e : k = g => hne (by simp [Value.ownBlock, e]))⟩⟩
      refine List.ext_getElem? (fun i => ?_)
      by_cases hi : i < ks.reverse.length
      · rw [List.getElem?_take, if_pos (by omega)]
        have h3 := hh' i hi
        rw [Array.getElem?_toList, h3]
        simp only [u64L]
        rw [List.getElem?_map, List.getElem?_eq_getElem hi]
        rfl
      · rw [List.getElem?_eq_none (by rw [List.length_take]; omega), List.getElem?_eq_none (by simp [u64L] at hi ⊢; omega)]
theorem bounded12_walk (n : Int) (hn1 : -9223372036854775808 ≤ n) (hn2 : n ≤ 9223372036854775807) :
    Calls Tryz.prog 213 #[.int .i64 n] w fun e w' => e = .returned (.int .i64 (capI n : Nat)) ∧ w = w' := by
  obtain ⟨c, hc⟩ : ∃ c, capI n = c := ⟨_, rfl⟩
  have HC := Lib.hid hc
  rw [hc]
  clear hc
  by_cases h1 : n < 1
  · have H : Hid ((1 : Int) = (c : Int)) := Lib.hid (by rw [← HC.out, capI, if_pos h1]; rfl)
    go_enter Tryz.func213, Tryz.ntmps213
    go_wp2
    go_ret
    exact ⟨by rw [H.out]; rfl, rfl⟩
  · by_cases h1e : n = 1
    · subst h1e
      have H : Hid ((1 : Int) = (c : Int)) := Lib.hid (by rw [← HC.out]; rfl)
      go_enter Tryz.func213, Tryz.ntmps213
      go_wp2
      go_ret
      exact ⟨by rw [H.out]; rfl, rfl⟩
    · have h1g : 1 < n := by omega
      by_cases h2 : 1048576 < n
      · have H : Hid ((1048576 : Int) = (c : Int)) := Lib.hid (by rw [← HC.out, capI, if_neg h1, if_pos h2]; rfl)
        clear h1 h1e
        go_enter Tryz.func213, Tryz.ntmps213
        go_wp2
        go_ret
        exact ⟨by rw [H.out]; rfl, rfl⟩
      · have H : Hid (n = (c : Int)) := Lib.hid (by rw [← HC.out, capI, if_neg h1, if_neg h2]; omega)
        clear h1 h1e
        by_cases h2e : n = 1048576
        · subst h2e
          go_enter Tryz.func213, Tryz.ntmps213
          go_wp2
          go_ret
          exact ⟨by rw [← H.out]; rfl, rfl⟩
        · have h2l : n < 1048576 := by omega
          clear h2e h2
          go_enter Tryz.func213, Tryz.ntmps213
          go_wp2
          go_ret
          exact ⟨by rw [← H.out]; rfl, rfl⟩
theorem hotroom_walk (c : Nat) (h1 : 1 ≤ c) (hc : c ≤ 1048576) : Calls Tryz.prog 219 #[.int .i64 (c : Nat)] w fun e w' => e = .returned (.int .i64 (roomH c : Nat)) ∧ w = w' := by
  obtain ⟨r, hr⟩ : ∃ r, roomH c = r := ⟨_, rfl⟩
  have HR := Lib.hid hr
  rw [hr]
  clear hr
  rcases (by omega : c / 100 < 1 ∨ c / 100 = 1 ∨ 1 < c / 100) with h | h | h
  · have hI : (c : Int) / 100 < 1 := by omega
    have H : Hid ((c : Int) - 1 = (r : Int)) := Lib.hid (by rw [← HR.out]; unfold roomH; omega)
    go_enter Tryz.func219, Tryz.ntmps219
    go_wp2
    go_ret
    exact ⟨by rw [← H.out]; rfl, rfl⟩
  · have hI : (c : Int) / 100 = 1 := by omega
    have H : Hid ((c : Int) - 1 = (r : Int)) := Lib.hid (by rw [← HR.out]; unfold roomH; omega)
    go_enter Tryz.func219, Tryz.ntmps219
    go_wp2
    go_ret
    exact ⟨by rw [← H.out]; rfl, rfl⟩
  · have hI : (1 : Int) < (c : Int) / 100 := by omega
    have H : Hid ((c : Int) - (c : Int) / 100 = (r : Int)) := Lib.hid (by rw [← HR.out]; unfold roomH; omega)
    go_enter Tryz.func219, Tryz.ntmps219
    go_wp2
    go_ret
    exact ⟨by rw [← H.out]; rfl, rfl⟩
theorem p12new_walk (n : Int) (hn1 : -9223372036854775808 ≤ n) (hn2 : n ≤ 9223372036854775807) : Calls Tryz.prog 100 #[.int .i64 n] w (P12 w (L12.new n)) := by
  have KK := Lib.hid (bounded12_walk (w := w.alloc (.cells z12 PT12)) n hn1 hn2)
  obtain ⟨c, hc⟩ : ∃ c, capI n = c := ⟨_, rfl⟩
  have HC : Hid (P12 w (L12.new n) = P12 w ⟨c, [], []⟩) := Lib.hid (by rw [← hc]; rfl)
  rw [hc] at KK
  rw [HC.out]
  clear hc HC
  go_enter Tryz.func100, Tryz.ntmps100
  go_wp2_with fail
  refine KK.out.mono ?_
  rintro e w1 ⟨rfl, rfl⟩
  go_wp2
  exact bodyPost_ret (v := .agg (l12C c (.slice none 0 0) (.slice none 0 0))) (by simp [results, Tryz.results100, go_sem]) rfl ⟨_, _, rfl, (Below.refl _ _).alloc (Nat.le_refl _) _, ⟨IV.nil _, KV.nil _⟩⟩
end
section
variable {w : World} {u u1 u2 : Value} {xs : List It} {s : L12}
theorem pwithout_walk (h : IV w u xs) (hl : xs.length ≤ 10000000) (k : Nat) : Calls Tryz.prog 221 #[u, .int .u64 (k : Nat)] w (RetP w (wi k xs)) := by
  have hb := low_one w (.cells #[.int .u64 (k : Nat)] 56)
  have hc := (head_row (heap_alloc_new w (.cells #[.int .u64 (k : Nat)] 56))).cell (i := 0) (by simp)
  have KC : Hid (Calls Tryz.prog 276 #[u, .func (.func 280) #[] #[.pointer (some ⟨w.heap.size, 0, none⟩)]] (w.alloc (.cells #[.int .u64 (k : Nat)] 56)) (RetP (w.alloc (.cells #[.int .u64 (k : Nat)] 56)) (wi k xs))) := Lib.hid (chg_without (h.below hb) hl hc (by simp))
  have HB := Lib.hid hb
  obtain ⟨F, n, c, rfl⟩ := h.form
  clear h hb hc
  go_enter Tryz.func221, Tryz.ntmps221
  go_wp2_with fail
  refine KC.out.mono ?_
  rintro e w2 ⟨v, rfl, ho⟩
  have HF : Hid (OwnI PTI12 w.heap.size w w2 v (wi k xs)) := Lib.hid ⟨HB.out.trans (ho.low.mono HB.out.size), own_low ho.own HB.out.size⟩
  clear ho KC
  go_wp2
  go_ret
  exact ⟨_, rfl, HF.out⟩
set_option maxHeartbeats 1000000 in
theorem count_walk (hs : St12 w s u1 u2) (hl : s.s.length ≤ 10000000) (f : Nat) : Calls Tryz.prog 218 #[.agg (l12C s.c u1 u2), .int .i64 (f : Nat)] w fun e w' => e = .returned (.int .i64 (nk f s.s : Nat)) ∧ Below w.heap.size w w' := by
  obtain ⟨F1, d1, rfl, -⟩ := hs.g1.mem
  obtain ⟨F2, n2, d2, rfl⟩ := hs.form2
  have H := Lib.hid hs.g1
  obtain ⟨c, xs, q⟩ := s
  simp only at *
  have HU : Hid (∀ i, nk f (xs.take i) ≤ i) := Lib.hid (fun i => by
    have h1 : nk f (xs.take i) ≤ (xs.take i).length := List.countP_le_length
    rw [List.length_take] at h1
    omega)
  have HR : Hid (nk f (xs.take xs.length) = nk f xs) := Lib.hid (by rw [List.take_length])
  obtain ⟨n, hn⟩ : ∃ n, xs.length = n := ⟨_, rfl⟩
  have HN := Lib.hid hn
  rw [hn] at hl H HR ⊢
  have hnI : (n : Int) ≤ 10000000 := by omega
  have hbx := low_one w (.cells (l12C c (.slice F1 n d1) (.slice F2 n2 d2)) PT12)
  have HBX := Lib.hid hbx
  clear hs hn hbx
  go_enter Tryz.func218, Tryz.ntmps218
  go_wp2_with fail
  go_loopg [5, 11] n (fun gg s5 s11 wr => ∃ (i m : Nat), i + gg = n ∧ s5 = .int .i64 (m : Nat) ∧ s11 = .int .i64 (i : Nat) ∧ m ≤ i ∧ Hid (m = nk f (xs.take i)) ∧ Hid (Below w.heap.size w wr))
  case atStart => exact ⟨0, 0, by omega, rfl, rfl, Nat.le_refl _, Lib.hid rfl, HBX⟩
  case round =>
    obtain ⟨i, m, hi, rfl, rfl, hmi, HM, HB⟩ := hrel
    by_cases hlt : i < n
    · have hltI : (i : Int) < (n : Int) := by omega
      have hil : i < xs.length := by rw [HN.out]; exact hlt
      obtain ⟨F', d', e, _, _, h3⟩ := (H.out.below HB.out).mem
      injection e with e1 e2 e3
      subst e1 e3
      obtain ⟨g, off, hF, hg, q0, q1⟩ := h3 i hil
      have hnx := nk_take f hil
      obtain ⟨fx, hfe⟩ : ∃ fx, xs[i].f = fx := ⟨_, rfl⟩
      obtain ⟨kx, hke⟩ : ∃ kx, xs[i].key = kx := ⟨_, rfl⟩
      rw [hfe] at q1 hnx
      rw [hke] at q0
      subst hF
      have hB2 := HB.out.alloc HB.out.size (.cells #[.int .u64 (kx : Nat), .int .i64 (fx : Nat)] PTI12)
      have HB2 := Lib.hid hB2
      clear h3 e2 hB2 hke
      by_cases he : fx = f
      · subst he
        have HX : Hid (m + 1 = nk fx (xs.take (i + 1))) := Lib.hid (by rw [hnx, if_pos rfl, ← HM.out])
        clear hnx hfe
        go_wp2
        go_roundg (gk - 1)
        case measure => omega
        case rel => exact ⟨i + 1, m + 1, by omega, by go_num, by go_num, by omega, HX, HB2⟩
      · have heI : ¬ (fx : Int) = (f : Int) := by omega
        have HX : Hid (m = nk f (xs.take (i + 1))) := Lib.hid (by rw [hnx, if_neg he, Nat.add_zero, ← HM.out])
        clear hnx hfe
        go_wp2
        go_roundg (gk - 1)
        case measure => omega
        case rel => exact ⟨i + 1, m, by omega, rfl, by go_num, by omega, HX, HB2⟩
    · have hltI : ¬ (i : Int) < (n : Int) := by omega
      obtain rfl : i = n := by omega
      have HE : Hid (m = nk f xs) := Lib.hid (HM.out.trans HR.out)
      go_wp2
      go_ret
      exact ⟨congrArg (fun x : Nat => Ending.returned (Value.int .i64 (x : Int))) HE.out, HB.out⟩
theorem p12ghosts_walk (hs : St12 w s u1 u2) (ok : s.Ok) : Calls Tryz.prog 107 #[.agg (l12C s.c u1 u2)] w fun e w' => e = .returned (.int .i64 (s.ghosts : Nat)) ∧ Below w.heap.size w w' := by
  have hl := ok.sl
  obtain ⟨F1, n1, d1, rfl⟩ := hs.form1
  obtain ⟨F2, n2, d2, rfl⟩ := hs.form2
  unfold L12.ghosts
  have hb := low_one w (.cells (l12C s.c (.slice F1 n1 d1) (.slice F2 n2 d2)) PT12)
  have HB := Lib.hid hb
  have KM : Hid (Calls Tryz.prog 218 #[.agg (l12C s.c (.slice F1 n1 d1) (.slice F2 n2 d2)), .int .i64 0] (w.alloc (.cells (l12C s.c (.slice F1 n1 d1) (.slice F2 n2 d2)) PT12)) fun e w' => e = .returned (.int .i64 (nk 0 s.s : Nat)) ∧ Below (w.alloc (.cells (l12C s.c (.slice F1 n1 d1) (.slice F2 n2 d2)) PT12)).heap.size (w.alloc (.cells (l12C s.c (.slice F1 n1 d1) (.slice F2 n2 d2)) PT12)) w') := Lib.hid (count_walk (hs.below hb) (by omega) 0)
  clear hs ok hb
  go_enter Tryz.func107, Tryz.ntmps107
  go_wp2_with fail
  refine KM.out.mono ?_
  rintro e w1 ⟨rfl, hb1⟩
  have HF := Lib.hid (HB.out.trans (hb1.mono HB.out.size))
  clear hb1
  go_wp2
  go_ret
  exact ⟨rfl, HF.out⟩
end
end Go.Proofs.YtcpggonengkgiaaGreatDoor
