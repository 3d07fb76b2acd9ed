/- Words and walks for layer 6: StepA SrP. -/
import Derived.Test.YtnacmhljbnpdpaaGH0
import Derived.Test.YtnacmhljbnpdpaaGS3
import Derived.Deep.AppendLies
import Derived.Deep.RegionHeld3
/- append at a step of a region that draws: words for all seats. -/
namespace Go.Proofs.Ytnacmhljbnpdpaa
open Go Go.RowKit Go.Deep

/- append at a step of a region that draws, whatever its source is. -/
theorem step_append_src {P : Program} {w : World} {ops : Array Oper} {o : Oper} {a : Act} {K : Act → World → Prop} {Q : Exit → Act → World → Prop} {E : Prop} (hgd : o.guard = none) (s x : Operand) (t : TypeId)
    (ho : o.op = .call { callee := .builtin .append, args := #[s, x], argTypes := #[t, t] }) (base : Nat) (e : TypeId) (z : Value) (size bytes : Nat) (ht : P.underlying t = some (.slice e))
    (hinfo : (P.info? e).map (fun i => (i.zero, i.size, i.bytes)) = some (some z, size, bytes)) (hzs : z.cells.size = size) (hsz : 0 < size)
    (v : Value) (n : Nat) (xs : List Value) (hs : a.eval s = v) (hown : w.ownsRow base e size v n xs) (A : Option Addr) (m c : Nat) (news : List Value) (hx : a.eval x = .slice A m c)
    (hsrc : (A = none ∧ m = 0 ∧ c = 0 ∧ news = []) ∨ ∃ ad, A = some ad ∧ news.length = m * size ∧ ∀ j u, news[j]? = some u → w.cell? (ad.add j) = some u) (h1 : ∀ u ∈ news, u.oneCell' = true)
    (hbound : (n + m) * bytes ≤ 140737488355328) (h63 : n + m ≤ 1000000000) (hbase : base ≤ w.heap.size)
    (h : ∀ v' w', w'.ownsRow base e size v' (n + m) (xs ++ news) → w.grownBy w' v.ownBlock → K (a.put o.dst v') w') : if Region.wanted o (yielded ops a.tmps) = true then Oper.wp P o a w K Q else E := by
  have hw : Region.wanted o (yielded ops a.tmps) = true := by simp [Region.wanted, hgd]
  rw [if_pos hw]
  obtain ⟨i, hi, hz, hsize, hby⟩ := info_parts hinfo
  rcases hsrc with ⟨rfl, rfl, rfl, rfl⟩ | ⟨ad, rfl, hl, hc⟩
  · have hrun := run_append_owned_none (P := P) (w := w) base t o.type e i size ht hi v n xs hown
    unfold Oper.wp
    simp [execOp, ho, resolve, invoke, builtin, hs, hx, hrun, Result.andThen]
    exact h v w (by simpa using hown) (World.grownBy.refl w _)
  · exact wp_append_own w s x t ho base e i z size bytes ht hi hz hsize hby hzs hsz v n xs hs hown ad m c news hx hl hc h1 (by unfold maxLen; omega) hbound hbase fun v' w' h2 h3 _ => h v' w' h2 h3
end Go.Proofs.Ytnacmhljbnpdpaa
/- The document's own store: Push, where it is done. -/
namespace Go.Proofs.Ytnacmhljbnpdpaa
open Go Go.RowKit Go.Deep

theorem RSA.nodes {w : World} {o n oc m m' g c : Nat} {Q : Nat → List Ent} {T : Tb} {K : List Nat} (h : RSA w o n oc m g c Q T K) (hm : m' ≤ 1000000) : RSA w o n oc m' g c Q T K :=
  ⟨h.n8, h.cap, h.q, h.t, h.gin, h.old, h.len, hm⟩
def roomE (Q : Nat → List Ent) (n m : Nat) : Nat := if m < sumE Q n + 2 then 2 * m else m
/- What comes behind the nodes' slots were counted: the store's own box at B0, the result's at B0 + 1. -/
structure PushAt (w W : World) (o n oc m g c : Nat) (Q : Nat → List Ent) (U : Tb) (K : List Nat) : Prop where
  b0 : W.heap[w.heap.size]? = some (.cells (refSC o n oc m g U.n c) 30 (0, 0))
  b1 : W.heap[w.heap.size + 1]? = some (.cells #[.slice none 0 0, .int .i64 0, .slice none 0 0] 30 (0, 0))
  below : Below w.heap.size w W
  size : w.heap.size + 1 < W.heap.size
  rs : ∃ K', RSA W o n oc m g c Q U K' ∧ ∀ k ∈ K', (k ∈ K ∨ w.heap.size ≤ k) ∧ k ≠ w.heap.size ∧ k ≠ w.heap.size + 1

section
variable {w : World} {o n oc m g c : Nat} {Q : Nat → List Ent} {T : Tb} {K : List Nat}
theorem PushAt.more {W X : World} {U : Tb} (h : PushAt w W o n oc m g c Q U K) (hb : Below W.heap.size W X) : PushAt w X o n oc m g c Q U K := by
  obtain ⟨K', hr, hK⟩ := h.rs
  have := h.size
  exact ⟨(hb.block _ (by omega)).trans h.b0, (hb.block _ h.size).trans h.b1, h.below.trans (hb.mono (by omega)), Nat.lt_of_lt_of_le h.size hb.size, K', hr.below hb, hK⟩
set_option maxHeartbeats 2000000 in
set_option maxRecDepth 4000 in
theorem spush_front (h : RSA w o n oc m g c Q T K) (gd : T.Good) (hTn : T.n ≤ 100000) (hkeys : T.Keys) (k : Nat) (hk64 : k < 18446744073709551616) (hu : NoKey n Q k) (t0 : Nat) (ht0 : t0 < n) (hm : m ≤ 500000) (hlen : (Q t0).length < 1000000) :
    Calls Try.prog 47 #[.agg (refSC o n oc m g T.n c), .int .i64 (t0 : Nat), .int .u64 (k : Nat), .bool true] w (SPost w n (roomE Q n m) (upd Q t0 (⟨k, 0, 0⟩ :: Q t0)) (T.put k 1) K (fun v => .tuple #[v, .bool true])) := by
  have hbA := ((Below.refl w.heap.size w).alloc (Nat.le_refl _) (.cells (refSC o n oc m g T.n c) 30)).alloc (by simp) (.cells #[.slice none 0 0, .int .i64 0, .slice none 0 0] 30)
  have HP := Lib.hid (splace_out (h.below hbA) k hu)
  have HR := Lib.hid h
  have h8 := h.n8
  have hnI : (n : Int) ≤ 8 := by omega
  have htI : (t0 : Int) < (n : Int) := by omega
  have hmI : (m : Int) ≤ 500000 := by omega
  have HPT := Lib.hid (fun (w1 : World) (hb : Below w.heap.size w w1) => rput_walk (h.below hb).t gd hTn k c hk64 1 hkeys)
  have hgl := h.t.lt
  have ho := h.old o h.q.kin
  clear h hbA hu gd hkeys
  generalize T.put k 1 = U at HPT ⊢
  go_enter Try.func47, Try.ntmps47
  go_wp2_with fail
  refine HP.out.mono ?_
  rintro e w1 ⟨rfl, hb⟩
  obtain ⟨hb1, hs1, hB0, hB1⟩ := two_blocks hb
  obtain ⟨⟨a0, a1, a2⟩, z0, z1, z2⟩ := three_at hB0
  have HB1 := Lib.hid hb1
  have HBB0 := Lib.hid hB0
  have HBB1 := Lib.hid hB1
  have hs0 : w.heap.size < w1.heap.size := by omega
  clear hb hb1 hB0 hB1 HP
  go_wp2_with fail
  refine (HPT.out w1 HB1.out).mono ?_
  rintro e w2 ⟨g2, c2, rfl, hb2, hr2, hg2⟩
  have hz2 := hb2.size
  have hB02 := (hb2.block w.heap.size hs0).trans HBB0.out
  have hB12 := (hb2.block (w.heap.size + 1) hs1).trans HBB1.out
  clear a0 a1 a2 z0 z1 z2
  obtain ⟨⟨a0, a1, a2⟩, z0, z1, z2⟩ := three_at hB02
  have hsw2 : w.heap.size < w2.heap.size := by omega
  have HSET : Hid (∀ X, X = w2.setCell ⟨w.heap.size, 2, none⟩ (.slice (some ⟨g2, 0, none⟩) U.n c2) → PushAt w X o n oc m g2 c2 Q U K) := Lib.hid (by
    rintro X rfl
    have o1 : Only [w.heap.size] w2 (w2.setCell ⟨w.heap.size, 2, none⟩ (.slice (some ⟨g2, 0, none⟩) U.n c2)) := (Only.refl _ w2).setCell (by simp) _
    have k1 : (w2.setCell ⟨w.heap.size, 2, none⟩ (.slice (some ⟨g2, 0, none⟩) U.n c2)).heap[w.heap.size]? = some (.cells (refSC o n oc m g2 U.n c2) 30 (0, 0)) := by simp [World.setCell, Array.getElem?_modify, hB02]
    have hsz := o1.size
    have hbX := (HB1.out.trans (hb2.mono (by omega))).trans (o1.below (B := w.heap.size) (by simp) (by omega))
    refine ⟨k1, (o1.block _ (by omega) (by simp)).trans hB12, hbX, by omega, _, HR.out.table (c' := c2) hbX (hr2.only o1 (by simp; omega)), fun x hx => ?_⟩
    rcases List.mem_cons.1 hx with rfl | hx
    · exact ⟨.inr (by omega), by omega, by omega⟩
    · have := HR.out.old x hx
      exact ⟨.inl hx, by omega, by omega⟩)
  clear hB02 hB12 hb2 hr2 HBB0 HBB1
  go_upto_region 5 with fail
  have hpa := HSET.out _ rfl
  generalize w2.setCell ⟨w.heap.size, 2, none⟩ (.slice (some ⟨g2, 0, none⟩) U.n c2) = X at hpa ⊢
  clear a0 a1 a2 z0 z1 z2 HSET
  obtain ⟨⟨a0, a1, a2⟩, _⟩ := three_at hpa.b0
  have hsX := hpa.size
  have hsX0 : w.heap.size < X.heap.size := by omega
  have HT := Lib.hid (hpa.rs.elim fun K' q => stotal_walk (q.1.below (Below.refl _ _).drew))
  have HC : Hid (∀ w', Below X.drew.heap.size X.drew w' → w'.cell? ⟨w.heap.size, 0, none⟩ = some (.slice (some ⟨o, 0, none⟩) n oc) ∧ w'.cell? ⟨w.heap.size, 1, none⟩ = some (.int .i64 (m : Nat)) ∧ w'.cell? ⟨w.heap.size, 2, none⟩ = some (.slice (some ⟨g2, 0, none⟩) U.n c2)) := Lib.hid (fun w' hb => (three_at ((hb.block w.heap.size (by exact hsX0)).trans hpa.b0)).1)
  have HPA := Lib.hid hpa
  have hsum : sumE Q n ≤ 8000000 := by
    have := sumE_le n (Q := Q) (b := 1000000) (fun t ht => HR.out.len t ht)
    have : n * 1000000 ≤ 8 * 1000000 := Nat.mul_le_mul_right _ h8
    omega
  obtain ⟨rm, hrm⟩ : ∃ rm, roomE Q n m = rm := ⟨_, rfl⟩
  have HRE := Lib.hid hrm
  have HRM : Hid (rm = if m < sumE Q n + 2 then 2 * m else m) := Lib.hid (by rw [← hrm]; rfl)
  clear hrm
  generalize sumE Q n = sm at HT hsum HRM
  have hsI : (sm : Int) ≤ 8000000 := by omega
  clear hpa
  go_region_held3 (fun w' => w'.cell? ⟨w.heap.size, 0, none⟩ = some (.slice (some ⟨o, 0, none⟩) n oc) ∧ w'.cell? ⟨w.heap.size, 1, none⟩ = some (.int .i64 (m : Nat)) ∧ w'.cell? ⟨w.heap.size, 2, none⟩ = some (.slice (some ⟨g2, 0, none⟩) U.n c2)) (first | with_reducible exact kk5 | go_keep)
    (first | (go_at_call 34; refine HT.out.mono ?_; rintro e w5 ⟨rfl, d5⟩; have kk5 := HC.out w5 d5))
  rw [IntWalk.i64_in ((sm : Int) + 2) (by omega)]
  have HPA5 := Lib.hid (HPA.out.more ((Below.refl _ _).drew.trans d5))
  obtain ⟨b0, b1, b2⟩ := kk5
  have z1 : w5.frozen? ⟨w.heap.size, 1, none⟩ = false := (head_row HPA5.out.b0).frozen 1
  clear d5 HC HT HPA a0 a1 a2
  rcases Nat.lt_or_ge m (sm + 2) with hcr | hcr
  all_goals
    first
      | (have hge : ¬ m < sm + 2 := by omega
         rw [if_neg hge] at HRM
         have e5 : decide ((m : Int) < (sm : Int) + 2) = false := decide_eq_false (by omega)
         rw [e5]
         have HPW : Hid (PushAt w w5 o n oc rm g2 c2 Q U K) := Lib.hid (by rw [HRM.out]; exact HPA5.out)
         obtain ⟨W, hW⟩ : ∃ W, W = w5 := ⟨_, rfl⟩
         subst hW
         clear HPA5 e5)
      | (rw [if_pos hcr] at HRM
         have e5 : decide ((m : Int) < (sm : Int) + 2) = true := decide_eq_true (by omega)
         rw [e5]
         have HPS : Hid (∀ W, W = w5.setCell ⟨w.heap.size, 1, none⟩ (.int .i64 (2 * (m : Int))) → PushAt w W o n oc rm g2 c2 Q U K) := Lib.hid (by
           rintro W rfl
           have h5 := HPA5.out
           have hz := h5.size
           have o1 : Only [w.heap.size] w5 (w5.setCell ⟨w.heap.size, 1, none⟩ (.int .i64 (2 * (m : Int)))) := (Only.refl _ w5).setCell (by simp) _
           have k1 : (w5.setCell ⟨w.heap.size, 1, none⟩ (.int .i64 (2 * (m : Int)))).heap[w.heap.size]? = some (.cells (refSC o n oc rm g2 U.n c2) 30 (0, 0)) := by
             rw [HRM.out]
             simp [World.setCell, Array.getElem?_modify, h5.b0]
           obtain ⟨K', hr, hK⟩ := h5.rs
           exact ⟨k1, (o1.block _ h5.size (by simp)).trans h5.b1, h5.below.trans (o1.below (by simp) (by have := h5.below.size; omega)), by have := o1.size; omega, K', (hr.only o1 (fun x hx => by simp; exact (hK x hx).2.1)).nodes (by rw [HRM.out]; omega), hK⟩)
         clear e5
         go_upto_region 7 with fail
         have hps := HPS.out _ rfl
         generalize w5.setCell ⟨w.heap.size, 1, none⟩ (.int .i64 (2 * (m : Int))) = W at hps ⊢
         have HPW := Lib.hid hps
         clear hps HPS HPA5)
  all_goals
    clear b0 b1 b2 z1 HRM hcr
    have hYb := (Below.refl W.heap.size W).alloc (Nat.le_refl _) (.cells #[.int .u64 (k : Nat), .int .u64 0, .int .i64 0] 40)
    have HPY := Lib.hid (HPW.out.more hYb)
    have HYE := Lib.hid (heap_alloc_new W (.cells #[.int .u64 (k : Nat), .int .u64 0, .int .i64 0] 40))
    have hYz : (W.alloc (.cells #[.int .u64 (k : Nat), .int .u64 0, .int .i64 0] 40)).heap.size = W.heap.size + 1 := by simp
    have hWz := HPW.out.size
    clear hYb
    go_upto_region 9 with fail
    generalize W.alloc (.cells #[.int .u64 (k : Nat), .int .u64 0, .int .i64 0] 40) = Y at HPY HYE hYz ⊢
    obtain ⟨K', hr, hK⟩ := HPY.out.rs
    have HK := Lib.hid hK
    obtain ⟨F, cf, hc, hf⟩ := hr.q.row t0 ht0
    have hoY : o < Y.heap.size := hr.old o hr.q.kin
    have hoK := (hK o hr.q.kin).2.2
    have HOLD := Lib.hid hr.old
    have hsY0 : w.heap.size < Y.heap.size := by omega
    have hsY1 : w.heap.size + 1 < Y.heap.size := by omega
    have hsYe : W.heap.size < Y.heap.size := by omega
    obtain ⟨⟨b0, b1, b2⟩, _⟩ := three_at HPY.out.b0
    obtain ⟨⟨e0, e1, e2⟩, _⟩ := three_at HYE.out
    have HWT := Lib.hid (fun (w3 : World) (hb : Below Y.heap.size Y w3) (F : Option Addr) (ys : List Ent) (cx : Nat) (Kx : List Nat) (hx : EntRow w3 F ys cx Kx) (hKx : ∀ k ∈ Kx, k < w3.heap.size) (hly : ys.length ≤ 1000000) => swith_walk (hr.below hb) t0 ht0 F ys cx hx hKx hly)
    have HSS : Hid (∀ w', Below Y.heap.size Y w' → w'.cell? ⟨w.heap.size, 0, none⟩ = some (.slice (some ⟨o, 0, none⟩) n oc) ∧ w'.cell? ⟨w.heap.size, 1, none⟩ = some (.int .i64 (rm : Nat)) ∧ w'.cell? ⟨w.heap.size, 2, none⟩ = some (.slice (some ⟨g2, 0, none⟩) U.n c2) ∧ w'.cell? ⟨W.heap.size, 0, none⟩ = some (.int .u64 (k : Nat)) ∧ w'.cell? ⟨W.heap.size, 1, none⟩ = some (.int .u64 0) ∧ w'.cell? ⟨W.heap.size, 2, none⟩ = some (.int .i64 0) ∧ w'.cell? ⟨o, t0, none⟩ = some (.slice F (Q t0).length cf)) := Lib.hid (fun w' hb => by
      have e := fun (x j : Nat) (hx : x < Y.heap.size) => hb.cell (p := ⟨x, j, none⟩) hx
      exact ⟨(e _ _ hsY0).trans b0, (e _ _ hsY0).trans b1, (e _ _ hsY0).trans b2, (e _ _ hsYe).trans e0, (e _ _ hsYe).trans e1, (e _ _ hsYe).trans e2, (e _ _ hoY).trans hc⟩)
    have hX1 := ((Below.refl Y.heap.size Y).alloc (Nat.le_refl _) (.cells #[.int .u64 (k : Nat), .int .u64 0, .int .i64 0] 40)).drew
    have HX1 := Lib.hid hX1
    have HSRC := Lib.hid (hf.src (w' := (Y.alloc (.cells #[.int .u64 (k : Nat), .int .u64 0, .int .i64 0] 40)).drew) (fun x hx => hX1.block x (hr.old x hx)))
    have HOWN := Lib.hid ((World.ownsRow_lit (base := Y.heap.size) (e := 40) (size := 3) Y #[.int .u64 (k : Nat), .int .u64 0, .int .i64 0] 1 (Nat.le_refl _) (by unfold maxLen; omega) rfl).drew)
    have HONE := Lib.hid (entL_one (Q t0))
    obtain ⟨ys, hys⟩ : ∃ ys, (⟨k, 0, 0⟩ : Ent) :: Q t0 = ys := ⟨_, rfl⟩
    have HYS := Lib.hid hys
    have hyl : 1 + (Q t0).length = ys.length := by rw [← hys]; simp; omega
    have HYL := Lib.hid hyl
    have HSL : Hid ([Value.int .u64 (k : Nat), .int .u64 0, .int .i64 0] ++ entL (Q t0) = entL ys) := Lib.hid (by rw [← hys]; rfl)
    have hsX1 : Y.heap.size ≤ (Y.alloc (.cells #[.int .u64 (k : Nat), .int .u64 0, .int .i64 0] 40)).drew.heap.size := HX1.out.size
    have HYZ := Lib.hid hYz
    clear hr hK hf hX1 hys hyl hYz
    go_region_held3 (fun w' => w'.cell? ⟨w.heap.size, 0, none⟩ = some (.slice (some ⟨o, 0, none⟩) n oc) ∧ w'.cell? ⟨w.heap.size, 1, none⟩ = some (.int .i64 (rm : Nat)) ∧ w'.cell? ⟨w.heap.size, 2, none⟩ = some (.slice (some ⟨g2, 0, none⟩) U.n c2) ∧ w'.cell? ⟨W.heap.size, 0, none⟩ = some (.int .u64 (k : Nat)) ∧ w'.cell? ⟨W.heap.size, 1, none⟩ = some (.int .u64 0) ∧ w'.cell? ⟨W.heap.size, 2, none⟩ = some (.int .i64 0) ∧ w'.cell? ⟨o, t0, none⟩ = some (.slice F (Q t0).length cf))
      (first | with_reducible exact kk1 | with_reducible exact kk2 | with_reducible exact KK3 _ (three_heap hB13 _ _ _).2 | go_keep)
      (first
        | (refine step_append_src (by rfl) (.tmp 54) (.tmp 59) 77 (by rfl) Y.heap.size 40 (.agg #[.int .u64 0, .int .u64 0, .int .i64 0]) 3 24 (by kernel_rfl) (by kernel_rfl) rfl (by decide) _ 1 _ (by rfl) HOWN.out F (Q t0).length cf (entL (Q t0)) (by rfl) HSRC.out HONE.out (by omega) (by omega) hsX1 ?_; intro v2 w2' hown2 hgrow2; have hbl2 := below_grown HX1.out HOWN.out hgrow2 hsX1; obtain ⟨F2, cc2, Kx, rfl, hx2, hKx⟩ := own_ent (xs := ys) (B := Y.heap.size) (w := w2') (v := v2) (by rw [← HYL.out, ← HSL.out]; exact hown2); have kk1 := HSS.out w2' hbl2; have HW2 := Lib.hid (HWT.out w2' hbl2 F2 ys cc2 Kx hx2 (fun y hy => (hKx y hy).2) (by have := HYL.out; omega)); have HKX := Lib.hid hKx; have HBL2 := Lib.hid hbl2; clear hown2 hgrow2 hx2 hKx hbl2)
        | (go_at_call 70; refine HW2.out.mono ?_; rintro e w3 ⟨o3, oc3, K3, rfl, hb3, hr3, hk3⟩; have hbl3 := HBL2.out.trans (hb3.mono HBL2.out.size); have kk2 := HSS.out w3 hbl3; have hB13 := (hbl3.block (w.heap.size + 1) hsY1).trans HPY.out.b1; have KK3 := fun (Z : World) (ho : Only [w.heap.size + 1] w3 Z) => (by
              have e := fun (x j : Nat) (hx : x < Y.heap.size) (hne : x ≠ w.heap.size + 1) => World.cell?_of_block (w := w3) (w' := Z) (a := ⟨x, j, none⟩) (ho.block x (Nat.lt_of_lt_of_le hx hbl3.size) (by simpa using hne))
              exact ⟨(e _ 0 hsY0 (by omega)).trans kk2.1, (e _ 1 hsY0 (by omega)).trans kk2.2.1, (e _ 2 hsY0 (by omega)).trans kk2.2.2.1, (e _ 0 hsYe (by omega)).trans kk2.2.2.2.1, (e _ 1 hsYe (by omega)).trans kk2.2.2.2.2.1, (e _ 2 hsYe (by omega)).trans kk2.2.2.2.2.2.1, (e _ t0 hoY hoK).trans kk2.2.2.2.2.2.2⟩ : Z.cell? ⟨w.heap.size, 0, none⟩ = some (.slice (some ⟨o, 0, none⟩) n oc) ∧ Z.cell? ⟨w.heap.size, 1, none⟩ = some (.int .i64 (rm : Nat)) ∧ Z.cell? ⟨w.heap.size, 2, none⟩ = some (.slice (some ⟨g2, 0, none⟩) U.n c2) ∧ Z.cell? ⟨W.heap.size, 0, none⟩ = some (.int .u64 (k : Nat)) ∧ Z.cell? ⟨W.heap.size, 1, none⟩ = some (.int .u64 0) ∧ Z.cell? ⟨W.heap.size, 2, none⟩ = some (.int .i64 0) ∧ Z.cell? ⟨o, t0, none⟩ = some (.slice F (Q t0).length cf)); obtain ⟨⟨xx0, xx1, xx2⟩, zz0, zz1, zz2⟩ := three_at hB13))
    have hbz := HBL2.out.size
    have hYw := HPY.out.size
    have HF := Lib.hid (sres_post (f := fun v => .tuple #[v, .bool true]) hB13 (HPY.out.below.trans (hbl3.mono (by omega))) (by omega) hr3 (fun hk => by
      rcases hk3 _ hk with q | q | q
      · exact (HK.out _ q).2.2 rfl
      · have := (HKX.out _ q).1; omega
      · omega) (fun y hy => by
      rcases hk3 _ hy with q | q | q
      · exact (HK.out _ q).1
      · have := (HKX.out _ q).1; exact .inr (by omega)
      · exact .inr (by omega)))
    clear hb3 hr3 hk3 hbl3 kk1 kk2 KK3 hB13 xx0 xx1 xx2 zz0 zz1 zz2 HSS
    obtain ⟨⟨y0, y1, y2⟩, hP⟩ := HF.out _ rfl
    generalize ((w3.setCell ⟨w.heap.size + 1, 0, none⟩ (.slice (some ⟨o3, 0, none⟩) n oc3)).setCell ⟨w.heap.size + 1, 1, none⟩ (.int .i64 (rm : Nat))).setCell ⟨w.heap.size + 1, 2, none⟩ (.slice (some ⟨g2, 0, none⟩) U.n c2) = V at y0 y1 y2 hP ⊢
    have HPP := Lib.hid hP
    clear hP HF
    go_wp2_with fail
    exact bodyPost_ret (v := .tuple #[.agg (refSC o3 n oc3 rm g2 U.n c2), .bool true]) (by simp [results, Try.results47, go_sem, y0, y1, y2]) rfl (by rw [HRE.out, HYS.out]; exact HPP.out)
end
end Go.Proofs.Ytnacmhljbnpdpaa
