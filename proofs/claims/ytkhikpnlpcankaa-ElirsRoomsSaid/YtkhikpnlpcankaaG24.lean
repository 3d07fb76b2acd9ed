/- Words and walks: ElB ElR ElT. -/
import Derived.Test.YtkhikpnlpcankaaG17
import Derived.Test.YtkhikpnlpcankaaG23
import Derived.Deep.RegionHeld3
import Derived.RangeFuncBox
import Derived.RangeFuncLeaves
import Derived.RangeFuncNested
import Derived.RangeFuncBound
import Derived.RangeFuncCalls
import Derived.Shelf.Abstract
import Derived.Shelf.RegionOpen
import Derived.OwnWalkIn
import Derived.TacticsInMore
import Derived.LoopNIn
import Derived.LoopIn
import Derived.Maps.AppendAt
namespace Go.Proofs.Ytkhikpnlpcankaa
open Go Go.RowKit Go.Deep
section
variable {w : World}
theorem ebounded_walk (n : Int) (hn1 : -9223372036854775808 ≤ n) (hn2 : n ≤ 9223372036854775807) :
    Calls Try.prog 22 #[.int .i64 n] w fun e w' => e = .returned (.int .i64 (capI n : Nat)) ∧ w = w' := by
  obtain ⟨c, hc⟩ : ∃ c, capI n = c := ⟨_, rfl⟩
  have HC := Lib.hid hc
  rw [hc]
  clear hc
  by_cases h1 : n < 1
  · have H : Hid ((1 : Int) = (c : Int)) := Lib.hid (by rw [← HC.out, capI, if_pos h1]; rfl)
    go_enter Try.func22, Try.ntmps22
    go_wp2
    go_ret
    exact ⟨by rw [H.out]; rfl, rfl⟩
  · by_cases h1e : n = 1
    · subst h1e
      have H : Hid ((1 : Int) = (c : Int)) := Lib.hid (by rw [← HC.out]; rfl)
      go_enter Try.func22, Try.ntmps22
      go_wp2
      go_ret
      exact ⟨by rw [H.out]; rfl, rfl⟩
    · have h1g : 1 < n := by omega
      by_cases h2 : 1048576 < n
      · have H : Hid ((1048576 : Int) = (c : Int)) := Lib.hid (by rw [← HC.out, capI, if_neg h1, if_pos h2]; rfl)
        clear h1 h1e
        go_enter Try.func22, Try.ntmps22
        go_wp2
        go_ret
        exact ⟨by rw [H.out]; rfl, rfl⟩
      · have H : Hid (n = (c : Int)) := Lib.hid (by rw [← HC.out, capI, if_neg h1, if_neg h2]; omega)
        clear h1 h1e
        by_cases h2e : n = 1048576
        · subst h2e
          go_enter Try.func22, Try.ntmps22
          go_wp2
          go_ret
          exact ⟨by rw [← H.out]; rfl, rfl⟩
        · have h2l : n < 1048576 := by omega
          clear h2e h2
          go_enter Try.func22, Try.ntmps22
          go_wp2
          go_ret
          exact ⟨by rw [← H.out]; rfl, rfl⟩
end
section
variable {w : World}
theorem eopen_walk (xp : Nat) :
    Calls Try.prog 25 #[ptr xp] w fun e w' => e = .returned (ptr xp) ∧ w = w' := by
  go_enter Try.func25, Try.ntmps25
  go_wp2
  go_ret
  exact ⟨rfl, rfl⟩
theorem eopen_nil (w : World) :
    Calls Try.prog 25 #[.pointer none] w fun e w' => e = .returned (ptr w.heap.size) ∧ w' = w.alloc (.cells nilC CaT) := by
  go_enter Try.func25, Try.ntmps25
  go_wp2
  go_ret
  exact ⟨rfl, rfl⟩
end
theorem ehot_walk {w : World} (c : Nat) (h1 : 1 ≤ c) (hc : c ≤ 1048576) : Calls Try.prog 37 #[.int .i64 (c : Nat)] w fun e w' => e = .returned (.int .i64 (roomH c : Nat)) ∧ w = w' := by
  obtain ⟨r, hr⟩ : ∃ r, roomH c = r := ⟨_, rfl⟩
  have HR := Lib.hid hr
  rw [hr]
  clear hr
  rcases (by omega : c / 100 < 1 ∨ c / 100 = 1 ∨ 1 < c / 100) with h | h | h
  · have hI : (c : Int) / 100 < 1 := by omega
    have H : Hid ((c : Int) - 1 = (r : Int)) := Lib.hid (by rw [← HR.out]; unfold roomH; omega)
    go_enter Try.func37, Try.ntmps37
    go_wp2
    go_ret
    exact ⟨by rw [← H.out]; rfl, rfl⟩
  · have hI : (c : Int) / 100 = 1 := by omega
    have H : Hid ((c : Int) - 1 = (r : Int)) := Lib.hid (by rw [← HR.out]; unfold roomH; omega)
    go_enter Try.func37, Try.ntmps37
    go_wp2
    go_ret
    exact ⟨by rw [← H.out]; rfl, rfl⟩
  · have hI : (1 : Int) < (c : Int) / 100 := by omega
    have H : Hid ((c : Int) - (c : Int) / 100 = (r : Int)) := Lib.hid (by rw [← HR.out]; unfold roomH; omega)
    go_enter Try.func37, Try.ntmps37
    go_wp2
    go_ret
    exact ⟨by rw [← H.out]; rfl, rfl⟩
section
variable {w0 w w' : World} {sp top n : Nat} {l : Nat → List Nat} {K : List Nat}
theorem lay_walk (h : SK w0 w sp n l top K) (hm : top ≤ 10000) {u k : Nat} (h64 : k < 18446744073709551616) (hu : u < n) (hr : (∃ t, t < n ∧ k ∈ l t) ∨ sumE (Qm l) n + 1 ≤ top) :
    Calls Try.prog 54 #[ptr sp, .int .i64 (u : Nat), .int .u64 (k : Nat)] w fun e w' => e = .returned (.tuple #[]) ∧ SK w0 w' sp n (mvA l u k) top K ∧ Kept K w w' := by
  by_cases q : ∃ t, t < n ∧ k ∈ l t
  · obtain ⟨t, ht, hk⟩ := q
    have HM := Lib.hid (m_move_any h hm ht hk hu)
    clear h hr
    go_enter Try.func54, Try.ntmps54
    go_wp2_with fail
    refine HM.out.mono ?_
    rintro e w2 ⟨rfl, g1, g2, _⟩
    have HP := Lib.hid (And.intro g1 g2)
    clear g1 g2 HM
    go_wp2
    exact bodyPost_end (v := .tuple #[]) (by simp [results, Try.results54, go_sem]) rfl ⟨rfl, HP.out⟩
  · have hno : ∀ t, t < n → k ∉ l t := fun t ht hk => q ⟨t, ht, hk⟩
    have HM := Lib.hid (m_move_no h hm h64 hno hu)
    have hl : sumE (Qm l) n + 1 ≤ top := hr.resolve_left q
    clear h hr q
    go_enter Try.func54, Try.ntmps54
    go_wp2_with fail
    refine HM.out.mono ?_
    rintro e w2 ⟨rfl, g1, g2, _⟩
    have HQ := Lib.hid (m_push_any g1 hm h64 hno hu hl)
    have HK := Lib.hid g2
    clear g1 g2 HM hl hno
    go_wp2_with fail
    refine HQ.out.mono ?_
    rintro e w3 ⟨rfl, g1, g2, _⟩
    have HP : Hid (SK w0 w3 sp n (mvA l u k) top K ∧ Kept K w w3) := Lib.hid ⟨g1, fun j hj => (g2 j hj).trans (HK.out j hj)⟩
    clear g1 g2 HQ
    go_wp2
    exact bodyPost_end (v := .tuple #[]) (by simp [results, Try.results54, go_sem]) rfl ⟨rfl, HP.out⟩
end
section
variable {w0 w w' W : World} {xp : Nat} {o1 o2 : Option Addr} {c : Nat} {S : List Nat} {l : Nat → List Nat} {tp : Nat} {s : L12} {k : Nat}
theorem lay1_walk {sp kp : Nat} (h : CX w0 w xp (some ⟨sp, 0, none⟩) (some ⟨kp, 0, none⟩) c S l tp) (h64 : k < 18446744073709551616) (hr : k ∈ S ∨ S.length + 1 ≤ tp) :
    Calls Try.prog 54 #[ptr sp, .int .i64 0, .int .u64 (k : Nat)] w fun e w' => e = .returned (.tuple #[]) ∧ CP w0 w xp (some ⟨sp, 0, none⟩) (some ⟨kp, 0, none⟩) c (k :: wo k S) l tp w' := by
  rcases h.t2 with ⟨sp', kp', e1, e2, h2⟩ | ⟨e1, _⟩
  · obtain rfl : sp = sp' := by injection e1 with e1; injection e1
    obtain rfl : kp = kp' := by injection e2 with e2; injection e2
    refine (tw_one (E := fun e => e = .returned (.tuple #[])) (l' := fun _ => k :: wo k S) (top' := tp) h2 (fun K' h' => (lay_walk (u := 0) h' h.small h64 (by decide) ?_).mono ?_)).mono ?_
    · rcases hr with q | q
      · exact .inl ⟨0, by decide, q⟩
      · refine .inr ?_
        simp only [sumE, qm_len]
        omega
    · rintro e w' ⟨he, g1, g2⟩
      exact ⟨he, g1.congr (fun t ht => by obtain rfl : t = 0 := by omega
                                          rfl), g2⟩
    · rintro e w' ⟨rfl, g1, g2, g3⟩
      exact ⟨rfl, ⟨(g2 xp (by simp)).trans h.box, .inl ⟨sp, kp, rfl, rfl, g1⟩, h.ge, h.small⟩, g3⟩
  · cases e1
theorem lay2_walk {sp kp u : Nat} (h : CX w0 w xp (some ⟨sp, 0, none⟩) (some ⟨kp, 0, none⟩) c S l tp) (h64 : k < 18446744073709551616) (hu : u < 3) (hr : (∃ t, t < 3 ∧ k ∈ l t) ∨ (l 0).length + (l 1).length + (l 2).length + 1 ≤ tp) :
    Calls Try.prog 54 #[ptr kp, .int .i64 (u : Nat), .int .u64 (k : Nat)] w fun e w' => e = .returned (.tuple #[]) ∧ CP w0 w xp (some ⟨sp, 0, none⟩) (some ⟨kp, 0, none⟩) c S (mvA l u k) tp w' := by
  rcases h.t2 with ⟨sp', kp', e1, e2, h2⟩ | ⟨e1, _⟩
  · obtain rfl : sp = sp' := by injection e1 with e1; injection e1
    obtain rfl : kp = kp' := by injection e2 with e2; injection e2
    refine (tw_one (E := fun e => e = .returned (.tuple #[])) (l' := mvA l u k) (top' := tp) h2.swap (fun K' h' => lay_walk h' h.small h64 hu ?_)).mono ?_
    · rcases hr with q | q
      · exact .inl q
      · refine .inr ?_
        simp only [sumE, qm_len]
        omega
    · rintro e w' ⟨rfl, g1, g2, g3⟩
      exact ⟨rfl, ⟨(g2 xp (by simp)).trans h.box, .inl ⟨sp, kp, rfl, rfl, g1.swap⟩, h.ge, h.small⟩, g3⟩
  · cases e1
theorem take_walk (h : CX w0 w xp o1 o2 c S l tp) (h64 : k < 18446744073709551616) :
    Calls Try.prog 33 #[ptr xp, .int .u64 (k : Nat)] w fun e w' => e = .returned (.bool (decide (k ∈ S))) ∧ CP w0 w xp o1 o2 c (wo k S) (rmA l k) tp w' := by
  obtain ⟨x0, x1, x2⟩ := h.cells
  have H := Lib.hid h
  have HM := Lib.hid (t_rem2 h.t2 h.small k h64)
  clear h
  go_enter Try.func33, Try.ntmps33
  go_wp2_with fail
  refine HM.out.mono ?_
  rintro e w2 ⟨b, hp⟩
  obtain ⟨rfl, g1, g2⟩ := H.out.put hp
  have H2 := Lib.hid g1
  have HK := Lib.hid g2
  clear hp g1 g2 HM x0 x1 x2
  obtain ⟨x0, x1, x2⟩ := H2.out.cells
  have HR := Lib.hid (t_rem1 H2.out.t2 H2.out.small k h64)
  go_wp2_with fail
  refine HR.out.mono ?_
  rintro e w3 hp
  obtain ⟨rfl, g1, g2⟩ := H2.out.put hp
  have HP : Hid (CP w0 w xp o1 o2 c (wo k S) (rmA l k) tp w3) := Lib.hid ⟨g1, HK.out.trans g2⟩
  clear hp g1 g2 HR HK x0 x1 x2
  go_wp2
  go_ret
  exact ⟨rfl, HP.out⟩
theorem gone_walk (h : CS w0 w xp o1 o2 s tp) (h64 : k < 18446744073709551616) :
    Calls Try.prog 33 #[ptr xp, .int .u64 (k : Nat)] w fun e w' => e = .returned (.bool (decide (0 < tot k s.s))) ∧ CSP w0 w xp o1 o2 (s.gone k) tp w' := by
  refine (take_walk h h64).mono ?_
  rintro e w' ⟨rfl, g1, g2⟩
  refine ⟨by congr 2; exact decide_eq_decide.2 tot_in, g1.congr (fun t ht => L12.qK_gone s k ht) keysI_wi.symm, g2⟩
theorem item_walk (h : CX w0 w xp o1 o2 c S l tp) (hb : Below w.heap.size w W) {t : Nat} (ht : t < 3) (hk : k ∈ l t) :
    Calls Try.prog 45 #[ptr xp, .int .u64 (k : Nat)] W fun e w' => e = .returned (.agg #[.int .u64 (k : Nat), .int .i64 (t : Nat)]) ∧ Below W.heap.size W w' := by
  have hX := h.still hb
  clear h hb
  have hlow := low_one W (.cells #[.int .u64 0, .int .i64 0] 60)
  have hA := heap_alloc_new W (.cells #[.int .u64 0, .int .i64 0] 60)
  have hX2 := hX.still hlow
  have hlt := hX.lt
  obtain ⟨X, hXe⟩ : ∃ X, W.alloc (.cells #[.int .u64 0, .int .i64 0] 60) = X := ⟨_, rfl⟩
  rw [hXe] at hA hlow hX2
  have HF := Lib.hid (t_find2 hX2.t2 hX2.small ht hk)
  obtain ⟨x0, x1, x2⟩ := hX2.cells
  have HL := Lib.hid hlow
  have HA := Lib.hid hA
  clear hX hX2 hlow hA
  go_enter Try.func45, Try.ntmps45
  go_upto_region 1 with fail
  clear hXe
  go_wp2_with fail
  refine HF.out.mono ?_
  rintro e w2 ⟨rfl, hb2⟩
  have hr2 := (hb2.block W.heap.size (head_row HA.out).lt).trans HA.out
  obtain ⟨⟨r0, r1⟩, rf0, rf1⟩ := c2_at hr2
  have HP : Hid (∀ v0 v1, Below W.heap.size W ((w2.setCell ⟨W.heap.size, 0, none⟩ v0).setCell ⟨W.heap.size, 1, none⟩ v1)) := Lib.hid (fun v0 v1 => by
    have h1 : Below W.heap.size W w2 := HL.out.trans (hb2.mono HL.out.size)
    have ho : Only [W.heap.size] w2 ((w2.setCell ⟨W.heap.size, 0, none⟩ v0).setCell ⟨W.heap.size, 1, none⟩ v1) := ((Only.refl _ _).setCell (by simp) _).setCell (by simp) _
    exact h1.trans (ho.below (by simp) h1.size))
  clear hb2 hr2 HF x0 x1 x2
  go_wp2
  exact bodyPost_ret (v := .agg #[.int .u64 (k : Nat), .int .i64 (t : Nat)]) (by simp [results, Try.results45, go_sem, r0, r1]) rfl ⟨rfl, HP.out _ _⟩
end
end Go.Proofs.Ytkhikpnlpcankaa
namespace Go.Proofs.Ytkhikpnlpcankaa
open Go Go.RowKit Go.Deep Go.Shelf
def StaysFrom (B : Nat) (W W' : World) : Prop := ∀ g o, B ≤ g → W.heap[g]? = some o → o.isCells = false → W'.heap[g]? = some o
theorem StaysFrom.of_kn {B : Nat} {W W' : World} (h : Kn W W') : StaysFrom B W W' := fun g o _ ho hc => (h g ⟨o, ho, fun cs e f q => by rw [q] at hc; cases hc⟩).trans ho
theorem StaysFrom.trans {B : Nat} {A W W' : World} (h : StaysFrom B A W) (h2 : StaysFrom B W W') : StaysFrom B A W' := fun g o hg ho hc => h2 g o hg (h g o hg ho hc) hc
def goesOn (K : World → Prop) : Exit → Act → World → Prop
  | .normal, _, W => K W
  | _, _, _ => False
structure Keeper (w : World) {α : Type} (I : List α → World → Prop) : Prop where
  put : ∀ pre W l o o', I pre W → w.heap.size ≤ l → W.heap[l]? = some o → o.isCells = false → I pre (W.putObj l o')
  still : ∀ pre W W', I pre W → Below W.heap.size W W' → I pre W'
def Visits {α : Type} (F : Fence) (n : Nat) (P : Program) (gf : Nat) (lb : Array Value) (encs : α → Array Value) (Kp : World → World → Prop) (I : List α → World → Prop) (V : List α → α → Prop) (E : List α → Prop) : Prop :=
  ∀ (l : Nat) (J : List α → World → Prop) (W : World), (∀ pre W, J pre W → I pre W) → (∀ pre W W', J pre W → Below W.heap.size W W' → J pre W') →
    (∀ pre x W1, J pre W1 → V pre x → YieldAt F (n - 1) P l (encs x) W1 fun e W' => e = .returned (.bool true) ∧ J (pre ++ [x]) W' ∧ Kp W1 W') →
    J [] W → CallsIn F n P gf (#[.func (.yield l) #[] #[]] ++ lb) W fun e W' => (∃ v, e = .returned v) ∧ ∃ pre, J pre W' ∧ E pre
theorem range_walk {F : Fence} {n : Nat} {P : Program} {g : Operand} {ps : Array Tmp} {assign body : Code} {Q : Exit → Act → World → Prop} {a : Act} {w : World}
    (hro : F.round = none) (h1 : 1 ≤ n) {gf : Nat} {lb : Array Value} (hg : a.eval g = .func (.func gf) #[] lb) (hFg : F.fn gf) (eg : ∀ args w, (callFunc gf args).run P w = .ok (.enter gf args) w)
    {α : Type} {encs : α → Array Value} (hps : ∀ x, (encs x).size = ps.size) {Kp : World → World → Prop} {I : List α → World → Prop} {V : List α → α → Prop} {E : List α → Prop}
    (hKt : ∀ A B C, Kp A B → Kp B C → Kp A C) (hKb : ∀ (W : World) (l : Nat) (o o' : Obj), W.heap[l]? = some o → o.isCells = false → Kp W (W.putObj l o')) (hI : Keeper w I) (h0 : I [] w) (hit : Visits F (n - 1) P gf lb encs Kp I V E)
    (A : List α → α → Act → World → Prop) (hA : ∀ pre x a' W l o o', A pre x a' W → w.heap.size ≤ l → W.heap[l]? = some o → o.isCells = false → A pre x a' (W.putObj l o'))
    (hassign : ∀ (l : Nat) (pre : List α) (x : α) (W : World) (K : Act → World → Prop), I pre W → V pre x → (∀ a' W', StaysFrom w.heap.size W W' → Kp W W' → A pre x a' W' → K a' W') →
      assign.wpIn (F.inRound l) (n - 1 - 1) P (Exit.then K (fun _ _ _ => False)) { tmps := (ps.zip (encs x)).foldl (fun t (p, v) => t.setIfInBounds p v) a.tmps, defers := [] } W)
    (hbody : ∀ (l : Nat) (pre : List α) (x : α) (a' : Act) (W : World), A pre x a' W → V pre x → body.wpIn (F.inRound l) (n - 1 - 1) P (goesOn (fun W' => StaysFrom w.heap.size W W' ∧ Kp W W' ∧ I (pre ++ [x]) W')) a' W)
    (hdone : ∀ (D : Nat) (xs : List α) (W : World), w.heap.size ≤ D → E xs → I xs W → W.heap[D]? = some (.deferred (some [])) → Q .normal { a with defers := { target := .collected D, args := #[] } :: a.defers } W) :
    (Code.rangeFunc g ps assign body).wpIn F n P Q a w := by
  refine wpIn_rangeFunc (fun fn hfn => ?_)
  rw [hro]
  obtain ⟨rc, hrc⟩ : ∃ rc : LoopState → Loop, rc = fun st => { state := st, pending := none, fn, tmps := a.tmps, params := ps, assign, body, defers := w.heap.size } := ⟨_, rfl⟩
  obtain ⟨W1, hW1⟩ : ∃ W1, (w.alloc (.deferred (some []))).alloc (.loop (rc .ready)) = W1 := ⟨_, rfl⟩
  have hb1 : Below w.heap.size w W1 := by
    rw [← hW1]
    exact ((Below.refl _ w).alloc (Nat.le_refl _) _).alloc (by simp) _
  have hL1 : W1.heap[w.heap.size + 1]? = some (.loop (rc .ready)) := by
    have := World.alloc_heap_new (w.alloc (.deferred (some []))) (.loop (rc .ready))
    rw [World.size_alloc, hW1] at this
    exact this
  have hD1 : W1.heap[w.heap.size]? = some (.deferred (some [])) := by
    rw [← hW1]
    exact (Below.heap_alloc _ _ _ (by simp)).trans (World.alloc_heap_new w _)
  refine ⟨w.heap.size + 1, [{ target := .collected w.heap.size, args := #[] }], W1, { target := .fn (.func gf) lb, args := #[.func (.yield (w.heap.size + 1)) #[] #[]] }, W1, gf, #[.func (.yield (w.heap.size + 1)) #[] #[]] ++ lb, W1, ?_, ?_, ?_, ?_, fun _ => h1, ?_⟩
  · rw [← hW1, hrc]
    exact run_enterLoop_outer _ _ _ _ _
  · simp only [resolve, hg]
    simp [go_sem]
  · intro f' hf'
    simp [Target.leads] at hf'
    subst hf'
    exact hFg
  · simp [invoke, go_sem, eg]
  · refine (hit (w.heap.size + 1) (fun pre W => I pre W ∧ W.heap[w.heap.size + 1]? = some (.loop (rc .ready)) ∧ W.heap[w.heap.size]? = some (.deferred (some []))) W1 (fun _ _ h => h.1)
      (fun pre W W' h hb => ⟨hI.still _ _ _ h.1 hb, (hb.block _ (Array.getElem?_eq_some_iff.1 h.2.1).1).trans h.2.1, (hb.block _ (Array.getElem?_eq_some_iff.1 h.2.2).1).trans h.2.2⟩) ?_ ⟨hI.still _ _ _ h0 hb1, hL1, hD1⟩).mono ?_
    · rintro pre x W ⟨hi, hl, hd⟩ hv
      have hy := run_yield (P := P) (args := encs x) hl (by rw [hrc]; exact hps x)
      rw [hrc] at hy
      refine ⟨fn, _, assign, body, hy, roundIn_of_wpIn hfn (hassign _ pre x W _ hi hv ?_)⟩
      intro a' Wa hk hkp hax
      have hla := hk _ _ (by omega) hl rfl
      have hda := hk _ _ (Nat.le_refl _) hd rfl
      have hlt := (Array.getElem?_eq_some_iff.1 hla).1
      refine ⟨_, run_beginRound hla (by rw [hrc]), wpIn_mono (hbody _ pre x a' _ (hA _ _ _ _ _ _ _ hax (by omega) hla rfl) hv) ?_⟩
      rintro e a3 W3 hp
      have hl2 : (Wa.putObj (w.heap.size + 1) (.loop { rc .ready with state := .busy })).heap[w.heap.size + 1]? = some (.loop { rc .ready with state := .busy }) := World.putObj_heap_same hlt
      have hd2 : (Wa.putObj (w.heap.size + 1) (.loop { rc .ready with state := .busy })).heap[w.heap.size]? = some (.deferred (some [])) := (World.putObj_heap_other (by omega)).trans hda
      cases e with
      | normal =>
        obtain ⟨hk3, hkp3, hi3⟩ := hp
        have hl3 := hk3 _ _ (by omega) hl2 rfl
        have hd3 := hk3 _ _ (Nat.le_refl _) hd2 rfl
        have hr := run_endRound (P := P) none hl3
        refine ⟨_, _, hr, rfl, ⟨hI.put _ _ _ _ _ hi3 (by omega) hl3 rfl, ?_, (World.putObj_heap_other (by omega)).trans hd3⟩, hKt _ _ _ hkp (hKt _ _ _ (hKb _ _ _ _ hla rfl) (hKt _ _ _ hkp3 (hKb _ _ _ _ hl3 rfl)))⟩
        rw [World.putObj_heap_same (Array.getElem?_eq_some_iff.1 hl3).1, hrc]
        rfl
      | ret => exact hp.elim
      | exit id => exact hp.elim
      | goto t => exact hp.elim
      | panic ch => exact hp.elim
      | outgrown => exact hp.elim
    · rintro e W2 ⟨⟨v, rfl⟩, pre, ⟨hi, hl, hd⟩, he⟩
      have hr := run_endLoop (P := P) hl (by rw [hrc]; simp)
      have hpn : (rc .ready).pending = none := by rw [hrc]
      rw [hpn] at hr
      exact ⟨none, _, hr, hdone _ pre _ (Nat.le_refl _) he (hI.put _ _ _ _ _ hi (by omega) hl rfl) ((World.putObj_heap_other (by omega)).trans hd)⟩
attribute [local go_sem] Oper.semAt_some
abbrev ItT : TypeId := 60
abbrev PxT : TypeId := 24
abbrev itC (x : It) : Array Value := #[.int .u64 (x.key : Nat), .int .i64 (x.f : Nat)]
section
variable {w0 w w' W : World} {xp : Nat} {o1 o2 : Option Addr} {c : Nat} {S : List Nat} {l : Nat → List Nat} {tp : Nat} {s : L12}
theorem putObj_other {W : World} {j g : Nat} {o o' : Obj} {cs : Array Value} {t : TypeId} {f : Nat × Nat} (hj : W.heap[j]? = some o) (hc : o.isCells = false) (hg : W.heap[g]? = some (.cells cs t f)) : (W.putObj j o').heap[g]? = W.heap[g]? :=
  World.putObj_heap_other (fun e => by
    subst e
    rw [hj] at hg
    injection hg with hg
    subst hg
    cases hc)
theorem CX.putObj (h : CX w0 W xp o1 o2 c S l tp) {j : Nat} {o : Obj} (o' : Obj) (hj : w0.heap.size ≤ j) (ho : W.heap[j]? = some o) (hc : o.isCells = false) : CX w0 (W.putObj j o') xp o1 o2 c S l tp :=
  ⟨(putObj_other ho hc h.box).trans h.box, h.t2.keep (h.below.trans ((Below.refl _ W).grown (grownBy_putObj' W j o') h.below.size (fun k e => by cases e; exact hj))) (fun g hg _ => by
    obtain ⟨cs, t, f, hg, _⟩ := hg
    exact putObj_other ho hc hg) (fun k hk => by rw [World.putObj_size]; exact h.t2.old k hk), h.ge, h.small⟩
theorem Kn.putObj (h : Kn w W) {j : Nat} (o' : Obj) (hj : w.heap.size ≤ j) : Kn w (W.putObj j o') := fun g hg => (World.putObj_heap_other (by have := hg.lt; omega)).trans (h g hg)
structure Tl (w0 w W : World) (xp : Nat) (o1 o2 : Option Addr) (s : L12) (tp b1 b2 : Nat) (t pre : List It) : Prop where
  is : s.s = t ++ pre.reverse
  cold : ∀ y ∈ pre, y.f ≠ 2
  fine : (s.upTo t).Fine
  cs : CS w0 W xp o1 o2 (s.upTo t) tp
  kn : Kn w W
  bx1 : W.heap[b1]? = some (.cells #[ptr xp] PxT (0, 0))
  bx2 : W.heap[b2]? = some (.cells #[ptr xp] PxT (0, 0))
theorem Tl.still {b1 b2 : Nat} {t pre : List It} (h : Tl w0 w W xp o1 o2 s tp b1 b2 t pre) (hb : Below W.heap.size W w') : Tl w0 w w' xp o1 o2 s tp b1 b2 t pre :=
  ⟨h.is, h.cold, h.fine, h.cs.still hb, h.kn.trans (Kn.below hb), (hb.block _ (head_row h.bx1).lt).trans h.bx1, (hb.block _ (head_row h.bx2).lt).trans h.bx2⟩
def TlI (w0 w : World) (xp : Nat) (o1 o2 : Option Addr) (s : L12) (tp b1 b2 : Nat) (pre : List It) (W : World) : Prop := ∃ t, Tl w0 w W xp o1 o2 s tp b1 b2 t pre
def TlV (s : L12) (pre : List It) (x : It) : Prop := x.f ≠ 2 ∧ ∃ t, s.s = t ++ [x] ++ pre.reverse
def TlE (s : L12) (pre : List It) : Prop := s.s = pr s.s ++ pre.reverse
theorem Tl.last {b1 b2 : Nat} {t pre : List It} (h : Tl w0 w W xp o1 o2 s tp b1 b2 t pre) : nk 2 pre.reverse = 0 := by
  unfold nk
  rw [List.countP_eq_zero]
  intro x hx
  have := h.cold x (by simpa using hx)
  simpa using this
theorem Tl.done {b1 b2 : Nat} {t pre : List It} (h : Tl w0 w W xp o1 o2 s tp b1 b2 t pre) (ht : t = [] ∨ ∃ t' x, t = t' ++ [x] ∧ x.f = 2) : TlE s pre := by
  have e : pr s.s = t := by
    rw [h.is, pr_append_none h.last]
    rcases ht with rfl | ⟨t', x, rfl, hx⟩
    · rfl
    · rw [pr_snoc, if_pos hx]
  unfold TlE
  rw [e]
  exact h.is
set_option maxHeartbeats 4000000 in
set_option maxRecDepth 100000 in
theorem tail_visits (m : Nat) (hm : 1 ≤ m) (b1 b2 : Nat) :
    Visits Fence.wide m Try.prog 69 #[.pointer (some ⟨b2, 0, none⟩)] (fun x : It => #[Value.agg (itC x)]) (fun _ _ => True) (TlI w0 w xp o1 o2 s tp b1 b2) (TlV s) (TlE s) := by
  intro r J W hJI hJB hY h0
  have HJI := Lib.hid hJI
  have HJB := Lib.hid hJB
  have HY := Lib.hid hY
  obtain ⟨t0, h00⟩ := hJI _ _ h0
  have H0 := Lib.hid h0
  have ht0 : t0 = s.s := by have := h00.is; simpa using this.symm
  subst ht0
  obtain ⟨N, hN⟩ : ∃ N, s.s.length = N := ⟨_, rfl⟩
  have HN := Lib.hid hN
  have HLN : Hid (Calls Try.prog 36 #[.pointer o1, .int .i64 0] W fun e w' => e = .returned (.int .i64 (N : Nat)) ∧ Below W.heap.size W w') := Lib.hid (by
    have := t_len1 h00.cs.t2
    rw [show (keysI (s.upTo s.s).s).length = N by rw [← hN]; exact List.length_map _] at this
    exact this)
  have hsm := h00.cs.sums.1
  have hsm2 := h00.cs.small
  have hNs : N ≤ 10000 := by rw [← hN]; exact Nat.le_trans hsm hsm2
  have hNI : (N : Int) ≤ 10000 := by omega
  obtain ⟨x0, x1, x2⟩ := h00.cs.cells
  have y0 := Boxed.cell h00.bx2
  clear hJI hJB hY h00 h0 hN hsm hsm2
  refine callsIn_of_wp Try.func69 rfl trivial ?_ rfl
  simp only [Try.ntmps69, List.size_toArray, List.length_cons, List.length_nil, Nat.reduceAdd, Nat.reduceSub, Array.replicate_succ, Array.replicate_zero, List.push_toArray, List.append_toArray, List.nil_append, List.cons_append]
  gi_wp2_with (refine ⟨trivial, ?_⟩; gi_at_call 36; refine (callsIn_wide.2 HLN.out).mono ?_; rintro e w1 ⟨rfl, hb1⟩)
  have H1 := Lib.hid (HJB.out _ _ _ H0.out hb1)
  clear hb1 x0 x1 x2 y0 HLN H0
  gi_loopw [11] (fun s11 wr => ∃ pre : List It, s11 = .int .i64 (pre.length : Nat) ∧ pre.length ≤ N ∧ Hid (J pre wr))
    (fun s11 wr => N - (intOf s11).toNat)
  case atStart => exact ⟨[], rfl, Nat.zero_le _, H1⟩
  case round =>
    obtain ⟨pre, rfl, hle, HI⟩ := hrel
    by_cases hlt : pre.length < N
    · have hltI : (pre.length : Int) < (N : Int) := by omega
      obtain ⟨t, hT⟩ := HJI.out _ _ HI.out
      have htl : t ≠ [] := by
        rintro rfl
        have h1 := hT.is
        have h2 := HN.out
        rw [h1] at h2
        simp at h2
        omega
      obtain ⟨t', x, rfl⟩ : ∃ t' x, t = t' ++ [x] := ⟨t.dropLast, t.getLast htl, (List.dropLast_concat_getLast htl).symm⟩
      have hxs : x ∈ (s.upTo (t' ++ [x])).s := by show x ∈ t' ++ [x]; simp
      obtain ⟨hx3, hxq⟩ := L12.in_qK hT.fine hxs
      have HT := Lib.hid hT
      have HBK : Hid (Calls Try.prog 57 #[.pointer o1, .int .i64 0] wr fun e w' => ∃ b, e = .returned (.tuple #[.int .u64 (x.key : Nat), .bool b]) ∧ Below wr.heap.size wr w') := Lib.hid (by
        have := t_back1 hT.cs.t2 hT.cs.small
        rw [show (keysI (s.upTo (t' ++ [x])).s).getLastD 0 = x.key by show (keysI (t' ++ [x])).getLastD 0 = _; unfold keysI; simp] at this
        exact this)
      have HIT : Hid (∀ W, Below wr.heap.size wr W → Calls Try.prog 45 #[ptr xp, .int .u64 (x.key : Nat)] W fun e w' => e = .returned (.agg #[.int .u64 (x.key : Nat), .int .i64 (x.f : Nat)]) ∧ Below W.heap.size W w') := Lib.hid (fun W hb => item_walk HT.out.cs hb hx3 hxq)
      have HV : Hid (x.f ≠ 2 → TlV s pre x) := Lib.hid (fun hx => ⟨hx, t', hT.is⟩)
      have HE : Hid (x.f = 2 → TlE s pre) := Lib.hid (fun hx => hT.done (.inr ⟨t', x, rfl, hx⟩))
      obtain ⟨x0, x1, x2⟩ := hT.cs.cells
      have y0 := Boxed.cell hT.bx2
      clear hT htl hxs hxq
      by_cases hx : x.f = 2
      · obtain ⟨xk, xf⟩ := x
        obtain rfl : xf = 2 := hx
        gi_wp2_with (first
          | (refine ⟨trivial, ?_⟩; gi_at_call 57; refine (callsIn_wide.2 HBK.out).mono ?_; rintro e w2 ⟨b, rfl, hb2⟩; have y2 := (World.cell?_of_block (w := wr) (w' := w2) (a := ⟨b2, 0, none⟩) (hb2.block _ (head_row HT.out.bx2).lt)).trans y0)
          | (refine ⟨trivial, ?_⟩; gi_at_call 45; refine (callsIn_wide.2 (HIT.out _ hb2)).mono ?_; rintro e w3 ⟨rfl, hb3⟩))
        have H4 := Lib.hid (HJB.out _ _ _ HI.out ((hb2.trans (hb3.mono hb2.size)).trans ((low_one w3 (.cells #[.int .u64 (xk : Nat), .int .i64 2] ItT)).mono (Nat.le_trans hb2.size hb3.size))))
        refine ⟨fun _ h => (by cases h), ?_⟩
        gi_wp2
        refine bodyPost_ret (results_none rfl _ _ _) rfl ?_
        exact ⟨⟨_, rfl⟩, pre, H4.out, HE.out (by trivial)⟩
      · have hxI : ¬ (x.f : Int) = 2 := by omega
        have hxb : ((x.f : Int) == 2) = false := beq_eq_false_iff_ne.2 hxI
        gi_wp2_with (first
          | (refine ⟨trivial, ?_⟩; gi_at_call 57; refine (callsIn_wide.2 HBK.out).mono ?_; rintro e w2 ⟨b, rfl, hb2⟩; have y2 := (World.cell?_of_block (w := wr) (w' := w2) (a := ⟨b2, 0, none⟩) (hb2.block _ (head_row HT.out.bx2).lt)).trans y0)
          | (refine ⟨trivial, ?_⟩; gi_at_call 45; refine (callsIn_wide.2 (HIT.out _ hb2)).mono ?_; rintro e w3 ⟨rfl, hb3⟩))
        have H4 := Lib.hid (HJB.out _ _ _ HI.out ((hb2.trans (hb3.mono hb2.size)).trans ((low_one w3 (.cells (itC x) ItT)).mono (Nat.le_trans hb2.size hb3.size))))
        obtain ⟨fn, tmps, assign, body, hy, hR⟩ := HY.out pre x _ H4.out (HV.out hx)
        dsimp only [itC, ItT] at hy hR
        clear HIT HBK hb2 hb3 x0 x1 x2 y0 y2
        rw [hy]
        gi_wp2
        refine hR.mono ?_
        rintro e W5 ⟨rfl, hJ5, _⟩
        have H5 := Lib.hid hJ5
        clear hJ5 hR hy H4
        gi_wp2
        go_roundw
        case rel => exact ⟨pre ++ [x], by simp, by simp; omega, H5⟩
        case measure => simp only [intOf]; omega
    · have hltI : ¬ (pre.length : Int) < (N : Int) := by omega
      gi_wp2
      go_end0
      refine ⟨⟨_, rfl⟩, pre, HI.out, ?_⟩
      obtain ⟨t, hT⟩ := HJI.out _ _ HI.out
      refine hT.done (.inl (List.eq_nil_of_length_eq_zero ?_))
      have h1 := hT.is
      have h2 := HN.out
      rw [h1] at h2
      simp at h2
      omega
end
end Go.Proofs.Ytkhikpnlpcankaa
