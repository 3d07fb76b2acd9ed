/- The laws' begin: six slots of an arena, one of them free, and lists; and the document's own. -/
import Derived.Test.YtlmcodmglcmmoaaLDo
import Derived.Test.YtlmcodmglcmmoaaRefA
import Derived.Test.YtlmcodmglcmmoaaRlN
import Derived.Deep.LoopGhost
import Derived.Deep.DeepCutAuto
namespace Go.Proofs.Ytlmcodmglcmmoaa
open Go Go.RowKit Go.Deep

def begNd (k : Nat) : Nd := ⟨10 * k, k, k, 0, 0, 0⟩
def begA : Nat → St
  | 0 => St.first 5
  | k + 1 => (begA k).alloc.setI (begA k).next (begNd k)
def begF : St := (begA 6).freeI 4
theorem begA_facts : ∀ k, k ≤ 6 → (begA k).next = k + 1 ∧ (begA k).n ≤ 100 ∧ (begA k).alloc.n ≤ 100
  | 0, _ => by decide
  | 1, _ => by decide
  | 2, _ => by decide
  | 3, _ => by decide
  | 4, _ => by decide
  | 5, _ => by decide
  | 6, _ => by decide
theorem setI_ok {st : St} (h : st.Ok) (i : Int) (x : Nd) : (st.setI i x).Ok := by
  unfold St.setI
  split
  · rename_i hi
    obtain ⟨k, e, _, _, h3⟩ := St.is_nat h hi
    have : i.toNat = k := by omega
    rw [this]
    exact set_ok h h3 x
  · exact h

theorem Held.only {S : List Nat} {w0 w w' : World} {b : Nat} {st : St} {K : List Nat} (h : Held w0 w b st K) (ho : Only S w w') (hS : ∀ x ∈ S, x ∈ K ∧ w0.heap.size ≤ x) : Held w0 w' b st K := by
  obtain ⟨s, f, h1, h2, h3, kb, ks, kf, ha⟩ := h.mem
  exact ⟨h.below.trans (ho.below (fun x hx => (hS x hx).2) h.below.size), h.ok, fun k hk => Nat.lt_of_lt_of_le (h.old k hk) ho.size, s, f, h1, h2, h3, kb, ks, kf, ha.keep ho (fun hx => kb (hS _ hx).1) (fun hx => ks (hS _ hx).1) (fun hx => kf (hS _ hx).1)⟩
theorem Ref.kept2 {w w' : World} {v : Value} {st : St} {K : List Nat} (h : Ref w v st K) (hk : Kept K w w') (h1 : ∀ k ∈ K, k < w'.heap.size) : Ref w' v st K := by
  obtain ⟨h0, Fo, fc, nb, nc, nd, e, g1, g2, g3⟩ := h
  exact ⟨h1, Fo, fc, nb, nc, nd, e, g1.kept hk, g2.kept hk, g3⟩
theorem first_ref5 {w w1 : World} (h : RNew w w1) : Ref w1 (.agg #[.int .i64 5, .int .i64 0, .slice none 0 0, .slice (some ⟨w.heap.size + 1, 0, none⟩) 1 1]) (begA 0) [w.heap.size + 1] := by
  refine ⟨fun k hk => ?_, none, 0, w.heap.size + 1, 1, fun _ => Nd.zero, rfl, ⟨Nat.le_refl _, .inl ⟨rfl, rfl, rfl⟩⟩, ⟨Nat.le_refl _, by simp, fun p hp => ?_⟩, fun i hi => ?_⟩
  · obtain rfl : k = w.heap.size + 1 := by simpa using hk
    exact h.2.lt
  · have hp6 : p < 6 := hp
    rw [h.2.cell hp6]
    unfold nodeV
    rw [Nat.mod_eq_of_lt hp6]
  · have := tk_bounds hi
    have h2 : i ≤ 0 := this.2.1
    omega

theorem four_set_alloc {w : World} {g : Nat} {t : TypeId} {a0 a1 a2 a3 : Value} (hB : w.heap[g]? = some (.cells #[a0, a1, a2, a3] t (0, 0))) (b0 b1 b2 b3 : Value) (o : Obj) :
    (((((w.setCell ⟨g, 0, none⟩ b0).setCell ⟨g, 1, none⟩ b1).setCell ⟨g, 2, none⟩ b2).setCell ⟨g, 3, none⟩ b3).alloc o).heap[g]? = some (.cells #[b0, b1, b2, b3] t (0, 0)) ∧
    Only [g] w (((((w.setCell ⟨g, 0, none⟩ b0).setCell ⟨g, 1, none⟩ b1).setCell ⟨g, 2, none⟩ b2).setCell ⟨g, 3, none⟩ b3).alloc o) := by
  obtain ⟨h1, h2⟩ := four_set hB b0 b1 b2 b3
  exact ⟨(Below.heap_alloc _ _ _ (head_row h1).lt).trans h1, h2.alloc o⟩

theorem fiveR_set {w1 : World} {g : Nat} {t : TypeId} {a0 a1 a2 a3 a4 : Value} (hB : w1.heap[g]? = some (.cells #[a0, a1, a2, a3, a4] t (0, 0))) (b0 b1 b2 b3 b4 : Value) :
    (((((w1.setCell ⟨g, 0, none⟩ b0).setCell ⟨g, 1, none⟩ b1).setCell ⟨g, 2, none⟩ b2).setCell ⟨g, 3, none⟩ b3).setCell ⟨g, 4, none⟩ b4).heap[g]? = some (.cells #[b0, b1, b2, b3, b4] t (0, 0)) ∧
    Only [g] w1 (((((w1.setCell ⟨g, 0, none⟩ b0).setCell ⟨g, 1, none⟩ b1).setCell ⟨g, 2, none⟩ b2).setCell ⟨g, 3, none⟩ b3).setCell ⟨g, 4, none⟩ b4) := by
  have hs : ∀ (W : World) (c : Array Value) (i : Nat) (v : Value), W.heap[g]? = some (.cells c t (0, 0)) → (W.setCell ⟨g, i, none⟩ v).heap[g]? = some (.cells (c.setIfInBounds i v) t (0, 0)) := fun W c i v h => by
    simp [World.setCell, Array.getElem?_modify, h]
  refine ⟨?_, ((((((Only.refl [g] w1).setCell (by simp) _).setCell (by simp) _).setCell (by simp) _).setCell (by simp) _).setCell (by simp) _)⟩
  exact hs _ _ _ _ (hs _ _ _ _ (hs _ _ _ _ (hs _ _ _ _ (hs _ _ _ _ hB))))
theorem five_cells {W : World} {g : Nat} {t : TypeId} {b0 b1 b2 b3 b4 : Value} (h : W.heap[g]? = some (.cells #[b0, b1, b2, b3, b4] t (0, 0))) :
    W.cell? ⟨g, 0, none⟩ = some b0 ∧ W.cell? ⟨g, 1, none⟩ = some b1 ∧ W.cell? ⟨g, 2, none⟩ = some b2 ∧ W.cell? ⟨g, 3, none⟩ = some b3 ∧ W.cell? ⟨g, 4, none⟩ = some b4 :=
  ⟨(head_row h).cell (i := 0) (by simp), (head_row h).cell (i := 1) (by simp), (head_row h).cell (i := 2) (by simp), (head_row h).cell (i := 3) (by simp), (head_row h).cell (i := 4) (by simp)⟩
theorem five_free {W : World} {g : Nat} {t : TypeId} {b0 b1 b2 b3 b4 : Value} (h : W.heap[g]? = some (.cells #[b0, b1, b2, b3, b4] t (0, 0))) :
    W.frozen? ⟨g, 0, none⟩ = false ∧ W.frozen? ⟨g, 1, none⟩ = false ∧ W.frozen? ⟨g, 2, none⟩ = false ∧ W.frozen? ⟨g, 3, none⟩ = false ∧ W.frozen? ⟨g, 4, none⟩ = false :=
  ⟨(head_row h).frozen 0, (head_row h).frozen 1, (head_row h).frozen 2, (head_row h).frozen 3, (head_row h).frozen 4⟩
def Unlinked (st : St) : Prop := ∀ j, (st.node j).tag = 0 ∧ (st.node j).prev = 0 ∧ (st.node j).next = 0
theorem unlinked_alloc {st : St} (h : Unlinked st) : Unlinked st.alloc := by
  have e : st.alloc.node = st.node := by unfold St.alloc; split <;> rfl
  intro j
  rw [e]
  exact h j
theorem unlinked_upd {nd : Nat → Nd} (h : ∀ j, (nd j).tag = 0 ∧ (nd j).prev = 0 ∧ (nd j).next = 0) (i : Nat) (x : Nd) (hx : x.tag = 0 ∧ x.prev = 0 ∧ x.next = 0) (j : Nat) : (upd nd i x j).tag = 0 ∧ (upd nd i x j).prev = 0 ∧ (upd nd i x j).next = 0 := by
  unfold upd
  split
  · exact hx
  · exact h j
theorem unlinked_beg : ∀ k, Unlinked (begA k)
  | 0 => fun _ => ⟨rfl, rfl, rfl⟩
  | k + 1 => by
    have h := unlinked_alloc (unlinked_beg k)
    intro j
    show (((begA k).alloc.setI (begA k).next (begNd k)).node j).tag = 0 ∧ (((begA k).alloc.setI (begA k).next (begNd k)).node j).prev = 0 ∧ (((begA k).alloc.setI (begA k).next (begNd k)).node j).next = 0
    unfold St.setI
    split
    · exact unlinked_upd h _ _ ⟨rfl, rfl, rfl⟩ j
    · exact h j
theorem begF_zero : Unlinked begF := by
  intro j
  show (((begA 6).freeI 4).node j).tag = 0 ∧ (((begA 6).freeI 4).node j).prev = 0 ∧ (((begA 6).freeI 4).node j).next = 0
  unfold St.freeI
  split
  · exact unlinked_upd (unlinked_beg 6) _ _ ⟨rfl, rfl, rfl⟩ j
  · exact unlinked_beg 6 j

structure BegInv (w0 w : World) (b B R : Nat) (k : Nat) (cs : Array Value) (K : List Nat) : Prop where
  held : Held w0 w b (begA k) (B :: R :: K)
  ref : Ref w (.agg cs) (begA k) K
  cell : w.heap[B]? = some (.cells cs 29 (0, 0))
  res : w.heap[R]? = some (.cells #[.int .i64 0, .int .i64 0, .slice none 0 0, .slice none 0 0, .slice none 0 0] 32 (0, 0))
  ne : B ≠ R ∧ B ∉ K ∧ R ∉ K
  low : w0.heap.size ≤ B ∧ w0.heap.size ≤ R

/- The document's own lists, as a value: n of them, l tells what each has. -/
structure RowsAt (w : World) (o n : Nat) (l : Nat → List Nat) (K : List Nat) : Prop where
  kin : o ∈ K
  row : ∀ t, t < n → ∃ F c, w.cell? ⟨o, t, none⟩ = some (.slice F (l t).length c) ∧ FreedAt w F (l t) c K
def RefL (w : World) (v : Value) (n : Nat) (l : Nat → List Nat) (st : St) (K : List Nat) : Prop := ∃ (Fo : Option Addr) (fc nb nc o oc : Nat),
  v = refLs st.n st.used Fo st.freed.length fc nb (st.used + 1) nc (some ⟨o, 0, none⟩) n oc ∧ n ≤ oc ∧ Ref w (refV st.n st.used Fo st.freed.length fc nb (st.used + 1) nc) st K ∧ RowsAt w o n l K
def BegPost (w0 : World) (q : Nat) (e : Ending) (w' : World) : Prop := ∃ (b p : Nat) (v : Value) (K : List Nat), e = .returned (.tuple #[.pointer (some ⟨b, 0, none⟩), .pointer (some ⟨p, 0, none⟩), v]) ∧ HL w0 w' p b (1 + q) (fun _ => []) begF K ∧ RefL w' v (1 + q) (fun _ => []) begF K

theorem numT_q (q : Nat) (hq : q < 3) : numT (1 + (q : Int)) = 1 + q := by
  unfold numT
  rw [if_neg (by omega), if_neg (by omega)]
  omega
theorem held_new4 {w0 w : World} (hb : Below w0.heap.size w0 w) (K : List Nat) (hK : ∀ k ∈ K, k < w.heap.size) :
    Calls Try.prog 13 #[.int .i64 4] w fun e w' => e = .returned (.pointer (some ⟨w.heap.size, 0, none⟩)) ∧ Held w0 w' w.heap.size (begA 0) K ∧ Below w.heap.size w w' := by
  have h := new_walk w 4 (by omega) (by omega)
  refine h.mono ?_
  rintro e w' ⟨rfl, ho, ha⟩
  have hsz := hb.size
  exact ⟨rfl, ⟨hb.trans (ho.nil_below.mono hsz), first_ok _ (by omega), fun k hk => Nat.lt_of_lt_of_le (hK k hk) ho.size, _, _, by omega, by omega, by omega, fun hk => by have := hK _ hk; omega, fun hk => by have := hK _ hk; omega, fun hk => by have := hK _ hk; omega, ha⟩, ho.nil_below⟩

theorem HL.only {S : List Nat} {w0 w w' : World} {p b n : Nat} {l : Nat → List Nat} {A : St} {K : List Nat} (h : HL w0 w p b n l A K) (ho : Only S w w') (hS : ∀ g ∈ S, g ∈ K ∧ w0.heap.size ≤ g) : HL w0 w' p b n l A K := by
  obtain ⟨x, h1, h2, h3, h4⟩ := h
  exact ⟨x, h1.only ho hS, h2, h3, h4⟩

set_option maxHeartbeats 1000000 in
theorem begin_walk {w0 w : World} (hb0 : Below w0.heap.size w0 w) (r : Nat) (hr : r < 256) :
    Calls Try.prog 9 #[.int .u8 r] w (BegPost w0 (r % 3)) := by
  have e1 : (r : Int).tmod 3 = ((r % 3 : Nat) : Int) := by rw [Int.tmod_eq_emod_of_nonneg (by omega)]; omega
  have e2 : (r : Int) % 3 = ((r % 3 : Nat) : Int) := by omega
  obtain ⟨q, hq, hq3⟩ : ∃ q : Nat, r % 3 = q ∧ q < 3 := ⟨_, rfl, by omega⟩
  rw [hq] at e1 e2
  rw [hq]
  clear hq
  have HB0 := Lib.hid hb0
  have hz0 := hb0.size
  clear hb0
  go_enter Try.func9, Try.ntmps9
  go_wp2_with fail
  refine (held_new4 (HB0.out.trans (((Below.refl w.heap.size w).alloc (Nat.le_refl _) (.cells #[.int .i64 0, .int .i64 0, .slice none 0 0, .slice none 0 0, .slice none 0 0] 32)).mono hz0)) [w.heap.size] (by simp)).mono ?_
  rintro e w2 ⟨rfl, h, hb2⟩
  have ez : (w.alloc (.cells #[.int .i64 0, .int .i64 0, .slice none 0 0, .slice none 0 0, .slice none 0 0] 32)).heap.size = w.heap.size + 1 := by simp
  have hR2 : w2.heap[w.heap.size]? = some (.cells #[.int .i64 0, .int .i64 0, .slice none 0 0, .slice none 0 0, .slice none 0 0] 32 (0, 0)) := (hb2.block w.heap.size (by simp)).trans (heap_alloc_new w _)
  have hz2 : w.heap.size < w2.heap.size := by have := hb2.size; simp at this; omega
  rw [ez] at h
  have H2 := Lib.hid h
  have HR2 := Lib.hid hR2
  clear h hb2 hR2 ez
  go_wp2_with fail
  refine (show Calls _ _ _ w2 fun e w' => e = .returned (.agg #[.int .i64 5, .int .i64 0, .slice none 0 0, .slice (some ⟨w2.heap.size + 1, 0, none⟩) 1 1]) ∧ RNew w2 w' from rnew_more w2 4 (by omega) (by omega)).mono ?_
  rintro e w3 ⟨rfl, hnew⟩
  have hz3 : w2.heap.size + 1 < w3.heap.size := hnew.2.lt
  have HRF := Lib.hid (first_ref5 hnew)
  have HNW := Lib.hid hnew
  clear hnew
  go_wp2_with fail
  go_loopg [7] 6 (fun g s7 wr => ∃ (k : Nat) (cs : Array Value) (K : List Nat), k + g = 6 ∧ s7 = .int .i64 k ∧ Hid (BegInv w0 wr (w.heap.size + 1) w3.heap.size w.heap.size k cs K))
  case atStart =>
    refine ⟨0, #[.int .i64 5, .int .i64 0, .slice none 0 0, .slice (some ⟨w2.heap.size + 1, 0, none⟩) 1 1], [w2.heap.size + 1], by omega, rfl, Lib.hid ?_⟩
    have hbW := HNW.out.1.alloc (by omega) (.cells #[.int .i64 5, .int .i64 0, .slice none 0 0, .slice (some ⟨w2.heap.size + 1, 0, none⟩) 1 1] 29)
    have hb3 := (Below.refl w3.heap.size w3).alloc (Nat.le_refl _) (.cells #[.int .i64 5, .int .i64 0, .slice none 0 0, .slice (some ⟨w2.heap.size + 1, 0, none⟩) 1 1] 29)
    refine ⟨H2.out.other hbW (fun k hk => ?_), HRF.out.below hb3, heap_alloc_new w3 _, (hbW.block _ hz2).trans HR2.out, ⟨by omega, by simp; omega, by simp; omega⟩, ⟨by omega, hz0⟩⟩
    rcases List.mem_cons.1 hk with rfl | hk
    · exact ⟨.inr (by omega), by simp⟩
    · rcases List.mem_cons.1 hk with rfl | hk
      · exact ⟨.inl (by simp), by simp; omega⟩
      · obtain rfl : k = w2.heap.size + 1 := by simpa using hk
        exact ⟨.inr (by omega), by simp; omega⟩
  case round =>
    obtain ⟨k, cs, K, hk, rfl, HI⟩ := hrel
    by_cases hlt : k < 6
    · obtain ⟨f1, f2, f3⟩ := begA_facts k (by omega)
      have hltI : (k : Int) < 6 := by omega
      have w1 : IntKind.i64.wrap (10 * (k : Int)) = 10 * (k : Int) := IntWalk.i64_in _ (by omega)
      have w2' : IntKind.u64.wrap (10 * (k : Int)) = 10 * (k : Int) := by rw [IntKind.wrap_u64]; omega
      have w3' : IntKind.u64.wrap (k : Int) = (k : Int) := by rw [IntKind.wrap_u64]; omega
      have HF2 := Lib.hid f2
      have HF3 := Lib.hid f3
      have e3 : ((k + 1 : Nat) : Int) = (k : Int) + 1 := by omega
      have hal := held_alloc HI.out.held (by omega)
      rw [f1, e3] at hal
      have HAL := Lib.hid hal
      have hbeg : begA (k + 1) = (begA k).alloc.setI ((begA k).next : Int) (begNd k) := rfl
      rw [f1, e3] at hbeg
      have HBG := Lib.hid hbeg
      have HFX := Lib.hid f1
      have hok := HI.out.held.ok
      have HOK := Lib.hid hok
      clear f1 f2 f3 hbeg e3 hal hok
      go_wp2_with fail
      refine HAL.out.mono ?_
      rintro e w4 ⟨rfl, h4, hk4⟩
      have H4 := Lib.hid h4
      have K4 := Lib.hid hk4
      clear h4 hk4 HAL
      go_wp2_with fail
      refine (show Calls _ _ _ w4 fun e w' => e = .returned (.bool ((begA k).alloc.is ((k : Int) + 1))) ∧ Held w0 w' (w.heap.size + 1) ((begA k).alloc.setI ((k : Int) + 1) (begNd k)) (w3.heap.size :: w.heap.size :: K) ∧ Kept (w3.heap.size :: w.heap.size :: K) w4 w' from held_set H4.out (by have := HF3.out; omega) ((k : Int) + 1) (by omega) (begNd k)).mono ?_
      rintro e w5 ⟨rfl, h5, hk5⟩
      rw [← HBG.out] at h5
      have H5 := Lib.hid h5
      have K5 := Lib.hid (K4.out.trans hk5)
      clear h5 hk5 H4 K4
      obtain ⟨_, Fo, fc, nb, nc, nd, ecs, _, _, _⟩ := HI.out.ref
      injection ecs with ecs
      subst ecs
      have hcB := (K5.out w3.heap.size (by simp)).trans HI.out.cell
      obtain ⟨b0, b1, b2, b3⟩ := four_cells hcB
      have HR5 := Lib.hid (HI.out.ref.kept2 (w' := w5) (fun x hx => K5.out x (by simp [hx])) (fun x hx => H5.out.old x (by simp [hx])))
      have HCB := Lib.hid hcB
      clear hcB
      go_wp2_with fail
      refine (ralloc_walk HR5.out HOK.out (by have := HF2.out; omega)).mono ?_
      rintro e w6 ⟨v6, K6, rfl, hb6, hr6, hk6⟩
      have HR6 := Lib.hid hr6
      have HB6 := Lib.hid hb6
      have HK6 := Lib.hid hk6
      obtain ⟨_, Fo6, fc6, nb6, nc6, nd6, rfl, _, _, _⟩ := hr6
      rw [HFX.out]
      clear hb6 hk6 b0 b1 b2 b3
      go_wp2_with fail
      refine (show Calls _ _ _ _ (RefNext _ K6 ((begA k).alloc.setI ((k : Int) + 1) (begNd k)) (fun v' => .tuple #[v', .bool ((begA k).alloc.is ((k : Int) + 1))])) from rset_walk (HR6.out.below ((Below.refl _ _).alloc (Nat.le_refl _) (.cells (refCells (begA k).alloc.n (begA k).alloc.used Fo6 (begA k).alloc.freed.length fc6 nb6 ((begA k).alloc.used + 1) nc6) 29))) (alloc_ok HOK.out) (by have := HF3.out; omega) ((k : Int) + 1) (by omega) (begNd k)).mono ?_
      rintro e w7 ⟨v7, K7, rfl, hb7, hr7, hk7⟩
      rw [← HBG.out] at hr7
      have HR7 := Lib.hid hr7
      obtain ⟨_, Fo7, fc7, nb7, nc7, nd7, rfl, _, _, _⟩ := hr7
      have hB5 : w3.heap.size < w5.heap.size := (head_row HCB.out).lt
      have hR5 : w.heap.size < w5.heap.size := H5.out.old _ (by simp)
      have hb67 : Below w5.heap.size w5 w7 := (HB6.out.alloc HB6.out.size (.cells (refCells (begA k).alloc.n (begA k).alloc.used Fo6 (begA k).alloc.freed.length fc6 nb6 ((begA k).alloc.used + 1) nc6) 29)).trans (hb7.mono (by have := HB6.out.size; simp; omega))
      have hK7 : ∀ x ∈ K7, x ∈ K ∨ w5.heap.size ≤ x := fun x hx => by
        rcases hk7 x hx with g | g
        · exact HK6.out x g
        · right
          have := HB6.out.size
          simp at g
          omega
      have HB67 := Lib.hid hb67
      have HK7 := Lib.hid hK7
      clear hb7 hb67 hK7 hk7
      obtain ⟨n1, hn1⟩ : ∃ n1, (begA (k + 1)).n = n1 := ⟨_, rfl⟩
      obtain ⟨u1, hu1⟩ : ∃ u1, (begA (k + 1)).used = u1 := ⟨_, rfl⟩
      obtain ⟨l1, hl1⟩ : ∃ l1, (begA (k + 1)).freed.length = l1 := ⟨_, rfl⟩
      rw [hn1, hu1, hl1] at HR7 ⊢
      clear hn1 hu1 hl1
      have hcB70 : w7.heap[w3.heap.size]? = some (.cells (refCells (begA k).n (begA k).used Fo (begA k).freed.length fc nb ((begA k).used + 1) nc) 29 (0, 0)) := (HB67.out.block w3.heap.size hB5).trans HCB.out
      obtain ⟨b0, b1, b2, b3⟩ := four_cells hcB70
      obtain ⟨z0, z1, z2, z3⟩ := four_free hcB70
      have hl7 : w3.heap.size < w7.heap.size := (head_row hcB70).lt
      have HFS := Lib.hid (four_set_alloc hcB70 (.int .i64 n1) (.int .i64 u1) (.slice Fo7 l1 fc7) (.slice (some ⟨nb7, 0, none⟩) (u1 + 1) nc7) (.cells (refCells n1 u1 Fo7 l1 fc7 nb7 (u1 + 1) nc7) 29))
      clear hcB70
      go_wp2
      have hfs := HFS.out
      generalize (((((w7.setCell ⟨w3.heap.size, 0, none⟩ (.int .i64 n1)).setCell ⟨w3.heap.size, 1, none⟩ (.int .i64 u1)).setCell ⟨w3.heap.size, 2, none⟩ (.slice Fo7 l1 fc7)).setCell ⟨w3.heap.size, 3, none⟩ (.slice (some ⟨nb7, 0, none⟩) (u1 + 1) nc7)).alloc (.cells #[.int .i64 n1, .int .i64 u1, .slice Fo7 l1 fc7, .slice (some ⟨nb7, 0, none⟩) (u1 + 1) nc7] 29)) = W at hfs ⊢
      go_roundg (gk - 1)
      case measure => omega
      case rel =>
        refine ⟨k + 1, refCells n1 u1 Fo7 l1 fc7 nb7 (u1 + 1) nc7, K7, by omega, by go_num, Lib.hid ⟨?_, ?_, hfs.1, ?_, ?_, HI.out.low⟩⟩
        · refine (H5.out.other HB67.out (K' := w3.heap.size :: w.heap.size :: K7) (fun x hx => ?_)).only hfs.2 (fun x hx => ?_)
          · have hsz := HB67.out.size
            rcases List.mem_cons.1 hx with rfl | hx
            · exact ⟨.inl (by simp), by omega⟩
            · rcases List.mem_cons.1 hx with rfl | hx
              · exact ⟨.inl (by simp), by omega⟩
              · exact ⟨(HK7.out x hx).imp (fun g => by simp [g]) id, HR7.out.1 x hx⟩
          · obtain rfl : x = w3.heap.size := by simpa using hx
            exact ⟨by simp, HI.out.low.1⟩
        · refine HR7.out.kept2 (fun x hx => hfs.2.block x (HR7.out.1 x hx) ?_) (fun x hx => Nat.lt_of_lt_of_le (HR7.out.1 x hx) hfs.2.size)
          simp only [List.mem_singleton]
          rintro rfl
          exact (HK7.out _ hx).elim HI.out.ne.2.1 (by omega)
        · refine (hfs.2.block w.heap.size ?_ ?_).trans ((HB67.out.block w.heap.size hR5).trans ((K5.out w.heap.size (by simp)).trans HI.out.res))
          · have hsz := HB67.out.size; omega
          · simp only [List.mem_singleton]
            exact fun e => HI.out.ne.1 e.symm
        · exact ⟨HI.out.ne.1, fun g => (HK7.out _ g).elim HI.out.ne.2.1 (by omega), fun g => (HK7.out _ g).elim HI.out.ne.2.2 (by omega)⟩
    · obtain rfl : k = 6 := by omega
      obtain ⟨_, Fo, fc, nb, nc, nd, ecs, _, _, _⟩ := HI.out.ref
      injection ecs with ecs
      subst ecs
      go_wp2_with fail
      refine (show Calls _ _ _ wr fun e w' => e = .returned (.bool true) ∧ Held w0 w' (w.heap.size + 1) begF (w3.heap.size :: w.heap.size :: K) ∧ Kept (w3.heap.size :: w.heap.size :: K) wr w' from held_free HI.out.held (by have := (begA_facts 6 (by omega)).2.1; omega) 4 (by decide)).mono ?_
      rintro e w4 ⟨rfl, h4, hk4⟩
      have H4 := Lib.hid h4
      have K4 := Lib.hid hk4
      have hcB := (hk4 w3.heap.size (by simp)).trans HI.out.cell
      have HR4 := Lib.hid (HI.out.ref.kept2 (w' := w4) (fun x hx => hk4 x (by simp [hx])) (fun x hx => h4.old x (by simp [hx])))
      have HRS := Lib.hid ((hk4 w.heap.size (by simp)).trans HI.out.res)
      obtain ⟨b0, b1, b2, b3⟩ := four_cells hcB
      have hok := HI.out.held.ok
      have HOK := Lib.hid hok
      clear h4 hk4 hcB hok
      go_wp2_with fail
      refine (show Calls _ _ _ w4 (RefNext w4 K begF (fun v' => .tuple #[v', .bool true])) from rfree_walk HR4.out HOK.out (by have := (begA_facts 6 (by omega)).2.1; omega) 4 (by decide)).mono ?_
      rintro e w5 ⟨v5, K5, rfl, hb5, hr5, hk5⟩
      have HR5 := Lib.hid hr5
      obtain ⟨_, Fo5, fc5, nb5, nc5, nd5, rfl, _, _, _⟩ := hr5
      have hR4 : w.heap.size < w4.heap.size := H4.out.old _ (by simp)
      have HBX := Lib.hid (hb5.alloc hb5.size (.cells (refCells begF.n begF.used Fo5 begF.freed.length fc5 nb5 (begF.used + 1) nc5) 29))
      have HBY := Lib.hid ((Below.refl w5.heap.size w5).alloc (Nat.le_refl _) (.cells (refCells begF.n begF.used Fo5 begF.freed.length fc5 nb5 (begF.used + 1) nc5) 29))
      have HE := Lib.hid (heap_alloc_new w5 (.cells (refCells begF.n begF.used Fo5 begF.freed.length fc5 nb5 (begF.used + 1) nc5) 29))
      have h45 := hb5.size
      have HK5 := Lib.hid hk5
      have hlE : w5.heap.size < (w5.alloc (.cells (refCells begF.n begF.used Fo5 begF.freed.length fc5 nb5 (begF.used + 1) nc5) 29)).heap.size := by simp
      clear b0 b1 b2 b3 hb5 hk5
      go_wp2_with fail
      generalize w5.alloc (.cells (refCells begF.n begF.used Fo5 begF.freed.length fc5 nb5 (begF.used + 1) nc5) 29) = X at HBX HBY HE hlE ⊢
      have HHX : Hid (Held w0 X (w.heap.size + 1) begF (w5.heap.size :: w.heap.size :: K5)) := Lib.hid (H4.out.other HBX.out (fun x hx => by
        have hsz := HBX.out.size
        rcases List.mem_cons.1 hx with rfl | hx
        · exact ⟨.inr h45, hlE⟩
        · rcases List.mem_cons.1 hx with rfl | hx
          · exact ⟨.inl (by simp), by omega⟩
          · exact ⟨(HK5.out x hx).imp (fun g => by simp [g]) id, by have := HR5.out.1 x hx; omega⟩))
      have HRX : Hid (X.heap[w.heap.size]? = some (.cells #[.int .i64 0, .int .i64 0, .slice none 0 0, .slice none 0 0, .slice none 0 0] 32 (0, 0))) := Lib.hid ((HBX.out.block _ hR4).trans HRS.out)
      have HRFX := Lib.hid (HR5.out.below HBY.out)
      obtain ⟨cc0, cc1, cc2, cc3⟩ := four_cells HE.out
      have hin := fun w' (hb : Below X.heap.size X w') => ilnew_walk (HHX.out.still hb).1 (by decide) (fun j _ => begF_zero j) (1 + (q : Int))
      rw [numT_q q hq3] at hin
      have hmn := fun w' => rlnew_walk w' begF.n begF.used Fo5 begF.freed.length fc5 nb5 (begF.used + 1) nc5 (1 + (q : Int))
      rw [numT_q q hq3] at hmn
      have hXz : w.heap.size < X.heap.size := HHX.out.old _ (by simp)
      have HXB := Lib.hid (HHX.out.below)
      have hhe := HE.out
      have hrfx := HRFX.out
      obtain ⟨FF, hFF⟩ : ∃ FF, begF = FF := ⟨_, rfl⟩
      rw [hFF] at hin hmn hhe hrfx cc0 cc1 cc2 cc3
      clear HHX HRFX HE HR5 HBX HBY HR4 H4 K4
      have HFF := Lib.hid hFF
      clear hFF
      obtain ⟨n1, hn1⟩ : ∃ n1, FF.n = n1 := ⟨_, rfl⟩
      obtain ⟨u1, hu1⟩ : ∃ u1, FF.used = u1 := ⟨_, rfl⟩
      obtain ⟨l1, hl1⟩ : ∃ l1, FF.freed.length = l1 := ⟨_, rfl⟩
      rw [hn1, hu1, hl1] at hmn hhe hrfx
      rw [hn1] at cc0
      rw [hu1] at cc1 cc3
      rw [hl1] at cc2
      have HN1 := Lib.hid (And.intro hn1 (And.intro hu1 hl1))
      clear hn1 hu1 hl1
      have eA : IntKind.i64.wrap (1 + (IntKind.i64.wrap (r : Int)).tmod 3) = 1 + (q : Int) := by
        rw [IntWalk.i64_in (r : Int) (by omega), e1, IntWalk.i64_in _ (by omega)]
      rw [← eA] at hin hmn
      clear eA
      have HIN := Lib.hid hin
      have HMN := Lib.hid hmn
      have HE := Lib.hid hhe
      have HRFX := Lib.hid hrfx
      clear hin hmn hhe hrfx
      go_region_held3 (fun w' => w'.cell? ⟨w5.heap.size, 0, none⟩ = some (.int .i64 n1) ∧ w'.cell? ⟨w5.heap.size, 1, none⟩ = some (.int .i64 u1) ∧ w'.cell? ⟨w5.heap.size, 2, none⟩ = some (.slice Fo5 l1 fc5) ∧ w'.cell? ⟨w5.heap.size, 3, none⟩ = some (.slice (some ⟨nb5, 0, none⟩) (u1 + 1) nc5))
        (first | with_reducible exact kk7 | with_reducible exact kk6 | with_reducible exact KK1 _ (fiveR_set hR7 _ _ _ _ _).2 | go_keep)
        (first
          | (go_at_call 15; refine (HIN.out _ (Below.refl _ _).drew).mono ?_; rintro e w6 ⟨rfl, h6, g6⟩; have kk6 := four_cells ((g6 w5.heap.size (by simp)).trans HE.out))
          | (go_at_call 16; refine (HMN.out _).mono ?_; rintro e w7 ⟨o, rfl, hb7, ho7, hrow7⟩; have kk7 := four_cells ((hb7.block w5.heap.size (h6.old _ (by simp))).trans ((g6 w5.heap.size (by simp)).trans HE.out)); have hR7 := (hb7.block w.heap.size (h6.old _ (by simp))).trans ((g6 w.heap.size (by simp)).trans HRX.out); have hl7 : w5.heap.size < w7.heap.size := Nat.lt_of_lt_of_le (h6.old _ (by simp)) hb7.size; have hE7 := (hb7.block w5.heap.size (h6.old _ (by simp))).trans ((g6 w5.heap.size (by simp)).trans HE.out); have KK1 := fun (W : World) (ho : Only [w.heap.size] w7 W) => four_cells ((ho.block w5.heap.size hl7 (by simp; omega)).trans hE7); obtain ⟨xx0, xx1, xx2, xx3, xx4⟩ := five_cells hR7; obtain ⟨zz0, zz1, zz2, zz3, zz4⟩ := five_free hR7))
      have hfs := fiveR_set hR7 (.int .i64 n1) (.int .i64 u1) (.slice Fo5 l1 fc5) (.slice (some ⟨nb5, 0, none⟩) (u1 + 1) nc5) (.slice (some ⟨o, 0, none⟩) (1 + q) (1 + q))
      have H6 := Lib.hid h6
      have G6 := Lib.hid g6
      have HB7 := Lib.hid hb7
      have HO7 := Lib.hid ho7
      have HROW := Lib.hid hrow7
      have h6z : w.heap.size < w6.heap.size := h6.old _ (by simp)
      clear h6 g6 hb7 ho7 hrow7 kk6 kk7 KK1 hR7 hE7 xx0 xx1 xx2 xx3 xx4 zz0 zz1 zz2 zz3 zz4 cc0 cc1 cc2 cc3
      generalize (((((w7.setCell ⟨w.heap.size, 0, none⟩ (.int .i64 n1)).setCell ⟨w.heap.size, 1, none⟩ (.int .i64 u1)).setCell ⟨w.heap.size, 2, none⟩ (.slice Fo5 l1 fc5)).setCell ⟨w.heap.size, 3, none⟩ (.slice (some ⟨nb5, 0, none⟩) (u1 + 1) nc5)).setCell ⟨w.heap.size, 4, none⟩ (.slice (some ⟨o, 0, none⟩) (1 + q) (1 + q))) = W at *
      obtain ⟨y0, y1, y2, y3, y4⟩ := five_cells hfs.1
      have hx0 : w.heap.size ∉ K5 := fun g => (HK5.out _ g).elim HI.out.ne.2.2 (by omega)
      have ho0 : w6.heap.size ≤ o := HO7.out
      have ho1 : o < w7.heap.size := HROW.out.lt
      have h67 := HB7.out.size
      have h7W := hfs.2.size
      have HFS := Lib.hid hfs
      clear hfs
      go_wp2_with fail
      refine bodyPost_ret (v := .tuple #[.pointer (some ⟨w.heap.size + 1, 0, none⟩), .pointer (some ⟨X.heap.size + 1, 0, none⟩), refLs n1 u1 Fo5 l1 fc5 nb5 (u1 + 1) nc5 (some ⟨o, 0, none⟩) (1 + q) (1 + q)]) (by simp [results, Try.results9, go_sem, y0, y1, y2, y3, y4]) rfl ⟨_, _, _, o :: K5, rfl, ?_, ?_⟩
      · rw [HFF.out]
        have g1 := H6.out.other HB7.out (K' := w.heap.size :: o :: K5) (fun x hx => by
          rcases List.mem_cons.1 hx with rfl | hx
          · exact ⟨.inl (by simp), by omega⟩
          · rcases List.mem_cons.1 hx with rfl | hx
            · exact ⟨.inr ho0, ho1⟩
            · exact ⟨.inl (by simp [hx]), by have := H6.out.old x (by simp [hx]); omega⟩)
        have g2 := g1.only HFS.out.2 (fun x hx => by
          obtain rfl : x = w.heap.size := by simpa using hx
          exact ⟨by simp, hz0⟩)
        exact g2.other (Below.refl _ _) (fun x hx => ⟨.inl (by simp at hx; simp [hx]), g2.old x (by simp at hx; simp [hx])⟩)
      · rw [HFF.out]
        obtain ⟨e1', e2', e3'⟩ := HN1.out
        have hk67 : Kept K5 X W := fun x hx => by
          have hx6 := H6.out.old x (by simp [hx])
          refine (HFS.out.2.block x (by omega) ?_).trans ((HB7.out.block x hx6).trans (G6.out x (by simp [hx])))
          simp only [List.mem_singleton]
          rintro rfl
          exact hx0 hx
        have hr := HRFX.out.kept2 hk67 (fun x hx => by have := H6.out.old x (by simp [hx]); omega)
        refine ⟨Fo5, fc5, nb5, nc5, o, 1 + q, by rw [e1', e2', e3'], Nat.le_refl _, ?_, by simp, fun t ht => ⟨none, 0, ?_, by simp, .inl ⟨rfl, rfl, rfl⟩⟩⟩
        · rw [e1', e2', e3']
          obtain ⟨h0, Fo', fc', nb', nc', nd', e', k1, k2, k3⟩ := hr
          exact ⟨fun x hx => by
            rcases List.mem_cons.1 hx with rfl | hx
            · omega
            · exact h0 x hx, Fo', fc', nb', nc', nd', e', ⟨k1.cap, k1.mem.imp id (fun ⟨fb, q1, q2, q3⟩ => ⟨fb, q1, by simp [q2], q3⟩)⟩, ⟨k2.cap, by simp [k2.kin], k2.cells⟩, k3⟩
        · refine (World.cell?_of_block (w := w7) (a := ⟨o, t, none⟩) (HFS.out.2.block o ho1 ?_)).trans (HROW.out.cell ht)
          simp only [List.mem_singleton]
          omega
end Go.Proofs.Ytlmcodmglcmmoaa
