/- The laws' run: acts on an arena, and on the document's own, side by side. -/
import Derived.Test.YtdjokgjobkjdhaaRefD
import Derived.Test.YtdjokgjobkjdhaaRoom
import Derived.Deep.DeepCutAuto
namespace Go.Proofs.Ytdjokgjobkjdhaa
open Go Go.RowKit Go.Deep

/- An arena, and the document's own, of one state; v: the document's value; K: its blocks, and others that the arena has nothing to do with. -/
structure Pair (w0 w : World) (b : Nat) (st : St) (v : Value) (K : List Nat) : Prop where
  held : Held w0 w b st K
  ref : Ref w v st K
  used : st.used ≤ 50
  n : st.n ≤ 200
structure RunInv (w0 w : World) (b B R : Nat) (st : St) (cs : Array Value) (K : List Nat) (k : Nat) : Prop where
  held : Held w0 w b st (B :: R :: K)
  ref : Ref w (.agg cs) st K
  cell : w.heap[B]? = some (.cells cs 31 (0, 0))
  res : w.heap[R]? = some (.cells #[.int .i64 0, .int .i64 0, .slice none 0 0, .slice none 0 0] 31 (0, 0))
  ne : B ≠ R ∧ B ∉ K ∧ R ∉ K
  low : w0.heap.size ≤ B ∧ w0.heap.size ≤ R
  used : st.used ≤ k
  n : st.n ≤ 2 * k + 12
def RunPost (w0 : World) (e : Ending) (w' : World) : Prop := ∃ (b : Nat) (v : Value) (st : St) (K : List Nat), e = .returned (.tuple #[.pointer (some ⟨b, 0, none⟩), v, .bool true]) ∧ Pair w0 w' b st v K

theorem held_newK {w0 w : World} (hb : Below w0.heap.size w0 w) (q : Nat) (hq : q < 5) (K : List Nat) (hK : ∀ k ∈ K, k < w.heap.size) :
    Calls Try.prog 19 #[.int .i64 (1 + (q : Int))] w fun e w' => e = .returned (.pointer (some ⟨w.heap.size, 0, none⟩)) ∧ Held w0 w' w.heap.size (St.first (2 + q)) K ∧ Below w.heap.size w w' := by
  have h := new_walk w (1 + q) (by omega) (by omega)
  rw [Int.natCast_add, show 1 + (1 + q) = 2 + q by omega] at h
  refine h.mono ?_
  rintro e w' ⟨rfl, ho, ha⟩
  have hsz := hb.size
  exact ⟨rfl, ⟨hb.trans (ho.nil_below.mono hsz), first_ok _ (by omega), fun k hk => Nat.lt_of_lt_of_le (hK k hk) ho.size, _, _, by omega, by omega, by omega, fun hk => by have := hK _ hk; omega, fun hk => by have := hK _ hk; omega, fun hk => by have := hK _ hk; omega, ha⟩, ho.nil_below⟩
theorem rnewq (w : World) (q : Nat) (hq : q < 5) :
    Calls Try.prog 21 #[.int .i64 (1 + (q : Int))] w fun e w' => e = .returned (.agg #[.int .i64 (2 + (q : Int)), .int .i64 0, .slice none 0 0, .slice (some ⟨w.heap.size + 1, 0, none⟩) 1 1]) ∧ RNew w w' := by
  by_cases h : q = 0
  · subst h; exact rnew_least w 1 (by omega)
  · have h1 := rnew_more w (1 + q) (by omega) (by omega)
    rw [Int.natCast_add] at h1
    have e : (1 : Int) + (((1 : Nat) : Int) + (q : Int)) = 2 + (q : Int) := by omega
    rw [e] at h1
    exact h1
theorem first_ref {w w1 : World} (h : RNew w w1) (q : Nat) : Ref w1 (.agg #[.int .i64 (2 + (q : Int)), .int .i64 0, .slice none 0 0, .slice (some ⟨w.heap.size + 1, 0, none⟩) 1 1]) (St.first (2 + q)) [w.heap.size + 1] := by
  refine ⟨fun k hk => ?_, none, 0, w.heap.size + 1, 1, fun _ => Nd.zero, ?_, ⟨Nat.le_refl _, .inl ⟨rfl, rfl, rfl⟩⟩, ⟨Nat.le_refl _, by simp, fun p hp => ?_⟩, fun i hi => ?_⟩
  · obtain rfl : k = w.heap.size + 1 := by simpa using hk
    exact h.2.lt
  · show _ = refV (2 + q) 0 none 0 0 (w.heap.size + 1) 1 1
    rw [refV, Int.natCast_add]; rfl
  · have hp6 : p < 6 := hp
    rw [h.2.cell hp6]
    unfold nodeV
    rw [Nat.mod_eq_of_lt hp6]
  · have := tk_bounds hi
    have h2 : i ≤ 0 := this.2.1
    omega

theorem Ref.kept2 {w w' : World} {v : Value} {st : St} {K : List Nat} (h : Ref w v st K) (hk : Kept K w w') (h1 : ∀ k ∈ K, k < w'.heap.size) : Ref w' v st K := by
  obtain ⟨h0, Fo, fc, nb, nc, nd, e, g1, g2, g3⟩ := h
  exact ⟨h1, Fo, fc, nb, nc, nd, e, g1.kept hk, g2.kept hk, g3⟩

theorem Held.only {S : List Nat} {w0 w w' : World} {b : Nat} {st : St} {K : List Nat} (h : Held w0 w b st K) (ho : Only S w w') (hS : ∀ x ∈ S, x ∈ K ∧ w0.heap.size ≤ x) : Held w0 w' b st K := by
  obtain ⟨s, f, h1, h2, h3, kb, ks, kf, ha⟩ := h.mem
  exact ⟨h.below.trans (ho.below (fun x hx => (hS x hx).2) h.below.size), h.ok, fun k hk => Nat.lt_of_lt_of_le (h.old k hk) ho.size, s, f, h1, h2, h3, kb, ks, kf, ha.keep ho (fun hx => kb (hS _ hx).1) (fun hx => ks (hS _ hx).1) (fun hx => kf (hS _ hx).1)⟩
theorem held_live' {w0 w : World} {b : Nat} {st : St} {K : List Nat} (h : Held w0 w b st K) (hn : st.n ≤ 1000000) :
    Calls Try.prog 22 #[.pointer (some ⟨b, 0, none⟩)] w fun e w' => e = .returned (.int .i64 st.live) ∧ Below w.heap.size w w' :=
  (held_live h hn).mono fun _ _ ⟨h1, d, h2⟩ => ⟨h1, h2 ▸ below_drewN' w d⟩

/- Behind the document's act: its new value lies in a block of its own. -/
def After7 (w4 : World) (st' : St) (K : List Nat) (s12 : Value) (wx : World) : Prop := ∃ (p : Nat) (n u : Nat) (Fo : Option Addr) (m fc nb nc : Nat) (K5 : List Nat), s12 = .pointer (some ⟨p, 0, none⟩) ∧ Below w4.heap.size w4 wx ∧ w4.heap.size ≤ p ∧
  wx.heap[p]? = some (.cells (refCells n u Fo m fc nb (u + 1) nc) 31 (0, 0)) ∧ Ref wx (refV n u Fo m fc nb (u + 1) nc) st' K5 ∧ (∀ k ∈ K5, k ∈ K ∨ w4.heap.size ≤ k) ∧ st'.n = n
theorem after7_a {w4 w5 : World} {st' : St} {K K5 : List Nat} {o : Obj} {Fo : Option Addr} {fc nb nc : Nat} {a0 a1 a2 a3 : Value} (h0 : ∀ k ∈ K, k < w4.heap.size) (hb : Below (w4.alloc o).drew.heap.size (w4.alloc o).drew w5) (hP : w5.heap[w4.heap.size]? = some (.cells #[a0, a1, a2, a3] 31 (0, 0)))
    (hr : Ref w5 (refV st'.n st'.used Fo st'.freed.length fc nb (st'.used + 1) nc) st' K5) (hk : ∀ k ∈ K5, k ∈ K ∨ (w4.alloc o).drew.heap.size ≤ k) :
    After7 w4 st' K (.pointer (some ⟨w4.heap.size, 0, none⟩)) ((((w5.setCell ⟨w4.heap.size, 0, none⟩ (.int .i64 st'.n)).setCell ⟨w4.heap.size, 1, none⟩ (.int .i64 st'.used)).setCell ⟨w4.heap.size, 2, none⟩ (.slice Fo st'.freed.length fc)).setCell ⟨w4.heap.size, 3, none⟩ (.slice (some ⟨nb, 0, none⟩) (st'.used + 1) nc)) := by
  obtain ⟨h1, h2⟩ := four_set hP (.int .i64 st'.n) (.int .i64 st'.used) (.slice Fo st'.freed.length fc) (.slice (some ⟨nb, 0, none⟩) (st'.used + 1) nc)
  generalize ((((w5.setCell ⟨w4.heap.size, 0, none⟩ (.int .i64 st'.n)).setCell ⟨w4.heap.size, 1, none⟩ (.int .i64 st'.used)).setCell ⟨w4.heap.size, 2, none⟩ (.slice Fo st'.freed.length fc)).setCell ⟨w4.heap.size, 3, none⟩ (.slice (some ⟨nb, 0, none⟩) (st'.used + 1) nc)) = W at h1 h2 ⊢
  have hbs : w4.heap.size + 1 ≤ w5.heap.size := by have := hb.size; simpa using this
  have hb4 : Below w4.heap.size w4 w5 := ((Below.refl _ _).alloc (Nat.le_refl _) o).drew.trans (hb.mono (by simp))
  have hs : ∀ k, (w4.alloc o).drew.heap.size ≤ k → w4.heap.size + 1 ≤ k := fun k h => by simpa using h
  refine ⟨_, st'.n, st'.used, Fo, st'.freed.length, fc, nb, nc, K5, rfl, hb4.trans (h2.below (by simp) (by omega)), Nat.le_refl _, h1, hr.kept2 (fun k hkk => h2.block k (hr.1 k hkk) ?_) (fun k hkk => Nat.lt_of_lt_of_le (hr.1 k hkk) h2.size), fun k hkk => (hk k hkk).imp id (fun h => by have := hs k h; omega), rfl⟩
  simp
  rcases hk k hkk with h | h
  · have := h0 k h; omega
  · have := hs k h; omega
theorem after7_b {w4 w5 : World} {st' : St} {K K5 : List Nat} {Fo : Option Addr} {fc nb nc : Nat} (hb : Below w4.drew.heap.size w4.drew w5)
    (hr : Ref w5 (refV st'.n st'.used Fo st'.freed.length fc nb (st'.used + 1) nc) st' K5) (hk : ∀ k ∈ K5, k ∈ K ∨ w4.drew.heap.size ≤ k) :
    After7 w4 st' K (.pointer (some ⟨w5.heap.size, 0, none⟩)) (w5.alloc (.cells #[.int .i64 st'.n, .int .i64 st'.used, .slice Fo st'.freed.length fc, .slice (some ⟨nb, 0, none⟩) (st'.used + 1) nc] 31)) := by
  have hb4 : Below w4.heap.size w4 w5 := (Below.refl _ _).drew.trans hb
  exact ⟨_, st'.n, st'.used, Fo, st'.freed.length, fc, nb, nc, K5, rfl, hb4.alloc hb4.size _, hb4.size, heap_alloc_new w5 _, hr.below ((Below.refl _ _).alloc (Nat.le_refl _) _), hk, rfl⟩

set_option maxHeartbeats 1000000 in
theorem run_some {w0 w : World} (hb0 : Below w0.heap.size w0 w) (r : Nat) (hr : r < 256) (g off n c : Nat) (l : Nat → Actn) (hn : n ≤ 40) (ha : Acts w0 (some ⟨g, off, none⟩) n l) :
    Calls Try.prog 13 #[.int .u8 r, .slice (some ⟨g, off, none⟩) n c] w (RunPost w0) := by
  have HA := Lib.hid ha
  clear ha
  have e1 : (r : Int).tmod 5 = ((r % 5 : Nat) : Int) := by rw [Int.tmod_eq_emod_of_nonneg (by omega)]; omega
  have e2 : (r : Int) % 5 = ((r % 5 : Nat) : Int) := by omega
  obtain ⟨q, hq, hq5⟩ : ∃ q : Nat, r % 5 = q ∧ q < 5 := ⟨_, rfl, by omega⟩
  rw [hq] at e1 e2
  have hz0 := hb0.size
  have HB0 := Lib.hid hb0
  clear hq hb0
  have hbR : Below w0.heap.size w0 (w.alloc (.cells #[.int .i64 0, .int .i64 0, .slice none 0 0, .slice none 0 0] 31)) := HB0.out.alloc hz0 _
  have HBR := Lib.hid hbR
  clear hbR
  go_enter Try.func13, Try.ntmps13
  go_wp2_with fail
  refine (held_newK HBR.out q hq5 [w.heap.size] (by simp)).mono ?_
  rintro e w2 ⟨rfl, h, hb2⟩
  have ez : (w.alloc (.cells #[.int .i64 0, .int .i64 0, .slice none 0 0, .slice none 0 0] 31)).heap.size = w.heap.size + 1 := by simp
  have hR2 : w2.heap[w.heap.size]? = some (.cells #[.int .i64 0, .int .i64 0, .slice none 0 0, .slice none 0 0] 31 (0, 0)) := (hb2.block w.heap.size (by simp)).trans (heap_alloc_new w _)
  have hz2 : w.heap.size < w2.heap.size := by have := hb2.size; simp at this; omega
  rw [ez] at h
  have H2 := Lib.hid h
  have HR2 := Lib.hid hR2
  clear h hb2 hR2 ez
  go_wp2_with fail
  refine (rnewq w2 q hq5).mono ?_
  rintro e w3 ⟨rfl, hnew⟩
  have hz3 : w2.heap.size + 1 < w3.heap.size := hnew.2.lt
  have HRF := Lib.hid (first_ref hnew q)
  have HNW := Lib.hid hnew
  clear hnew
  go_wp2_with fail
  go_loopg [9] n (fun g s9 wr => ∃ (k : Nat) (st : St) (cs : Array Value) (K : List Nat), k + g = n ∧ s9 = .int .i64 k ∧ Hid (RunInv w0 wr (w.heap.size + 1) w3.heap.size w.heap.size st cs K k))
  case atStart =>
    refine ⟨0, St.first (2 + q), #[.int .i64 (2 + (q : Int)), .int .i64 0, .slice none 0 0, .slice (some ⟨w2.heap.size + 1, 0, none⟩) 1 1], [w2.heap.size + 1], by omega, rfl, Lib.hid ?_⟩
    have hbW := HNW.out.1.alloc (by omega) (.cells #[.int .i64 (2 + (q : Int)), .int .i64 0, .slice none 0 0, .slice (some ⟨w2.heap.size + 1, 0, none⟩) 1 1] 31)
    have hb3 := (Below.refl w3.heap.size w3).alloc (Nat.le_refl _) (.cells #[.int .i64 (2 + (q : Int)), .int .i64 0, .slice none 0 0, .slice (some ⟨w2.heap.size + 1, 0, none⟩) 1 1] 31)
    refine ⟨H2.out.other hbW (fun k hk => ?_), HRF.out.below hb3, heap_alloc_new w3 _, (hbW.block _ hz2).trans HR2.out, ⟨by omega, by simp; omega, by simp; omega⟩, ⟨by omega, hz0⟩, Nat.le_refl _, by show 2 + q ≤ _; omega⟩
    rcases List.mem_cons.1 hk with rfl | hk
    · exact ⟨.inr (by omega), by simp⟩
    · rcases List.mem_cons.1 hk with rfl | hk
      · exact ⟨.inl (by simp), by simp; omega⟩
      · obtain rfl : k = w2.heap.size + 1 := by simpa using hk
        exact ⟨.inr (by omega), by simp; omega⟩
  case round =>
    obtain ⟨k, st, cs, K, hk, rfl, HI⟩ := hrel
    by_cases hlt : k < n
    · obtain ⟨wf, g', off', hA, hg, c0, c1, c2, c3, c4, c5, c6, c7⟩ := (HA.out.below HI.out.held.below) k hlt
      injection hA with hA
      injection hA with e1' e2'
      subst e1' e2'
      have hb1 := HI.out.n
      have hub := HI.out.used
      go_wp2_with fail
      refine (do_walk HI.out.held (by omega) (l k) wf).mono ?_
      rintro e w4 ⟨rfl, h4, hk4⟩
      clear c0 c1 c2 c3 c4 c5 c6 c7 hg
      obtain ⟨_, Fo, fc, nb, nc, nd, ecs, _, _, _⟩ := HI.out.ref
      injection ecs with ecs
      subst ecs
      obtain ⟨_, g', off', hA, hgz, c0, c1, c2, c3, c4, c5, c6, c7⟩ := (HA.out.below h4.below) k hlt
      injection hA with hA
      injection hA with e1' e2'
      subst e1' e2'
      have hcB := (hk4 w3.heap.size (by simp)).trans HI.out.cell
      obtain ⟨b0, b1, b2, b3⟩ := four_cells hcB
      have hB4 : w3.heap.size < w4.heap.size := h4.old _ (by simp)
      have href4 := HI.out.ref.kept2 (w' := w4) (fun k' hk' => hk4 k' (by simp [hk'])) (fun k' hk' => h4.old k' (by simp [hk']))
      have HRF4 := Lib.hid href4
      have HK40 : Hid (∀ k' ∈ K, k' < w4.heap.size) := Lib.hid (fun k' hk' => h4.old k' (by simp [hk']))
      have HH4 := Lib.hid h4
      have HCB := Lib.hid hcB
      have HRS : Hid (w4.heap[w.heap.size]? = some (.cells #[.int .i64 0, .int .i64 0, .slice none 0 0, .slice none 0 0] 31 (0, 0))) := Lib.hid ((hk4 w.heap.size (by simp)).trans HI.out.res)
      have hok := HI.out.held.ok
      have HOK := Lib.hid hok
      have HSS : Hid (∀ w' : World, w4.heap.size ≤ w'.heap.size → (∀ x, x < w4.heap.size → w'.heap[x]? = w4.heap[x]?) → w'.cell? ⟨w3.heap.size, 0, none⟩ = some (.int .i64 st.n) ∧ w'.cell? ⟨w3.heap.size, 1, none⟩ = some (.int .i64 st.used) ∧ w'.cell? ⟨w3.heap.size, 2, none⟩ = some (.slice Fo st.freed.length fc) ∧ w'.cell? ⟨w3.heap.size, 3, none⟩ = some (.slice (some ⟨nb, 0, none⟩) (st.used + 1) nc) ∧ w'.cell? ⟨g, off + k * 8, none⟩ = some (.int .u8 (l k).kind) ∧ w'.cell? ⟨g, off + k * 8 + 1, none⟩ = some (.int .i32 (l k).i) ∧ w'.cell? ⟨g, off + k * 8 + 2, none⟩ = some (.int .u64 (l k).x.key) ∧ w'.cell? ⟨g, off + k * 8 + 3, none⟩ = some (.int .u64 (l k).x.val) ∧ w'.cell? ⟨g, off + k * 8 + 4, none⟩ = some (.int .i64 (l k).x.flag) ∧ w'.cell? ⟨g, off + k * 8 + 5, none⟩ = some (.int .i64 (l k).x.tag) ∧ w'.cell? ⟨g, off + k * 8 + 6, none⟩ = some (.int .i32 (l k).x.prev) ∧ w'.cell? ⟨g, off + k * 8 + 7, none⟩ = some (.int .i32 (l k).x.next)) := Lib.hid (fun w' _ hh => by
        have e := fun (x j : Nat) (hx : x < w4.heap.size) => World.cell?_of_block (w := w4) (w' := w') (a := ⟨x, j, none⟩) (hh x hx)
        exact ⟨(e _ _ hB4).trans b0, (e _ _ hB4).trans b1, (e _ _ hB4).trans b2, (e _ _ hB4).trans b3, (e _ _ hgz).trans c0, (e _ _ hgz).trans c1, (e _ _ hgz).trans c2, (e _ _ hgz).trans c3, (e _ _ hgz).trans c4, (e _ _ hgz).trans c5, (e _ _ hgz).trans c6, (e _ _ hgz).trans c7⟩)
      clear h4 hk4 hcB href4 hok
      go_upto_region 7 with fail
      go_cut [10, 11, 12, 13, 14] (fun s10 s11 s12 s13 s14 wx => s10 = Value.int .i32 (st.slot (l k)) ∧ s11 = Value.bool (st.done (l k)) ∧ s13 = Value.int .i32 (st.slot (l k)) ∧ s14 = Value.bool (st.done (l k)) ∧ After7 w4 (st.act (l k)) K s12 wx)
      case first =>
       go_region_held3 (fun w' => w'.cell? ⟨w3.heap.size, 0, none⟩ = some (.int .i64 st.n) ∧ w'.cell? ⟨w3.heap.size, 1, none⟩ = some (.int .i64 st.used) ∧ w'.cell? ⟨w3.heap.size, 2, none⟩ = some (.slice Fo st.freed.length fc) ∧ w'.cell? ⟨w3.heap.size, 3, none⟩ = some (.slice (some ⟨nb, 0, none⟩) (st.used + 1) nc) ∧ w'.cell? ⟨g, off + k * 8, none⟩ = some (.int .u8 (l k).kind) ∧ w'.cell? ⟨g, off + k * 8 + 1, none⟩ = some (.int .i32 (l k).i) ∧ w'.cell? ⟨g, off + k * 8 + 2, none⟩ = some (.int .u64 (l k).x.key) ∧ w'.cell? ⟨g, off + k * 8 + 3, none⟩ = some (.int .u64 (l k).x.val) ∧ w'.cell? ⟨g, off + k * 8 + 4, none⟩ = some (.int .i64 (l k).x.flag) ∧ w'.cell? ⟨g, off + k * 8 + 5, none⟩ = some (.int .i64 (l k).x.tag) ∧ w'.cell? ⟨g, off + k * 8 + 6, none⟩ = some (.int .i32 (l k).x.prev) ∧ w'.cell? ⟨g, off + k * 8 + 7, none⟩ = some (.int .i32 (l k).x.next))
        (first | exact kk0 | exact KK1 _ (four_set hP5 _ _ _ _).2 | go_keep)
        (first
          | (go_at_call 32; refine (rdo_walk (HRF4.out.below ((Below.refl _ _).alloc (Nat.le_refl _) (.cells #[.int .i64 0, .int .i64 0, .slice none 0 0, .slice none 0 0] 31)).drew) HOK.out (by omega) (l k) wf).mono ?_; rintro e w5 ⟨v5, K5, rfl, hb5, hr5, hk5⟩; have HR5 := Lib.hid hr5; obtain ⟨_, Fo5, fc5, nb5, nc5, nd5, rfl, _, _, _⟩ := hr5; have kk0 := HSS.out w5 (by have := hb5.size; simp at this; omega) (fun x hx => (hb5.block x (by simp; omega)).trans (Below.heap_alloc w4 _ x hx)); have hP5 := (hb5.block w4.heap.size (by simp)).trans (heap_alloc_new w4 _); have KK1 := fun (W : World) (ho : Only [w4.heap.size] w5 W) => HSS.out W (by have := hb5.size; have := ho.size; simp at *; omega) (fun x hx => (ho.block x (by have := hb5.size; simp at this; omega) (by simp; omega)).trans ((hb5.block x (by simp; omega)).trans (Below.heap_alloc w4 _ x hx))); obtain ⟨xx0, xx1, xx2, xx3⟩ := four_cells (W := w5) (g := w4.heap.size) hP5; obtain ⟨zz0, zz1, zz2, zz3⟩ := four_free (W := w5) (g := w4.heap.size) hP5)
          | (go_at_call 32; refine (rdo_walk (HRF4.out.below (Below.refl _ _).drew) HOK.out (by omega) (l k) wf).mono ?_; rintro e w5 ⟨v5, K5, rfl, hb5, hr5, hk5⟩; have HR5 := Lib.hid hr5; obtain ⟨_, Fo5, fc5, nb5, nc5, nd5, rfl, _, _, _⟩ := hr5; have kk0 := HSS.out w5 hb5.size (fun x hx => hb5.block x hx)))
       all_goals
         go_wp2_with fail
         go_meet
         first
           | exact ⟨rfl, rfl, rfl, rfl, after7_b hb5 HR5.out hk5⟩
           | exact ⟨rfl, rfl, rfl, rfl, after7_a HK40.out hb5 hP5 HR5.out hk5⟩
      case rest =>
       obtain ⟨rfl, rfl, rfl, rfl, p, n5, u5, Fo5, m5, fc5, nb5, nc5, K5, rfl, hbc, hp, hcell, href, hK5, hn5⟩ := hcut
       subst hn5
       have hcBc := (hbc.block w3.heap.size hB4).trans HCB.out
       obtain ⟨b0, b1, b2, b3⟩ := four_cells hcBc
       obtain ⟨z0, z1, z2, z3⟩ := four_free hcBc
       obtain ⟨p0, p1, p2, p3⟩ := four_cells hcell
       have hszc := hbc.size
       have HFS := Lib.hid (four_set hcBc (.int .i64 (st.act (l k)).n) (.int .i64 u5) (.slice Fo5 m5 fc5) (.slice (some ⟨nb5, 0, none⟩) (u5 + 1) nc5))
       have HHc : Hid (Held w0 wc (w.heap.size + 1) (st.act (l k)) (w3.heap.size :: w.heap.size :: K5)) := Lib.hid (HH4.out.other hbc (fun x hx => by
         rcases List.mem_cons.1 hx with rfl | hx
         · exact ⟨.inl (by simp), by omega⟩
         · rcases List.mem_cons.1 hx with rfl | hx
           · exact ⟨.inl (by simp), by have := HH4.out.old w.heap.size (by simp); omega⟩
           · exact ⟨(hK5 x hx).imp (fun h => by simp [h]) id, href.1 x hx⟩))
       have HRSc := Lib.hid ((hbc.block w.heap.size (HH4.out.old w.heap.size (by simp))).trans HRS.out)
       have HREF := Lib.hid href
       have HBK : Hid (w3.heap.size ∉ K5 ∧ w.heap.size ∉ K5) := Lib.hid (by
         obtain ⟨_, h1, h2⟩ := HI.out.ne
         have h3 := HH4.out.old w.heap.size (by simp)
         exact ⟨fun h => (hK5 _ h).elim h1 (by omega), fun h => (hK5 _ h).elim h2 (by omega)⟩)
       obtain ⟨hau, han⟩ := act_step st (l k)
       have hsn : (st.act (l k)).n ≤ 2 * (k + 1) + 12 := by
         have := HI.out.held.ok.room
         rcases han with e | ⟨e, e2, _⟩ <;> omega
       have hsu : (st.act (l k)).used ≤ k + 1 := by omega
       have HNE := Lib.hid HI.out.ne
       have HLO := Lib.hid HI.out.low
       have hpz : p < wc.heap.size := (head_row hcell).lt
       have hpne : p ≠ w3.heap.size := by omega
       clear hcBc hbc hcell href hK5 hau han c0 c1 c2 c3 c4 c5 c6 c7 HSS HRF4 HK40 HCB HRS HI HOK
       generalize hst' : st.act (l k) = st' at *
       clear HH4
       go_upto_region 9 with fail
       have hfs := HFS.out
       generalize ((((wc.setCell ⟨w3.heap.size, 0, none⟩ (.int .i64 st'.n)).setCell ⟨w3.heap.size, 1, none⟩ (.int .i64 u5)).setCell ⟨w3.heap.size, 2, none⟩ (.slice Fo5 m5 fc5)).setCell ⟨w3.heap.size, 3, none⟩ (.slice (some ⟨nb5, 0, none⟩) (u5 + 1) nc5)) = W at hfs ⊢
       have HHW : Hid (Held w0 W (w.heap.size + 1) st' (w3.heap.size :: w.heap.size :: K5)) := Lib.hid (HHc.out.only hfs.2 (fun x hx => by
         obtain rfl : x = w3.heap.size := by simpa using hx
         exact ⟨by simp, HLO.out.1⟩))
       have HRW : Hid (Ref W (refV st'.n u5 Fo5 m5 fc5 nb5 (u5 + 1) nc5) st' K5) := Lib.hid (HREF.out.kept2 (fun x hx => hfs.2.block x (HREF.out.1 x hx) (by simp; exact fun e => HBK.out.1 (e ▸ hx))) (fun x hx => Nat.lt_of_lt_of_le (HREF.out.1 x hx) hfs.2.size))
       have HRSW := Lib.hid ((hfs.2.block w.heap.size (HHc.out.old w.heap.size (by simp)) (by simp; exact fun e => HNE.out.1 e.symm)).trans HRSc.out)
       have HCW := Lib.hid hfs.1
       obtain ⟨b0, b1, b2, b3⟩ := four_cells hfs.1
       have hBW : w3.heap.size < W.heap.size := (head_row hfs.1).lt
       have HSW : Hid (∀ w' : World, Below W.heap.size W w' → w'.cell? ⟨w3.heap.size, 0, none⟩ = some (.int .i64 st'.n) ∧ w'.cell? ⟨w3.heap.size, 1, none⟩ = some (.int .i64 u5) ∧ w'.cell? ⟨w3.heap.size, 2, none⟩ = some (.slice Fo5 m5 fc5) ∧ w'.cell? ⟨w3.heap.size, 3, none⟩ = some (.slice (some ⟨nb5, 0, none⟩) (u5 + 1) nc5)) := Lib.hid (fun w' hh => by
         have e := fun (j : Nat) => hh.cell (p := ⟨w3.heap.size, j, none⟩) hBW
         exact ⟨(e 0).trans b0, (e 1).trans b1, (e 2).trans b2, (e 3).trans b3⟩)
       have hsnb : st'.n ≤ 1000000 := by omega
       clear hfs HHc HREF HRSc HFS p0 p1 p2 p3 z0 z1 z2 z3 hpz hpne hp hszc
       go_region_held3 (fun w' => w'.cell? ⟨w3.heap.size, 0, none⟩ = some (.int .i64 st'.n) ∧ w'.cell? ⟨w3.heap.size, 1, none⟩ = some (.int .i64 u5) ∧ w'.cell? ⟨w3.heap.size, 2, none⟩ = some (.slice Fo5 m5 fc5) ∧ w'.cell? ⟨w3.heap.size, 3, none⟩ = some (.slice (some ⟨nb5, 0, none⟩) (u5 + 1) nc5))
         (first | exact kk8 | exact kk7 | exact kk6 | go_keep)
         (first
           | (go_at_call 22; refine (held_live' (HHW.out.still (Below.refl _ _).drew).1 hsnb).mono ?_; rintro e w6 ⟨rfl, b6⟩; have kk6 := HSW.out w6 ((Below.refl _ _).drew.trans b6))
           | (go_at_call 33; refine (rlive_walk (HRW.out.below ((Below.refl _ _).drew.trans b6)) HHW.out.ok hsnb).mono ?_; rintro e w7 ⟨rfl, b7⟩; have kk7 := HSW.out w7 (((Below.refl _ _).drew.trans b6).trans (b7.mono b6.size)))
           | (go_at_call 20; refine (held_len (HHW.out.still (((Below.refl _ _).drew.trans b6).trans (b7.mono b6.size))).1).mono ?_; rintro e w8 ⟨rfl, rfl⟩; have kk8 := kk7))
       have hbW : Below W.heap.size W w7 := ((Below.refl _ _).drew.trans b6).trans (b7.mono b6.size)
       have HINV : Hid (RunInv w0 w7 (w.heap.size + 1) w3.heap.size w.heap.size st' (refCells st'.n u5 Fo5 m5 fc5 nb5 (u5 + 1) nc5) K5 (k + 1)) := Lib.hid
         ⟨(HHW.out.still hbW).1, HRW.out.below hbW, (hbW.block _ hBW).trans HCW.out, (hbW.block _ (HHW.out.old w.heap.size (by simp))).trans HRSW.out, ⟨HNE.out.1, HBK.out.1, HBK.out.2⟩, HLO.out, hsu, hsn⟩
       clear hbW b6 b7 kk6 kk7 kk8
       go_wp2
       go_roundg (gk - 1)
       case measure => omega
       case rel => exact ⟨k + 1, st', _, K5, by omega, by go_num, HINV⟩
    · obtain ⟨_, Fo, fc, nb, nc, nd, ecs, _, _, _⟩ := HI.out.ref
      injection ecs with ecs
      subst ecs
      obtain ⟨b0, b1, b2, b3⟩ := four_cells HI.out.cell
      obtain ⟨x0, x1, x2, x3⟩ := four_cells HI.out.res
      obtain ⟨z0, z1, z2, z3⟩ := four_free HI.out.res
      have HFS := Lib.hid (four_set HI.out.res (.int .i64 st.n) (.int .i64 st.used) (.slice Fo st.freed.length fc) (.slice (some ⟨nb, 0, none⟩) (st.used + 1) nc))
      have hne := HI.out.ne.1
      go_wp2
      go_region
      go_wp2
      have hfs := HFS.out
      generalize ((((wr.setCell ⟨w.heap.size, 0, none⟩ (.int .i64 st.n)).setCell ⟨w.heap.size, 1, none⟩ (.int .i64 st.used)).setCell ⟨w.heap.size, 2, none⟩ (.slice Fo st.freed.length fc)).setCell ⟨w.heap.size, 3, none⟩ (.slice (some ⟨nb, 0, none⟩) (st.used + 1) nc)) = W at hfs ⊢
      clear b0 b1 b2 b3 x0 x1 x2 x3 z0 z1 z2 z3
      obtain ⟨y0, y1, y2, y3⟩ := four_cells hfs.1
      have hu1 := HI.out.used
      have hn1 := HI.out.n
      have hHW := HI.out.held.only hfs.2.drew (fun x hx => by
        obtain rfl : x = w.heap.size := by simpa using hx
        exact ⟨by simp, HI.out.low.2⟩)
      refine bodyPost_ret (v := .tuple #[.pointer (some ⟨w.heap.size + 1, 0, none⟩), refV st.n st.used Fo st.freed.length fc nb (st.used + 1) nc, .bool true]) (by simp [results, Try.results13, go_sem, y0, y1, y2, y3]) rfl ⟨_, _, st, K, rfl, ⟨hHW.other (Below.refl _ _) (fun x hx => ⟨.inl (by simp [hx]), hHW.old x (by simp [hx])⟩), ?_, by omega, by omega⟩⟩
      exact HI.out.ref.kept2 (fun x hx => hfs.2.drew.block x (HI.out.ref.1 x hx) (by simp; exact fun e => HI.out.ne.2.2 (e ▸ hx))) (fun x hx => Nat.lt_of_lt_of_le (HI.out.ref.1 x hx) hfs.2.drew.size)
set_option maxHeartbeats 1000000 in
theorem run_none {w0 w : World} (hb0 : Below w0.heap.size w0 w) (r : Nat) (hr : r < 256) (A : Option Addr) (c : Nat) :
    Calls Try.prog 13 #[.int .u8 r, .slice A 0 c] w (RunPost w0) := by
  have e1 : (r : Int).tmod 5 = ((r % 5 : Nat) : Int) := by rw [Int.tmod_eq_emod_of_nonneg (by omega)]; omega
  have e2 : (r : Int) % 5 = ((r % 5 : Nat) : Int) := by omega
  obtain ⟨q, hq, hq5⟩ : ∃ q : Nat, r % 5 = q ∧ q < 5 := ⟨_, rfl, by omega⟩
  rw [hq] at e1 e2
  have hz0 := hb0.size
  have HB0 := Lib.hid hb0
  clear hq hb0
  have hbR : Below w0.heap.size w0 (w.alloc (.cells #[.int .i64 0, .int .i64 0, .slice none 0 0, .slice none 0 0] 31)) := HB0.out.alloc hz0 _
  have HBR := Lib.hid hbR
  clear hbR
  go_enter Try.func13, Try.ntmps13
  go_wp2_with fail
  refine (held_newK HBR.out q hq5 [w.heap.size] (by simp)).mono ?_
  rintro e w2 ⟨rfl, h, hb2⟩
  have ez : (w.alloc (.cells #[.int .i64 0, .int .i64 0, .slice none 0 0, .slice none 0 0] 31)).heap.size = w.heap.size + 1 := by simp
  have hR2 : w2.heap[w.heap.size]? = some (.cells #[.int .i64 0, .int .i64 0, .slice none 0 0, .slice none 0 0] 31 (0, 0)) := (hb2.block w.heap.size (by simp)).trans (heap_alloc_new w _)
  have hz2 : w.heap.size < w2.heap.size := by have := hb2.size; simp at this; omega
  rw [ez] at h
  have H2 := Lib.hid h
  have HR2 := Lib.hid hR2
  clear h hb2 hR2 ez
  go_wp2_with fail
  refine (rnewq w2 q hq5).mono ?_
  rintro e w3 ⟨rfl, hnew⟩
  have hz3 : w2.heap.size + 1 < w3.heap.size := hnew.2.lt
  have HRF := Lib.hid (first_ref hnew q)
  have HNW := Lib.hid hnew
  clear hnew
  go_wp2_with fail
  go_loopg [9] 0 (fun g s9 wr => ∃ (k : Nat) (st : St) (cs : Array Value) (K : List Nat), k + g = 0 ∧ s9 = .int .i64 k ∧ Hid (RunInv w0 wr (w.heap.size + 1) w3.heap.size w.heap.size st cs K k))
  case atStart =>
    refine ⟨0, St.first (2 + q), #[.int .i64 (2 + (q : Int)), .int .i64 0, .slice none 0 0, .slice (some ⟨w2.heap.size + 1, 0, none⟩) 1 1], [w2.heap.size + 1], by omega, rfl, Lib.hid ?_⟩
    have hbW := HNW.out.1.alloc (by omega) (.cells #[.int .i64 (2 + (q : Int)), .int .i64 0, .slice none 0 0, .slice (some ⟨w2.heap.size + 1, 0, none⟩) 1 1] 31)
    have hb3 := (Below.refl w3.heap.size w3).alloc (Nat.le_refl _) (.cells #[.int .i64 (2 + (q : Int)), .int .i64 0, .slice none 0 0, .slice (some ⟨w2.heap.size + 1, 0, none⟩) 1 1] 31)
    refine ⟨H2.out.other hbW (fun k hk => ?_), HRF.out.below hb3, heap_alloc_new w3 _, (hbW.block _ hz2).trans HR2.out, ⟨by omega, by simp; omega, by simp; omega⟩, ⟨by omega, hz0⟩, Nat.le_refl _, by show 2 + q ≤ _; omega⟩
    rcases List.mem_cons.1 hk with rfl | hk
    · exact ⟨.inr (by omega), by simp⟩
    · rcases List.mem_cons.1 hk with rfl | hk
      · exact ⟨.inl (by simp), by simp; omega⟩
      · obtain rfl : k = w2.heap.size + 1 := by simpa using hk
        exact ⟨.inr (by omega), by simp; omega⟩
  case round =>
    obtain ⟨k, st, cs, K, hk, rfl, HI⟩ := hrel
    obtain rfl : k = 0 := by omega
    obtain ⟨_, Fo, fc, nb, nc, nd, ecs, _, _, _⟩ := HI.out.ref
    injection ecs with ecs
    subst ecs
    obtain ⟨b0, b1, b2, b3⟩ := four_cells HI.out.cell
    obtain ⟨x0, x1, x2, x3⟩ := four_cells HI.out.res
    obtain ⟨z0, z1, z2, z3⟩ := four_free HI.out.res
    have HFS := Lib.hid (four_set HI.out.res (.int .i64 st.n) (.int .i64 st.used) (.slice Fo st.freed.length fc) (.slice (some ⟨nb, 0, none⟩) (st.used + 1) nc))
    have hne := HI.out.ne.1
    go_wp2
    go_region
    go_wp2
    have hfs := HFS.out
    generalize ((((wr.setCell ⟨w.heap.size, 0, none⟩ (.int .i64 st.n)).setCell ⟨w.heap.size, 1, none⟩ (.int .i64 st.used)).setCell ⟨w.heap.size, 2, none⟩ (.slice Fo st.freed.length fc)).setCell ⟨w.heap.size, 3, none⟩ (.slice (some ⟨nb, 0, none⟩) (st.used + 1) nc)) = W at hfs ⊢
    clear b0 b1 b2 b3 x0 x1 x2 x3 z0 z1 z2 z3
    obtain ⟨y0, y1, y2, y3⟩ := four_cells hfs.1
    have hu1 := HI.out.used
    have hn1 := HI.out.n
    have hHW := HI.out.held.only hfs.2.drew (fun x hx => by
      obtain rfl : x = w.heap.size := by simpa using hx
      exact ⟨by simp, HI.out.low.2⟩)
    refine bodyPost_ret (v := .tuple #[.pointer (some ⟨w.heap.size + 1, 0, none⟩), refV st.n st.used Fo st.freed.length fc nb (st.used + 1) nc, .bool true]) (by simp [results, Try.results13, go_sem, y0, y1, y2, y3]) rfl ⟨_, _, st, K, rfl, ⟨hHW.other (Below.refl _ _) (fun x hx => ⟨.inl (by simp [hx]), hHW.old x (by simp [hx])⟩), ?_, by omega, by omega⟩⟩
    exact HI.out.ref.kept2 (fun x hx => hfs.2.drew.block x (HI.out.ref.1 x hx) (by simp; exact fun e => HI.out.ne.2.2 (e ▸ hx))) (fun x hx => Nat.lt_of_lt_of_le (HI.out.ref.1 x hx) hfs.2.drew.size)
theorem run_walk {w0 w : World} (hb0 : Below w0.heap.size w0 w) (r : Nat) (hr : r < 256) (A : Option Addr) (n c : Nat) (l : Nat → Actn) (hn : n ≤ 40) (ha : Acts w0 A n l) :
    Calls Try.prog 13 #[.int .u8 r, .slice A n c] w (RunPost w0) := by
  by_cases h : n = 0
  · subst h; exact run_none hb0 r hr A c
  · obtain ⟨_, g, off, rfl, _⟩ := ha 0 (by omega)
    exact run_some hb0 r hr g off n c l hn ha
end Go.Proofs.Ytdjokgjobkjdhaa
