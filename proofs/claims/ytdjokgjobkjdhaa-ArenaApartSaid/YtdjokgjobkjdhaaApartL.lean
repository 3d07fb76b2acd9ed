/- ArenaApart, walked. -/
import Derived.Test.YtdjokgjobkjdhaaRun
import Derived.Test.YtdjokgjobkjdhaaRowA
namespace Go.Proofs.Ytdjokgjobkjdhaa
open Go Go.RowKit Go.Deep

theorem next_is {st : St} (ho : st.Ok) : st.alloc.is st.next = true ∧ st.is st.next = false ∧ st.alloc.at_ st.next = Nd.zero := by
  obtain ⟨h1, h2, _, _⟩ := next_free ho
  have e1 : st.alloc.is st.next = true := by
    unfold St.is
    rw [decide_eq_true (by omega : (0 : Int) < st.next), alloc_tk ho, Int.toNat_natCast, upd_same]; rfl
  have e2 : st.alloc.node = st.node := by unfold St.alloc; split <;> rfl
  refine ⟨e1, ?_, ?_⟩
  · unfold St.is; rw [Int.toNat_natCast, h1, Bool.and_false]
  · unfold St.at_; rw [e1, if_pos rfl, Int.toNat_natCast, e2]; exact ho.zero _ h1
def St.laid (st : St) (x : Nd) : St := st.alloc.set st.next x
theorem setI_next {st : St} (ho : st.Ok) (x : Nd) : st.alloc.setI st.next x = st.laid x := by unfold St.setI; rw [(next_is ho).1, if_pos rfl, Int.toNat_natCast]; rfl
theorem laid_next {st : St} (ho : st.Ok) (x : Nd) : (st.laid x).at_ st.next = x := by
  have e : (st.laid x).is st.next = true := (next_is ho).1
  unfold St.at_
  rw [e, if_pos rfl, Int.toNat_natCast]
  exact upd_same _ _ _
theorem laid_other {st : St} (ho : st.Ok) (x : Nd) (k : Nat) (hk : k ≠ st.next) : (st.laid x).at_ k = st.at_ k := by
  have e : (st.laid x).tk = upd st.tk st.next true := alloc_tk ho
  have e2 : st.alloc.node = st.node := by unfold St.alloc; split <;> rfl
  unfold St.at_ St.is
  rw [e, Int.toNat_natCast, upd_other _ _ _ hk]
  have e3 : (st.laid x).node k = st.node k := (upd_other _ _ _ hk).trans (by rw [e2])
  rw [e3]

theorem apart_long (w : World) (r : Int) (A : Option Addr) (n c : Nat) (x : Nd) (hn : 40 < n) (hm : n ≤ maxLen) :
    Calls Try.prog 6 #[.int .u8 r, .slice A n c, x.v] w fun e w' => e = .returned (.bool true) ∧ Below w.heap.size w w' := by
  unfold maxLen at hm
  go_enter Try.func6, Try.ntmps6
  go_wp2_with fail
  refine (awake_walk _).mono ?_
  rintro e w1 ⟨rfl, h⟩
  have B1 := Lib.hid (((Below.refl w.heap.size w).alloc (Nat.le_refl _) _).trans (h.mono (by simp))); clear h
  go_wp2
  go_ret
  exact ⟨rfl, B1.out⟩

set_option maxHeartbeats 1000000 in
theorem apart_short (w : World) (r : Nat) (hr : r < 256) (A : Option Addr) (n c : Nat) (l : Nat → Actn) (x : Nd) (hn : n ≤ 40) (ha : Acts w A n l) :
    Calls Try.prog 6 #[.int .u8 r, .slice A n c, x.v] w fun e w' => e = .returned (.bool true) ∧ Below w.heap.size w w' := by
  have hb0 : Below w.heap.size w (w.alloc (.cells #[.int .u64 x.key, .int .u64 x.val, .int .i64 x.flag, .int .i64 x.tag, .int .i32 x.prev, .int .i32 x.next] 39)) := (Below.refl _ _).alloc (Nat.le_refl _) _
  have HA := Lib.hid (ha.below hb0)
  have HB0 := Lib.hid hb0
  have hbx := heap_alloc_new w (.cells #[.int .u64 x.key, .int .u64 x.val, .int .i64 x.flag, .int .i64 x.tag, .int .i32 x.prev, .int .i32 x.next] 39)
  have HBX := Lib.hid hbx
  have heq : ∀ w : World, (binOp .eql 36 (.agg #[.int .u64 0, .int .u64 0, .int .i64 0, .int .i64 0, .int .i32 0, .int .i32 0]) (.agg #[.int .u64 0, .int .u64 0, .int .i64 0, .int .i64 0, .int .i32 0, .int .i32 0])).run Try.prog w = .ok (.bool true) w := node_eql Nd.zero
  clear ha hb0 hbx
  obtain ⟨W0, hW0⟩ : ∃ W0, w.alloc (.cells #[.int .u64 x.key, .int .u64 x.val, .int .i64 x.flag, .int .i64 x.tag, .int .i32 x.prev, .int .i32 x.next] 39) = W0 := ⟨_, rfl⟩
  have hz0 : W0.heap.size = w.heap.size + 1 := by rw [← hW0]; simp
  rw [hW0] at HA HB0 HBX
  have HZ0 := Lib.hid hz0
  have HW0 := Lib.hid hW0
  clear hz0 hW0
  go_enter Try.func6, Try.ntmps6
  go_wp2_with fail
  rw [HW0.out]
  refine (awake_walk _).mono ?_
  rintro e w1 ⟨rfl, h⟩
  have B1 := Lib.hid h; clear h
  go_wp2_with fail
  refine (run_walk B1.out r hr A n c l hn HA.out).mono ?_
  rintro e w2 ⟨b, v, st, K, rfl, hp⟩
  have hsn := hp.n
  have hsu := hp.used
  have HOK := Lib.hid hp.held.ok
  have HH := Lib.hid hp.held
  have HRF := Lib.hid hp.ref
  obtain ⟨_, Fo, fc, nb, nc, nd, rfl, _, _, _⟩ := hp.ref
  clear hp
  obtain ⟨nx, hnx⟩ : ∃ nx, st.next = nx := ⟨_, rfl⟩
  have HNX := Lib.hid hnx
  have hx1 : 1 ≤ nx := by have := (next_free HOK.out).2.1; omega
  have hx2 : nx ≤ 51 := by have := (next_free HOK.out).2.2.2; omega
  clear hnx
  have hbA : Below w2.heap.size w2 (w2.alloc (.cells (refCells st.n st.used Fo st.freed.length fc nb (st.used + 1) nc) 31)) := (Below.refl _ _).alloc (Nat.le_refl _) _
  have HH2 : Hid (Held W0 (w2.alloc (.cells (refCells st.n st.used Fo st.freed.length fc nb (st.used + 1) nc) 31)) b st (w2.heap.size :: K)) := Lib.hid (HH.out.other hbA (fun k hk => by
    rcases List.mem_cons.1 hk with rfl | hk
    · exact ⟨.inr (Nat.le_refl _), by simp⟩
    · exact ⟨.inl hk, by have := HH.out.old k hk; simp; omega⟩))
  have HRF2 := Lib.hid (HRF.out.below hbA)
  have HA3 : Hid (Calls Try.prog 25 #[.pointer (some ⟨b, 0, none⟩)] (w2.alloc (.cells (refCells st.n st.used Fo st.freed.length fc nb (st.used + 1) nc) 31)) fun e w' => e = .returned (.int .i32 (nx : Int)) ∧ Held W0 w' b st.alloc (w2.heap.size :: K) ∧ Kept (w2.heap.size :: K) (w2.alloc (.cells (refCells st.n st.used Fo st.freed.length fc nb (st.used + 1) nc) 31)) w') := Lib.hid (by
    have := held_alloc HH2.out (by omega)
    rw [HNX.out] at this
    exact this)
  clear hbA
  go_wp2_with fail
  refine HA3.out.mono ?_
  rintro e w3 ⟨rfl, h3, hk3⟩
  have hcB := (hk3 w2.heap.size (by simp)).trans (heap_alloc_new w2 _)
  have HCB := Lib.hid hcB
  have HH3 := Lib.hid h3
  have HR3 : Hid (Ref w3 (refV st.n st.used Fo st.freed.length fc nb (st.used + 1) nc) st K) := Lib.hid (HRF2.out.kept2 (fun k hk => hk3 k (by simp [hk])) (fun k hk => h3.old k (by simp [hk])))
  have han : st.alloc.n ≤ 1000 := by unfold St.alloc; split <;> simp only <;> (try split) <;> omega
  have HAN := Lib.hid han
  obtain ⟨b0, b1, b2, b3⟩ := four_cells hcB
  clear h3 hk3 hcB HA3 han
  have HAT : Hid (Calls Try.prog 14 #[.pointer (some ⟨b, 0, none⟩), .int .i32 (nx : Int)] w3 fun e w' => e = .returned (.agg #[.int .u64 0, .int .u64 0, .int .i64 0, .int .i64 0, .int .i32 0, .int .i32 0]) ∧ Below w3.heap.size w3 w') := Lib.hid (by
    have := held_at HH3.out (by have := HAN.out; omega) (nx : Int) (by omega)
    rw [← HNX.out, (next_is HOK.out).2.2, HNX.out] at this
    exact this)
  go_wp2_with fail
  refine HAT.out.mono ?_
  rintro e w4 ⟨rfl, d4⟩
  have e0 := fun (j : Nat) => d4.cell (p := ⟨w2.heap.size, j, none⟩) (by exact (head_row HCB.out).lt)
  have g0 := (e0 0).trans b0
  have g1 := (e0 1).trans b1
  have g2 := (e0 2).trans b2
  have g3 := (e0 3).trans b3
  have HIS : Hid (Calls Try.prog 18 #[refV st.n st.used Fo st.freed.length fc nb (st.used + 1) nc, .int .i32 (nx : Int)] w4 fun e w' => e = .returned (.bool false) ∧ Below w4.heap.size w4 w') := Lib.hid (by
    have := ris_walk (HR3.out.below d4) HOK.out (by omega) (nx : Int) (by omega)
    rw [← HNX.out, (next_is HOK.out).2.1, HNX.out] at this
    exact this)
  have HD4 := Lib.hid d4
  have hx0 : 0 < nx := by omega
  clear e0 d4 b0 b1 b2 b3 HAT
  go_wp2_with fail
  refine HIS.out.mono ?_
  rintro e w5 ⟨rfl, d5⟩
  have a5 : Below w3.heap.size w3 w5 := HD4.out.trans (d5.mono HD4.out.size)
  have h5 := HH3.out.still a5
  have HH5 := Lib.hid h5.1
  have HR5 := Lib.hid (HR3.out.below a5)
  have HC5 := Lib.hid ((h5.2 w2.heap.size (by simp)).trans HCB.out)
  have HBXW : Hid (∀ w' : World, Below W0.heap.size W0 w' → w'.cell? ⟨w.heap.size, 0, none⟩ = some (.int .u64 x.key) ∧ w'.cell? ⟨w.heap.size, 1, none⟩ = some (.int .u64 x.val) ∧ w'.cell? ⟨w.heap.size, 2, none⟩ = some (.int .i64 x.flag) ∧ w'.cell? ⟨w.heap.size, 3, none⟩ = some (.int .i64 x.tag) ∧ w'.cell? ⟨w.heap.size, 4, none⟩ = some (.int .i32 x.prev) ∧ w'.cell? ⟨w.heap.size, 5, none⟩ = some (.int .i32 x.next)) := Lib.hid (fun w' hh => by
    have hb : w'.heap[w.heap.size]? = _ := (hh.block w.heap.size (by rw [HZ0.out]; omega)).trans HBX.out
    have hr := head_row hb
    exact ⟨hr.cell (i := 0) (by simp), hr.cell (i := 1) (by simp), hr.cell (i := 2) (by simp), hr.cell (i := 3) (by simp), hr.cell (i := 4) (by simp), hr.cell (i := 5) (by simp)⟩)
  obtain ⟨q0, q1, q2, q3, q4, q5⟩ := HBXW.out w5 HH5.out.below
  clear d5 a5 h5 g0 g1 g2 g3 HIS heq
  go_wp2_with fail
  refine (node_walk x _).mono ?_
  rintro e w6 ⟨rfl, d6⟩
  have h6 := HH5.out.still d6
  have HR6 := Lib.hid (HR5.out.below d6)
  have HC6 := Lib.hid ((h6.2 w2.heap.size (by simp)).trans HC5.out)
  have HST : Hid (Calls Try.prog 24 #[.pointer (some ⟨b, 0, none⟩), .int .i32 (nx : Int), x.v] w6 fun e w' => e = .returned (.bool true) ∧ Held W0 w' b (st.laid x) (w2.heap.size :: K) ∧ Kept (w2.heap.size :: K) w6 w') := Lib.hid (by
    have := held_set h6.1 (by have := HAN.out; omega) (nx : Int) (by omega) x
    rw [← HNX.out, (next_is HOK.out).1, setI_next HOK.out, HNX.out] at this
    exact this)
  clear d6 h6 q0 q1 q2 q3 q4 q5
  go_wp2_with fail
  refine HST.out.mono ?_
  rintro e w7 ⟨rfl, h7, hk7⟩
  have HH7 := Lib.hid h7
  have HR7 : Hid (Ref w7 (refV st.n st.used Fo st.freed.length fc nb (st.used + 1) nc) st K) := Lib.hid (HR6.out.kept2 (fun k hk => hk7 k (by simp [hk])) (fun k hk => h7.old k (by simp [hk])))
  have hC7 := (hk7 w2.heap.size (by simp)).trans HC6.out
  have HC7 := Lib.hid hC7
  have hBz : w2.heap.size < w7.heap.size := (head_row hC7).lt
  have hln : (st.laid x).n ≤ 1000000 := by have := HAN.out; show st.alloc.n ≤ _; omega
  have HLN := Lib.hid hln
  have HOTH := Lib.hid (fun k hk => laid_other HOK.out x k hk)
  have HNEXT : Hid ((st.laid x).at_ (nx : Int) = x) := Lib.hid (by rw [← HNX.out]; exact laid_next HOK.out x)
  rw [HNX.out] at HOTH
  clear h7 hk7 hC7 HST hln HH2 HRF2 HH HRF HH3 HR3 HCB HH5 HR5 HC5 HR6 HC6 HD4
  obtain ⟨N, hN⟩ : ∃ N, st.n = N := ⟨_, rfl⟩
  have HN := Lib.hid hN
  rw [hN] at HR7 HC7 hsn ⊢
  have HRN : Hid (st.n ≤ 1000000) := Lib.hid (by omega)
  clear hN
  go_wp2_with fail
  go_loopg [14] N (fun g s14 wr => ∃ k : Nat, k + g = N ∧ s14 = .int .i64 (k : Int) ∧ Hid (Below w7.heap.size w7 wr))
  case atStart => exact ⟨0, by omega, rfl, Lib.hid (Below.refl _ _)⟩
  case round =>
    obtain ⟨k, hk, rfl, HB⟩ := hrel
    have hcB : wr.heap[w2.heap.size]? = _ := (HB.out.block w2.heap.size hBz).trans HC7.out
    obtain ⟨b0, b1, b2, b3⟩ := four_cells hcB
    have hBr : w2.heap.size < wr.heap.size := (head_row hcB).lt
    have HHr := Lib.hid (HH7.out.still HB.out).1
    have HRr := Lib.hid (HR7.out.below HB.out)
    clear hcB
    by_cases hlt : k < N
    · have e32 : IntKind.i32.wrap (k : Int) = (k : Int) := by rw [IntKind.wrap_i32]; omega
      have h32 : (k : Int) ≤ 2147483647 := by omega
      have HSW : Hid (∀ w' : World, Below wr.heap.size wr w' → w'.cell? ⟨w2.heap.size, 0, none⟩ = some (.int .i64 N) ∧ w'.cell? ⟨w2.heap.size, 1, none⟩ = some (.int .i64 st.used) ∧ w'.cell? ⟨w2.heap.size, 2, none⟩ = some (.slice Fo st.freed.length fc) ∧ w'.cell? ⟨w2.heap.size, 3, none⟩ = some (.slice (some ⟨nb, 0, none⟩) (st.used + 1) nc)) := Lib.hid (fun w' hh => by
        have e := fun (j : Nat) => hh.cell (p := ⟨w2.heap.size, j, none⟩) hBr
        exact ⟨(e 0).trans b0, (e 1).trans b1, (e 2).trans b2, (e 3).trans b3⟩)
      by_cases hkn : k = nx
      · have hbne : ((k : Int) != (nx : Int)) = false := by simp; omega
        have hbne2 : ((k : Int) == (nx : Int)) = true := by simp; omega
        have HKN := Lib.hid hkn
        clear hkn
        go_wp2_with fail
        go_quiet (fail)
        have HBQ : Hid (Below w7.heap.size w7 (wr.drewN nq)) := Lib.hid (HB.out.trans ((below_drewN' wr nq).mono HB.out.size))
        go_wp2
        go_roundg (gk - 1)
        case measure => omega
        case rel => exact ⟨k + 1, by omega, by go_num, HBQ⟩
      · have hbne : ((k : Int) != (nx : Int)) = true := by simp; omega
        have hbne2 : ((k : Int) == (nx : Int)) = false := by simp; omega
        have HE := Lib.hid (HOTH.out k hkn)
        have hneq : ∀ w : World, (binOp .neq 36 (st.at_ (k : Int)).v (st.at_ (k : Int)).v).run Try.prog w = .ok (.bool false) w := node_neq _
        clear hkn
        go_wp2_with fail
        go_region_held3 (fun w' => w'.cell? ⟨w2.heap.size, 0, none⟩ = some (.int .i64 N) ∧ w'.cell? ⟨w2.heap.size, 1, none⟩ = some (.int .i64 st.used) ∧ w'.cell? ⟨w2.heap.size, 2, none⟩ = some (.slice Fo st.freed.length fc) ∧ w'.cell? ⟨w2.heap.size, 3, none⟩ = some (.slice (some ⟨nb, 0, none⟩) (st.used + 1) nc))
          (first | exact kk7 | exact kk6 | exact kk5 | go_keep)
          (first
            | (go_at_call 14; refine (show Calls _ _ _ _ (fun e w' => e = .returned (st.at_ (k : Int)).v ∧ Below _ _ w') from (HE.out ▸ held_at (HHr.out.still (Below.refl _ _).drew).1 HLN.out (k : Int) h32)).mono ?_; rintro e w8 ⟨rfl, d5⟩; have a5 := (Below.refl wr.heap.size wr).drew.trans d5; have kk5 := HSW.out w8 a5)
            | (go_at_call 16; refine (rat_walk (HRr.out.below a5) HOK.out HRN.out _ h32).mono ?_; rintro e w9 ⟨rfl, d6⟩; have a6 := a5.trans (d6.mono a5.size); have kk6 := HSW.out w9 a6)
            | (go_at_call 15; refine (node_walk _ _).mono ?_; rintro e w10 ⟨rfl, d7⟩; have a7 := a6.trans (d7.mono a6.size); have kk7 := HSW.out w10 a7))
        have HB9 : Hid (Below w7.heap.size w7 w10) := Lib.hid (HB.out.trans (a7.mono HB.out.size))
        clear a5 a6 a7 d5 d6 d7 kk5 kk6 kk7 hneq
        go_wp2
        go_roundg (gk - 1)
        case measure => omega
        case rel => exact ⟨k + 1, by omega, by go_num, HB9⟩
    · have heqx : ∀ w : World, (binOp .eql 36 x.v x.v).run Try.prog w = .ok (.bool true) w := node_eql x
      have hbW : Below W0.heap.size W0 wr := HHr.out.below
      have HSB : Hid (∀ w' : World, Below wr.heap.size wr w' → w'.cell? ⟨w.heap.size, 0, none⟩ = some (.int .u64 x.key) ∧ w'.cell? ⟨w.heap.size, 1, none⟩ = some (.int .u64 x.val) ∧ w'.cell? ⟨w.heap.size, 2, none⟩ = some (.int .i64 x.flag) ∧ w'.cell? ⟨w.heap.size, 3, none⟩ = some (.int .i64 x.tag) ∧ w'.cell? ⟨w.heap.size, 4, none⟩ = some (.int .i32 x.prev) ∧ w'.cell? ⟨w.heap.size, 5, none⟩ = some (.int .i32 x.next)) := Lib.hid (fun w' hh => HBXW.out w' (hbW.trans (hh.mono hbW.size)))
      obtain ⟨q0, q1, q2, q3, q4, q5⟩ := HSB.out wr (Below.refl _ _)
      have HBW := Lib.hid hbW
      clear hbW
      go_wp2_with fail
      go_region_held3 (fun w' => w'.cell? ⟨w.heap.size, 0, none⟩ = some (.int .u64 x.key) ∧ w'.cell? ⟨w.heap.size, 1, none⟩ = some (.int .u64 x.val) ∧ w'.cell? ⟨w.heap.size, 2, none⟩ = some (.int .i64 x.flag) ∧ w'.cell? ⟨w.heap.size, 3, none⟩ = some (.int .i64 x.tag) ∧ w'.cell? ⟨w.heap.size, 4, none⟩ = some (.int .i32 x.prev) ∧ w'.cell? ⟨w.heap.size, 5, none⟩ = some (.int .i32 x.next))
        (first | exact kk7 | exact kk5 | go_keep)
        (first
          | (go_at_call 14; refine (show Calls _ _ _ _ (fun e w' => e = .returned x.v ∧ Below _ _ w') from (HNEXT.out ▸ held_at (HHr.out.still (Below.refl _ _).drew).1 HLN.out (nx : Int) (by omega))).mono ?_; rintro e w8 ⟨rfl, d5⟩; have a5 := (Below.refl wr.heap.size wr).drew.trans d5; have kk5 := HSB.out w8 a5)
          | (go_at_call 15; refine (node_walk _ _).mono ?_; rintro e w10 ⟨rfl, d7⟩; have a7 := a5.trans (d7.mono a5.size); have kk7 := HSB.out w10 a7))
      have HB9 : Hid (Below w.heap.size w w10) := Lib.hid (HB0.out.trans ((HBW.out.trans (a7.mono HBW.out.size)).mono HB0.out.size))
      clear a5 a7 d5 d7 kk5 kk7 heqx
      go_wp2
      go_ret
      exact ⟨rfl, HB9.out⟩
theorem arenaApart_walk (w : World) (r : Int) (hr : (Lit.int .u8 r).wf = true) (A : Option Addr) (n c : Nat) (l : Nat → Actn) (hm : n ≤ maxLen) (ha : Acts w A n l) (x : Nd) :
    Calls Try.prog 6 #[.int .u8 r, .slice A n c, x.v] w fun e w' => e = .returned (.bool true) ∧ Below w.heap.size w w' := by
  by_cases hn : n ≤ 40
  · simp only [Lit.wf, Bool.and_eq_true, decide_eq_true_eq] at hr
    have m1 : IntKind.u8.min = 0 := rfl
    have m2 : IntKind.u8.max = 255 := rfl
    obtain ⟨k, rfl⟩ : ∃ k : Nat, r = k := ⟨r.toNat, by omega⟩
    exact apart_short w k (by omega) A n c l x hn ha
  · exact apart_long w r A n c x (by omega) hm
end Go.Proofs.Ytdjokgjobkjdhaa
