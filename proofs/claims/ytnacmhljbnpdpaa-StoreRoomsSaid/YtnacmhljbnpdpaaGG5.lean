/- Words and walks for layer 6: SsV. -/
import Derived.Test.YtnacmhljbnpdpaaGG4
/- Package store: PushFront, PushBack. -/
namespace Go.Proofs.Ytnacmhljbnpdpaa
open Go Go.RowKit Go.Deep

section
variable {w0 w : World} {sp p b ix n : Nat} {l : Nat → List Nat} {A : St} {T : Tb} {K : List Nat}
theorem next_out (hq : SQ w0 w p b ix n l A T K) (ho : A.Ok) : ∀ t, t < n → A.next ∉ l t := fun t ht hi => by
  have := hq.ap_.2.2.1 t _ ht hi
  rw [(next_free ho).1] at this
  cases this
theorem laid_is (ho : A.Ok) (k : Nat) : (A.alloc.set A.next ⟨k, 0, 0, 0, 0, 0⟩).is (A.next : Nat) = true ∧ A.alloc.tk A.next = true := by
  have h1 := (next_free ho).2.1
  have h2 : A.alloc.tk A.next = true := by rw [alloc_tk ho, upd_same]
  refine ⟨?_, h2⟩
  unfold St.is
  rw [decide_eq_true (by omega)]
  simp only [Bool.true_and, Int.toNat_natCast]
  exact h2
theorem pushL_next (hq : SQ w0 w p b ix n l A T K) (ho : A.Ok) (k : Nat) (t : Nat) (ht : t < n) (front : Bool) :
    pushOk n l (A.alloc.set A.next ⟨k, 0, 0, 0, 0, 0⟩) t (A.next : Nat) = true ∧ pushL front n l (A.alloc.set A.next ⟨k, 0, 0, 0, 0, 0⟩) t (A.next : Nat) = upd l t (if front then A.next :: l t else l t ++ [A.next]) := by
  have hout := next_out hq ho
  have htg : tagI n l (A.next : Nat) = -1 := tagI_out (fun u hu hm => hout u hu (by simpa using hm.2))
  have hp : pushOk n l (A.alloc.set A.next ⟨k, 0, 0, 0, 0, 0⟩) t (A.next : Nat) = true := by
    unfold pushOk
    rw [hasT_of ht, (laid_is ho k).1, htg]
    rfl
  refine ⟨hp, ?_⟩
  unfold pushL
  rw [hp, if_pos rfl]
  simp only [Int.toNat_natCast]
set_option maxHeartbeats 2000000 in
theorem spushFront_yes (h : SM w0 w sp n l A T K) (ft : Fit A T) (ho : A.Ok) (k : Nat) (hk : k < 18446744073709551616) (t : Nat) (ht : t < n) (hg : (T.get k).2 = false) :
    Calls Try.prog 25 #[ptr sp, .int .i64 (t : Nat), .int .u64 (k : Nat)] w fun e w' => e = .returned (.bool true) ∧ SM w0 w' sp n (upd l t (if true then A.next :: l t else l t ++ [A.next])) (A.alloc.set A.next ⟨k, 0, 0, 0, 0, 0⟩) (T.put k A.next) K ∧ Kept K w w' := by
  have hold := h.old
  obtain ⟨p, b, ix, hc, hq, h3, h4⟩ := h
  have HO := Lib.hid (open_walk hc)
  have HTN := Lib.hid (fun (W w' : World) (K1 : List Nat) => sm_turn (w' := w') (W := W) (l' := upd l t (if true then A.next :: l t else l t ++ [A.next])) (A' := A.alloc.set A.next ⟨k, 0, 0, 0, 0, 0⟩) (T' := T.put k A.next) (K1 := K1) hc h3 h4 hold)
  have HG := Lib.hid (fun (W : World) (hb : Below w.heap.size w W) => sq_get (hq.still hb).1 ft.tn k hk)
  have HA := Lib.hid (fun (W : World) (B : Nat) (hb : Below w.heap.size w W) (hB : w.heap.size ≤ B ∧ B < W.heap.size) => sq_alloc (hq.other hb (K' := B :: sp :: K) (fun x hx => by
    rcases List.mem_cons.1 hx with rfl | hx
    · exact ⟨.inr hB.1, hB.2⟩
    · exact ⟨.inl hx, Nat.lt_of_lt_of_le (hq.old x hx) hb.size⟩)) ft.an)
  have HL := Lib.hid (fun (W : World) (K1 : List Nat) (hz : SQ w0 W p b ix n l A.alloc T K1) => sq_lay hz A.next (laid_is ho k).2 (next_out hq ho) k)
  have HP := Lib.hid (fun (W : World) (K1 : List Nat) (hz : SQ w0 W p b ix n l (A.alloc.set A.next ⟨k, 0, 0, 0, 0, 0⟩) T K1) => sq_put hz ft.tn k hk (A.next : Nat))
  have h32 : (A.next : Int) ≤ 2147483647 := by
    have := (next_free ho).2.2.2
    have := ho.room
    have := ft.an
    omega
  have HU := Lib.hid (fun (W : World) (K1 : List Nat) (hz : SQ w0 W p b ix n l (A.alloc.set A.next ⟨k, 0, 0, 0, 0, 0⟩) (T.put k A.next) K1) => sq_pushFront hz (t : Nat) (A.next : Nat) h32)
  rw [(pushL_next hq ho k t ht true).1, (pushL_next hq ho k t ht true).2] at HU
  rw [hg] at HG
  have hn8 := hq.ap_.2.2.2.2
  have htI : (t : Int) < (n : Int) := by omega
  have hnI : (n : Int) ≤ 8 := by omega
  generalize upd l t (if true then A.next :: l t else l t ++ [A.next]) = l2 at HU HTN ⊢
  generalize T.put k A.next = T2 at HP HU HTN ⊢
  generalize A.alloc.set A.next ⟨k, 0, 0, 0, 0, 0⟩ = A3 at HL HP HU HTN ⊢
  generalize A.alloc = A2 at HA HL
  generalize A.next = i at HA HL HP HU h32
  generalize (T.get k).1 = g0 at HG
  clear hc hq ft h3 h4 hold ho hg
  go_enter Try.func25, Try.ntmps25
  go_wp2_with fail
  refine HO.out.mono ?_
  rintro e w1 ⟨rfl, hb⟩
  have HB1 := Lib.hid hb
  clear hb
  go_wp2_with fail
  have HPU : Hid (Calls Try.prog 56 #[.agg (partsC p n b ix), .func (.func 57) #[] #[], .int .i64 (t : Nat), .int .u64 (k : Nat)] w1 fun e w' => e = .returned (.bool true) ∧ SM w0 w' sp n l2 A3 T2 K ∧ Kept K w w') := Lib.hid (by
    have HB2 := Lib.hid (HB1.out.alloc HB1.out.size (.cells (partsC p n b ix) 71))
    have hbx := heap_alloc_new w1 (.cells (partsC p n b ix) 71)
    have HBX := Lib.hid hbx
    have hz1 := HB1.out.size
    clear hbx HB1
    go_enter Try.func56, Try.ntmps56
    go_wp2_with fail
    refine (HG.out _ HB2.out).mono ?_
    rintro e w2 ⟨rfl, hb2⟩
    have HB3 := Lib.hid (HB2.out.trans (hb2.mono HB2.out.size))
    have HBX2 := Lib.hid ((hb2.block w1.heap.size (by simp)).trans HBX.out)
    have hw12 : w1.heap.size < w2.heap.size := by have := hb2.size; simp at this; omega
    obtain ⟨⟨c0, c1, c2, c3⟩, _⟩ := q4_at HBX2.out
    clear hb2
    go_wp2_with fail
    refine (HA.out _ w1.heap.size HB3.out ⟨hz1, hw12⟩).mono ?_
    rintro e w3 ⟨rfl, q1, q2⟩
    have Q1 := Lib.hid q1
    have KQ := Lib.hid q2
    clear c0 c1 c2 c3
    have HBX3 := Lib.hid ((q2 w1.heap.size (by simp)).trans HBX2.out)
    obtain ⟨⟨c0, c1, c2, c3⟩, _⟩ := q4_at HBX3.out
    clear q1 q2
    go_wp2_with fail
    refine (HL.out _ _ Q1.out).mono ?_
    rintro e w4 ⟨rfl, q1, q2⟩
    have Q2 := Lib.hid q1
    have KQ2 := Lib.hid (Kept.trans KQ.out q2)
    clear c0 c1 c2 c3
    have HBX4 := Lib.hid ((q2 w1.heap.size (by simp)).trans HBX3.out)
    obtain ⟨⟨c0, c1, c2, c3⟩, _⟩ := q4_at HBX4.out
    clear q1 q2
    go_wp2_with fail
    refine (HP.out _ _ Q2.out).mono ?_
    rintro e w5 ⟨rfl, q1, q2⟩
    have Q3 := Lib.hid q1
    have KQ3 := Lib.hid (Kept.trans KQ2.out q2)
    clear c0 c1 c2 c3
    have HBX5 := Lib.hid ((q2 w1.heap.size (by simp)).trans HBX4.out)
    obtain ⟨⟨c0, c1, c2, c3⟩, _⟩ := q4_at HBX5.out
    clear q1 q2
    go_wp2_with fail
    refine (HU.out _ _ Q3.out).mono ?_
    rintro e w6 ⟨rfl, q1, q2⟩
    have HE := Lib.hid (HTN.out _ _ _ HB3.out q1 (Kept.trans KQ3.out q2) (fun k hk => by simp; exact .inr hk))
    clear q1 q2 c0 c1 c2 c3
    go_wp2
    go_ret
    exact ⟨rfl, HE.out⟩)
  refine HPU.out.mono ?_
  rintro e w2 ⟨rfl, q1⟩
  have Q := Lib.hid q1
  clear q1
  go_wp2
  go_ret
  exact ⟨rfl, Q.out⟩
set_option maxHeartbeats 1000000 in
theorem spushFront_no (h : SM w0 w sp n l A T K) (ft : Fit A T) (k : Nat) (hk : k < 18446744073709551616) (tag : Int) (hno : tag < 0 ∨ (0 ≤ tag ∧ (n : Int) ≤ tag) ∨ (0 ≤ tag ∧ tag < (n : Int) ∧ (T.get k).2 = true)) :
    Calls Try.prog 25 #[ptr sp, .int .i64 tag, .int .u64 (k : Nat)] w fun e w' => e = .returned (.bool false) ∧ SM w0 w' sp n l A T K ∧ Kept K w w' := by
  have HSM := Lib.hid h
  obtain ⟨p, b, ix, hc, hq, h3, h4⟩ := h
  have HO := Lib.hid (open_walk hc)
  have HG := Lib.hid (fun (W : World) (hb : Below w.heap.size w W) => sq_get (hq.still hb).1 ft.tn k hk)
  have hn8 := hq.ap_.2.2.2.2
  have hnI : (n : Int) ≤ 8 := by omega
  generalize (T.get k).1 = g0 at HG
  clear hc hq ft h3 h4
  have HPU : Hid (∀ w1, Below w.heap.size w w1 → Calls Try.prog 56 #[.agg (partsC p n b ix), .func (.func 57) #[] #[], .int .i64 tag, .int .u64 (k : Nat)] w1 fun e w' => e = .returned (.bool false) ∧ Below w.heap.size w w') := Lib.hid (by
    intro w1 hb
    have HB2 := Lib.hid (hb.alloc hb.size (.cells (partsC p n b ix) 71))
    clear hb
    rcases hno with h1 | ⟨h1, h2⟩ | ⟨h1, h2, h3⟩
    · go_enter Try.func56, Try.ntmps56
      go_wp2
      go_ret
      exact ⟨rfl, HB2.out⟩
    · go_enter Try.func56, Try.ntmps56
      go_wp2
      go_ret
      exact ⟨rfl, HB2.out⟩
    · rw [h3] at HG
      clear h3
      go_enter Try.func56, Try.ntmps56
      go_wp2_with fail
      refine (HG.out _ HB2.out).mono ?_
      rintro e w2 ⟨rfl, hb2⟩
      have HB3 := Lib.hid (HB2.out.trans (hb2.mono HB2.out.size))
      clear hb2
      go_wp2
      go_ret
      exact ⟨rfl, HB3.out⟩)
  clear hno HG
  go_enter Try.func25, Try.ntmps25
  go_wp2_with fail
  refine HO.out.mono ?_
  rintro e w1 ⟨rfl, hb⟩
  have HB1 := Lib.hid hb
  clear hb
  go_wp2_with fail
  refine (HPU.out _ HB1.out).mono ?_
  rintro e w2 ⟨rfl, hb2⟩
  have HE := Lib.hid (HSM.out.still hb2)
  clear hb2
  go_wp2
  go_ret
  exact ⟨rfl, HE.out⟩
set_option maxHeartbeats 2000000 in
theorem spushBack_yes (h : SM w0 w sp n l A T K) (ft : Fit A T) (ho : A.Ok) (k : Nat) (hk : k < 18446744073709551616) (t : Nat) (ht : t < n) (hg : (T.get k).2 = false) :
    Calls Try.prog 26 #[ptr sp, .int .i64 (t : Nat), .int .u64 (k : Nat)] w fun e w' => e = .returned (.bool true) ∧ SM w0 w' sp n (upd l t (if false then A.next :: l t else l t ++ [A.next])) (A.alloc.set A.next ⟨k, 0, 0, 0, 0, 0⟩) (T.put k A.next) K ∧ Kept K w w' := by
  have hold := h.old
  obtain ⟨p, b, ix, hc, hq, h3, h4⟩ := h
  have HO := Lib.hid (open_walk hc)
  have HTN := Lib.hid (fun (W w' : World) (K1 : List Nat) => sm_turn (w' := w') (W := W) (l' := upd l t (if false then A.next :: l t else l t ++ [A.next])) (A' := A.alloc.set A.next ⟨k, 0, 0, 0, 0, 0⟩) (T' := T.put k A.next) (K1 := K1) hc h3 h4 hold)
  have HG := Lib.hid (fun (W : World) (hb : Below w.heap.size w W) => sq_get (hq.still hb).1 ft.tn k hk)
  have HA := Lib.hid (fun (W : World) (B : Nat) (hb : Below w.heap.size w W) (hB : w.heap.size ≤ B ∧ B < W.heap.size) => sq_alloc (hq.other hb (K' := B :: sp :: K) (fun x hx => by
    rcases List.mem_cons.1 hx with rfl | hx
    · exact ⟨.inr hB.1, hB.2⟩
    · exact ⟨.inl hx, Nat.lt_of_lt_of_le (hq.old x hx) hb.size⟩)) ft.an)
  have HL := Lib.hid (fun (W : World) (K1 : List Nat) (hz : SQ w0 W p b ix n l A.alloc T K1) => sq_lay hz A.next (laid_is ho k).2 (next_out hq ho) k)
  have HP := Lib.hid (fun (W : World) (K1 : List Nat) (hz : SQ w0 W p b ix n l (A.alloc.set A.next ⟨k, 0, 0, 0, 0, 0⟩) T K1) => sq_put hz ft.tn k hk (A.next : Nat))
  have h32 : (A.next : Int) ≤ 2147483647 := by
    have := (next_free ho).2.2.2
    have := ho.room
    have := ft.an
    omega
  have HU := Lib.hid (fun (W : World) (K1 : List Nat) (hz : SQ w0 W p b ix n l (A.alloc.set A.next ⟨k, 0, 0, 0, 0, 0⟩) (T.put k A.next) K1) => sq_pushBack hz (t : Nat) (A.next : Nat) h32)
  rw [(pushL_next hq ho k t ht false).1, (pushL_next hq ho k t ht false).2] at HU
  rw [hg] at HG
  have hn8 := hq.ap_.2.2.2.2
  have htI : (t : Int) < (n : Int) := by omega
  have hnI : (n : Int) ≤ 8 := by omega
  generalize upd l t (if false then A.next :: l t else l t ++ [A.next]) = l2 at HU HTN ⊢
  generalize T.put k A.next = T2 at HP HU HTN ⊢
  generalize A.alloc.set A.next ⟨k, 0, 0, 0, 0, 0⟩ = A3 at HL HP HU HTN ⊢
  generalize A.alloc = A2 at HA HL
  generalize A.next = i at HA HL HP HU h32
  generalize (T.get k).1 = g0 at HG
  clear hc hq ft h3 h4 hold ho hg
  go_enter Try.func26, Try.ntmps26
  go_wp2_with fail
  refine HO.out.mono ?_
  rintro e w1 ⟨rfl, hb⟩
  have HB1 := Lib.hid hb
  clear hb
  go_wp2_with fail
  have HPU : Hid (Calls Try.prog 56 #[.agg (partsC p n b ix), .func (.func 58) #[] #[], .int .i64 (t : Nat), .int .u64 (k : Nat)] w1 fun e w' => e = .returned (.bool true) ∧ SM w0 w' sp n l2 A3 T2 K ∧ Kept K w w') := Lib.hid (by
    have HB2 := Lib.hid (HB1.out.alloc HB1.out.size (.cells (partsC p n b ix) 71))
    have hbx := heap_alloc_new w1 (.cells (partsC p n b ix) 71)
    have HBX := Lib.hid hbx
    have hz1 := HB1.out.size
    clear hbx HB1
    go_enter Try.func56, Try.ntmps56
    go_wp2_with fail
    refine (HG.out _ HB2.out).mono ?_
    rintro e w2 ⟨rfl, hb2⟩
    have HB3 := Lib.hid (HB2.out.trans (hb2.mono HB2.out.size))
    have HBX2 := Lib.hid ((hb2.block w1.heap.size (by simp)).trans HBX.out)
    have hw12 : w1.heap.size < w2.heap.size := by have := hb2.size; simp at this; omega
    obtain ⟨⟨c0, c1, c2, c3⟩, _⟩ := q4_at HBX2.out
    clear hb2
    go_wp2_with fail
    refine (HA.out _ w1.heap.size HB3.out ⟨hz1, hw12⟩).mono ?_
    rintro e w3 ⟨rfl, q1, q2⟩
    have Q1 := Lib.hid q1
    have KQ := Lib.hid q2
    clear c0 c1 c2 c3
    have HBX3 := Lib.hid ((q2 w1.heap.size (by simp)).trans HBX2.out)
    obtain ⟨⟨c0, c1, c2, c3⟩, _⟩ := q4_at HBX3.out
    clear q1 q2
    go_wp2_with fail
    refine (HL.out _ _ Q1.out).mono ?_
    rintro e w4 ⟨rfl, q1, q2⟩
    have Q2 := Lib.hid q1
    have KQ2 := Lib.hid (Kept.trans KQ.out q2)
    clear c0 c1 c2 c3
    have HBX4 := Lib.hid ((q2 w1.heap.size (by simp)).trans HBX3.out)
    obtain ⟨⟨c0, c1, c2, c3⟩, _⟩ := q4_at HBX4.out
    clear q1 q2
    go_wp2_with fail
    refine (HP.out _ _ Q2.out).mono ?_
    rintro e w5 ⟨rfl, q1, q2⟩
    have Q3 := Lib.hid q1
    have KQ3 := Lib.hid (Kept.trans KQ2.out q2)
    clear c0 c1 c2 c3
    have HBX5 := Lib.hid ((q2 w1.heap.size (by simp)).trans HBX4.out)
    obtain ⟨⟨c0, c1, c2, c3⟩, _⟩ := q4_at HBX5.out
    clear q1 q2
    go_wp2_with fail
    refine (HU.out _ _ Q3.out).mono ?_
    rintro e w6 ⟨rfl, q1, q2⟩
    have HE := Lib.hid (HTN.out _ _ _ HB3.out q1 (Kept.trans KQ3.out q2) (fun k hk => by simp; exact .inr hk))
    clear q1 q2 c0 c1 c2 c3
    go_wp2
    go_ret
    exact ⟨rfl, HE.out⟩)
  refine HPU.out.mono ?_
  rintro e w2 ⟨rfl, q1⟩
  have Q := Lib.hid q1
  clear q1
  go_wp2
  go_ret
  exact ⟨rfl, Q.out⟩
set_option maxHeartbeats 1000000 in
theorem spushBack_no (h : SM w0 w sp n l A T K) (ft : Fit A T) (k : Nat) (hk : k < 18446744073709551616) (tag : Int) (hno : tag < 0 ∨ (0 ≤ tag ∧ (n : Int) ≤ tag) ∨ (0 ≤ tag ∧ tag < (n : Int) ∧ (T.get k).2 = true)) :
    Calls Try.prog 26 #[ptr sp, .int .i64 tag, .int .u64 (k : Nat)] w fun e w' => e = .returned (.bool false) ∧ SM w0 w' sp n l A T K ∧ Kept K w w' := by
  have HSM := Lib.hid h
  obtain ⟨p, b, ix, hc, hq, h3, h4⟩ := h
  have HO := Lib.hid (open_walk hc)
  have HG := Lib.hid (fun (W : World) (hb : Below w.heap.size w W) => sq_get (hq.still hb).1 ft.tn k hk)
  have hn8 := hq.ap_.2.2.2.2
  have hnI : (n : Int) ≤ 8 := by omega
  generalize (T.get k).1 = g0 at HG
  clear hc hq ft h3 h4
  have HPU : Hid (∀ w1, Below w.heap.size w w1 → Calls Try.prog 56 #[.agg (partsC p n b ix), .func (.func 58) #[] #[], .int .i64 tag, .int .u64 (k : Nat)] w1 fun e w' => e = .returned (.bool false) ∧ Below w.heap.size w w') := Lib.hid (by
    intro w1 hb
    have HB2 := Lib.hid (hb.alloc hb.size (.cells (partsC p n b ix) 71))
    clear hb
    rcases hno with h1 | ⟨h1, h2⟩ | ⟨h1, h2, h3⟩
    · go_enter Try.func56, Try.ntmps56
      go_wp2
      go_ret
      exact ⟨rfl, HB2.out⟩
    · go_enter Try.func56, Try.ntmps56
      go_wp2
      go_ret
      exact ⟨rfl, HB2.out⟩
    · rw [h3] at HG
      clear h3
      go_enter Try.func56, Try.ntmps56
      go_wp2_with fail
      refine (HG.out _ HB2.out).mono ?_
      rintro e w2 ⟨rfl, hb2⟩
      have HB3 := Lib.hid (HB2.out.trans (hb2.mono HB2.out.size))
      clear hb2
      go_wp2
      go_ret
      exact ⟨rfl, HB3.out⟩)
  clear hno HG
  go_enter Try.func26, Try.ntmps26
  go_wp2_with fail
  refine HO.out.mono ?_
  rintro e w1 ⟨rfl, hb⟩
  have HB1 := Lib.hid hb
  clear hb
  go_wp2_with fail
  refine (HPU.out _ HB1.out).mono ?_
  rintro e w2 ⟨rfl, hb2⟩
  have HE := Lib.hid (HSM.out.still hb2)
  clear hb2
  go_wp2
  go_ret
  exact ⟨rfl, HE.out⟩
end
end Go.Proofs.Ytnacmhljbnpdpaa
