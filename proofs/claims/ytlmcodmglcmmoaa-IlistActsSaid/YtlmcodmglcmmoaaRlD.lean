/- The document's own lists: MoveFront, Do. -/
import Derived.Test.YtlmcodmglcmmoaaRlX
namespace Go.Proofs.Ytlmcodmglcmmoaa
open Go Go.RowKit Go.Deep

theorem remL_mem {n : Nat} {l : Nat → List Nat} {i : Int} {t x : Nat} (h : x ∈ remL n l i t) : x ∈ l t := by
  unfold remL at h
  split at h
  · unfold upd at h
    split at h
    · rename_i e
      rw [e]
      exact List.mem_of_mem_erase h
    · exact h
  · exact h
theorem Gd.rem {n : Nat} {l : Nat → List Nat} (g : Gd n l) (i : Int) : Gd n (remL n l i) := by
  refine ⟨fun t ht x hx => g.pos t ht x (remL_mem hx), fun t ht => ?_, fun t u x ht hu h1 h2 => g.apart t u x ht hu (remL_mem h1) (remL_mem h2), fun t ht => ?_, g.n8⟩
  · unfold remL
    split
    · unfold upd
      split
      · rename_i e
        rw [← e]
        exact (g.nodup t ht).erase _
      · exact g.nodup t ht
    · exact g.nodup t ht
  · unfold remL
    split
    · unfold upd
      split
      · rename_i e
        rw [← e]
        exact Nat.le_trans List.length_erase_le (g.len t ht)
      · exact g.len t ht
    · exact g.len t ht
theorem Gd.tag_rem {n : Nat} {l : Nat → List Nat} (g : Gd n l) {t k : Nat} (ht : t < n) (hk : k < (l t).length) : tagI n (remL n l ((l t)[k] : Nat)) ((l t)[k] : Nat) = -1 := by
  have e := g.tag_in ht (List.getElem_mem hk)
  refine tagI_out ?_
  rintro u hu ⟨_, hm⟩
  have e2 : (((l t)[k] : Nat) : Int).toNat = (l t)[k] := by omega
  rw [e2] at hm
  have hmu := remL_mem hm
  obtain rfl : u = t := g.apart u t _ hu ht hmu (List.getElem_mem hk)
  unfold remL at hm
  rw [e, if_pos (by omega), e2] at hm
  have e1 : ((u : Int)).toNat = u := by omega
  rw [e1, upd_same] at hm
  exact (g.nodup u hu).not_mem_erase hm

section
variable {w : World} {v : Value} {n : Nat} {l : Nat → List Nat} {st : St} {K : List Nat}
theorem rlmove_not (h : RefL w v n l st K) (g : Gd n l) (tag i : Int) (hno : moveOk n l tag i = false) :
    Calls Try.prog 37 #[v, .int .i64 tag, .int .i32 i] w (RlNext w K n l st (fun v' => .tuple #[v', .bool false])) := by
  have HRL := Lib.hid h
  have HTG := Lib.hid (fun w' hb => rltag_walk (h.below (w' := w') hb) g i)
  obtain ⟨Fo, fc, nb, nc, o, oc, rfl, _⟩ := h
  unfold moveOk at hno
  cases hh : hasT n tag
  · clear hno HTG
    obtain ⟨w1, hw1⟩ : ∃ w1, (w.alloc (.cells #[.int .i64 st.n, .int .i64 st.used, .slice Fo st.freed.length fc, .slice (some ⟨nb, 0, none⟩) (st.used + 1) nc, .slice (some ⟨o, 0, none⟩) n oc] 32)).alloc (.cells #[.int .i64 st.n, .int .i64 st.used, .slice Fo st.freed.length fc, .slice (some ⟨nb, 0, none⟩) (st.used + 1) nc, .slice (some ⟨o, 0, none⟩) n oc] 32) = w1 := ⟨_, rfl⟩
    have hbW : Below w.heap.size w w1 := by rw [← hw1]; exact ((Below.refl _ _).alloc (Nat.le_refl _) _).alloc (by simp) _
    have HW := Lib.hid hw1
    have HBW := Lib.hid hbW
    clear hw1 hbW g
    unfold hasT at hh
    by_cases h0 : 0 ≤ tag
    · have h1 : ¬ tag < (n : Int) := by
        intro h
        rw [decide_eq_true h0, decide_eq_true h] at hh
        cases hh
      clear hh
      go_enter Try.func37, Try.ntmps37
      go_wp2
      exact bodyPost_ret (v := .tuple #[refLs st.n st.used Fo st.freed.length fc nb (st.used + 1) nc (some ⟨o, 0, none⟩) n oc, .bool false]) (by simp [results, Try.results37, go_sem]) rfl ⟨_, K, rfl, by rw [HW.out]; exact HBW.out, by rw [HW.out]; exact HRL.out.below HBW.out, fun k hk => .inl hk⟩
    · clear hh
      go_enter Try.func37, Try.ntmps37
      go_wp2
      exact bodyPost_ret (v := .tuple #[refLs st.n st.used Fo st.freed.length fc nb (st.used + 1) nc (some ⟨o, 0, none⟩) n oc, .bool false]) (by simp [results, Try.results37, go_sem]) rfl ⟨_, K, rfl, by rw [HW.out]; exact HBW.out, by rw [HW.out]; exact HRL.out.below HBW.out, fun k hk => .inl hk⟩
  · obtain ⟨t, rfl, htn⟩ := hasT_nat hh
    have htI : (t : Int) < (n : Int) := by omega
    rw [hh] at hno
    simp only [Bool.true_and, decide_eq_false_iff_not] at hno
    obtain ⟨q, hq⟩ : ∃ q, tagI n l i = q := ⟨_, rfl⟩
    rw [hq] at HTG hno
    have hq0 : q < 0 := by omega
    clear hq hno hh g
    go_enter Try.func37, Try.ntmps37
    go_wp2_with fail
    refine (HTG.out _ (((Below.refl _ _).alloc (Nat.le_refl _) _).alloc (by simp) _)).mono ?_
    rintro e w1 ⟨rfl, hb⟩
    obtain ⟨hb1, hs1, hB0, hB1⟩ := two_blocks hb
    clear hb
    obtain ⟨c0, c1, c2, c3, c4⟩ := five_cells hB0
    obtain ⟨x0, x1, x2, x3, x4⟩ := five_cells hB1
    obtain ⟨z0, z1, z2, z3, z4⟩ := five_free hB1
    have HB := Lib.hid hb1
    have H4 := Lib.hid (fiveR_set hB1 (.int .i64 st.n) (.int .i64 st.used) (.slice Fo st.freed.length fc) (.slice (some ⟨nb, 0, none⟩) (st.used + 1) nc) (.slice (some ⟨o, 0, none⟩) n oc))
    clear hb1 hB0 hB1
    go_wp2
    have h4 := H4.out
    generalize (((((w1.setCell ⟨w.heap.size + 1, 0, none⟩ (.int .i64 st.n)).setCell ⟨w.heap.size + 1, 1, none⟩ (.int .i64 st.used)).setCell ⟨w.heap.size + 1, 2, none⟩ (.slice Fo st.freed.length fc)).setCell ⟨w.heap.size + 1, 3, none⟩ (.slice (some ⟨nb, 0, none⟩) (st.used + 1) nc)).setCell ⟨w.heap.size + 1, 4, none⟩ (.slice (some ⟨o, 0, none⟩) n oc)) = W at h4 ⊢
    clear x0 x1 x2 x3 x4 z0 z1 z2 z3 z4
    obtain ⟨y0, y1, y2, y3, y4⟩ := five_cells h4.1
    have hbW := below_only HB.out h4.2 (by omega)
    exact bodyPost_ret (v := .tuple #[refLs st.n st.used Fo st.freed.length fc nb (st.used + 1) nc (some ⟨o, 0, none⟩) n oc, .bool false]) (by simp [results, Try.results37, go_sem, y0, y1, y2, y3, y4]) rfl ⟨_, K, rfl, hbW, HRL.out.below hbW, fun k hk => .inl hk⟩

set_option maxHeartbeats 1000000 in
theorem rlmove_yes (h : RefL w v n l st K) (g : Gd n l) (ho : st.Ok) (hn : st.n ≤ 1000000) (hT : ∀ t, t < n → ∀ x ∈ l t, st.tk x = true) (tag i : Int) (h32 : i ≤ 2147483647) (hyes : moveOk n l tag i = true) :
    Calls Try.prog 37 #[v, .int .i64 tag, .int .i32 i] w (RlNext w K n (moveL n l tag i) st (fun v' => .tuple #[v', .bool true])) := by
  have HTG := Lib.hid (fun w' hb => rltag_walk (h.below (w' := w') hb) g i)
  have HRM := Lib.hid (fun w' hb => rlrem_walk (h.below (w' := w') hb) g i)
  have HG1 := Lib.hid (g.rem i)
  unfold moveL
  rw [if_pos hyes]
  unfold moveOk at hyes
  simp only [Bool.and_eq_true, decide_eq_true_eq] at hyes
  obtain ⟨hh, hq0⟩ := hyes
  have hpo : pushOk n (remL n l i) st tag i = true := by
    rcases g.cases i with ⟨t, k, hk, ht, rfl, e⟩ | ⟨_, e⟩
    · unfold pushOk
      rw [hh, g.tag_rem ht hk]
      have htk := hT t ht _ (List.getElem_mem hk)
      have hb := tk_bounds htk
      have his : st.is ((l t)[k] : Nat) = true := by unfold St.is; rw [decide_eq_true (by omega)]; simpa using htk
      rw [his]; rfl
    · omega
  have hpl : pushL true n (remL n l i) st tag i = upd (remL n l i) tag.toNat (i.toNat :: remL n l i tag.toNat) := by
    unfold pushL
    rw [hpo]; rfl
  rw [← hpl]
  have HPU := Lib.hid (fun w' v' K' (h' : RefL w' v' n (remL n l i) st K') => rlpush_walk h' HG1.out ho hn tag i h32 true)
  rw [hpo] at HPU
  obtain ⟨t, rfl, htn⟩ := hasT_nat hh
  have htI : (t : Int) < (n : Int) := by omega
  obtain ⟨q, hq⟩ : ∃ q, tagI n l i = q := ⟨_, rfl⟩
  rw [hq] at HTG HRM hq0
  rw [decide_eq_true hq0] at HRM
  have HH0 := Lib.hid h.old
  obtain ⟨Fo, fc, nb, nc, o, oc, rfl, _⟩ := h
  clear hq hh g hpo hpl hT ho
  go_enter Try.func37, Try.ntmps37
  go_wp2_with fail
  refine (HTG.out _ (((Below.refl _ _).alloc (Nat.le_refl _) _).alloc (by simp) _)).mono ?_
  rintro e w1 ⟨rfl, hb⟩
  obtain ⟨hb1, hs1, hB0, hB1⟩ := two_blocks hb
  clear hb
  obtain ⟨c0, c1, c2, c3, c4⟩ := five_cells hB0
  have HB1 := Lib.hid hb1
  have HBB1 := Lib.hid hB1
  clear hb1 hB0 hB1
  go_wp2_with fail
  refine (HRM.out w1 HB1.out).mono ?_
  rintro e w2 ⟨v2, K2, rfl, hb2, hr2, hk2⟩
  have HR2 := Lib.hid hr2
  obtain ⟨Fo2, fc2, nb2, nc2, o2, oc2, rfl, _⟩ := hr2
  have HB2 := Lib.hid hb2
  have HK2 := Lib.hid hk2
  have hs2 := hb2.size
  clear hb2 hk2 c0 c1 c2 c3 c4
  go_wp2_with fail
  refine (HPU.out _ _ K2 (HR2.out.below ((Below.refl w2.heap.size w2).alloc (Nat.le_refl _) (.cells #[.int .i64 st.n, .int .i64 st.used, .slice Fo2 st.freed.length fc2, .slice (some ⟨nb2, 0, none⟩) (st.used + 1) nc2, .slice (some ⟨o2, 0, none⟩) n oc2] 32)))).mono ?_
  rintro e w3 ⟨v3, K3, rfl, hb3, hr3, hk3⟩
  have HR3 := Lib.hid hr3
  obtain ⟨Fo3, fc3, nb3, nc3, o3, oc3, rfl, _⟩ := hr3
  have hb23 : Below w2.heap.size w2 w3 := ((Below.refl w2.heap.size w2).alloc (Nat.le_refl _) (.cells #[.int .i64 st.n, .int .i64 st.used, .slice Fo2 st.freed.length fc2, .slice (some ⟨nb2, 0, none⟩) (st.used + 1) nc2, .slice (some ⟨o2, 0, none⟩) n oc2] 32)).trans (hb3.mono (by simp))
  have hK3 : ∀ y ∈ K3, y ∈ K ∨ w1.heap.size ≤ y := fun y hy => by
    rcases hk3 y hy with g | g
    · exact HK2.out y g
    · right
      simp at g
      omega
  have hb13 : Below w1.heap.size w1 w3 := HB2.out.trans (hb23.mono hs2)
  have hB13 := (hb13.block (w.heap.size + 1) hs1).trans HBB1.out
  have HB3 := Lib.hid (HB1.out.trans (hb13.mono (by omega)))
  have hs13 := hb13.size
  have HK3 := Lib.hid hK3
  obtain ⟨x0, x1, x2, x3, x4⟩ := five_cells hB13
  obtain ⟨z0, z1, z2, z3, z4⟩ := five_free hB13
  have H4 := Lib.hid (fiveR_set hB13 (.int .i64 st.n) (.int .i64 st.used) (.slice Fo3 st.freed.length fc3) (.slice (some ⟨nb3, 0, none⟩) (st.used + 1) nc3) (.slice (some ⟨o3, 0, none⟩) n oc3))
  clear hb3 hk3 hb23 hK3 hb13 hB13
  go_wp2
  have h4 := H4.out
  generalize (((((w3.setCell ⟨w.heap.size + 1, 0, none⟩ (.int .i64 st.n)).setCell ⟨w.heap.size + 1, 1, none⟩ (.int .i64 st.used)).setCell ⟨w.heap.size + 1, 2, none⟩ (.slice Fo3 st.freed.length fc3)).setCell ⟨w.heap.size + 1, 3, none⟩ (.slice (some ⟨nb3, 0, none⟩) (st.used + 1) nc3)).setCell ⟨w.heap.size + 1, 4, none⟩ (.slice (some ⟨o3, 0, none⟩) n oc3)) = W at h4 ⊢
  clear x0 x1 x2 x3 x4 z0 z1 z2 z3 z4
  obtain ⟨y0, y1, y2, y3, y4⟩ := five_cells h4.1
  have hbW := below_only HB3.out h4.2 (by omega)
  refine bodyPost_ret (v := .tuple #[refLs st.n st.used Fo3 st.freed.length fc3 nb3 (st.used + 1) nc3 (some ⟨o3, 0, none⟩) n oc3, .bool true]) (by simp [results, Try.results37, go_sem, y0, y1, y2, y3, y4]) rfl ⟨_, K3, rfl, hbW, ?_, fun y hy => (HK3.out y hy).imp id (fun g => by omega)⟩
  refine HR3.out.kept (fun y hy => h4.2.block y (HR3.out.old y hy) ?_) (fun y hy => Nat.lt_of_lt_of_le (HR3.out.old y hy) h4.2.size)
  simp only [List.mem_singleton]
  rintro rfl
  rcases HK3.out _ hy with g | g
  · have := HH0.out _ g; omega
  · omega
theorem rlmove_walk (h : RefL w v n l st K) (g : Gd n l) (ho : st.Ok) (hn : st.n ≤ 1000000) (hT : ∀ t, t < n → ∀ x ∈ l t, st.tk x = true) (tag i : Int) (h32 : i ≤ 2147483647) :
    Calls Try.prog 37 #[v, .int .i64 tag, .int .i32 i] w (RlNext w K n (moveL n l tag i) st (fun v' => .tuple #[v', .bool (moveOk n l tag i)])) := by
  cases hm : moveOk n l tag i
  · have e : moveL n l tag i = l := by unfold moveL; rw [hm]; rfl
    rw [e]
    exact rlmove_not h g tag i hm
  · exact rlmove_yes h g ho hn hT tag i h32 hm
end
end Go.Proofs.Ytlmcodmglcmmoaa
