/- Words and walks: LiT LiF LiO. -/
import Derived.Test.YtkhikpnlpcankaaGreatG1
import Derived.Test.YtkhikpnlpcankaaGreatG20
import Derived.Deep.RegionHeld3
import Derived.Deep.RegionWith
namespace Go.Proofs.YtkhikpnlpcankaaGreat
open Go Go.RowKit Go.Deep
set_option maxRecDepth 8000
theorem count_len : ∀ (l q : List Nat), (∀ a, l.count a ≤ q.count a) → l.length ≤ q.length
  | [], q, _ => Nat.zero_le _
  | x :: l, q, h => by
    have hx : x ∈ q := List.count_pos_iff.1 (by have := h x; rw [List.count_cons_self] at this; omega)
    have h2 : ∀ a, l.count a ≤ (q.erase x).count a := fun a => by
      have := h a
      rw [List.count_cons] at this
      rw [List.count_erase]
      split at this <;> split <;> simp_all <;> omega
    have h3 := count_len l (q.erase x) h2
    rw [List.length_erase_of_mem hx] at h3
    have := List.length_pos_of_mem hx
    rw [List.length_cons]
    omega
theorem kindK_count {f a : Nat} (s : List It) : (keysI (s.filter (fun x => x.f == f))).count a = ct a f s := by
  induction s with
  | nil => rfl
  | cons x s ih =>
    unfold keysI at *
    rw [List.filter_cons, ct_cons]
    by_cases e : x.f = f
    · rw [if_pos (by simp [e]), List.map_cons, List.count_cons, ih]
      simp [e]
    · rw [if_neg (by simp [e]), ih]
      simp [e]
theorem kindK_len {f : Nat} (s : List It) : (keysI (s.filter (fun x => x.f == f))).length = nk f s := by
  unfold keysI nk
  rw [List.length_map, List.countP_eq_length_filter]
theorem nk_all {s : List It} (h : ∀ x ∈ s, x.f ≤ 2) : s.length = nk 0 s + nk 1 s + nk 2 s := by
  induction s with
  | nil => rfl
  | cons x s ih =>
    have h1 := ih (fun y hy => h y (by simp [hy]))
    have hx := h x (by simp)
    simp only [nk_cons, List.length_cons]
    rcases (by omega : x.f = 0 ∨ x.f = 1 ∨ x.f = 2) with e | e | e <;> simp [e] <;> omega
namespace L12
theorem Fine.slen {s : L12} (h : s.Fine) : s.s.length ≤ nk 0 s.s + nk 2 s.s + s.q.length := by
  have h1 := nk_all h.kinds
  have h2 : nk 1 s.s ≤ s.q.length := by
    rw [← kindK_len]
    refine count_len _ _ (fun a => ?_)
    rw [kindK_count]
    exact (h.at_ a).2.1
  omega
end L12
theorem wi_len {k : Nat} {s : List It} : (wi k s).length ≤ s.length := List.length_filter_le _ _
theorem pr_len (s : List It) : (pr s).length ≤ s.length := by
  induction s with
  | nil => exact Nat.le_refl _
  | cons x s ih =>
    rw [pr]
    split
    · simpa using ih
    · simp
section
variable {w : World} {u1 u2 : Value} {s : L12}
theorem iv_one (W : World) (x : It) : OwnI TI12 W.heap.size W (W.alloc (.cells #[.int .u64 (x.key : Nat), .int .i64 (x.f : Nat)] TI12)) (.slice (some ⟨W.heap.size, 0, none⟩) 1 1) [x] := OwnI.one (Nat.le_refl _) (Below.refl _ _) x
set_option maxHeartbeats 1000000 in
theorem r12stack_walk (hs : St12 w s u1 u2) (hnd : ∀ a, tot a s.s ≤ 1) (hl : s.s.length ≤ 10000000) (k f : Nat) : Calls Tryz.prog 75 #[.agg (l12C s.c u1 u2), .int .u64 (k : Nat), .int .i64 (f : Nat)] w (P12 w (s.stack k f)) := by
  obtain ⟨F1, d1, rfl, -⟩ := hs.g1.mem
  obtain ⟨F2, n2, d2, rfl⟩ := hs.form2
  have HX0 := Lib.hid (Bx12.start w T12 (by decide) hs)
  have HND := Lib.hid hnd
  have HL := Lib.hid hl
  unfold L12.stack
  obtain ⟨c, xs, q⟩ := s
  simp only at *
  obtain ⟨n, hn⟩ : ∃ n, xs.length = n := ⟨_, rfl⟩
  have HN := Lib.hid hn
  rw [hn] at HX0 hs ⊢
  clear hs hl hnd hn
  generalize hW0 : World.alloc _ (.cells z12 T12) = W0 at HX0
  have HW0 := Lib.hid hW0
  have KP := Lib.hid (r12place_walk HX0.out.st.g1 (by have := HL.out; show xs.length ≤ _; omega) k)
  obtain ⟨⟨x0, x1, x2⟩, xf0, xf1, xf2⟩ := c3_at HX0.out.bo.box
  have hbb := (head_row HX0.out.bo.box).lt
  clear hW0
  go_enter Tryz.func75, Tryz.ntmps75
  go_wp2_with fail
  rw [HW0.out]
  clear HW0
  go_wp2_with fail
  refine KP.out.mono ?_
  rintro e w1 ⟨rfl, ⟨rfl, hno⟩ | ⟨i, hi, rfl, hik, -⟩⟩
  · have HWI : Hid (wi k xs = xs) := Lib.hid (wi_none (by have := mt tot_in.2 hno; omega))
    have HOW := Lib.hid (iv_one W0 ⟨k, f⟩)
    have HSRC := Lib.hid (HX0.out.st.g1.below (low_one W0 (.cells #[.int .u64 (k : Nat), .int .i64 (f : Nat)] TI12)))
    clear KP HND hno
    try dsimp only at x0 x1 x2
    go_wp2_with (at_builtin; refine wpList_append_iv (e := TI12) rfl (.tmp 22) (.tmp 23) rfl W0.heap.size (by kernel_rfl) (by kernel_rfl) _ [⟨k, f⟩] rfl HOW.out _ xs rfl HSRC.out (by have := HL.out; have := HN.out; simp; omega) (by simp) ?_)
    intro v5 w5 hown5 _ _
    obtain ⟨Ff, nf, df, rfl⟩ := hown5.iv.form
    have hx5 := HX0.out.step hown5.low
    clear x0 x1 x2 xf0 xf1 xf2 hbb
    obtain ⟨⟨x0, x1, x2⟩, xf0, xf1, xf2⟩ := c3_at hx5.bo.box
    have hbb := (head_row hx5.bo.box).lt
    have hy5 := hx5.set1 hown5.iv
    obtain ⟨⟨y0, y1, y2⟩, yf0, yf1, yf2⟩ := c3_at hx5.bo.res
    have hrr := (head_row hx5.bo.res).lt
    have HXf := Lib.hid hy5
    try dsimp only at x0 x1 x2
    clear hown5 hx5 hy5 HOW HSRC HX0
    go_wp2
    exact bodyPost_ret (v := .agg (l12C c (.slice Ff nf df) (.slice F2 n2 d2))) (by simp [results, Tryz.results75, go_sem, y0, y1, y2]) rfl (by rw [HWI.out]; exact HXf.out.done)
  · have HCI : Hid (xs.take i ++ xs.drop (i + 1) = wi k xs) := Lib.hid (by rw [cut_is HND.out hi, hik])
    have KC := Lib.hid (r12cut_walk HX0.out.st.g1 (by have := HL.out; show xs.length ≤ _; omega) hi)
    rw [HCI.out] at KC
    have HWL : Hid ((wi k xs).length ≤ 10000000) := Lib.hid (by have := HL.out; have := wi_len (k := k) (s := xs); omega)
    clear KP HND hik HCI
    try dsimp only at x0 x1 x2
    go_wp2_with fail
    refine KC.out.mono ?_
    rintro e w2 ⟨v2, rfl, hb2, hv2, -⟩
    obtain ⟨Fc, nc, dc, rfl⟩ := hv2.form
    have hx2 := HX0.out.step hb2
    have HX2 := Lib.hid hx2
    clear x0 x1 x2 xf0 xf1 xf2 hbb
    obtain ⟨⟨x0, x1, x2⟩, xf0, xf1, xf2⟩ := c3_at hx2.bo.box
    have hbb := (head_row hx2.bo.box).lt
    have HOW := Lib.hid (iv_one w2 ⟨k, f⟩)
    have HSRC := Lib.hid (hv2.below (low_one w2 (.cells #[.int .u64 (k : Nat), .int .i64 (f : Nat)] TI12)))
    clear hx2 hb2 hv2 KC HX0
    try dsimp only at x0 x1 x2
    generalize wi k xs = ys at *
    go_wp2_with (at_builtin; refine wpList_append_iv (e := TI12) rfl (.tmp 22) (.tmp 23) rfl w2.heap.size (by kernel_rfl) (by kernel_rfl) _ [⟨k, f⟩] rfl HOW.out _ ys rfl HSRC.out (by have := HWL.out; simp; omega) (by simp) ?_)
    intro v5 w5 hown5 _ _
    obtain ⟨Ff, nf, df, rfl⟩ := hown5.iv.form
    have hx5 := HX2.out.step hown5.low
    clear x0 x1 x2 xf0 xf1 xf2 hbb
    obtain ⟨⟨x0, x1, x2⟩, xf0, xf1, xf2⟩ := c3_at hx5.bo.box
    have hbb := (head_row hx5.bo.box).lt
    have hy5 := hx5.set1 hown5.iv
    obtain ⟨⟨y0, y1, y2⟩, yf0, yf1, yf2⟩ := c3_at hx5.bo.res
    have hrr := (head_row hx5.bo.res).lt
    have HXf := Lib.hid hy5
    try dsimp only at x0 x1 x2
    clear hown5 hx5 hy5 HOW HSRC HX2
    go_wp2
    exact bodyPost_ret (v := .agg (l12C c (.slice Ff nf df) (.slice F2 n2 d2))) (by simp [results, Tryz.results75, go_sem, y0, y1, y2]) rfl HXf.out.done
set_option maxHeartbeats 1000000 in
theorem r12last_walk (hs : St12 w s u1 u2) (hl : s.q.length ≤ 10000000) (k : Nat) : Calls Tryz.prog 76 #[.agg (l12C s.c u1 u2), .int .u64 (k : Nat)] w (P12 w (s.last k)) := by
  obtain ⟨F1, n1, d1, rfl⟩ := hs.form1
  obtain ⟨F2, n2, d2, rfl⟩ := hs.form2
  have HX0 := Lib.hid (Bx12.start w T12 (by decide) hs)
  unfold L12.last
  obtain ⟨c, xs, q⟩ := s
  simp only at *
  generalize hW0 : World.alloc _ (.cells z12 T12) = W0 at HX0
  have HW0 := Lib.hid hW0
  have KW := Lib.hid (rwithout_walk HX0.out.st.g2 (by show q.length ≤ _; omega) k)
  obtain ⟨⟨x0, x1, x2⟩, xf0, xf1, xf2⟩ := c3_at HX0.out.bo.box
  have hbb := (head_row HX0.out.bo.box).lt
  clear hW0
  have HWL : Hid ((wo k q).length ≤ 10000000) := Lib.hid (by have := wo_len k q; omega)
  clear hs hl
  go_enter Tryz.func76, Tryz.ntmps76
  go_wp2_with fail
  rw [HW0.out]
  clear HW0
  go_wp2_with fail
  refine KW.out.mono ?_
  rintro e wa ⟨va, rfl, ha⟩
  have hxa := HX0.out.step ha.low
  have HXA := Lib.hid (hxa.step (low_one wa (.cells #[.int .u64 (k : Nat)] 32)))
  have HOW := Lib.hid (ha.alloc ha.low.size (.cells #[.int .u64 (k : Nat)] 32))
  have HSRC := Lib.hid (KV.one wa k)
  have hsz := (Nat.le_trans ha.low.size (low_one wa (.cells #[.int .u64 (k : Nat)] 32)).size)
  clear x0 x1 x2 xf0 xf1 xf2 hbb
  obtain ⟨⟨x0, x1, x2⟩, xf0, xf1, xf2⟩ := c3_at HXA.out.bo.box
  have hbb := (head_row HXA.out.bo.box).lt
  clear ha hxa KW
  dsimp only at x0 x1 x2
  go_wp2_with (at_builtin; refine wpList_append_kv rfl (.tmp 8) (.tmp 10) rfl _ (by kernel_rfl) (by kernel_rfl) va (wo k q) rfl HOW.out _ [k] rfl HSRC.out (by have := HWL.out; simp; omega) hsz ?_)
  intro v5 w5 hown5 hkp hkt
  obtain ⟨Ff, nf, df, rfl⟩ := hown5.kv.form
  have hx5 := HX0.out.step hown5.low
  clear x0 x1 x2 xf0 xf1 xf2 hbb
  obtain ⟨⟨x0, x1, x2⟩, xf0, xf1, xf2⟩ := c3_at hx5.bo.box
  have hbb := (head_row hx5.bo.box).lt
  have hy5 := hx5.set2 hown5.kv
  obtain ⟨⟨y0, y1, y2⟩, yf0, yf1, yf2⟩ := c3_at hx5.bo.res
  have hrr := (head_row hx5.bo.res).lt
  have HXf := Lib.hid hy5
  try dsimp only at x0 x1 x2
  clear hown5 hkp hkt hx5 hy5 HOW HSRC HXA HX0 hsz
  go_wp2
  exact bodyPost_ret (v := .agg (l12C c (.slice F1 n1 d1) (.slice Ff nf df))) (by simp [results, Tryz.results76, go_sem, y0, y1, y2]) rfl HXf.out.done
theorem pr_take {xs : List It} {j : Nat} (hj : j < xs.length) : pr (xs.take (j + 1)) = if xs[j].f = 2 then xs.take (j + 1) else pr (xs.take j) := by
  rw [List.take_succ_eq_append_getElem hj, pr_snoc]
set_option maxHeartbeats 1000000 in
theorem r12prune_walk (hs : St12 w s u1 u2) (hl : s.s.length ≤ 10000000) : Calls Tryz.prog 74 #[.agg (l12C s.c u1 u2)] w (P12 w s.prune) := by
  obtain ⟨F1, d1, rfl, hcap, _⟩ := hs.g1.mem
  obtain ⟨F2, n2, d2, rfl⟩ := hs.form2
  have hx0 := Bx12.start w T12 (by decide) hs
  unfold L12.prune
  obtain ⟨c, xs, q⟩ := s
  simp only at *
  obtain ⟨n, hn⟩ : ∃ n, xs.length = n := ⟨_, rfl⟩
  have HN := Lib.hid hn
  rw [hn] at hx0 hcap hl ⊢
  have HI0 : Hid (Bx12 w ((w.alloc (.cells (l12C c (.slice F1 n d1) (.slice F2 n2 d2)) T12)).alloc (.cells z12 T12)) T12 w.heap.size (w.heap.size + 1) ⟨c, xs.take n, q⟩ (.slice F1 n d1) (.slice F2 n2 d2) ∧ pr (xs.take n) = pr xs) := Lib.hid (by rw [← hn, List.take_length]; rw [← hn] at hx0; exact ⟨hx0, rfl⟩)
  clear hs hn hx0
  go_enter Tryz.func74, Tryz.ntmps74
  go_wp2_with fail
  generalize World.alloc _ (.cells z12 T12) = W0 at HI0 ⊢
  go_loopg [] n (fun gg wr => ∃ m : Nat, gg = m ∧ m ≤ n ∧ Hid (Bx12 w wr T12 w.heap.size (w.heap.size + 1) ⟨c, xs.take m, q⟩ (.slice F1 m d1) (.slice F2 n2 d2) ∧ pr (xs.take m) = pr xs))
  case atStart => exact ⟨n, rfl, Nat.le_refl _, HI0⟩
  case round =>
    clear HI0
    obtain ⟨m, rfl, hmn, HI⟩ := hrel
    obtain ⟨⟨x0, x1, x2⟩, xf0, xf1, xf2⟩ := c3_at HI.out.1.bo.box
    have hbb := (head_row HI.out.1.bo.box).lt
    obtain ⟨⟨y0, y1, y2⟩, yf0, yf1, yf2⟩ := c3_at HI.out.1.bo.res
    have hrr := (head_row HI.out.1.bo.res).lt
    try dsimp only at x0 x1 x2
    rcases Nat.eq_zero_or_pos gk with rfl | hp
    · have HE : Hid (P12 w ⟨c, pr xs, q⟩ = P12 w ⟨c, xs.take 0, q⟩) := Lib.hid (by rw [← HI.out.2]; rfl)
      have HXf := Lib.hid HI.out.1
      clear HI
      go_wp2
      exact bodyPost_ret (v := .agg (l12C c (.slice F1 0 d1) (.slice F2 n2 d2))) (by simp [results, Tryz.results74, go_sem, y0, y1, y2]) rfl (by rw [HE.out]; exact HXf.out.done)
    · obtain ⟨j, rfl⟩ : ∃ j, gk = j + 1 := ⟨gk - 1, by omega⟩
      have hjx : j < xs.length := by rw [HN.out]; omega
      have hpt := pr_take hjx
      obtain ⟨F', d', e, _, _, h3⟩ := HI.out.1.st.g1.mem
      have htl : (xs.take (j + 1)).length = j + 1 := by rw [List.length_take, HN.out]; omega
      obtain ⟨g, off, hF, hg, -, q1⟩ := h3 j (by show j < (xs.take (j + 1)).length; omega)
      injection e with e1 e2 e3
      subst e1 e3
      subst hF
      obtain ⟨fx, hfx⟩ : ∃ fx, xs[j].f = fx := ⟨_, rfl⟩
      have hq : (xs.take (j + 1))[j]'(by omega) = xs[j] := by rw [List.getElem_take]
      simp only [hq, hfx] at q1
      rw [hfx] at hpt
      have hj1 : j ≤ d1 := by omega
      have hj1I : (j : Int) ≤ (d1 : Int) := by omega
      have hjI : (j : Int) ≤ 10000000 := by omega
      clear h3 hfx hq e2 htl
      by_cases h2 : fx = 2
      · subst h2
        have HE : Hid (P12 w ⟨c, pr xs, q⟩ = P12 w ⟨c, xs.take (j + 1), q⟩) := Lib.hid (by rw [← HI.out.2, hpt, if_pos rfl])
        have HXf := Lib.hid HI.out.1
        clear HI hpt
        go_wp2
        exact bodyPost_ret (v := .agg (l12C c (.slice (some ⟨g, off, none⟩) (j + 1) d1) (.slice F2 n2 d2))) (by simp [results, Tryz.results74, go_sem, y0, y1, y2]) rfl (by rw [HE.out]; exact HXf.out.done)
      · have h2I : ¬ (fx : Int) = 2 := by omega
        have HNX := Lib.hid (HI.out.1.set1 (F := some ⟨g, off, none⟩) (m := j) (d := d1) (ks := xs.take j) (by
          obtain ⟨F', d', e, hk⟩ := HI.out.1.st.g1.take j (by show j ≤ (xs.take (j + 1)).length; rw [List.length_take, HN.out]; omega)
          injection e with e1 e2 e3
          subst e1 e3
          rw [show (⟨c, xs.take (j + 1), q⟩ : L12).s = xs.take (j + 1) from rfl, List.take_take, Nat.min_eq_left (by omega)] at hk
          exact hk))
        have HPT : Hid (pr (xs.take j) = pr xs) := Lib.hid (by rw [← HI.out.2, hpt, if_neg h2])
        clear HI hpt
        go_wp2
        go_roundg j
        case measure => omega
        case rel => exact ⟨j, rfl, by omega, Lib.hid ⟨HNX.out, HPT.out⟩⟩
end
set_option maxRecDepth 8000
theorem nk_append (f : Nat) (a b : List It) : nk f (a ++ b) = nk f a + nk f b := List.countP_append
theorem tot_append (k : Nat) (a b : List It) : tot k (a ++ b) = tot k a + tot k b := by
  unfold tot keysI
  rw [List.map_append, List.count_append]
theorem setI_append (k f : Nat) (a b : List It) : setI k f (a ++ b) = setI k f a ++ setI k f b := List.map_append
theorem wi_append (k : Nat) (a b : List It) : wi k (a ++ b) = wi k a ++ wi k b := List.filter_append _ _
theorem setI_no {k f : Nat} {l : List It} (h : tot k l = 0) : setI k f l = l := by
  unfold setI
  refine (List.map_congr_left (fun y hy => ?_)).trans (List.map_id l)
  rw [if_neg]
  · rfl
  · rintro rfl
    have h2 : 0 < tot y.key l := tot_in.1 (List.mem_map_of_mem hy)
    omega
theorem last_split {f : Nat} : ∀ {l : List It}, 0 < nk f l → ∃ a x b, l = a ++ x :: b ∧ x.f = f ∧ nk f b = 0 ∧ lastF f l = x.key
  | [], h => absurd h (Nat.lt_irrefl _)
  | x :: l, h => by
    by_cases hp : 0 < nk f l
    · obtain ⟨a, y, b, h1, h2, h3, h4⟩ := last_split hp
      refine ⟨x :: a, y, b, by rw [h1]; rfl, h2, h3, ?_⟩
      rw [lastF, if_pos hp, h4]
    · rw [nk_cons] at h
      have hx : x.f = f := by
        by_cases e : x.f = f
        · exact e
        · simp only [e, if_false] at h
          omega
      exact ⟨[], x, l, rfl, hx, by omega, by rw [lastF, if_neg hp, if_pos hx]⟩
theorem pr_append_none {a b : List It} (h : nk 2 b = 0) : pr (a ++ b) = pr a := by
  induction a with
  | nil => exact pr_none h
  | cons x a ih =>
    have h1 : nk 2 (x :: (a ++ b)) = nk 2 (x :: a) := by rw [nk_cons, nk_cons, nk_append, h, Nat.add_zero]
    show (if 0 < nk 2 (x :: (a ++ b)) then x :: pr (a ++ b) else []) = (if 0 < nk 2 (x :: a) then x :: pr a else [])
    rw [h1, ih]
theorem pr_split (l : List It) : ∃ t, l = pr l ++ t ∧ nk 2 t = 0 := by
  induction l with
  | nil => exact ⟨[], rfl, rfl⟩
  | cons x l ih =>
    obtain ⟨t, h1, h2⟩ := ih
    by_cases hp : 0 < nk 2 (x :: l)
    · refine ⟨t, ?_, h2⟩
      rw [pr, if_pos hp, List.cons_append, ← h1]
    · exact ⟨x :: l, by rw [pr, if_neg hp]; rfl, by omega⟩
def coolK : Nat → List It → List It
  | _, [] => []
  | r, x :: l => if x.f = 2 then (if r = 0 then ⟨x.key, 1⟩ else x) :: coolK (r - 1) l else x :: coolK r l
def coolO : Nat → List It → List Nat
  | _, [] => []
  | r, x :: l => if x.f = 2 then (if r = 0 then [x.key] else []) ++ coolO (r - 1) l else coolO r l
def dropK (f : Nat) : Nat → List It → List It
  | _, [] => []
  | m, x :: l => if x.f = f then (if m = 0 then [] else [x]) ++ dropK f (m - 1) l else x :: dropK f m l
def goneK (ks : List Nat) (l : List It) : List It := l.map (fun x => if x.key ∈ ks then ⟨x.key, 0⟩ else x)
theorem coolK_append : ∀ (a : List It) (r : Nat) (b : List It), coolK r (a ++ b) = coolK r a ++ coolK (r - nk 2 a) b
  | [], r, b => rfl
  | x :: a, r, b => by
    rw [List.cons_append, coolK, coolK, coolK_append a, coolK_append a, nk_cons]
    by_cases e : x.f = 2
    · rw [if_pos e, if_pos e, if_pos e, List.cons_append, show r - 1 - nk 2 a = r - (nk 2 a + 1) by omega]
    · rw [if_neg e, if_neg e, if_neg e, List.cons_append, Nat.add_zero]
theorem coolO_append : ∀ (a : List It) (r : Nat) (b : List It), coolO r (a ++ b) = coolO r a ++ coolO (r - nk 2 a) b
  | [], r, b => rfl
  | x :: a, r, b => by
    rw [List.cons_append, coolO, coolO, coolO_append a, coolO_append a, nk_cons]
    by_cases e : x.f = 2
    · rw [if_pos e, if_pos e, if_pos e, List.append_assoc, show r - 1 - nk 2 a = r - (nk 2 a + 1) by omega]
    · rw [if_neg e, if_neg e, if_neg e, Nat.add_zero]
theorem dropK_append (f : Nat) : ∀ (a : List It) (r : Nat) (b : List It), dropK f r (a ++ b) = dropK f r a ++ dropK f (r - nk f a) b
  | [], r, b => rfl
  | x :: a, r, b => by
    rw [List.cons_append, dropK, dropK, dropK_append f a, dropK_append f a, nk_cons]
    by_cases e : x.f = f
    · rw [if_pos e, if_pos e, if_pos e, List.append_assoc, show r - 1 - nk f a = r - (nk f a + 1) by omega]
    · rw [if_neg e, if_neg e, if_neg e, List.cons_append, Nat.add_zero]
theorem coolK_nk2 : ∀ (l : List It) (r : Nat), nk 2 (coolK r l) = min r (nk 2 l)
  | [], r => by simp [coolK, nk_nil]
  | x :: l, r => by
    rw [coolK, nk_cons]
    by_cases e : x.f = 2
    · rw [if_pos e, if_pos e, nk_cons, coolK_nk2 l]
      by_cases hr : r = 0
      · rw [if_pos hr]
        simp
        omega
      · rw [if_neg hr, if_pos e]
        omega
    · rw [if_neg e, if_neg e, nk_cons, coolK_nk2 l, if_neg e]
      omega
theorem coolK_all : ∀ (l : List It) (r : Nat), nk 2 l ≤ r → coolK r l = l ∧ coolO r l = []
  | [], r, _ => ⟨rfl, rfl⟩
  | x :: l, r, h => by
    rw [nk_cons] at h
    rw [coolK, coolO]
    by_cases e : x.f = 2
    · rw [if_pos e] at h
      obtain ⟨h1, h2⟩ := coolK_all l (r - 1) (by omega)
      rw [if_pos e, if_pos e, if_neg (by omega), if_neg (by omega), h1, h2]
      exact ⟨rfl, rfl⟩
    · rw [if_neg e] at h
      obtain ⟨h1, h2⟩ := coolK_all l r (by omega)
      rw [if_neg e, if_neg e, h1, h2]
      exact ⟨rfl, rfl⟩
theorem dropK_all (f : Nat) : ∀ (l : List It) (r : Nat), nk f l ≤ r → dropK f r l = l
  | [], r, _ => rfl
  | x :: l, r, h => by
    rw [nk_cons] at h
    rw [dropK]
    by_cases e : x.f = f
    · rw [if_pos e] at h
      rw [if_pos e, if_neg (by omega), dropK_all f l (r - 1) (by omega)]
      rfl
    · rw [if_neg e] at h
      rw [if_neg e, dropK_all f l r (by omega)]
theorem coolK_len : ∀ (l : List It) (r : Nat), (coolK r l).length = l.length
  | [], _ => rfl
  | x :: l, r => by
    rw [coolK]
    by_cases e : x.f = 2
    · rw [if_pos e, List.length_cons, coolK_len l, List.length_cons]
    · rw [if_neg e, List.length_cons, coolK_len l, List.length_cons]
theorem coolO_len : ∀ (l : List It) (r : Nat), (coolO r l).length ≤ l.length
  | [], _ => Nat.le_refl _
  | x :: l, r => by
    rw [coolO]
    have h1 := coolO_len l r
    have h2 := coolO_len l (r - 1)
    by_cases e : x.f = 2
    · rw [if_pos e, List.length_append, List.length_cons]
      split <;> simp <;> omega
    · rw [if_neg e, List.length_cons]
      omega
theorem goneK_len (ks : List Nat) (l : List It) : (goneK ks l).length = l.length := List.length_map _
theorem coolK_pr (r : Nat) (a : List It) : pr (coolK r (pr a)) = pr (coolK r a) ∧ coolO r (pr a) = coolO r a := by
  obtain ⟨t, h1, h2⟩ := pr_split a
  have e1 : coolK r a = coolK r (pr a) ++ coolK (r - nk 2 (pr a)) t := by
    have := coolK_append (pr a) r t
    rw [← h1] at this
    exact this
  have e2 : coolO r a = coolO r (pr a) ++ coolO (r - nk 2 (pr a)) t := by
    have := coolO_append (pr a) r t
    rw [← h1] at this
    exact this
  obtain ⟨e3, e4⟩ := coolK_all t (r - nk 2 (pr a)) (by omega)
  rw [e3] at e1
  rw [e4, List.append_nil] at e2
  exact ⟨by rw [e1, pr_append_none h2], e2.symm⟩
theorem goneK_pr {ks : List Nat} : ∀ {l : List It}, (∀ k ∈ ks, ct k 2 l = 0) → pr (goneK ks l) = goneK ks (pr l)
  | [], _ => rfl
  | x :: l, h => by
    have h2 : ∀ k ∈ ks, ct k 2 l = 0 := fun k hk => by have := h k hk; rw [ct_cons] at this; omega
    have hn : ∀ (l : List It), (∀ k ∈ ks, ct k 2 l = 0) → nk 2 (goneK ks l) = nk 2 l := by
      intro l
      induction l with
      | nil => intro _; rfl
      | cons y l ih =>
        intro hh
        have h3 : ∀ k ∈ ks, ct k 2 l = 0 := fun k hk => by have := hh k hk; rw [ct_cons] at this; omega
        show nk 2 ((if y.key ∈ ks then ⟨y.key, 0⟩ else y) :: goneK ks l) = _
        rw [nk_cons, nk_cons, ih h3]
        by_cases hy : y.key ∈ ks
        · rw [if_pos hy]
          have := hh y.key hy
          rw [ct_cons] at this
          by_cases e : y.f = 2
          · rw [if_pos ⟨rfl, e⟩] at this
            omega
          · simp [e]
        · rw [if_neg hy]
    have e1 := hn (x :: l) h
    show pr ((if x.key ∈ ks then ⟨x.key, 0⟩ else x) :: goneK ks l) = _
    rw [pr, pr]
    have e2 : nk 2 ((if x.key ∈ ks then (⟨x.key, 0⟩ : It) else x) :: goneK ks l) = nk 2 (x :: l) := e1
    rw [e2, goneK_pr h2]
    split
    · rfl
    · rfl
namespace L12
def coolP (s : L12) : L12 := ⟨s.c, coolK (roomH s.c) s.s, s.q ++ (coolO (roomH s.c) s.s).reverse⟩
def forgetP (s : L12) : L12 := ⟨s.c, dropK 0 s.c s.s, s.q⟩
def evP (s : L12) (m : Nat) : L12 := ⟨s.c, goneK (s.q.take m) s.s, s.q.drop m⟩
def useP (s : L12) (k : Nat) : Bool → L12
  | true => ((s.stack k 2).less k).coolP.prune
  | false => ((s.stack k 1).last k).prune
theorem coolN_plain : ∀ (m : Nat) (s : L12) (r : Nat), s.Fine → nk 2 s.s = r + m → pr (coolN m s).s = pr (coolK r s.s) ∧ (coolN m s).q = s.q ++ (coolO r s.s).reverse
  | 0, s, r, _, h => by
    obtain ⟨h1, h2⟩ := coolK_all s.s r (by omega)
    rw [h1, h2]
    exact ⟨rfl, by simp [coolN]⟩
  | m + 1, s, r, hf, h => by
    obtain ⟨h1, h2, -⟩ := hf.cool1 (by omega)
    obtain ⟨i1, i2⟩ := coolN_plain m s.cool1 r h1 (by omega)
    obtain ⟨a, x, b, e, hx, hb, hk⟩ := last_split (f := 2) (l := s.s) (by omega)
    have ht := hf.tot_le x.key
    rw [e, tot_append, tot_cons, if_pos rfl] at ht
    have hna : nk 2 a = r + m := by
      have h3 := h
      rw [e, nk_append, nk_cons, if_pos hx] at h3
      omega
    have hc1 : s.cool1.s = pr a := by
      show pr (setI (lastF 2 s.s) 1 s.s) = _
      rw [hk, e, setI_append, setI_no (k := x.key) (l := a) (by omega)]
      refine pr_append_none ?_
      show nk 2 ((if x.key = x.key then ⟨x.key, 1⟩ else x) :: setI x.key 1 b) = 0
      rw [if_pos rfl, nk_cons, setI_no (k := x.key) (l := b) (by omega), hb]
      simp
    have hq1 : s.cool1.q = s.q ++ [x.key] := by
      show s.q ++ [lastF 2 s.s] = _
      rw [hk]
    obtain ⟨c1, c2⟩ := coolK_pr r a
    have k1 : coolK r s.s = coolK r a ++ coolK 0 (x :: b) := by rw [e, coolK_append, show r - nk 2 a = 0 by omega]
    have k2 : coolO r s.s = coolO r a ++ [x.key] := by
      rw [e, coolO_append, show r - nk 2 a = 0 by omega, coolO, if_pos hx, if_pos rfl, (coolK_all b _ (by omega)).2]
      rfl
    have k3 : nk 2 (coolK 0 (x :: b)) = 0 := by rw [coolK_nk2]; omega
    show pr (coolN m s.cool1).s = _ ∧ (coolN m s.cool1).q = _
    rw [i1, i2, hc1, c1, c2, k1, pr_append_none k3, k2, hq1]
    exact ⟨rfl, by simp⟩
theorem cool_plain {s : L12} (h : s.Fine) : pr s.cool.s = pr s.coolP.s ∧ s.cool.q = s.coolP.q := by
  show pr (coolN (nk 2 s.s - roomH s.c) s).s = pr (coolK (roomH s.c) s.s) ∧ (coolN (nk 2 s.s - roomH s.c) s).q = s.q ++ (coolO (roomH s.c) s.s).reverse
  by_cases hl : nk 2 s.s ≤ roomH s.c
  · obtain ⟨h1, h2⟩ := coolK_all s.s (roomH s.c) hl
    rw [h1, h2, show nk 2 s.s - roomH s.c = 0 by omega]
    exact ⟨rfl, by simp [coolN]⟩
  · exact coolN_plain _ s (roomH s.c) h (by omega)
theorem coolN_cc : ∀ (m : Nat) (s : L12), (coolN m s).c = s.c
  | 0, _ => rfl
  | m + 1, s => coolN_cc m s.cool1
theorem cool_cc (s : L12) : s.cool.c = s.c := coolN_cc _ _
theorem coolP_prune {s : L12} (h : s.Fine) : s.coolP.prune = s.cool.prune := by
  obtain ⟨h1, h2⟩ := cool_plain h
  unfold L12.prune
  rw [h1, h2, cool_cc]
  rfl
theorem evN_plain : ∀ (m : Nat) (s : L12), m ≤ s.q.length → evN m s = s.evP m
  | 0, s, _ => by
    have : goneK [] s.s = s.s := by simp [goneK]
    show s = ⟨s.c, goneK (s.q.take 0) s.s, s.q.drop 0⟩
    rw [List.take_zero, List.drop_zero, this]
  | m + 1, s, h => by
    obtain ⟨c, l, q⟩ := s
    obtain ⟨k, q, rfl⟩ : ∃ k q', q = k :: q' := List.exists_cons_of_length_pos (by simp only at h; omega)
    show evN m ⟨c, setI k 0 l, q⟩ = _
    rw [evN_plain m ⟨c, setI k 0 l, q⟩ (by simpa using h)]
    show (⟨c, goneK (q.take m) (setI k 0 l), q.drop m⟩ : L12) = ⟨c, goneK ((k :: q).take (m + 1)) l, (k :: q).drop (m + 1)⟩
    rw [List.take_succ_cons, List.drop_succ_cons]
    congr 1
    unfold goneK setI
    rw [List.map_map]
    refine List.map_congr_left (fun x _ => ?_)
    simp only [Function.comp_apply, List.mem_cons]
    by_cases e : x.key = k
    · simp [e]
    · simp [e]
theorem fgN_plain : ∀ (m : Nat) (s : L12) (r : Nat), s.Fine → nk 0 s.s = r + m → (fgN m s).s = dropK 0 r s.s ∧ (fgN m s).q = s.q ∧ (fgN m s).c = s.c
  | 0, s, r, _, h => ⟨(dropK_all 0 s.s r (by omega)).symm, rfl, rfl⟩
  | m + 1, s, r, hf, h => by
    obtain ⟨h1, _, h2, -⟩ := hf.fg1 (by omega)
    obtain ⟨i1, i2, i3⟩ := fgN_plain m s.fg1 r h1 (by omega)
    obtain ⟨a, x, b, e, hx, hb, hk⟩ := last_split (f := 0) (l := s.s) (by omega)
    have ht := hf.tot_le x.key
    rw [e, tot_append, tot_cons, if_pos rfl] at ht
    have hna : nk 0 a = r + m := by
      have h3 := h
      rw [e, nk_append, nk_cons, if_pos hx] at h3
      omega
    have hw : s.fg1.s = a ++ b := by
      show wi (lastF 0 s.s) s.s = _
      rw [hk, e, wi_append, wi_none (k := x.key) (s := a) (by omega)]
      congr 1
      show List.filter _ (x :: b) = _
      rw [List.filter_cons, if_neg (by simp)]
      exact wi_none (k := x.key) (s := b) (by omega)
    refine ⟨?_, i2, i3⟩
    show (fgN m s.fg1).s = _
    rw [i1, hw, e, dropK_append, dropK_append, show r - nk 0 a = 0 by omega]
    congr 1
    rw [dropK, if_pos hx, if_pos rfl]
    rfl
theorem forget_plain {s : L12} (h : s.Fine) : s.forget = s.forgetP := by
  show fgN (nk 0 s.s - s.c) s = ⟨s.c, dropK 0 s.c s.s, s.q⟩
  by_cases hl : nk 0 s.s ≤ s.c
  · rw [dropK_all 0 s.s s.c hl, show nk 0 s.s - s.c = 0 by omega]
    rfl
  · obtain ⟨h1, h2, h3⟩ := fgN_plain (nk 0 s.s - s.c) s s.c h (by omega)
    generalize fgN (nk 0 s.s - s.c) s = t at h1 h2 h3 ⊢
    obtain ⟨c', s', q'⟩ := t
    simp only at h1 h2 h3
    rw [h1, h2, h3]
theorem stack_less (s : L12) (k : Nat) (h : k ∉ s.q) : (s.stack k 2).less k = s.stack k 2 := by
  show (⟨s.c, _, wo k s.q⟩ : L12) = ⟨s.c, _, s.q⟩
  rw [wo_none8 h]
  rfl
theorem touch_plain {s : L12} (h : s.Ok) (k : Nat) : s.touch k = if k ∈ s.keys then s.useP k (decide (0 < tot k s.s)) else s := by
  have hf := h.fine
  have h0 := hf.at_ k
  have ht := tot_ct (a := k) hf.kinds
  unfold okA at h0
  unfold L12.touch
  by_cases c2 : 0 < ct k 2 s.s
  · have hq : k ∉ s.q := fun hq => by have := q_in.1 hq; omega
    have hb : k < 18446744073709551616 := h0.2.2.2 (by omega)
    rw [if_pos c2, if_pos (keys_in.2 (by omega)), decide_eq_true (by omega)]
    show _ = ((s.stack k 2).less k).coolP.prune
    rw [coolP_prune (hf.warm hb), stack_less s k hq]
    have hn : nk 2 (s.stack k 2).s ≤ roomH s.c := by
      have e2 := nk_stack k 2 2 s.s
      rw [if_pos rfl] at e2
      have := h.hot
      show nk 2 (⟨k, 2⟩ :: wi k s.s) ≤ _
      omega
    have hc : (s.stack k 2).cool = s.stack k 2 := by
      show coolN (nk 2 (s.stack k 2).s - roomH s.c) _ = _
      rw [show nk 2 (s.stack k 2).s - roomH s.c = 0 by omega]
      rfl
    rw [hc]
  · rw [if_neg c2]
    by_cases hq : k ∈ s.q
    · have hqc := q_in.1 hq
      have hb : k < 18446744073709551616 := h0.2.2.2 (by omega)
      rw [if_neg (fun h => h hq), if_pos (keys_in.2 (by omega))]
      by_cases t0 : tot k s.s = 0
      · rw [if_pos t0, decide_eq_false (by omega)]
        rfl
      · rw [if_neg t0, decide_eq_true (by omega)]
        show _ = ((s.stack k 2).less k).coolP.prune
        rw [coolP_prune (hf.warm hb)]
    · rw [if_pos hq, if_neg]
      intro hk
      have h1 := keys_in.1 hk
      have := List.count_eq_zero_of_not_mem hq
      omega
theorem adm_plain {s : L12} (h : s.Ok) {k : Nat} (hk : k < 18446744073709551616) (hn : k ∉ s.keys) : s.adm k = ((s.evP (s.many (s.c - 1))).useP k (decide (0 < tot k (s.evP (s.many (s.c - 1))).s) || decide (nk 2 (s.evP (s.many (s.c - 1))).s < roomH s.c))).forgetP ∧ s.admitOut k = s.q.take (s.many (s.c - 1)) ∧ (s.evP (s.many (s.c - 1))).Fine ∧ s.many (s.c - 1) ≤ s.q.length := by
  have hp := h.pos
  have hh := h.hot
  have hr := roomH_lt hp
  have hm : s.many (s.c - 1) ≤ s.q.length := by unfold L12.many; omega
  obtain ⟨g1, g2, g3, g4, g5, g6, g7, g8, g9⟩ := h.fine.shrink (n := s.c - 1) (by omega)
  have e0 : s.shrink (s.c - 1) = s.evP (s.many (s.c - 1)) := evN_plain _ _ hm
  rw [e0] at g1 g8 g9
  unfold L12.adm L12.admitOut
  rw [if_neg hn, if_neg hn, e0]
  obtain ⟨σ, hσ⟩ : ∃ σ, s.evP (s.many (s.c - 1)) = σ := ⟨_, rfl⟩
  have hcσ : σ.c = s.c := by rw [← hσ]; rfl
  rw [hσ] at g1 g8 g9 ⊢
  have hq : k ∉ σ.q := fun hm => hn (keys_in.2 (by have := q_in.1 (g9 k hm); omega))
  refine ⟨?_, rfl, g1, hm⟩
  unfold L12.came
  rw [hcσ]
  by_cases hb : nk 2 σ.s < roomH s.c ∨ 0 < tot k σ.s
  · have he : (decide (0 < tot k σ.s) || decide (nk 2 σ.s < roomH s.c)) = true := by
      rcases hb with hb | hb <;> simp [hb]
    rw [if_pos hb, he]
    show _ = ((σ.stack k 2).less k).coolP.prune.forgetP
    have hw := g1.warm (k := k) hk
    rw [coolP_prune hw, stack_less σ k hq]
    rw [stack_less σ k hq] at hw
    exact forget_plain hw.cool.1.prune
  · have he : (decide (0 < tot k σ.s) || decide (nk 2 σ.s < roomH s.c)) = false := by
      rw [Bool.or_eq_false_iff, decide_eq_false_iff_not, decide_eq_false_iff_not]
      exact ⟨fun h => hb (.inr h), fun h => hb (.inl h)⟩
    rw [if_neg hb, he]
    exact forget_plain (g1.came1 hk).prune
theorem resize_plain {s : L12} (h : s.Ok) (n : Int) : s.resize n = (((s.sized (capI n)).coolP.evP ((s.sized (capI n)).coolP.many (capI n))).prune).forgetP ∧ s.resizeOut n = (s.sized (capI n)).coolP.q.take ((s.sized (capI n)).coolP.many (capI n)) ∧ (s.sized (capI n)).coolP.many (capI n) ≤ (s.sized (capI n)).coolP.q.length := by
  have hf : (s.sized (capI n)).Fine := ⟨h.fine.kinds, h.fine.at_⟩
  have hp := (capI_pos n).1
  have hr := roomH_lt hp
  obtain ⟨c1, c3, c4, c5, c6, c7⟩ := hf.cool
  obtain ⟨p1, p2⟩ := cool_plain hf
  have x3 : (s.sized (capI n)).c = capI n := rfl
  rw [x3] at c3 c5
  obtain ⟨σ, hσ⟩ : ∃ σ, (s.sized (capI n)).cool = σ := ⟨_, rfl⟩
  obtain ⟨π, hπ⟩ : ∃ π, (s.sized (capI n)).coolP = π := ⟨_, rfl⟩
  have hcπ : π.c = capI n := by rw [← hπ]; rfl
  unfold L12.resize L12.resizeOut
  rw [hσ] at c1 c3 c5 p1 p2 ⊢
  rw [hπ] at p1 p2 ⊢
  have hnk : nk 2 π.s = nk 2 σ.s := by rw [← pr_nk2, ← p1, pr_nk2]
  have hmn : π.many (capI n) = σ.many (capI n) := by unfold L12.many; rw [hnk, p2]
  have hm : σ.many (capI n) ≤ σ.q.length := by unfold L12.many; omega
  obtain ⟨g1, -⟩ := c1.shrink (n := capI n) (by omega)
  have e0 : σ.shrink (capI n) = σ.evP (σ.many (capI n)) := evN_plain _ _ hm
  rw [e0] at g1 ⊢
  have hno : ∀ k ∈ σ.q.take (σ.many (capI n)), ct k 2 σ.s = 0 := fun k hk => by
    have h1 := c1.at_ k
    have h2 := q_in.1 (List.mem_of_mem_take hk)
    unfold okA at h1
    omega
  have hno2 : ∀ k ∈ σ.q.take (σ.many (capI n)), ct k 2 π.s = 0 := fun k hk => by
    rw [← pr_ct2, ← p1, pr_ct2]
    exact hno k hk
  have hpp : (σ.evP (σ.many (capI n))).prune = (π.evP (π.many (capI n))).prune := by
    show (⟨σ.c, pr (goneK (σ.q.take (σ.many (capI n))) σ.s), σ.q.drop (σ.many (capI n))⟩ : L12) = ⟨π.c, pr (goneK (π.q.take (π.many (capI n))) π.s), π.q.drop (π.many (capI n))⟩
    rw [hmn, ← p2, goneK_pr hno, goneK_pr hno2, p1, c5, hcπ]
  refine ⟨?_, ?_, by rw [hmn, ← p2]; exact hm⟩
  · rw [forget_plain g1.prune, hpp]
  · unfold L12.shrinkOut
    rw [hmn, ← p2]
end L12
abbrev PT12 : TypeId := 42
structure Pol12Ok : Prop where
  new : ∀ (w : World) (n : Int) (_ : -9223372036854775808 ≤ n) (_ : n ≤ 9223372036854775807), Calls Tryz.prog 20 #[.int .i64 n] w (P12 w (L12.new n))
  touch : ∀ {w : World} {s : L12} {u1 u2 : Value} (_ : St12 w s u1 u2) (_ : s.Ok) (k : Nat) (_ : k < 18446744073709551616), Calls Tryz.prog 23 #[(.agg (l12C s.c u1 u2)), .int .u64 (k : Nat)] w (P12 w (s.touch k))
  adm : ∀ {w : World} {s : L12} {u1 u2 : Value} (_ : St12 w s u1 u2) (_ : s.Ok) (k : Nat) (_ : k < 18446744073709551616), Calls Tryz.prog 24 #[(.agg (l12C s.c u1 u2)), .int .u64 (k : Nat)] w (P12o w (s.adm k) (s.admitOut k))
  drop : ∀ {w : World} {s : L12} {u1 u2 : Value} (_ : St12 w s u1 u2) (_ : s.Ok) (k : Nat) (_ : k < 18446744073709551616), Calls Tryz.prog 25 #[(.agg (l12C s.c u1 u2)), .int .u64 (k : Nat)] w (P12 w (s.drop k))
  resize : ∀ {w : World} {s : L12} {u1 u2 : Value} (_ : St12 w s u1 u2) (_ : s.Ok) (n : Int) (_ : -9223372036854775808 ≤ n) (_ : n ≤ 9223372036854775807), Calls Tryz.prog 26 #[(.agg (l12C s.c u1 u2)), .int .i64 n] w (P12o w (s.resize n) (s.resizeOut n))
  has : ∀ {w : World} {s : L12} {u1 u2 : Value} (_ : St12 w s u1 u2) (_ : s.Ok) (k : Nat) (_ : k < 18446744073709551616), Calls Tryz.prog 22 #[(.agg (l12C s.c u1 u2)), .int .u64 (k : Nat)] w (RetB w (decide (k ∈ s.keys)))
  keys : ∀ {w : World} {s : L12} {u1 u2 : Value} (_ : St12 w s u1 u2) (_ : s.Ok), Calls Tryz.prog 28 #[(.agg (l12C s.c u1 u2))] w (RetK w s.keys)
  ghosts : ∀ {w : World} {s : L12} {u1 u2 : Value} (_ : St12 w s u1 u2) (_ : s.Ok), Calls Tryz.prog 29 #[(.agg (l12C s.c u1 u2))] w (fun e w' => e = .returned (.int .i64 (s.ghosts : Nat)) ∧ Below w.heap.size w w')
end Go.Proofs.YtkhikpnlpcankaaGreat
