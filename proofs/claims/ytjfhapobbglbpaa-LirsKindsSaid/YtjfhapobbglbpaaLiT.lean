/- Inter-reference recency, the document's own: to stack, to prune, a key at the queue's end. -/
import Derived.Test.YtjfhapobbglbpaaLiS
import Derived.Test.YtjfhapobbglbpaaSqG
import Derived.Test.YtjfhapobbglbpaaSqS
import Derived.Deep.RegionHeld3
import Derived.Deep.RegionWith
namespace Go.Proofs.Ytjfhapobbglbpaa
open Go Go.RowKit Go.Deep

theorem count_len : ∀ (l q : List Nat), (∀ a, l.count a ≤ q.count a) → l.length ≤ q.length
  | [], q, _ => Nat.zero_le _
  | x :: l, q, h => by
    have hx : x ∈ q := List.count_pos_iff.1 (by have := h x; rw [List.count_cons_self] at this; omega)
    have h2 : ∀ a, l.count a ≤ (q.erase x).count a := fun a => by
      have := h a
      rw [List.count_cons] at this
      rw [List.count_erase]
      split at this <;> split <;> simp_all <;> omega
    have h3 := count_len l (q.erase x) h2
    rw [List.length_erase_of_mem hx] at h3
    have := List.length_pos_of_mem hx
    rw [List.length_cons]
    omega
theorem kindK_count {f a : Nat} (s : List It) : (keysI (s.filter (fun x => x.f == f))).count a = ct a f s := by
  induction s with
  | nil => rfl
  | cons x s ih =>
    unfold keysI at *
    rw [List.filter_cons, ct_cons]
    by_cases e : x.f = f
    · rw [if_pos (by simp [e]), List.map_cons, List.count_cons, ih]
      simp [e]
    · rw [if_neg (by simp [e]), ih]
      simp [e]
theorem kindK_len {f : Nat} (s : List It) : (keysI (s.filter (fun x => x.f == f))).length = nk f s := by
  unfold keysI nk
  rw [List.length_map, List.countP_eq_length_filter]
theorem nk_all {s : List It} (h : ∀ x ∈ s, x.f ≤ 2) : s.length = nk 0 s + nk 1 s + nk 2 s := by
  induction s with
  | nil => rfl
  | cons x s ih =>
    have h1 := ih (fun y hy => h y (by simp [hy]))
    have hx := h x (by simp)
    simp only [nk_cons, List.length_cons]
    rcases (by omega : x.f = 0 ∨ x.f = 1 ∨ x.f = 2) with e | e | e <;> simp [e] <;> omega
namespace L12
theorem Fine.slen {s : L12} (h : s.Fine) : s.s.length ≤ nk 0 s.s + nk 2 s.s + s.q.length := by
  have h1 := nk_all h.kinds
  have h2 : nk 1 s.s ≤ s.q.length := by
    rw [← kindK_len]
    refine count_len _ _ (fun a => ?_)
    rw [kindK_count]
    exact (h.at_ a).2.1
  omega
end L12
theorem wi_len {k : Nat} {s : List It} : (wi k s).length ≤ s.length := List.length_filter_le _ _
theorem pr_len (s : List It) : (pr s).length ≤ s.length := by
  induction s with
  | nil => exact Nat.le_refl _
  | cons x s ih =>
    rw [pr]
    split
    · simpa using ih
    · simp
section
variable {w : World} {u1 u2 : Value} {s : L12}
theorem iv_one (W : World) (x : It) : OwnI TI12 W.heap.size W (W.alloc (.cells #[.int .u64 (x.key : Nat), .int .i64 (x.f : Nat)] TI12)) (.slice (some ⟨W.heap.size, 0, none⟩) 1 1) [x] := OwnI.one (Nat.le_refl _) (Below.refl _ _) x
set_option maxHeartbeats 1000000 in
theorem r12stack_walk (hs : St12 w s u1 u2) (hnd : ∀ a, tot a s.s ≤ 1) (hl : s.s.length ≤ 10000000) (k f : Nat) : Calls Try.prog 53 #[.agg (l12C s.c u1 u2), .int .u64 (k : Nat), .int .i64 (f : Nat)] w (P12 w (s.stack k f)) := by
  obtain ⟨F1, d1, rfl, -⟩ := hs.g1.mem
  obtain ⟨F2, n2, d2, rfl⟩ := hs.form2
  have HX0 := Lib.hid (Bx12.start w T12 (by decide) hs)
  have HND := Lib.hid hnd
  have HL := Lib.hid hl
  unfold L12.stack
  obtain ⟨c, xs, q⟩ := s
  simp only at *
  obtain ⟨n, hn⟩ : ∃ n, xs.length = n := ⟨_, rfl⟩
  have HN := Lib.hid hn
  rw [hn] at HX0 hs ⊢
  clear hs hl hnd hn
  generalize hW0 : World.alloc _ (.cells z12 T12) = W0 at HX0
  have HW0 := Lib.hid hW0
  have KP := Lib.hid (r12place_walk HX0.out.st.g1 (by have := HL.out; show xs.length ≤ _; omega) k)
  obtain ⟨⟨x0, x1, x2⟩, xf0, xf1, xf2⟩ := c3_at HX0.out.bo.box
  have hbb := (head_row HX0.out.bo.box).lt
  clear hW0
  go_enter Try.func53, Try.ntmps53
  go_wp2_with fail
  rw [HW0.out]
  clear HW0
  go_wp2_with fail
  refine KP.out.mono ?_
  rintro e w1 ⟨rfl, ⟨rfl, hno⟩ | ⟨i, hi, rfl, hik, -⟩⟩
  · have HWI : Hid (wi k xs = xs) := Lib.hid (wi_none (by have := mt tot_in.2 hno; omega))
    have HOW := Lib.hid (iv_one W0 ⟨k, f⟩)
    have HSRC := Lib.hid (HX0.out.st.g1.below (low_one W0 (.cells #[.int .u64 (k : Nat), .int .i64 (f : Nat)] TI12)))
    clear KP HND hno
    try dsimp only at x0 x1 x2
    go_wp2_with (at_builtin; refine wpList_append_iv (e := TI12) rfl (.tmp 22) (.tmp 23) rfl W0.heap.size (by kernel_rfl) (by kernel_rfl) _ [⟨k, f⟩] rfl HOW.out _ xs rfl HSRC.out (by have := HL.out; have := HN.out; simp; omega) (by simp) ?_)
    intro v5 w5 hown5 _ _
    obtain ⟨Ff, nf, df, rfl⟩ := hown5.iv.form
    have hx5 := HX0.out.step hown5.low
    clear x0 x1 x2 xf0 xf1 xf2 hbb
    obtain ⟨⟨x0, x1, x2⟩, xf0, xf1, xf2⟩ := c3_at hx5.bo.box
    have hbb := (head_row hx5.bo.box).lt
    have hy5 := hx5.set1 hown5.iv
    obtain ⟨⟨y0, y1, y2⟩, yf0, yf1, yf2⟩ := c3_at hx5.bo.res
    have hrr := (head_row hx5.bo.res).lt
    have HXf := Lib.hid hy5
    try dsimp only at x0 x1 x2
    clear hown5 hx5 hy5 HOW HSRC HX0
    go_wp2
    exact bodyPost_ret (v := .agg (l12C c (.slice Ff nf df) (.slice F2 n2 d2))) (by simp [results, Try.results53, go_sem, y0, y1, y2]) rfl (by rw [HWI.out]; exact HXf.out.done)
  · have HCI : Hid (xs.take i ++ xs.drop (i + 1) = wi k xs) := Lib.hid (by rw [cut_is HND.out hi, hik])
    have KC := Lib.hid (r12cut_walk HX0.out.st.g1 (by have := HL.out; show xs.length ≤ _; omega) hi)
    rw [HCI.out] at KC
    have HWL : Hid ((wi k xs).length ≤ 10000000) := Lib.hid (by have := HL.out; have := wi_len (k := k) (s := xs); omega)
    clear KP HND hik HCI
    try dsimp only at x0 x1 x2
    go_wp2_with fail
    refine KC.out.mono ?_
    rintro e w2 ⟨v2, rfl, hb2, hv2, -⟩
    obtain ⟨Fc, nc, dc, rfl⟩ := hv2.form
    have hx2 := HX0.out.step hb2
    have HX2 := Lib.hid hx2
    clear x0 x1 x2 xf0 xf1 xf2 hbb
    obtain ⟨⟨x0, x1, x2⟩, xf0, xf1, xf2⟩ := c3_at hx2.bo.box
    have hbb := (head_row hx2.bo.box).lt
    have HOW := Lib.hid (iv_one w2 ⟨k, f⟩)
    have HSRC := Lib.hid (hv2.below (low_one w2 (.cells #[.int .u64 (k : Nat), .int .i64 (f : Nat)] TI12)))
    clear hx2 hb2 hv2 KC HX0
    try dsimp only at x0 x1 x2
    generalize wi k xs = ys at *
    go_wp2_with (at_builtin; refine wpList_append_iv (e := TI12) rfl (.tmp 22) (.tmp 23) rfl w2.heap.size (by kernel_rfl) (by kernel_rfl) _ [⟨k, f⟩] rfl HOW.out _ ys rfl HSRC.out (by have := HWL.out; simp; omega) (by simp) ?_)
    intro v5 w5 hown5 _ _
    obtain ⟨Ff, nf, df, rfl⟩ := hown5.iv.form
    have hx5 := HX2.out.step hown5.low
    clear x0 x1 x2 xf0 xf1 xf2 hbb
    obtain ⟨⟨x0, x1, x2⟩, xf0, xf1, xf2⟩ := c3_at hx5.bo.box
    have hbb := (head_row hx5.bo.box).lt
    have hy5 := hx5.set1 hown5.iv
    obtain ⟨⟨y0, y1, y2⟩, yf0, yf1, yf2⟩ := c3_at hx5.bo.res
    have hrr := (head_row hx5.bo.res).lt
    have HXf := Lib.hid hy5
    try dsimp only at x0 x1 x2
    clear hown5 hx5 hy5 HOW HSRC HX2
    go_wp2
    exact bodyPost_ret (v := .agg (l12C c (.slice Ff nf df) (.slice F2 n2 d2))) (by simp [results, Try.results53, go_sem, y0, y1, y2]) rfl HXf.out.done
set_option maxHeartbeats 1000000 in
theorem r12last_walk (hs : St12 w s u1 u2) (hl : s.q.length ≤ 10000000) (k : Nat) : Calls Try.prog 54 #[.agg (l12C s.c u1 u2), .int .u64 (k : Nat)] w (P12 w (s.last k)) := by
  obtain ⟨F1, n1, d1, rfl⟩ := hs.form1
  obtain ⟨F2, n2, d2, rfl⟩ := hs.form2
  have HX0 := Lib.hid (Bx12.start w T12 (by decide) hs)
  unfold L12.last
  obtain ⟨c, xs, q⟩ := s
  simp only at *
  generalize hW0 : World.alloc _ (.cells z12 T12) = W0 at HX0
  have HW0 := Lib.hid hW0
  have KW := Lib.hid (rwithout_walk HX0.out.st.g2 (by show q.length ≤ _; omega) k)
  obtain ⟨⟨x0, x1, x2⟩, xf0, xf1, xf2⟩ := c3_at HX0.out.bo.box
  have hbb := (head_row HX0.out.bo.box).lt
  clear hW0
  have HWL : Hid ((wo k q).length ≤ 10000000) := Lib.hid (by have := wo_len k q; omega)
  clear hs hl
  go_enter Try.func54, Try.ntmps54
  go_wp2_with fail
  rw [HW0.out]
  clear HW0
  go_wp2_with fail
  refine KW.out.mono ?_
  rintro e wa ⟨va, rfl, ha⟩
  have hxa := HX0.out.step ha.low
  have HXA := Lib.hid (hxa.step (low_one wa (.cells #[.int .u64 (k : Nat)] 35)))
  have HOW := Lib.hid (ha.alloc ha.low.size (.cells #[.int .u64 (k : Nat)] 35))
  have HSRC := Lib.hid (KV.one wa k)
  have hsz := (Nat.le_trans ha.low.size (low_one wa (.cells #[.int .u64 (k : Nat)] 35)).size)
  clear x0 x1 x2 xf0 xf1 xf2 hbb
  obtain ⟨⟨x0, x1, x2⟩, xf0, xf1, xf2⟩ := c3_at HXA.out.bo.box
  have hbb := (head_row HXA.out.bo.box).lt
  clear ha hxa KW
  dsimp only at x0 x1 x2
  go_wp2_with (at_builtin; refine wpList_append_kv rfl (.tmp 8) (.tmp 10) rfl _ (by kernel_rfl) (by kernel_rfl) va (wo k q) rfl HOW.out _ [k] rfl HSRC.out (by have := HWL.out; simp; omega) hsz ?_)
  intro v5 w5 hown5 hkp hkt
  obtain ⟨Ff, nf, df, rfl⟩ := hown5.kv.form
  have hx5 := HX0.out.step hown5.low
  clear x0 x1 x2 xf0 xf1 xf2 hbb
  obtain ⟨⟨x0, x1, x2⟩, xf0, xf1, xf2⟩ := c3_at hx5.bo.box
  have hbb := (head_row hx5.bo.box).lt
  have hy5 := hx5.set2 hown5.kv
  obtain ⟨⟨y0, y1, y2⟩, yf0, yf1, yf2⟩ := c3_at hx5.bo.res
  have hrr := (head_row hx5.bo.res).lt
  have HXf := Lib.hid hy5
  try dsimp only at x0 x1 x2
  clear hown5 hkp hkt hx5 hy5 HOW HSRC HXA HX0 hsz
  go_wp2
  exact bodyPost_ret (v := .agg (l12C c (.slice F1 n1 d1) (.slice Ff nf df))) (by simp [results, Try.results54, go_sem, y0, y1, y2]) rfl HXf.out.done
theorem pr_take {xs : List It} {j : Nat} (hj : j < xs.length) : pr (xs.take (j + 1)) = if xs[j].f = 2 then xs.take (j + 1) else pr (xs.take j) := by
  rw [List.take_succ_eq_append_getElem hj, pr_snoc]
set_option maxHeartbeats 1000000 in
theorem r12prune_walk (hs : St12 w s u1 u2) (hl : s.s.length ≤ 10000000) : Calls Try.prog 52 #[.agg (l12C s.c u1 u2)] w (P12 w s.prune) := by
  obtain ⟨F1, d1, rfl, hcap, _⟩ := hs.g1.mem
  obtain ⟨F2, n2, d2, rfl⟩ := hs.form2
  have hx0 := Bx12.start w T12 (by decide) hs
  unfold L12.prune
  obtain ⟨c, xs, q⟩ := s
  simp only at *
  obtain ⟨n, hn⟩ : ∃ n, xs.length = n := ⟨_, rfl⟩
  have HN := Lib.hid hn
  rw [hn] at hx0 hcap hl ⊢
  have HI0 : Hid (Bx12 w ((w.alloc (.cells (l12C c (.slice F1 n d1) (.slice F2 n2 d2)) T12)).alloc (.cells z12 T12)) T12 w.heap.size (w.heap.size + 1) ⟨c, xs.take n, q⟩ (.slice F1 n d1) (.slice F2 n2 d2) ∧ pr (xs.take n) = pr xs) := Lib.hid (by rw [← hn, List.take_length]; rw [← hn] at hx0; exact ⟨hx0, rfl⟩)
  clear hs hn hx0
  go_enter Try.func52, Try.ntmps52
  go_wp2_with fail
  generalize World.alloc _ (.cells z12 T12) = W0 at HI0 ⊢
  go_loopg [] n (fun gg wr => ∃ m : Nat, gg = m ∧ m ≤ n ∧ Hid (Bx12 w wr T12 w.heap.size (w.heap.size + 1) ⟨c, xs.take m, q⟩ (.slice F1 m d1) (.slice F2 n2 d2) ∧ pr (xs.take m) = pr xs))
  case atStart => exact ⟨n, rfl, Nat.le_refl _, HI0⟩
  case round =>
    clear HI0
    obtain ⟨m, rfl, hmn, HI⟩ := hrel
    obtain ⟨⟨x0, x1, x2⟩, xf0, xf1, xf2⟩ := c3_at HI.out.1.bo.box
    have hbb := (head_row HI.out.1.bo.box).lt
    obtain ⟨⟨y0, y1, y2⟩, yf0, yf1, yf2⟩ := c3_at HI.out.1.bo.res
    have hrr := (head_row HI.out.1.bo.res).lt
    try dsimp only at x0 x1 x2
    rcases Nat.eq_zero_or_pos gk with rfl | hp
    · have HE : Hid (P12 w ⟨c, pr xs, q⟩ = P12 w ⟨c, xs.take 0, q⟩) := Lib.hid (by rw [← HI.out.2]; rfl)
      have HXf := Lib.hid HI.out.1
      clear HI
      go_wp2
      exact bodyPost_ret (v := .agg (l12C c (.slice F1 0 d1) (.slice F2 n2 d2))) (by simp [results, Try.results52, go_sem, y0, y1, y2]) rfl (by rw [HE.out]; exact HXf.out.done)
    · obtain ⟨j, rfl⟩ : ∃ j, gk = j + 1 := ⟨gk - 1, by omega⟩
      have hjx : j < xs.length := by rw [HN.out]; omega
      have hpt := pr_take hjx
      obtain ⟨F', d', e, _, _, h3⟩ := HI.out.1.st.g1.mem
      have htl : (xs.take (j + 1)).length = j + 1 := by rw [List.length_take, HN.out]; omega
      obtain ⟨g, off, hF, hg, -, q1⟩ := h3 j (by show j < (xs.take (j + 1)).length; omega)
      injection e with e1 e2 e3
      subst e1 e3
      subst hF
      obtain ⟨fx, hfx⟩ : ∃ fx, xs[j].f = fx := ⟨_, rfl⟩
      have hq : (xs.take (j + 1))[j]'(by omega) = xs[j] := by rw [List.getElem_take]
      simp only [hq, hfx] at q1
      rw [hfx] at hpt
      have hj1 : j ≤ d1 := by omega
      have hj1I : (j : Int) ≤ (d1 : Int) := by omega
      have hjI : (j : Int) ≤ 10000000 := by omega
      clear h3 hfx hq e2 htl
      by_cases h2 : fx = 2
      · subst h2
        have HE : Hid (P12 w ⟨c, pr xs, q⟩ = P12 w ⟨c, xs.take (j + 1), q⟩) := Lib.hid (by rw [← HI.out.2, hpt, if_pos rfl])
        have HXf := Lib.hid HI.out.1
        clear HI hpt
        go_wp2
        exact bodyPost_ret (v := .agg (l12C c (.slice (some ⟨g, off, none⟩) (j + 1) d1) (.slice F2 n2 d2))) (by simp [results, Try.results52, go_sem, y0, y1, y2]) rfl (by rw [HE.out]; exact HXf.out.done)
      · have h2I : ¬ (fx : Int) = 2 := by omega
        have HNX := Lib.hid (HI.out.1.set1 (F := some ⟨g, off, none⟩) (m := j) (d := d1) (ks := xs.take j) (by
          obtain ⟨F', d', e, hk⟩ := HI.out.1.st.g1.take j (by show j ≤ (xs.take (j + 1)).length; rw [List.length_take, HN.out]; omega)
          injection e with e1 e2 e3
          subst e1 e3
          rw [show (⟨c, xs.take (j + 1), q⟩ : L12).s = xs.take (j + 1) from rfl, List.take_take, Nat.min_eq_left (by omega)] at hk
          exact hk))
        have HPT : Hid (pr (xs.take j) = pr xs) := Lib.hid (by rw [← HI.out.2, hpt, if_neg h2])
        clear HI hpt
        go_wp2
        go_roundg j
        case measure => omega
        case rel => exact ⟨j, rfl, by omega, Lib.hid ⟨HNX.out, HPT.out⟩⟩
end
end Go.Proofs.Ytjfhapobbglbpaa
