/- Words and walks: LiN LiH. -/
import Derived.Test.YtkhikpnlpcankaaGreatG16
import Derived.Test.YtkhikpnlpcankaaGreatG21
import Derived.Deep.QuietTactic
import Derived.BigQuiet
import Derived.Deep.RegionLaw
import Derived.Deep.CutRange
import Derived.Deep.DeepCutAuto
namespace Go.Proofs.YtkhikpnlpcankaaGreat
open Go Go.RowKit Go.Deep
set_option maxRecDepth 8000
section
variable {w : World} {v : Value} {xs : List It} {u1 u2 : Value} {s : L12}
theorem room_quiet (c : Nat) (hc : c ≤ 1048576) (h1 : 1 ≤ c) (m : Nat) : Calls Tryz.prog 80 #[.int .i64 (c : Nat)] (w.drewN m) fun e w'' => e = .returned (.int .i64 (roomH c : Nat)) ∧ ∃ m', w'' = w.drewN m' :=
  (r12room_walk c hc h1).mono (fun _ _ h => ⟨h.1, m, h.2.symm⟩)
theorem many_quiet (h : IV w v xs) (hl : xs.length ≤ 100000000) (f : Nat) (m : Nat) : Calls Tryz.prog 48 #[v, .int .i64 (f : Nat)] (w.drewN m) fun e w'' => e = .returned (.int .i64 (nk f xs : Nat)) ∧ ∃ m', w'' = w.drewN m' :=
  (r12many_walk (h.drewn m) hl f).mono (fun _ _ h => ⟨h.1, m, h.2.symm⟩)
theorem lowest_in (h : IV w v xs) (hl : xs.length ≤ 100000000) (f : Nat) (hp : 0 < nk f xs) : Calls Tryz.prog 113 #[v, .int .i64 (f : Nat)] w fun e w' => w = w' ∧ ∃ (i : Nat) (hi : i < xs.length), e = .returned (.int .i64 (i : Nat)) ∧ xs[i].f = f ∧ xs[i].key = lastF f xs :=
  (r12lowest_walk h hl f).mono (fun e w' ⟨h1, h2⟩ => ⟨h1, by
    rcases h2 with ⟨_, hno⟩ | ⟨m, hm, he, hf, hno⟩
    · have := low_none hno
      omega
    · exact ⟨m, hm, he, hf, (lastK_at hm hf hno).symm⟩⟩)
structure Ac (w wr : World) (s σ : L12) (u1 u2 : Value) : Prop where
  bx : Bx12 w wr T12 w.heap.size (w.heap.size + 1) σ u1 u2
  li : L12.coolN (nk 2 σ.s - roomH s.c) σ = s.cool
  fine : σ.Fine
  c : σ.c = s.c
  bd : nk 0 σ.s + nk 2 σ.s + σ.q.length ≤ 9000000
theorem Ac.sl {w wr : World} {s σ : L12} {u1 u2 : Value} (h : Ac w wr s σ u1 u2) : σ.s.length ≤ 10000000 := by
  have := h.fine.slen
  have := h.bd
  omega
set_option maxHeartbeats 1000000 in
theorem r12cool_walk (hs : St12 w s u1 u2) (fine : s.Fine) (hc1 : 1 ≤ s.c) (hc : s.c ≤ 1048576) (hbd : nk 0 s.s + nk 2 s.s + s.q.length ≤ 9000000) : Calls Tryz.prog 78 #[.agg (l12C s.c u1 u2)] w (P12 w s.cool) := by
  obtain ⟨F1, n1, d1, rfl⟩ := hs.form1
  obtain ⟨F2, n2, d2, rfl⟩ := hs.form2
  have hx0 := Bx12.start w T12 (by decide) hs
  have HI0 : Hid (Ac w ((w.alloc (.cells (l12C s.c (.slice F1 n1 d1) (.slice F2 n2 d2)) T12)).alloc (.cells z12 T12)) s s (.slice F1 n1 d1) (.slice F2 n2 d2)) := Lib.hid ⟨hx0, rfl, fine, rfl, hbd⟩
  obtain ⟨h, hh⟩ : ∃ h, roomH s.c = h := ⟨_, rfl⟩
  have hhc := roomH_lt hc1
  have HH := Lib.hid hh
  have KRM := Lib.hid (fun (W : World) (m : Nat) => room_quiet (w := W) s.c hc hc1 m)
  rw [hh] at KRM hhc
  have hhI : (h : Int) ≤ 1048576 := by omega
  clear hs hx0 hh fine hbd hhc
  go_enter Tryz.func78, Tryz.ntmps78
  go_wp2_with fail
  generalize World.alloc _ (.cells z12 T12) = W0 at HI0 ⊢
  go_loopg [] (nk 2 s.s - h) (fun gg wr => ∃ (σ : L12) (u1 u2 : Value), gg = nk 2 σ.s - h ∧ Hid (Ac w wr s σ u1 u2))
  case atStart => exact ⟨s, _, _, rfl, HI0⟩
  case round =>
    clear HI0
    obtain ⟨σ, u1, u2, hi, HI⟩ := hrel
    obtain ⟨F1, d1, rfl, -⟩ := HI.out.bx.st.g1.mem
    obtain ⟨F2, n2, d2, rfl⟩ := HI.out.bx.st.form2
    obtain ⟨cσ, xs, q⟩ := σ
    obtain rfl : cσ = s.c := HI.out.c
    dsimp only at HI hi
    obtain ⟨⟨x0, x1, x2⟩, xf0, xf1, xf2⟩ := c3_at HI.out.bx.bo.box
    have hbb := (head_row HI.out.bx.bo.box).lt
    try dsimp only at x0 x1 x2
    have hsl : xs.length ≤ 10000000 := HI.out.sl
    have KMN : Hid (∀ m : Nat, Calls Tryz.prog 48 #[.slice F1 xs.length d1, .int .i64 2] (wr.drewN m) fun e w'' => e = .returned (.int .i64 (nk 2 xs : Nat)) ∧ ∃ m', w'' = wr.drewN m') := Lib.hid (fun m : Nat => many_quiet (w := wr) HI.out.bx.st.g1 (by show xs.length ≤ _; omega) 2 m)
    have hn2 : nk 2 xs ≤ xs.length := List.countP_le_length
    obtain ⟨n, hn⟩ : ∃ n, nk 2 xs = n := ⟨_, rfl⟩
    have HN := Lib.hid hn
    rw [hn] at KMN hi hn2
    have hnI : (n : Int) ≤ 10000000 := by omega
    clear hn hn2
    by_cases hgt : h < n
    · have hgtI : (h : Int) < (n : Int) := by omega
      obtain ⟨f, hf⟩ : ∃ f, n - h = f + 1 := ⟨n - h - 1, by omega⟩
      have KLO : Hid (∀ m : Nat, Calls Tryz.prog 113 #[.slice F1 xs.length d1, .int .i64 2] (wr.drewN m) fun e w2 => Below wr.heap.size wr w2 ∧ ∃ (i : Nat) (hi : i < xs.length), e = .returned (.int .i64 (i : Nat)) ∧ xs[i].key = lastF 2 xs) := Lib.hid (fun m => (lowest_in (HI.out.bx.st.g1.drewn m) (by show xs.length ≤ _; omega) 2 (by show 0 < nk 2 xs; rw [HN.out]; omega)).mono (fun e w2 ⟨h1, i, hi, h2, _, h3⟩ => ⟨h1 ▸ below_drewn (Below.refl _ _) m, i, hi, h2, h3⟩))
      go_wp2_with fail
      go_quiet (first | (go_at_call 48; with_reducible exact KMN.out _) | (go_at_call 80; with_reducible exact KRM.out _ _))
      go_wp2_with fail
      refine (KLO.out _).mono ?_
      rintro e w2 ⟨hb2, i, hix, rfl, hik⟩
      have hx2 := HI.out.bx.step hb2
      obtain ⟨F', d', e, _, _, h3⟩ := hx2.st.g1.mem
      injection e with e1 e2 e3
      subst e1 e3
      obtain ⟨g, off, hF, hg, q0, -⟩ := h3 i hix
      subst hF
      have HC1 := Lib.hid (HI.out.fine.cool1 (by show 0 < nk 2 xs; rw [HN.out]; omega))
      have HLI := Lib.hid HI.out.li
      have HBD := Lib.hid HI.out.bd
      have HSI : Hid (xs.set i ⟨xs[i].key, 1⟩ = setI (lastF 2 xs) 1 xs) := Lib.hid (by rw [set_is HI.out.fine.tot_le hix, hik])
      have KST := Lib.hid (r12set_walk hx2.st.g1 (by show xs.length ≤ _; omega) hix 1)
      dsimp only at KST q0
      rw [HSI.out] at KST
      rw [hik] at q0
      have HX2 := Lib.hid hx2
      have hixI : (i : Int) < (xs.length : Int) := by omega
      clear x0 x1 x2 xf0 xf1 xf2 hbb
      obtain ⟨⟨x0, x1, x2⟩, xf0, xf1, xf2⟩ := c3_at hx2.bo.box
      try dsimp only at x0 x1 x2
      have hbb := (head_row hx2.bo.box).lt
      have HGK := Lib.hid hi
      have HHF := Lib.hid hf
      generalize hk : lastF 2 xs = k at *
      have HK := Lib.hid hk
      clear hx2 h3 e2 hb2 KLO KMN HI HSI hik hi hf hgt hgtI hk
      go_upto_region 4 with fail
      go_wp2_with fail
      refine KST.out.mono ?_
      rintro e w3 ⟨v3, rfl, hb3, hv3, -⟩
      obtain ⟨Fs, ns, ds, rfl⟩ := hv3.form
      have hx3 := HX2.out.step hb3
      clear x0 x1 x2 xf0 xf1 xf2 hbb
      obtain ⟨⟨x0, x1, x2⟩, xf0, xf1, xf2⟩ := c3_at hx3.bo.box
      try dsimp only at x0 x1 x2
      have hbb := (head_row hx3.bo.box).lt
      have hy3 := hx3.set1 hv3
      generalize hWa : w3.setCell ⟨w.heap.size, 1, none⟩ (.slice Fs ns ds) = w4 at hy3
      have HWa := Lib.hid hWa
      have HX4 := Lib.hid hy3
      clear hx3 hy3 hWa hv3 hb3 KST HX2 q0 hg
      go_upto_region 5 with fail
      rw [HWa.out]
      clear HWa x0 x1 x2 xf0 xf1 xf2 hbb
      obtain ⟨⟨x0, x1, x2⟩, xf0, xf1, xf2⟩ := c3_at HX4.out.bo.box
      try dsimp only at x0 x1 x2
      have hbb := (head_row HX4.out.bo.box).lt
      have HQL : Hid (q.length ≤ 9000000) := Lib.hid (by have := HBD.out; omega)
      have HO0 : Hid (KO w4.heap.size w4 (w4.alloc (.cells #[] 32)) (.slice (some ⟨w4.heap.size, 0, none⟩) 0 0) []) := Lib.hid (KO.empty (Nat.le_refl _) (Below.refl _ _))
      have HS0 := Lib.hid (HX4.out.st.g2.below (low_one w4 (.cells #[] 32)))
      go_wp2_with (at_builtin; refine wpList_append_kv rfl (.tmp 26) (.tmp 28) rfl w4.heap.size (by kernel_rfl) (by kernel_rfl) _ [] rfl HO0.out _ q rfl HS0.out (by have := HQL.out; simp; omega) (by simp) ?_)
      intro v5 w5 hown5 _ _
      have HO5 := Lib.hid (hown5.alloc hown5.low.size (.cells #[.int .u64 (k : Nat)] 32))
      have HS5 := Lib.hid (KV.one w5 k)
      have hsz5 := Nat.le_trans hown5.low.size (low_one w5 (.cells #[.int .u64 (k : Nat)] 32)).size
      have hx5 := HX4.out.step hown5.low
      clear hown5 HO0 HS0
      go_wp2_with (at_builtin; refine wpList_append_kv rfl (.tmp 29) (.tmp 31) rfl w4.heap.size (by kernel_rfl) (by kernel_rfl) v5 q rfl HO5.out _ [k] rfl HS5.out (by have := HQL.out; simp; omega) hsz5 ?_)
      intro v6 w6 hown6 _ _
      obtain ⟨Fq, nq, dq, rfl⟩ := hown6.kv.form
      have hx6 := HX4.out.step hown6.low
      clear x0 x1 x2 xf0 xf1 xf2 hbb
      obtain ⟨⟨x0, x1, x2⟩, xf0, xf1, xf2⟩ := c3_at hx6.bo.box
      try dsimp only at x0 x1 x2
      have hbb := (head_row hx6.bo.box).lt
      have hy6 := hx6.set2 hown6.kv
      generalize hWb : w6.setCell ⟨w.heap.size, 2, none⟩ (.slice Fq nq dq) = w7 at hy6
      have HWb := Lib.hid hWb
      have HX7 := Lib.hid hy6
      clear hx5 hx6 hy6 hWb hown6 HO5 HS5 hsz5 HX4
      go_upto_region 6 with fail
      rw [HWb.out]
      clear HWb x0 x1 x2 xf0 xf1 xf2 hbb
      obtain ⟨⟨x0, x1, x2⟩, xf0, xf1, xf2⟩ := c3_at HX7.out.bo.box
      try dsimp only at x0 x1 x2
      have hbb := (head_row HX7.out.bo.box).lt
      have KPR := Lib.hid (r12prune_walk HX7.out.st (by show (setI k 1 xs).length ≤ _; rw [setI_len]; omega))
      dsimp only at KPR
      have HPC : Hid (L12.prune ⟨s.c, setI k 1 xs, q ++ [k]⟩ = L12.cool1 ⟨s.c, xs, q⟩) := Lib.hid (by unfold L12.cool1 L12.prune; rw [HK.out])
      rw [HPC.out] at KPR
      go_wp2_with fail
      refine KPR.out.mono ?_
      rintro e w8 ⟨v1, v2, he, hb8, hs8⟩
      obtain ⟨Fa1, na1, da1, rfl⟩ := hs8.form1
      obtain ⟨Fa2, na2, da2, rfl⟩ := hs8.form2
      have hc1e : (L12.cool1 ⟨s.c, xs, q⟩).c = s.c := rfl
      rw [hc1e] at he
      subst he
      have hx8 := HX7.out.step hb8
      clear x0 x1 x2 xf0 xf1 xf2 hbb
      obtain ⟨⟨x0, x1, x2⟩, xf0, xf1, xf2⟩ := c3_at hx8.bo.box
      try dsimp only at x0 x1 x2
      have hbb := (head_row hx8.bo.box).lt
      have HP := Lib.hid (hx8.put hs8)
      rw [hc1e] at HP
      have HNX : Hid (nk 2 (L12.cool1 ⟨s.c, xs, q⟩).s - h = f) := Lib.hid (by have h1 := HC1.out.2.1; have h2 := HN.out; have h3 := HHF.out; omega)
      have HAC : Hid (Ac w (((w8.setCell ⟨w.heap.size, 0, none⟩ (.int .i64 (s.c : Nat))).setCell ⟨w.heap.size, 1, none⟩ (.slice Fa1 na1 da1)).setCell ⟨w.heap.size, 2, none⟩ (.slice Fa2 na2 da2)) s (L12.cool1 ⟨s.c, xs, q⟩) (.slice Fa1 na1 da1) (.slice Fa2 na2 da2)) := Lib.hid ⟨HP.out, by
        have h1 := HLI.out
        rw [HN.out, HH.out, HHF.out] at h1
        rw [HH.out, HNX.out]
        exact h1, HC1.out.1, rfl, by have h1 := HC1.out.2.1; have h2 := HC1.out.2.2.1; have h3 := HC1.out.2.2.2.2.1; have h4 := HBD.out; omega⟩
      have hgf : f < gk := by have := HGK.out; have := HHF.out; omega
      clear hx8 hb8 hs8 hc1e KPR HPC HX7 HP HC1
      go_wp2
      go_roundg f
      case measure => omega
      case rel => exact ⟨_, _, _, HNX.out.symm, HAC⟩
    · have hgtI : ¬ (h : Int) < (n : Int) := by omega
      have HE : Hid (P12 w s.cool = P12 w ⟨s.c, xs, q⟩) := Lib.hid (by
        have h1 := HI.out.li
        dsimp only at h1
        rw [HN.out, HH.out, show n - h = 0 by omega] at h1
        rw [← h1]
        rfl)
      have HX := Lib.hid HI.out.bx
      clear x0 x1 x2 xf0 xf1 xf2 hbb HI hi
      have HYD : Hid (∀ m, Bx12 w (wr.drewN m) T12 w.heap.size (w.heap.size + 1) ⟨s.c, xs, q⟩ (.slice F1 xs.length d1) (.slice F2 n2 d2)) := Lib.hid (fun m => HX.out.step (below_drewn (Below.refl _ _) m))
      obtain ⟨⟨x0, x1, x2⟩, xf0, xf1, xf2⟩ := c3_at HX.out.bo.box
      obtain ⟨⟨y0, y1, y2⟩, yf0, yf1, yf2⟩ := c3_at HX.out.bo.res
      try dsimp only at x0 x1 x2
      have hbb := (head_row HX.out.bo.box).lt
      have hrr := (head_row HX.out.bo.res).lt
      go_wp2_with fail
      go_quiet (first | (go_at_call 48; with_reducible exact KMN.out _) | (go_at_call 80; with_reducible exact KRM.out _ _))
      go_wp2
      exact bodyPost_ret (v := .agg (l12C s.c (.slice F1 xs.length d1) (.slice F2 n2 d2))) (by simp [results, Tryz.results78, go_sem, y0, y1, y2]) rfl (by rw [HE.out]; exact (HYD.out _).done)
structure Af (w wr : World) (s σ : L12) (u1 u2 : Value) : Prop where
  bx : Bx12 w wr T12 w.heap.size (w.heap.size + 1) σ u1 u2
  li : L12.fgN (nk 0 σ.s - s.c) σ = s.forget
  fine : σ.Fine
  c : σ.c = s.c
  sl : σ.s.length ≤ 10000000
set_option maxHeartbeats 1000000 in
theorem r12forget_walk (hs : St12 w s u1 u2) (fine : s.Fine) (hc : s.c ≤ 1048576) (hsl : s.s.length ≤ 10000000) : Calls Tryz.prog 81 #[.agg (l12C s.c u1 u2)] w (P12 w s.forget) := by
  obtain ⟨F1, n1, d1, rfl⟩ := hs.form1
  obtain ⟨F2, n2, d2, rfl⟩ := hs.form2
  have hx0 := Bx12.start w T12 (by decide) hs
  have HI0 : Hid (Af w ((w.alloc (.cells (l12C s.c (.slice F1 n1 d1) (.slice F2 n2 d2)) T12)).alloc (.cells z12 T12)) s s (.slice F1 n1 d1) (.slice F2 n2 d2)) := Lib.hid ⟨hx0, rfl, fine, rfl, hsl⟩
  have hcI : (s.c : Int) ≤ 1048576 := by omega
  clear hs hx0 fine hsl
  go_enter Tryz.func81, Tryz.ntmps81
  go_wp2_with fail
  generalize World.alloc _ (.cells z12 T12) = W0 at HI0 ⊢
  go_loopg [] (nk 0 s.s - s.c) (fun gg wr => ∃ (σ : L12) (u1 u2 : Value), gg = nk 0 σ.s - s.c ∧ Hid (Af w wr s σ u1 u2))
  case atStart => exact ⟨s, _, _, rfl, HI0⟩
  case round =>
    clear HI0
    obtain ⟨σ, u1, u2, hi, HI⟩ := hrel
    obtain ⟨F1, d1, rfl, -⟩ := HI.out.bx.st.g1.mem
    obtain ⟨F2, n2, d2, rfl⟩ := HI.out.bx.st.form2
    obtain ⟨cσ, xs, q⟩ := σ
    obtain rfl : cσ = s.c := HI.out.c
    dsimp only at HI hi
    obtain ⟨⟨x0, x1, x2⟩, xf0, xf1, xf2⟩ := c3_at HI.out.bx.bo.box
    have hbb := (head_row HI.out.bx.bo.box).lt
    try dsimp only at x0 x1 x2
    have hsl : xs.length ≤ 10000000 := HI.out.sl
    have KMN : Hid (∀ m : Nat, Calls Tryz.prog 48 #[.slice F1 xs.length d1, .int .i64 0] (wr.drewN m) fun e w'' => e = .returned (.int .i64 (nk 0 xs : Nat)) ∧ ∃ m', w'' = wr.drewN m') := Lib.hid (fun m : Nat => many_quiet (w := wr) HI.out.bx.st.g1 (by show xs.length ≤ _; omega) 0 m)
    have hn2 : nk 0 xs ≤ xs.length := List.countP_le_length
    obtain ⟨n, hn⟩ : ∃ n, nk 0 xs = n := ⟨_, rfl⟩
    have HN := Lib.hid hn
    rw [hn] at KMN hi hn2
    have hnI : (n : Int) ≤ 10000000 := by omega
    clear hn hn2
    by_cases hgt : s.c < n
    · have hgtI : (s.c : Int) < (n : Int) := by omega
      obtain ⟨f, hf⟩ : ∃ f, n - s.c = f + 1 := ⟨n - s.c - 1, by omega⟩
      have HC1 := Lib.hid (HI.out.fine.fg1 (by show 0 < nk 0 xs; rw [HN.out]; omega))
      have HLI := Lib.hid HI.out.li
      have HTL := Lib.hid HI.out.fine.tot_le
      have HX := Lib.hid HI.out.bx
      have KLO : Hid (∀ W, IV W (.slice F1 xs.length d1) xs → Calls Tryz.prog 113 #[.slice F1 xs.length d1, .int .i64 0] W fun e w2 => W = w2 ∧ ∃ (i : Nat) (hi : i < xs.length), e = .returned (.int .i64 (i : Nat)) ∧ xs[i].key = lastF 0 xs) := Lib.hid (fun W h => (lowest_in h (by omega) 0 (by show 0 < nk 0 xs; rw [HN.out]; omega)).mono (fun e w2 ⟨h1, i, hi, h2, _, h3⟩ => ⟨h1, i, hi, h2, h3⟩))
      have KCU : Hid (∀ W (i : Nat) (hi : i < xs.length), xs[i].key = lastF 0 xs → IV W (.slice F1 xs.length d1) xs → Calls Tryz.prog 82 #[.slice F1 xs.length d1, .int .i64 (i : Nat)] W (RetI12 W (wi (lastF 0 xs) xs))) := Lib.hid (fun W i hi hk h => by
        have h2 := r12cut_walk h (by omega) hi
        rw [cut_is HTL.out hi, hk] at h2
        exact h2)
      have HGK := Lib.hid hi
      have HHF := Lib.hid hf
      clear HI hi hf hgt
      go_wp2_with fail
      go_quiet (first | (go_at_call 48; with_reducible exact KMN.out _))
      clear KMN
      go_wp2_with fail
      have HXD : Hid (∀ m, Bx12 w (wr.drewN m) T12 w.heap.size (w.heap.size + 1) ⟨s.c, xs, q⟩ (.slice F1 xs.length d1) (.slice F2 n2 d2)) := Lib.hid (fun m => HX.out.step (below_drewn (Below.refl _ _) m))
      have hxq := HXD.out nq
      generalize wr.drewN nq = wq at hxq ⊢
      clear HXD HX x0 x1 x2 xf0 xf1 xf2 hbb
      have HX := Lib.hid hxq
      obtain ⟨⟨x0, x1, x2⟩, xf0, xf1, xf2⟩ := c3_at hxq.bo.box
      try dsimp only at x0 x1 x2
      have hbb := (head_row hxq.bo.box).lt
      clear hxq
      go_region_law
        (first
          | (go_simp; go_at_call 113; refine (KLO.out _ (HX.out.step (below_drewn (Below.refl _ _) 1)).st.g1).mono ?_; rintro e w2 ⟨rfl, i, hix, rfl, hik⟩)
          | (go_simp; go_at_call 82; refine (KCU.out _ i hix hik (HX.out.step (below_drewn (Below.refl _ _) 1)).st.g1).mono ?_; rintro e w3 ⟨v3, rfl, hb3, hv3, -⟩; obtain ⟨Fc, nc, dc, rfl⟩ := hv3.form; have hb4 := (below_drewn (Below.refl wq.heap.size wq) 1).trans hb3; obtain ⟨⟨xx0, xx1, xx2⟩, xxf0, xxf1, xxf2⟩ := c3_at (HX.out.step hb4).bo.box; have hbb2 := (head_row (HX.out.step hb4).bo.box).lt))
      all_goals
        have HNX : Hid (nk 0 (L12.fg1 ⟨s.c, xs, q⟩).s - s.c = f) := Lib.hid (by have h1 := HC1.out.2.2.1; have h2 := HN.out; have h3 := HHF.out; omega)
        have HAF : Hid (Af w (w3.setCell ⟨w.heap.size, 1, none⟩ (.slice Fc nc dc)) s (L12.fg1 ⟨s.c, xs, q⟩) (.slice Fc nc dc) (.slice F2 n2 d2)) := Lib.hid ⟨(HX.out.step hb4).set1 hv3, by
          have h1 := HLI.out
          rw [HN.out, HHF.out] at h1
          rw [HNX.out]
          exact h1, HC1.out.1, rfl, by show (wi (lastF 0 xs) xs).length ≤ _; have := wi_len (k := lastF 0 xs) (s := xs); omega⟩
        have hgf : f < gk := by have := HGK.out; have := HHF.out; omega
        clear x0 x1 x2 xf0 xf1 xf2 hbb hb3 hb4 hv3 xx0 xx1 xx2 xxf0 xxf1 xxf2 hbb2 KLO KCU HX HC1
        go_wp2
        go_roundg f
        case measure => omega
        case rel => exact ⟨_, _, _, HNX.out.symm, HAF⟩
    · have hgtI : ¬ (s.c : Int) < (n : Int) := by omega
      have HE : Hid (P12 w s.forget = P12 w ⟨s.c, xs, q⟩) := Lib.hid (by
        have h1 := HI.out.li
        dsimp only at h1
        rw [HN.out, show n - s.c = 0 by omega] at h1
        rw [← h1]
        rfl)
      have HX := Lib.hid HI.out.bx
      clear x0 x1 x2 xf0 xf1 xf2 hbb HI hi
      have HYD : Hid (∀ m, Bx12 w (wr.drewN m) T12 w.heap.size (w.heap.size + 1) ⟨s.c, xs, q⟩ (.slice F1 xs.length d1) (.slice F2 n2 d2)) := Lib.hid (fun m => HX.out.step (below_drewn (Below.refl _ _) m))
      obtain ⟨⟨x0, x1, x2⟩, xf0, xf1, xf2⟩ := c3_at HX.out.bo.box
      obtain ⟨⟨y0, y1, y2⟩, yf0, yf1, yf2⟩ := c3_at HX.out.bo.res
      try dsimp only at x0 x1 x2
      have hbb := (head_row HX.out.bo.box).lt
      have hrr := (head_row HX.out.bo.res).lt
      go_wp2_with fail
      go_quiet (first | (go_at_call 48; with_reducible exact KMN.out _))
      go_wp2
      exact bodyPost_ret (v := .agg (l12C s.c (.slice F1 xs.length d1) (.slice F2 n2 d2))) (by simp [results, Tryz.results81, go_sem, y0, y1, y2]) rfl (by rw [HE.out]; exact (HYD.out _).done)
end
set_option maxRecDepth 8000
theorem setI_none {k f : Nat} {l : List It} (h : tot k l = 0) : setI k f l = l := by
  unfold setI
  refine (List.map_congr_left (fun y hy => ?_)).trans (List.map_id l)
  rw [if_neg]
  · rfl
  · rintro rfl
    have h2 : 0 < tot y.key l := tot_in.1 (List.mem_map_of_mem hy)
    omega
structure Ah (w wr : World) (s : L12) (N : Nat) (σ : L12) (u1 u2 v : Value) : Prop where
  bx : Bx12 w wr T12 w.heap.size (w.heap.size + 1) σ u1 u2
  ko : ∃ acc, KO w.heap.size w wr v acc ∧ acc ++ σ.q.take (σ.many N) = s.shrinkOut N
  li : L12.evN (σ.many N) σ = s.shrink N
  fine : σ.Fine
  c : σ.c = s.c
  h2 : nk 2 σ.s ≤ N
  bd : nk 0 σ.s + nk 2 σ.s + σ.q.length ≤ 9000000
  off : Off u1 v ∧ Off u2 v
theorem Ah.sl {w wr : World} {s σ : L12} {N : Nat} {u1 u2 v : Value} (h : Ah w wr s N σ u1 u2 v) : σ.s.length ≤ 10000000 := by
  have := h.fine.slen
  have := h.bd
  omega
theorem Off.tail {F : Option Addr} {n c i : Nat} {v : Value} (h : Off (.slice F n c) v) : Off (tailV F n c i) v := fun m d ad e => by
  unfold tailV at e
  injection e with e1 e2 e3
  obtain ⟨n', rfl⟩ : ∃ n', n = n' + 1 := ⟨n - 1, by omega⟩
  split at e1
  · subst e1
    exact h n' c ad rfl
  · cases F with
    | none => cases e1
    | some a =>
      injection e1 with e1
      subst e1
      rw [ad_block]
      exact h n' c a rfl
theorem KV.head {w : World} {F : Option Addr} {m c k : Nat} {qs : List Nat} (h : KV w (.slice F m c) (k :: qs)) : ∃ g off, F = some ⟨g, off, none⟩ ∧ g < w.heap.size ∧ w.cell? ⟨g, off, none⟩ = some (.int .u64 (k : Nat)) := by
  obtain ⟨F', c', e, _, _, h3⟩ := h.mem
  injection e with e1 e2 e3
  subst e1
  obtain ⟨ad, rfl, h4, h5⟩ := h3 0 (by simp)
  obtain ⟨g, off, sp⟩ := ad
  cases sp with
  | none =>
    rw [Addr.add_lit] at h5
    exact ⟨g, off, rfl, h4, by simpa using h5⟩
  | some s =>
    unfold World.cell? at h5
    simp [Addr.add] at h5
    split at h5 <;> cases h5
section
variable {w : World} {u1 u2 : Value} {s : L12}
set_option maxHeartbeats 1000000 in
set_option maxRecDepth 8000 in
theorem r12shrink_walk (hs : St12 w s u1 u2) (fine : s.Fine) (hbd : nk 0 s.s + nk 2 s.s + s.q.length ≤ 9000000) (N : Nat) (hN : N ≤ 1048576) (h2N : nk 2 s.s ≤ N) : Calls Tryz.prog 79 #[.agg (l12C s.c u1 u2), .int .i64 (N : Nat)] w (P12o w (s.shrink N) (s.shrinkOut N)) := by
  obtain ⟨F1, n1, d1, rfl⟩ := hs.form1
  obtain ⟨F2, n2, d2, rfl⟩ := hs.form2
  have hx0 := Bx12.start w T12 (by decide) hs
  have HI0 : Hid (Ah w ((w.alloc (.cells (l12C s.c (.slice F1 n1 d1) (.slice F2 n2 d2)) T12)).alloc (.cells z12 T12)) s N s (.slice F1 n1 d1) (.slice F2 n2 d2) (.slice none 0 0)) :=
    Lib.hid ⟨hx0, ⟨[], KO.nil hx0.bo.low, rfl⟩, rfl, fine, rfl, h2N, hbd, Off.nil _, Off.nil _⟩
  have HSL : Hid ((s.shrinkOut N).length ≤ 9000000) := Lib.hid (by
    unfold L12.shrinkOut
    rw [List.length_take]
    omega)
  have hNI : (N : Int) ≤ 1048576 := by omega
  clear hs hx0 fine hbd h2N
  go_enter Tryz.func79, Tryz.ntmps79
  go_wp2_with fail
  generalize World.alloc _ (.cells z12 T12) = W0 at HI0 ⊢
  go_loopg [6] (s.many N) (fun gg s6 wr => ∃ (σ : L12) (u1 u2 v6 : Value), gg = σ.many N ∧ v6 = s6 ∧ Hid (Ah w wr s N σ u1 u2 v6))
  case atStart => exact ⟨s, _, _, _, rfl, rfl, HI0⟩
  case round =>
    clear HI0
    obtain ⟨σ, u1, u2, v6, hi, rfl, HI⟩ := hrel
    obtain ⟨F1, d1, rfl, -⟩ := HI.out.bx.st.g1.mem
    obtain ⟨F2, d2, rfl, hcap, -, h3⟩ := HI.out.bx.st.g2.mem
    obtain ⟨cσ, xs, q⟩ := σ
    obtain rfl : cσ = s.c := HI.out.c
    dsimp only at HI hi h3
    obtain ⟨⟨x0, x1, x2⟩, xf0, xf1, xf2⟩ := c3_at HI.out.bx.bo.box
    have hbb := (head_row HI.out.bx.bo.box).lt
    try dsimp only at x0 x1 x2 hcap
    have hsl : xs.length ≤ 10000000 := HI.out.sl
    have KMN : Hid (∀ m : Nat, Calls Tryz.prog 48 #[.slice F1 xs.length d1, .int .i64 2] (wr.drewN m) fun e w'' => e = .returned (.int .i64 (nk 2 xs : Nat)) ∧ ∃ m', w'' = wr.drewN m') := Lib.hid (fun m : Nat => many_quiet (w := wr) HI.out.bx.st.g1 (by show xs.length ≤ _; omega) 2 m)
    have hmn : L12.many ⟨s.c, xs, q⟩ N = nk 2 xs + q.length - N := rfl
    have hbd : nk 0 xs + nk 2 xs + q.length ≤ 9000000 := HI.out.bd
    have hh2 : nk 2 xs ≤ N := HI.out.h2
    obtain ⟨n, hn⟩ : ∃ n, nk 2 xs = n := ⟨_, rfl⟩
    have HN := Lib.hid hn
    rw [hn] at KMN hbd hh2 hmn
    rw [hmn] at hi
    have hnI : (n : Int) ≤ 9000000 := by omega
    have hqI : (q.length : Int) ≤ 9000000 := by omega
    by_cases hgt : N < n + q.length
    · have hgtI : (N : Int) < (n : Int) + (q.length : Int) := by omega
      obtain ⟨f, hf⟩ : ∃ f, n + q.length - N = f + 1 := ⟨n + q.length - N - 1, by omega⟩
      obtain ⟨k, qs, rfl⟩ : ∃ k qs, q = k :: qs := List.exists_cons_of_length_pos (by omega)
      have hE1 : L12.ev1 ⟨s.c, xs, k :: qs⟩ = ⟨s.c, setI k 0 xs, qs⟩ := rfl
      have hev := HI.out.fine.ev1 (by show 0 < (k :: qs).length; simp)
      rw [hE1] at hev
      have HEV := Lib.hid hev
      have HLI := Lib.hid HI.out.li
      have HTL := Lib.hid HI.out.fine.tot_le
      obtain ⟨acc, hko, hac⟩ := HI.out.ko
      have HKO := Lib.hid hko
      have HAC := Lib.hid hac
      have HOF := Lib.hid HI.out.off
      obtain ⟨g, off, hF, hadb, q0⟩ := HI.out.bx.st.g2.head
      subst hF
      have HX := Lib.hid HI.out.bx
      have HBD := Lib.hid hbd
      have HGK := Lib.hid hi
      have HHF := Lib.hid hf
      have HMN := Lib.hid hmn
      have HH2 := Lib.hid hh2
      simp only [List.length_cons] at *
      obtain ⟨n2, hn2⟩ : ∃ n, qs.length = n := ⟨_, rfl⟩
      have HN2 := Lib.hid hn2
      have HLD : Hid (∀ m, Bx12 w (wr.drewN m) T12 w.heap.size (w.heap.size + 1) ⟨s.c, xs, k :: qs⟩ (.slice F1 xs.length d1) (.slice (some ⟨g, off, none⟩) (n2 + 1) d2) ∧ KO w.heap.size w (wr.drewN m) v6 acc ∧ (wr.drewN m).cell? ⟨g, off, none⟩ = some (.int .u64 (k : Nat))) := Lib.hid (fun m => ⟨by rw [← hn2]; exact HX.out.step (below_drewn (Below.refl _ _) m), HKO.out.drewn m, q0⟩)
      rw [hn2] at x2 hcap hqI hgtI HX HOF
      have hgtI2 : (N : Int) < (n : Int) + ((n2 : Int) + 1) := by omega
      clear HI hi hf hgt hE1 hev hko hac h3 hbd hmn hh2 hn hn2
      go_wp2_with fail
      go_quiet (first | (go_at_call 48; with_reducible exact KMN.out _))
      clear KMN x0 x1 x2 xf0 xf1 xf2 hbb q0 HX HKO
      obtain ⟨hx, hko, q0⟩ := HLD.out nq
      have hadb2 : g < (wr.drewN nq).heap.size := hadb
      generalize wr.drewN nq = wq at hx hko q0 hadb2 ⊢
      clear HLD hadb
      have HX := Lib.hid hx
      have HKO := Lib.hid hko
      obtain ⟨⟨x0, x1, x2⟩, xf0, xf1, xf2⟩ := c3_at hx.bo.box
      try dsimp only at x0 x1 x2
      have hbb := (head_row hx.bo.box).lt
      have HTA : Hid (KV wq (tailV (some ⟨g, off, none⟩) (n2 + 1) d2 1) qs) := Lib.hid (by
        have h := hx.st.g2
        rw [← HN2.out] at h
        have h1 := KV.tail (ks := k :: qs) h (i := 1) (by simp)
        rw [← HN2.out]
        exact h1)
      have HTO : Hid (Off (tailV (some ⟨g, off, none⟩) (n2 + 1) d2 1) v6) := Lib.hid HOF.out.2.tail
      clear hx hko
      go_upto_region 4 with fail
      go_cut [] (fun wx => ∃ Fq nq dq, Bx12 w wx T12 w.heap.size (w.heap.size + 1) ⟨s.c, xs, qs⟩ (.slice F1 xs.length d1) (.slice Fq nq dq) ∧ KO w.heap.size w wx v6 acc ∧ Off (.slice Fq nq dq) v6)
      case first =>
        by_cases hd : d2 = 1
        · subst hd
          obtain rfl : n2 = 0 := by omega
          rw [show tailV (some ⟨g, off, none⟩) (0 + 1) 1 1 = .slice (some ⟨g, off, none⟩) 0 0 by simp [tailV]] at HTA HTO
          have HF := Lib.hid (HX.out.set2 HTA.out)
          have HK2 := Lib.hid (HX.out.bo.ko ((Only.refl _ _).setCell (by simp) (.slice (some ⟨g, off, none⟩) 0 0)) HKO.out (w2 := wq.setCell ⟨w.heap.size, 2, none⟩ (.slice (some ⟨g, off, none⟩) 0 0)))
          go_wp2_with fail
          go_meet
          exact ⟨_, _, _, HF.out, HK2.out, HTO.out⟩
        · have hdI : ¬ (d2 : Int) = 1 := by omega
          have hd1I : (1 : Int) ≤ (d2 : Int) := by omega
          rw [show tailV (some ⟨g, off, none⟩) (n2 + 1) d2 1 = .slice (some ⟨g, off + 1, none⟩) n2 (d2 - 1) by simp [tailV, hd, Addr.add_lit]] at HTA HTO
          have HF := Lib.hid (HX.out.set2 HTA.out)
          have HK2 := Lib.hid (HX.out.bo.ko ((Only.refl _ _).setCell (by simp) (.slice (some ⟨g, off + 1, none⟩) n2 (d2 - 1))) HKO.out (w2 := wq.setCell ⟨w.heap.size, 2, none⟩ (.slice (some ⟨g, off + 1, none⟩) n2 (d2 - 1))))
          go_wp2_with fail
          go_meet
          exact ⟨_, _, _, HF.out, HK2.out, HTO.out⟩
      case rest =>
        obtain ⟨Fq, nq, dq, hxa, hka, hoa⟩ := hcut
        have HXA := Lib.hid hxa
        have HKA := Lib.hid hka
        have HOA := Lib.hid hoa
        rename_i wa
        clear x0 x1 x2 xf0 xf1 xf2 hbb HX HKO HTA HTO
        obtain ⟨⟨x0, x1, x2⟩, xf0, xf1, xf2⟩ := c3_at hxa.bo.box
        try dsimp only at x0 x1 x2
        have hbb := (head_row hxa.bo.box).lt
        have KPL := Lib.hid (r12place_walk hxa.st.g1 (by show xs.length ≤ _; omega) k)
        dsimp only at KPL
        clear hxa hka hoa
        go_wp2_with fail
        refine KPL.out.mono ?_
        rintro e w2 ⟨rfl, ⟨rfl, hno⟩ | ⟨i, hix, rfl, hik, -⟩⟩
        · have HYS : Hid (setI k 0 xs = xs) := Lib.hid (setI_none (by have := mt tot_in.2 hno; omega))
          clear KPL hno
          have HOW := Lib.hid (HKA.out.alloc HXA.out.bo.low.size (.cells #[.int .u64 (k : Nat)] 32))
          have HSRC := Lib.hid (KV.one wc k)
          have HBX := Lib.hid (HXA.out.step (low_one wc (.cells #[.int .u64 (k : Nat)] 32)))
          have hszA : w.heap.size ≤ (wc.alloc (.cells #[.int .u64 (k : Nat)] 32)).heap.size := HBX.out.bo.low.size
          have hal : acc.length ≤ 9000000 := by have h1 := congrArg List.length HAC.out; have h2 := HSL.out; rw [List.length_append] at h1; omega
          clear x0 x1 x2 xf0 xf1 xf2 hbb HXA HKA
          go_wp2_with (at_builtin; refine wpList_append_kv rfl (.tmp 37) (.tmp 39) rfl w.heap.size (by kernel_rfl) (by kernel_rfl) v6 acc rfl HOW.out _ [k] rfl HSRC.out (by simp; omega) hszA ?_)
          intro v7 w7 hown7 hkp hkt
          have hst := HBX.out.st
          obtain ⟨k1, f1⟩ := hkp.iv hst.g1 HOF.out.1
          obtain ⟨k2, f2⟩ := hkp.kv hst.g2 HOA.out
          have HNM : Hid (L12.many ⟨s.c, xs, qs⟩ N = f) := Lib.hid (by
            have h1 := HEV.out.2.1
            have h2 := HHF.out
            have h3 := HN.out
            show nk 2 xs + qs.length - N = f
            rw [HYS.out] at h1
            have h5 : nk 2 xs = nk 2 xs := h1
            omega)
          have HNX : Hid (Ah w w7 s N ⟨s.c, xs, qs⟩ (.slice F1 xs.length d1) (.slice Fq nq dq) v7) := Lib.hid
            ⟨⟨HBX.out.bo.kt hkt hown7.low, k1, k2⟩, ⟨acc ++ [k], hown7, by
              rw [HNM.out]
              have h1 := HAC.out
              rw [HMN.out, HHF.out] at h1
              rw [← h1]
              simp⟩, by
              rw [HNM.out]
              have h1 := HLI.out
              rw [HMN.out, HHF.out] at h1
              rw [← h1]
              show _ = L12.evN f ⟨s.c, setI k 0 xs, qs⟩
              rw [HYS.out], by have h1 := HEV.out.1; rw [HYS.out] at h1; exact h1, rfl, by
              have h1 := HEV.out.2.1
              have h2 := HH2.out
              have h3 := HN.out
              rw [HYS.out] at h1
              have h5 : nk 2 xs = nk 2 xs := h1
              show nk 2 xs ≤ N
              omega, by
              have h1 := HEV.out.2.1
              have h2 := HEV.out.2.2.2.2
              have h3 := HN.out
              have h4 := HBD.out
              rw [HYS.out] at h1 h2
              have h5 : nk 2 xs = nk 2 xs := h1
              have h6 : nk 0 xs ≤ nk 0 xs + 1 := h2
              show nk 0 xs + nk 2 xs + qs.length ≤ 9000000
              omega, f1, f2⟩
          have hgf : f < gk := by have := HGK.out; have := HHF.out; omega
          clear hst k1 f1 k2 f2 hown7 hkp hkt HOW HSRC HBX hszA hal HEV HLI HAC
          go_wp2
          go_roundg f
          case measure => omega
          case rel => exact ⟨⟨s.c, xs, qs⟩, _, _, _, HNM.out.symm, rfl, HNX⟩
        · have HSI : Hid (xs.set i ⟨xs[i].key, 0⟩ = setI k 0 xs) := Lib.hid (by rw [set_is HTL.out hix, hik])
          have KST := Lib.hid (r12set_walk HXA.out.st.g1 (by show xs.length ≤ _; omega) hix 0)
          dsimp only at KST
          rw [HSI.out] at KST
          clear KPL hik HSI
          go_wp2_with fail
          refine KST.out.mono ?_
          rintro e w3 ⟨v3, rfl, hb3, hv3, hnw⟩
          obtain ⟨Fs, ns, ds, rfl⟩ := hv3.form
          have hx3 := HXA.out.step hb3
          have hk3 := HKA.out.below HXA.out.bo.low.size hb3
          have HOT := Lib.hid (And.intro ((hnw (.slice F1 xs.length d1)).off HOF.out.1 HKA.out.lt) HOA.out)
          clear x0 x1 x2 xf0 xf1 xf2 hbb
          obtain ⟨⟨x0, x1, x2⟩, xf0, xf1, xf2⟩ := c3_at hx3.bo.box
          try dsimp only at x0 x1 x2
          have hbb := (head_row hx3.bo.box).lt
          have hy3 := hx3.set1 hv3
          have hky := hx3.bo.ko ((Only.refl _ _).setCell (by simp) (.slice Fs ns ds)) hk3 (w2 := w3.setCell ⟨w.heap.size, 1, none⟩ (.slice Fs ns ds))
          generalize hWa : w3.setCell ⟨w.heap.size, 1, none⟩ (.slice Fs ns ds) = w4 at hy3 hky
          have HWa := Lib.hid hWa
          have HXT := Lib.hid hy3
          have HKT := Lib.hid hky
          clear hx3 hy3 hWa hv3 hb3 hnw hk3 hky KST HXA HKA HOA
          go_upto_region 8 with fail
          rw [HWa.out]
          clear HWa x0 x1 x2 xf0 xf1 xf2 hbb
          obtain ⟨⟨x0, x1, x2⟩, xf0, xf1, xf2⟩ := c3_at HXT.out.bo.box
          try dsimp only at x0 x1 x2
          have hbb := (head_row HXT.out.bo.box).lt
          generalize hys : setI k 0 xs = ys at HXT HEV
          have HYS := Lib.hid hys
          clear hys
          have HOW := Lib.hid (HKT.out.alloc HXT.out.bo.low.size (.cells #[.int .u64 (k : Nat)] 32))
          have HSRC := Lib.hid (KV.one w4 k)
          have HBX := Lib.hid (HXT.out.step (low_one w4 (.cells #[.int .u64 (k : Nat)] 32)))
          have hszA : w.heap.size ≤ (w4.alloc (.cells #[.int .u64 (k : Nat)] 32)).heap.size := HBX.out.bo.low.size
          have hal : acc.length ≤ 9000000 := by have h1 := congrArg List.length HAC.out; have h2 := HSL.out; rw [List.length_append] at h1; omega
          clear x0 x1 x2 xf0 xf1 xf2 hbb HXT HKT
          go_wp2_with (at_builtin; refine wpList_append_kv rfl (.tmp 37) (.tmp 39) rfl w.heap.size (by kernel_rfl) (by kernel_rfl) v6 acc rfl HOW.out _ [k] rfl HSRC.out (by simp; omega) hszA ?_)
          intro v7 w7 hown7 hkp hkt
          have hst := HBX.out.st
          obtain ⟨k1, f1⟩ := hkp.iv hst.g1 HOT.out.1
          obtain ⟨k2, f2⟩ := hkp.kv hst.g2 HOT.out.2
          have HNM : Hid (L12.many ⟨s.c, ys, qs⟩ N = f) := Lib.hid (by
            have h1 := HEV.out.2.1
            have h2 := HHF.out
            have h3 := HN.out
            show nk 2 ys + qs.length - N = f
            have h5 : nk 2 ys = nk 2 xs := h1
            omega)
          have HNX : Hid (Ah w w7 s N ⟨s.c, ys, qs⟩ (.slice Fs ns ds) (.slice Fq nq dq) v7) := Lib.hid
            ⟨⟨HBX.out.bo.kt hkt hown7.low, k1, k2⟩, ⟨acc ++ [k], hown7, by
              rw [HNM.out]
              have h1 := HAC.out
              rw [HMN.out, HHF.out] at h1
              rw [← h1]
              simp⟩, by
              rw [HNM.out]
              have h1 := HLI.out
              rw [HMN.out, HHF.out] at h1
              rw [← h1]
              show _ = L12.evN f ⟨s.c, setI k 0 xs, qs⟩
              rw [HYS.out], by have h1 := HEV.out.1; exact h1, rfl, by
              have h1 := HEV.out.2.1
              have h2 := HH2.out
              have h3 := HN.out
              have h5 : nk 2 ys = nk 2 xs := h1
              show nk 2 ys ≤ N
              omega, by
              have h1 := HEV.out.2.1
              have h2 := HEV.out.2.2.2.2
              have h3 := HN.out
              have h4 := HBD.out
              have h5 : nk 2 ys = nk 2 xs := h1
              have h6 : nk 0 ys ≤ nk 0 xs + 1 := h2
              show nk 0 ys + nk 2 ys + qs.length ≤ 9000000
              omega, f1, f2⟩
          have hgf : f < gk := by have := HGK.out; have := HHF.out; omega
          clear hst k1 f1 k2 f2 hown7 hkp hkt HOW HSRC HBX hszA hal HEV HLI HAC
          go_wp2
          go_roundg f
          case measure => omega
          case rel => exact ⟨⟨s.c, ys, qs⟩, _, _, _, HNM.out.symm, rfl, HNX⟩
    · have hgtI : ¬ (N : Int) < (n : Int) + (q.length : Int) := by omega
      obtain ⟨acc, hko, h2⟩ := HI.out.ko
      have HE : Hid (P12o w (s.shrink N) (s.shrinkOut N) = P12o w ⟨s.c, xs, q⟩ acc) := Lib.hid (by
        have h1 := HI.out.li
        have e0 : L12.many ⟨s.c, xs, q⟩ N = 0 := by rw [hmn]; omega
        rw [e0] at h1 h2
        rw [← h1, ← h2]
        simp [L12.evN])
      have HX := Lib.hid HI.out.bx
      have HV := Lib.hid hko.kv
      clear x0 x1 x2 xf0 xf1 xf2 hbb hi hmn h3
      have HYD : Hid (∀ m, Bx12 w (wr.drewN m) T12 w.heap.size (w.heap.size + 1) ⟨s.c, xs, q⟩ (.slice F1 xs.length d1) (.slice F2 q.length d2)) := Lib.hid (fun m => HX.out.step (below_drewn (Below.refl _ _) m))
      have HVD : Hid (∀ m, KV (wr.drewN m) v6 acc) := Lib.hid (fun m => HV.out.drewn m)
      obtain ⟨⟨x0, x1, x2⟩, xf0, xf1, xf2⟩ := c3_at HX.out.bo.box
      obtain ⟨⟨y0, y1, y2⟩, yf0, yf1, yf2⟩ := c3_at HX.out.bo.res
      try dsimp only at x0 x1 x2
      have hbb := (head_row HX.out.bo.box).lt
      have hrr := (head_row HX.out.bo.res).lt
      clear HI hko h2
      go_wp2_with fail
      go_quiet (first | (go_at_call 48; with_reducible exact KMN.out _))
      go_wp2
      exact bodyPost_ret (v := .tuple #[.agg (l12C s.c (.slice F1 xs.length d1) (.slice F2 q.length d2)), v6]) (by simp [results, Tryz.results79, go_sem, y0, y1, y2]) rfl (by rw [HE.out]; exact (HYD.out _).doneo (HVD.out _))
end
end Go.Proofs.YtkhikpnlpcankaaGreat
