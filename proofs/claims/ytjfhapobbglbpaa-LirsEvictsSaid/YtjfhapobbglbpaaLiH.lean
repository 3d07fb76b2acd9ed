/- Inter-reference recency, the document's own: keys are evicted. -/
import Derived.Test.YtjfhapobbglbpaaLiN
import Derived.Test.YtjfhapobbglbpaaPoC
import Derived.Deep.DeepCutAuto
namespace Go.Proofs.Ytjfhapobbglbpaa
open Go Go.RowKit Go.Deep

theorem setI_none {k f : Nat} {l : List It} (h : tot k l = 0) : setI k f l = l := by
  unfold setI
  refine (List.map_congr_left (fun y hy => ?_)).trans (List.map_id l)
  rw [if_neg]
  · rfl
  · rintro rfl
    have h2 : 0 < tot y.key l := tot_in.1 (List.mem_map_of_mem hy)
    omega
/- Where the loop stands: the state is σ; v: what was evicted. -/
structure Ah (w wr : World) (s : L12) (N : Nat) (σ : L12) (u1 u2 v : Value) : Prop where
  bx : Bx12 w wr T12 w.heap.size (w.heap.size + 1) σ u1 u2
  ko : ∃ acc, KO w.heap.size w wr v acc ∧ acc ++ σ.q.take (σ.many N) = s.shrinkOut N
  li : L12.evN (σ.many N) σ = s.shrink N
  fine : σ.Fine
  c : σ.c = s.c
  h2 : nk 2 σ.s ≤ N
  bd : nk 0 σ.s + nk 2 σ.s + σ.q.length ≤ 9000000
  off : Off u1 v ∧ Off u2 v
theorem Ah.sl {w wr : World} {s σ : L12} {N : Nat} {u1 u2 v : Value} (h : Ah w wr s N σ u1 u2 v) : σ.s.length ≤ 10000000 := by
  have := h.fine.slen
  have := h.bd
  omega
/- The row of a tail lies where the row lies. -/
theorem Off.tail {F : Option Addr} {n c i : Nat} {v : Value} (h : Off (.slice F n c) v) : Off (tailV F n c i) v := fun m d ad e => by
  unfold tailV at e
  injection e with e1 e2 e3
  obtain ⟨n', rfl⟩ : ∃ n', n = n' + 1 := ⟨n - 1, by omega⟩
  split at e1
  · subst e1
    exact h n' c ad rfl
  · cases F with
    | none => cases e1
    | some a =>
      injection e1 with e1
      subst e1
      rw [ad_block]
      exact h n' c a rfl
theorem KV.head {w : World} {F : Option Addr} {m c k : Nat} {qs : List Nat} (h : KV w (.slice F m c) (k :: qs)) : ∃ g off, F = some ⟨g, off, none⟩ ∧ g < w.heap.size ∧ w.cell? ⟨g, off, none⟩ = some (.int .u64 (k : Nat)) := by
  obtain ⟨F', c', e, _, _, h3⟩ := h.mem
  injection e with e1 e2 e3
  subst e1
  obtain ⟨ad, rfl, h4, h5⟩ := h3 0 (by simp)
  obtain ⟨g, off, sp⟩ := ad
  cases sp with
  | none =>
    rw [Addr.add_lit] at h5
    exact ⟨g, off, rfl, h4, by simpa using h5⟩
  | some s =>
    unfold World.cell? at h5
    simp [Addr.add] at h5
    split at h5 <;> cases h5
section
variable {w : World} {u1 u2 : Value} {s : L12}
set_option maxHeartbeats 1000000 in
set_option maxRecDepth 4000 in
theorem r12shrink_walk (hs : St12 w s u1 u2) (fine : s.Fine) (hbd : nk 0 s.s + nk 2 s.s + s.q.length ≤ 9000000) (N : Nat) (hN : N ≤ 1048576) (h2N : nk 2 s.s ≤ N) : Calls Try.prog 57 #[.agg (l12C s.c u1 u2), .int .i64 (N : Nat)] w (P12o w (s.shrink N) (s.shrinkOut N)) := by
  obtain ⟨F1, n1, d1, rfl⟩ := hs.form1
  obtain ⟨F2, n2, d2, rfl⟩ := hs.form2
  have hx0 := Bx12.start w T12 (by decide) hs
  have HI0 : Hid (Ah w ((w.alloc (.cells (l12C s.c (.slice F1 n1 d1) (.slice F2 n2 d2)) T12)).alloc (.cells z12 T12)) s N s (.slice F1 n1 d1) (.slice F2 n2 d2) (.slice none 0 0)) :=
    Lib.hid ⟨hx0, ⟨[], KO.nil hx0.bo.low, rfl⟩, rfl, fine, rfl, h2N, hbd, Off.nil _, Off.nil _⟩
  have HSL : Hid ((s.shrinkOut N).length ≤ 9000000) := Lib.hid (by
    unfold L12.shrinkOut
    rw [List.length_take]
    omega)
  have hNI : (N : Int) ≤ 1048576 := by omega
  clear hs hx0 fine hbd h2N
  go_enter Try.func57, Try.ntmps57
  go_wp2_with fail
  generalize World.alloc _ (.cells z12 T12) = W0 at HI0 ⊢
  go_loopg [6] (s.many N) (fun gg s6 wr => ∃ (σ : L12) (u1 u2 v6 : Value), gg = σ.many N ∧ v6 = s6 ∧ Hid (Ah w wr s N σ u1 u2 v6))
  case atStart => exact ⟨s, _, _, _, rfl, rfl, HI0⟩
  case round =>
    clear HI0
    obtain ⟨σ, u1, u2, v6, hi, rfl, HI⟩ := hrel
    obtain ⟨F1, d1, rfl, -⟩ := HI.out.bx.st.g1.mem
    obtain ⟨F2, d2, rfl, hcap, -, h3⟩ := HI.out.bx.st.g2.mem
    obtain ⟨cσ, xs, q⟩ := σ
    obtain rfl : cσ = s.c := HI.out.c
    dsimp only at HI hi h3
    obtain ⟨⟨x0, x1, x2⟩, xf0, xf1, xf2⟩ := c3_at HI.out.bx.bo.box
    have hbb := (head_row HI.out.bx.bo.box).lt
    try dsimp only at x0 x1 x2 hcap
    have hsl : xs.length ≤ 10000000 := HI.out.sl
    have KMN : Hid (∀ m : Nat, Calls Try.prog 40 #[.slice F1 xs.length d1, .int .i64 2] (wr.drewN m) fun e w'' => e = .returned (.int .i64 (nk 2 xs : Nat)) ∧ ∃ m', w'' = wr.drewN m') := Lib.hid (fun m : Nat => many_quiet (w := wr) HI.out.bx.st.g1 (by show xs.length ≤ _; omega) 2 m)
    have hmn : L12.many ⟨s.c, xs, q⟩ N = nk 2 xs + q.length - N := rfl
    have hbd : nk 0 xs + nk 2 xs + q.length ≤ 9000000 := HI.out.bd
    have hh2 : nk 2 xs ≤ N := HI.out.h2
    obtain ⟨n, hn⟩ : ∃ n, nk 2 xs = n := ⟨_, rfl⟩
    have HN := Lib.hid hn
    rw [hn] at KMN hbd hh2 hmn
    rw [hmn] at hi
    have hnI : (n : Int) ≤ 9000000 := by omega
    have hqI : (q.length : Int) ≤ 9000000 := by omega
    by_cases hgt : N < n + q.length
    · have hgtI : (N : Int) < (n : Int) + (q.length : Int) := by omega
      obtain ⟨f, hf⟩ : ∃ f, n + q.length - N = f + 1 := ⟨n + q.length - N - 1, by omega⟩
      obtain ⟨k, qs, rfl⟩ : ∃ k qs, q = k :: qs := List.exists_cons_of_length_pos (by omega)
      have hE1 : L12.ev1 ⟨s.c, xs, k :: qs⟩ = ⟨s.c, setI k 0 xs, qs⟩ := rfl
      have hev := HI.out.fine.ev1 (by show 0 < (k :: qs).length; simp)
      rw [hE1] at hev
      have HEV := Lib.hid hev
      have HLI := Lib.hid HI.out.li
      have HTL := Lib.hid HI.out.fine.tot_le
      obtain ⟨acc, hko, hac⟩ := HI.out.ko
      have HKO := Lib.hid hko
      have HAC := Lib.hid hac
      have HOF := Lib.hid HI.out.off
      obtain ⟨g, off, hF, hadb, q0⟩ := HI.out.bx.st.g2.head
      subst hF
      have HX := Lib.hid HI.out.bx
      have HBD := Lib.hid hbd
      have HGK := Lib.hid hi
      have HHF := Lib.hid hf
      have HMN := Lib.hid hmn
      have HH2 := Lib.hid hh2
      simp only [List.length_cons] at *
      obtain ⟨n2, hn2⟩ : ∃ n, qs.length = n := ⟨_, rfl⟩
      have HN2 := Lib.hid hn2
      have HLD : Hid (∀ m, Bx12 w (wr.drewN m) T12 w.heap.size (w.heap.size + 1) ⟨s.c, xs, k :: qs⟩ (.slice F1 xs.length d1) (.slice (some ⟨g, off, none⟩) (n2 + 1) d2) ∧ KO w.heap.size w (wr.drewN m) v6 acc ∧ (wr.drewN m).cell? ⟨g, off, none⟩ = some (.int .u64 (k : Nat))) := Lib.hid (fun m => ⟨by rw [← hn2]; exact HX.out.step (below_drewn (Below.refl _ _) m), HKO.out.drewn m, q0⟩)
      rw [hn2] at x2 hcap hqI hgtI HX HOF
      have hgtI2 : (N : Int) < (n : Int) + ((n2 : Int) + 1) := by omega
      clear HI hi hf hgt hE1 hev hko hac h3 hbd hmn hh2 hn hn2
      go_wp2_with fail
      go_quiet (first | (go_at_call 40; with_reducible exact KMN.out _))
      clear KMN x0 x1 x2 xf0 xf1 xf2 hbb q0 HX HKO
      obtain ⟨hx, hko, q0⟩ := HLD.out nq
      have hadb2 : g < (wr.drewN nq).heap.size := hadb
      generalize wr.drewN nq = wq at hx hko q0 hadb2 ⊢
      clear HLD hadb
      have HX := Lib.hid hx
      have HKO := Lib.hid hko
      obtain ⟨⟨x0, x1, x2⟩, xf0, xf1, xf2⟩ := c3_at hx.bo.box
      try dsimp only at x0 x1 x2
      have hbb := (head_row hx.bo.box).lt
      have HTA : Hid (KV wq (tailV (some ⟨g, off, none⟩) (n2 + 1) d2 1) qs) := Lib.hid (by
        have h := hx.st.g2
        rw [← HN2.out] at h
        have h1 := KV.tail (ks := k :: qs) h (i := 1) (by simp)
        rw [← HN2.out]
        exact h1)
      have HTO : Hid (Off (tailV (some ⟨g, off, none⟩) (n2 + 1) d2 1) v6) := Lib.hid HOF.out.2.tail
      clear hx hko
      go_upto_region 4 with fail
      go_cut [] (fun wx => ∃ Fq nq dq, Bx12 w wx T12 w.heap.size (w.heap.size + 1) ⟨s.c, xs, qs⟩ (.slice F1 xs.length d1) (.slice Fq nq dq) ∧ KO w.heap.size w wx v6 acc ∧ Off (.slice Fq nq dq) v6)
      case first =>
        by_cases hd : d2 = 1
        · subst hd
          obtain rfl : n2 = 0 := by omega
          rw [show tailV (some ⟨g, off, none⟩) (0 + 1) 1 1 = .slice (some ⟨g, off, none⟩) 0 0 by simp [tailV]] at HTA HTO
          have HF := Lib.hid (HX.out.set2 HTA.out)
          have HK2 := Lib.hid (HX.out.bo.ko ((Only.refl _ _).setCell (by simp) (.slice (some ⟨g, off, none⟩) 0 0)) HKO.out (w2 := wq.setCell ⟨w.heap.size, 2, none⟩ (.slice (some ⟨g, off, none⟩) 0 0)))
          go_wp2_with fail
          go_meet
          exact ⟨_, _, _, HF.out, HK2.out, HTO.out⟩
        · have hdI : ¬ (d2 : Int) = 1 := by omega
          have hd1I : (1 : Int) ≤ (d2 : Int) := by omega
          rw [show tailV (some ⟨g, off, none⟩) (n2 + 1) d2 1 = .slice (some ⟨g, off + 1, none⟩) n2 (d2 - 1) by simp [tailV, hd, Addr.add_lit]] at HTA HTO
          have HF := Lib.hid (HX.out.set2 HTA.out)
          have HK2 := Lib.hid (HX.out.bo.ko ((Only.refl _ _).setCell (by simp) (.slice (some ⟨g, off + 1, none⟩) n2 (d2 - 1))) HKO.out (w2 := wq.setCell ⟨w.heap.size, 2, none⟩ (.slice (some ⟨g, off + 1, none⟩) n2 (d2 - 1))))
          go_wp2_with fail
          go_meet
          exact ⟨_, _, _, HF.out, HK2.out, HTO.out⟩
      case rest =>
        obtain ⟨Fq, nq, dq, hxa, hka, hoa⟩ := hcut
        have HXA := Lib.hid hxa
        have HKA := Lib.hid hka
        have HOA := Lib.hid hoa
        rename_i wa
        clear x0 x1 x2 xf0 xf1 xf2 hbb HX HKO HTA HTO
        obtain ⟨⟨x0, x1, x2⟩, xf0, xf1, xf2⟩ := c3_at hxa.bo.box
        try dsimp only at x0 x1 x2
        have hbb := (head_row hxa.bo.box).lt
        have KPL := Lib.hid (r12place_walk hxa.st.g1 (by show xs.length ≤ _; omega) k)
        dsimp only at KPL
        clear hxa hka hoa
        go_wp2_with fail
        refine KPL.out.mono ?_
        rintro e w2 ⟨rfl, ⟨rfl, hno⟩ | ⟨i, hix, rfl, hik, -⟩⟩
        · have HYS : Hid (setI k 0 xs = xs) := Lib.hid (setI_none (by have := mt tot_in.2 hno; omega))
          clear KPL hno
          have HOW := Lib.hid (HKA.out.alloc HXA.out.bo.low.size (.cells #[.int .u64 (k : Nat)] 35))
          have HSRC := Lib.hid (KV.one wc k)
          have HBX := Lib.hid (HXA.out.step (low_one wc (.cells #[.int .u64 (k : Nat)] 35)))
          have hszA : w.heap.size ≤ (wc.alloc (.cells #[.int .u64 (k : Nat)] 35)).heap.size := HBX.out.bo.low.size
          have hal : acc.length ≤ 9000000 := by have h1 := congrArg List.length HAC.out; have h2 := HSL.out; rw [List.length_append] at h1; omega
          clear x0 x1 x2 xf0 xf1 xf2 hbb HXA HKA
          go_wp2_with (at_builtin; refine wpList_append_kv rfl (.tmp 37) (.tmp 39) rfl w.heap.size (by kernel_rfl) (by kernel_rfl) v6 acc rfl HOW.out _ [k] rfl HSRC.out (by simp; omega) hszA ?_)
          intro v7 w7 hown7 hkp hkt
          have hst := HBX.out.st
          obtain ⟨k1, f1⟩ := hkp.iv hst.g1 HOF.out.1
          obtain ⟨k2, f2⟩ := hkp.kv hst.g2 HOA.out
          have HNM : Hid (L12.many ⟨s.c, xs, qs⟩ N = f) := Lib.hid (by
            have h1 := HEV.out.2.1
            have h2 := HHF.out
            have h3 := HN.out
            show nk 2 xs + qs.length - N = f
            rw [HYS.out] at h1
            have h5 : nk 2 xs = nk 2 xs := h1
            omega)
          have HNX : Hid (Ah w w7 s N ⟨s.c, xs, qs⟩ (.slice F1 xs.length d1) (.slice Fq nq dq) v7) := Lib.hid
            ⟨⟨HBX.out.bo.kt hkt hown7.low, k1, k2⟩, ⟨acc ++ [k], hown7, by
              rw [HNM.out]
              have h1 := HAC.out
              rw [HMN.out, HHF.out] at h1
              rw [← h1]
              simp⟩, by
              rw [HNM.out]
              have h1 := HLI.out
              rw [HMN.out, HHF.out] at h1
              rw [← h1]
              show _ = L12.evN f ⟨s.c, setI k 0 xs, qs⟩
              rw [HYS.out], by have h1 := HEV.out.1; rw [HYS.out] at h1; exact h1, rfl, by
              have h1 := HEV.out.2.1
              have h2 := HH2.out
              have h3 := HN.out
              rw [HYS.out] at h1
              have h5 : nk 2 xs = nk 2 xs := h1
              show nk 2 xs ≤ N
              omega, by
              have h1 := HEV.out.2.1
              have h2 := HEV.out.2.2.2.2
              have h3 := HN.out
              have h4 := HBD.out
              rw [HYS.out] at h1 h2
              have h5 : nk 2 xs = nk 2 xs := h1
              have h6 : nk 0 xs ≤ nk 0 xs + 1 := h2
              show nk 0 xs + nk 2 xs + qs.length ≤ 9000000
              omega, f1, f2⟩
          have hgf : f < gk := by have := HGK.out; have := HHF.out; omega
          clear hst k1 f1 k2 f2 hown7 hkp hkt HOW HSRC HBX hszA hal HEV HLI HAC
          go_wp2
          go_roundg f
          case measure => omega
          case rel => exact ⟨⟨s.c, xs, qs⟩, _, _, _, HNM.out.symm, rfl, HNX⟩
        · have HSI : Hid (xs.set i ⟨xs[i].key, 0⟩ = setI k 0 xs) := Lib.hid (by rw [set_is HTL.out hix, hik])
          have KST := Lib.hid (r12set_walk HXA.out.st.g1 (by show xs.length ≤ _; omega) hix 0)
          dsimp only at KST
          rw [HSI.out] at KST
          clear KPL hik HSI
          go_wp2_with fail
          refine KST.out.mono ?_
          rintro e w3 ⟨v3, rfl, hb3, hv3, hnw⟩
          obtain ⟨Fs, ns, ds, rfl⟩ := hv3.form
          have hx3 := HXA.out.step hb3
          have hk3 := HKA.out.below HXA.out.bo.low.size hb3
          have HOT := Lib.hid (And.intro ((hnw (.slice F1 xs.length d1)).off HOF.out.1 HKA.out.lt) HOA.out)
          clear x0 x1 x2 xf0 xf1 xf2 hbb
          obtain ⟨⟨x0, x1, x2⟩, xf0, xf1, xf2⟩ := c3_at hx3.bo.box
          try dsimp only at x0 x1 x2
          have hbb := (head_row hx3.bo.box).lt
          have hy3 := hx3.set1 hv3
          have hky := hx3.bo.ko ((Only.refl _ _).setCell (by simp) (.slice Fs ns ds)) hk3 (w2 := w3.setCell ⟨w.heap.size, 1, none⟩ (.slice Fs ns ds))
          generalize hWa : w3.setCell ⟨w.heap.size, 1, none⟩ (.slice Fs ns ds) = w4 at hy3 hky
          have HWa := Lib.hid hWa
          have HXT := Lib.hid hy3
          have HKT := Lib.hid hky
          clear hx3 hy3 hWa hv3 hb3 hnw hk3 hky KST HXA HKA HOA
          go_upto_region 8 with fail
          rw [HWa.out]
          clear HWa x0 x1 x2 xf0 xf1 xf2 hbb
          obtain ⟨⟨x0, x1, x2⟩, xf0, xf1, xf2⟩ := c3_at HXT.out.bo.box
          try dsimp only at x0 x1 x2
          have hbb := (head_row HXT.out.bo.box).lt
          generalize hys : setI k 0 xs = ys at HXT HEV
          have HYS := Lib.hid hys
          clear hys
          have HOW := Lib.hid (HKT.out.alloc HXT.out.bo.low.size (.cells #[.int .u64 (k : Nat)] 35))
          have HSRC := Lib.hid (KV.one w4 k)
          have HBX := Lib.hid (HXT.out.step (low_one w4 (.cells #[.int .u64 (k : Nat)] 35)))
          have hszA : w.heap.size ≤ (w4.alloc (.cells #[.int .u64 (k : Nat)] 35)).heap.size := HBX.out.bo.low.size
          have hal : acc.length ≤ 9000000 := by have h1 := congrArg List.length HAC.out; have h2 := HSL.out; rw [List.length_append] at h1; omega
          clear x0 x1 x2 xf0 xf1 xf2 hbb HXT HKT
          go_wp2_with (at_builtin; refine wpList_append_kv rfl (.tmp 37) (.tmp 39) rfl w.heap.size (by kernel_rfl) (by kernel_rfl) v6 acc rfl HOW.out _ [k] rfl HSRC.out (by simp; omega) hszA ?_)
          intro v7 w7 hown7 hkp hkt
          have hst := HBX.out.st
          obtain ⟨k1, f1⟩ := hkp.iv hst.g1 HOT.out.1
          obtain ⟨k2, f2⟩ := hkp.kv hst.g2 HOT.out.2
          have HNM : Hid (L12.many ⟨s.c, ys, qs⟩ N = f) := Lib.hid (by
            have h1 := HEV.out.2.1
            have h2 := HHF.out
            have h3 := HN.out
            show nk 2 ys + qs.length - N = f
            have h5 : nk 2 ys = nk 2 xs := h1
            omega)
          have HNX : Hid (Ah w w7 s N ⟨s.c, ys, qs⟩ (.slice Fs ns ds) (.slice Fq nq dq) v7) := Lib.hid
            ⟨⟨HBX.out.bo.kt hkt hown7.low, k1, k2⟩, ⟨acc ++ [k], hown7, by
              rw [HNM.out]
              have h1 := HAC.out
              rw [HMN.out, HHF.out] at h1
              rw [← h1]
              simp⟩, by
              rw [HNM.out]
              have h1 := HLI.out
              rw [HMN.out, HHF.out] at h1
              rw [← h1]
              show _ = L12.evN f ⟨s.c, setI k 0 xs, qs⟩
              rw [HYS.out], by have h1 := HEV.out.1; exact h1, rfl, by
              have h1 := HEV.out.2.1
              have h2 := HH2.out
              have h3 := HN.out
              have h5 : nk 2 ys = nk 2 xs := h1
              show nk 2 ys ≤ N
              omega, by
              have h1 := HEV.out.2.1
              have h2 := HEV.out.2.2.2.2
              have h3 := HN.out
              have h4 := HBD.out
              have h5 : nk 2 ys = nk 2 xs := h1
              have h6 : nk 0 ys ≤ nk 0 xs + 1 := h2
              show nk 0 ys + nk 2 ys + qs.length ≤ 9000000
              omega, f1, f2⟩
          have hgf : f < gk := by have := HGK.out; have := HHF.out; omega
          clear hst k1 f1 k2 f2 hown7 hkp hkt HOW HSRC HBX hszA hal HEV HLI HAC
          go_wp2
          go_roundg f
          case measure => omega
          case rel => exact ⟨⟨s.c, ys, qs⟩, _, _, _, HNM.out.symm, rfl, HNX⟩
    · have hgtI : ¬ (N : Int) < (n : Int) + (q.length : Int) := by omega
      obtain ⟨acc, hko, h2⟩ := HI.out.ko
      have HE : Hid (P12o w (s.shrink N) (s.shrinkOut N) = P12o w ⟨s.c, xs, q⟩ acc) := Lib.hid (by
        have h1 := HI.out.li
        have e0 : L12.many ⟨s.c, xs, q⟩ N = 0 := by rw [hmn]; omega
        rw [e0] at h1 h2
        rw [← h1, ← h2]
        simp [L12.evN])
      have HX := Lib.hid HI.out.bx
      have HV := Lib.hid hko.kv
      clear x0 x1 x2 xf0 xf1 xf2 hbb hi hmn h3
      have HYD : Hid (∀ m, Bx12 w (wr.drewN m) T12 w.heap.size (w.heap.size + 1) ⟨s.c, xs, q⟩ (.slice F1 xs.length d1) (.slice F2 q.length d2)) := Lib.hid (fun m => HX.out.step (below_drewn (Below.refl _ _) m))
      have HVD : Hid (∀ m, KV (wr.drewN m) v6 acc) := Lib.hid (fun m => HV.out.drewn m)
      obtain ⟨⟨x0, x1, x2⟩, xf0, xf1, xf2⟩ := c3_at HX.out.bo.box
      obtain ⟨⟨y0, y1, y2⟩, yf0, yf1, yf2⟩ := c3_at HX.out.bo.res
      try dsimp only at x0 x1 x2
      have hbb := (head_row HX.out.bo.box).lt
      have hrr := (head_row HX.out.bo.res).lt
      clear HI hko h2
      go_wp2_with fail
      go_quiet (first | (go_at_call 40; with_reducible exact KMN.out _))
      go_wp2
      exact bodyPost_ret (v := .tuple #[.agg (l12C s.c (.slice F1 xs.length d1) (.slice F2 q.length d2)), v6]) (by simp [results, Try.results57, go_sem, y0, y1, y2]) rfl (by rw [HE.out]; exact (HYD.out _).doneo (HVD.out _))
end
end Go.Proofs.Ytjfhapobbglbpaa
