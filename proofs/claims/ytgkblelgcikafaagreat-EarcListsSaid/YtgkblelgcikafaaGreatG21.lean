/- Words and walks: RcZ. -/
import Derived.Test.YtgkblelgcikafaaGreatG15
import Derived.Test.YtgkblelgcikafaaGreatG16
import Derived.Test.YtgkblelgcikafaaGreatG19
import Derived.Test.YtgkblelgcikafaaGreatG20
namespace Go.Proofs.YtgkblelgcikafaaGreat
open Go Go.RowKit Go.Deep
set_option maxRecDepth 8000
theorem KVV.four {w : World} {v1 v2 v3 v4 : Value} {k1 k2 k3 k4 : List Nat} (h1 : KV w v1 k1) (h2 : KV w v2 k2) (h3 : KV w v3 k3) (h4 : KV w v4 k4) (t : TypeId) : KVV (w.alloc (.cells #[v1, v2, v3, v4] t)) (.slice (some ⟨w.heap.size, 0, Option.none⟩) 4 4) [k1, k2, k3, k4] :=
  KVV.lit [v1, v2, v3, v4] [k1, k2, k3, k4] rfl (fun i h5 h6 => by
    match i with
    | 0 => exact h1
    | 1 => exact h2
    | 2 => exact h3
    | 3 => exact h4
    | i + 4 => exact absurd h5 (by simp)) t
section
variable {w : World} {u1 u2 u3 u4 : Value} {s : L11}
theorem bounded11_walk (n : Int) (hn1 : -9223372036854775808 ≤ n) (hn2 : n ≤ 9223372036854775807) :
    Calls Tryz.prog 26 #[.int .i64 n] w fun e w' => e = .returned (.int .i64 (capI n : Nat)) ∧ w = w' := by
  obtain ⟨c, hc⟩ : ∃ c, capI n = c := ⟨_, rfl⟩
  have HC := Lib.hid hc
  rw [hc]
  clear hc
  by_cases h1 : n < 1
  · have H : Hid ((1 : Int) = (c : Int)) := Lib.hid (by rw [← HC.out, capI, if_pos h1]; rfl)
    go_enter Tryz.func26, Tryz.ntmps26
    go_wp2
    go_ret
    exact ⟨by rw [H.out]; rfl, rfl⟩
  · by_cases h1e : n = 1
    · subst h1e
      have H : Hid ((1 : Int) = (c : Int)) := Lib.hid (by rw [← HC.out]; rfl)
      go_enter Tryz.func26, Tryz.ntmps26
      go_wp2
      go_ret
      exact ⟨by rw [H.out]; rfl, rfl⟩
    · have h1g : 1 < n := by omega
      by_cases h2 : 1048576 < n
      · have H : Hid ((1048576 : Int) = (c : Int)) := Lib.hid (by rw [← HC.out, capI, if_neg h1, if_pos h2]; rfl)
        clear h1 h1e
        go_enter Tryz.func26, Tryz.ntmps26
        go_wp2
        go_ret
        exact ⟨by rw [H.out]; rfl, rfl⟩
      · have H : Hid (n = (c : Int)) := Lib.hid (by rw [← HC.out, capI, if_neg h1, if_neg h2]; omega)
        clear h1 h1e
        by_cases h2e : n = 1048576
        · subst h2e
          go_enter Tryz.func26, Tryz.ntmps26
          go_wp2
          go_ret
          exact ⟨by rw [← H.out]; rfl, rfl⟩
        · have h2l : n < 1048576 := by omega
          clear h2e h2
          go_enter Tryz.func26, Tryz.ntmps26
          go_wp2
          go_ret
          exact ⟨by rw [← H.out]; rfl, rfl⟩
theorem p11new_walk (n : Int) (hn1 : -9223372036854775808 ≤ n) (hn2 : n ≤ 9223372036854775807) : Calls Tryz.prog 6 #[.int .i64 n] w (P11 w (L11.new n)) := by
  have KK := Lib.hid (bounded11_walk (w := w.alloc (.cells z11 PT11)) n hn1 hn2)
  obtain ⟨c, hc⟩ : ∃ c, capI n = c := ⟨_, rfl⟩
  have HC : Hid (P11 w (L11.new n) = P11 w ⟨c, 0, [], [], [], []⟩) := Lib.hid (by rw [← hc]; rfl)
  rw [hc] at KK
  rw [HC.out]
  clear hc HC
  go_enter Tryz.func6, Tryz.ntmps6
  go_wp2_with fail
  refine KK.out.mono ?_
  rintro e w1 ⟨rfl, rfl⟩
  go_wp2
  exact bodyPost_ret (v := .agg (l11C c 0 (.slice none 0 0) (.slice none 0 0) (.slice none 0 0) (.slice none 0 0))) (by simp [results, Tryz.results6, go_sem]) rfl ⟨_, _, _, _, rfl, (Below.refl _ _).alloc (Nat.le_refl _) _, ⟨KV.nil _, KV.nil _, KV.nil _, KV.nil _⟩⟩
theorem copy11_walk {v : Value} {ks : List Nat} (h : KV w v ks) (hl : ks.length ≤ 100000000) :
    Calls Tryz.prog 52 #[v] w (OwnK w ks) := by
  have H := Lib.hid h
  obtain ⟨F, n, c, rfl⟩ := h.form
  clear h
  have HN := Lib.hid (KO.nil (Below.refl w.heap.size w))
  go_enter Tryz.func52, Tryz.ntmps52
  go_wp2_with (at_builtin; refine wpList_append_kv rfl _ (.tmp 3) rfl w.heap.size (by kernel_rfl) (by kernel_rfl) (.slice none 0 0) [] rfl HN.out _ ks rfl H.out (by simp; omega) (Nat.le_refl _) ?_)
  intro v6 w6 hown6 _ _
  have HK := Lib.hid hown6
  clear hown6
  go_wp2
  go_ret
  exact ⟨_, rfl, HK.out⟩
theorem less11_walk {v : Value} {ks : List Nat} {kb k : Nat} (h : KV w v ks) (hl : ks.length ≤ 100000000) (hk : w.cell? ⟨kb, 0, none⟩ = some (.int .u64 (k : Nat))) :
    Calls Tryz.prog 34 #[v, .pointer (some ⟨kb, 0, none⟩)] w (OwnK w (wo k ks)) := by
  have H := Lib.hid (without_walk h hl k)
  obtain ⟨F, n, c, rfl⟩ := h.form
  clear h
  go_enter Tryz.func34, Tryz.ntmps34
  go_wp2_with fail
  refine H.out.mono ?_
  rintro e w1 ⟨v1, rfl, h1⟩
  have H1 := Lib.hid h1
  clear h1
  go_wp2
  go_ret
  exact ⟨_, rfl, H1.out⟩
theorem firsts_walk {v : Value} {ks : List Nat} (h : KV w v ks) (hl : ks.length ≤ 100000000) (n : Int) (hn1 : -9223372036854775808 ≤ n) (hn2 : n ≤ 9223372036854775807) :
    Calls Tryz.prog 35 #[v, .int .i64 n] w (RetK w (ks.take n.toNat)) := by
  have H := Lib.hid (fall_walk h hl n hn1 hn2)
  obtain ⟨F, m, c, rfl⟩ := h.form
  generalize ks.take n.toNat = js at H ⊢
  clear h
  go_enter Tryz.func35, Tryz.ntmps35
  go_wp2_with fail
  refine H.out.mono ?_
  rintro e w1 ⟨v1, v2, rfl, hb, h1, h2⟩
  have H1 := Lib.hid (And.intro hb h2)
  clear hb h1 h2
  go_wp2
  go_ret
  exact ⟨_, rfl, H1.out.1, H1.out.2⟩
set_option maxHeartbeats 1000000 in
theorem many_walk {v : Value} {kss : List (List Nat)} (h : KVV w v kss) (hl : kss.length ≤ 1000) (hl2 : kss.flatten.length ≤ 100000000) :
    Calls Tryz.prog 42 #[v] w fun e w' => e = .returned (.int .i64 (kss.flatten.length : Nat)) ∧ w = w' := by
  have HK := Lib.hid h
  obtain ⟨F, c, rfl, _⟩ := h.mem
  obtain ⟨nn, hnn⟩ : ∃ nn, kss.length = nn := ⟨_, rfl⟩
  have HNN := Lib.hid hnn
  rw [hnn] at hl HK ⊢
  have HE : Hid (∀ (W : World) (_ : Below w.heap.size w W) (i : Nat) (hi : i < kss.length), ∃ ad u, F = some ad ∧ W.cell? (ad.add i) = some u ∧ KV W u kss[i]) := Lib.hid (fun W hb i hi => by
    obtain ⟨F', c', e, h2⟩ := (HK.out.below hb).mem
    obtain ⟨ad, u, e2, _, h3, h4⟩ := h2 i hi
    injection e with e3 _ _
    exact ⟨ad, u, e3.trans e2, h3, h4⟩)
  clear h hnn HK
  go_enter Tryz.func42, Tryz.ntmps42
  go_wp2_with fail
  go_loopg [3, 5, 8] nn (fun gg s3 s5 s8 wr => ∃ i : Nat, i + gg = nn ∧ s3 = .int .i64 ((kss.take i).flatten.length : Nat) ∧ s8 = .int .i64 (i : Nat) ∧ w = wr)
  case atStart => exact ⟨0, by omega, by simp, rfl, rfl⟩
  case round =>
    obtain ⟨i, hi, rfl, rfl, rfl⟩ := hrel
    have hf1 := flat_take (kss := kss) i
    by_cases hlt : i < nn
    · have hltI : (i : Int) < (nn : Int) := by omega
      have hil : i < kss.length := by have := HNN.out; omega
      obtain ⟨ad, u, hF, q0, hk⟩ := HE.out w (Below.refl _ _) i hil
      subst hF
      obtain ⟨Fu, cu, rfl, _⟩ := hk.mem
      have hf2 := flat_take (kss := kss) (i + 1)
      have hn : (kss.take (i + 1)).flatten.length = (kss.take i).flatten.length + kss[i].length := by rw [flat_next hil, List.length_append]
      have HN := Lib.hid hn
      obtain ⟨a, ha⟩ : ∃ a, (kss.take i).flatten.length = a := ⟨_, rfl⟩
      obtain ⟨m, hm⟩ : ∃ m, kss[i].length = m := ⟨_, rfl⟩
      have hbd : (a : Int) + (m : Int) ≤ 100000000 := by omega
      have HX : Hid ((a : Int) + (m : Int) = ((kss.take (i + 1)).flatten.length : Nat)) := Lib.hid (by omega)
      have ha0 : (0 : Int) ≤ (a : Int) + (m : Int) := by omega
      rw [ha]
      rw [hm] at q0
      clear hf1 hf2 hn ha hm hk HN hlt
      go_wp2
      go_roundg (gk - 1)
      case measure => omega
      case rel => exact ⟨i + 1, by omega, by rw [← HX.out], by go_num, rfl⟩
    · have hltI : ¬ (i : Int) < (nn : Int) := by omega
      obtain rfl : i = nn := by omega
      have HFL : Hid (kss.take i = kss) := Lib.hid (List.take_of_length_le (by have := HNN.out; omega))
      rw [HFL.out] at hf1 ⊢
      clear hf1 hlt
      go_wp2
      go_ret
      exact ⟨rfl, rfl⟩
set_option maxHeartbeats 2000000 in
theorem chg_owned_walk (hs : St11 w s u1 u2 u3 u4) (ok : s.Ok) : Calls Tryz.prog 33 #[.agg (l11C s.c s.p u1 u2 u3 u4), .func (.func 52) #[] #[]] w (P11 w s) := by
  have hl1 := ok.len_t1
  have hl2 := ok.len_t2
  have hl3 := ok.len_b1
  have hl4 := ok.len_b2
  clear ok
  obtain ⟨F1, n1, d1, rfl⟩ := hs.form1
  obtain ⟨F2, n2, d2, rfl⟩ := hs.form2
  obtain ⟨F3, n3, d3, rfl⟩ := hs.form3
  obtain ⟨F4, n4, d4, rfl⟩ := hs.form4
  have HX0 := Lib.hid (Bx11.start w PT11 (by decide) hs)
  obtain ⟨c, pp, l1, l2, l3, l4⟩ := s
  simp only at *
  clear hs
  have K1 := Lib.hid (copy11_walk HX0.out.st.g1 hl1)
  go_enter Tryz.func33, Tryz.ntmps33
  go_wp2_with fail
  refine K1.out.mono ?_
  rintro e va ⟨oa, rfl, ha⟩
  obtain ⟨Fa, na, da, rfl⟩ := ha.kv.form
  have hxa := HX0.out.step ha.low
  obtain ⟨⟨x0, x1, x2, x3, x4, x5⟩, xf0, xf1, xf2, xf3, xf4, xf5⟩ := c6_at hxa.bo.box
  have hbb := (head_row hxa.bo.box).lt
  have hya := hxa.set2 ha.kv
  generalize hWa : va.setCell ⟨w.heap.size, 2, none⟩ (.slice Fa na da) = wa at hya
  have HWa := Lib.hid hWa
  have HXa := Lib.hid hya
  clear ha hWa hxa hya HX0 K1
  have K2 := Lib.hid (copy11_walk HXa.out.st.g2 hl2)
  go_wp2_with fail
  rw [HWa.out]
  clear HWa
  refine K2.out.mono ?_
  rintro e vb ⟨ob, rfl, hb⟩
  obtain ⟨Fb, nb, db, rfl⟩ := hb.kv.form
  have hxb := HXa.out.step hb.low
  clear x0 x1 x2 x3 x4 x5 xf0 xf1 xf2 xf3 xf4 xf5 hbb
  obtain ⟨⟨x0, x1, x2, x3, x4, x5⟩, xf0, xf1, xf2, xf3, xf4, xf5⟩ := c6_at hxb.bo.box
  have hbb := (head_row hxb.bo.box).lt
  have hyb := hxb.set3 hb.kv
  generalize hWb : vb.setCell ⟨w.heap.size, 3, none⟩ (.slice Fb nb db) = wb at hyb
  have HWb := Lib.hid hWb
  have HXb := Lib.hid hyb
  clear hb hWb hxb hyb HXa K2
  have K3 := Lib.hid (copy11_walk HXb.out.st.g3 hl3)
  go_wp2_with fail
  rw [HWb.out]
  clear HWb
  refine K3.out.mono ?_
  rintro e vc ⟨oc, rfl, hc⟩
  obtain ⟨Fc, nc, dc, rfl⟩ := hc.kv.form
  have hxc := HXb.out.step hc.low
  clear x0 x1 x2 x3 x4 x5 xf0 xf1 xf2 xf3 xf4 xf5 hbb
  obtain ⟨⟨x0, x1, x2, x3, x4, x5⟩, xf0, xf1, xf2, xf3, xf4, xf5⟩ := c6_at hxc.bo.box
  have hbb := (head_row hxc.bo.box).lt
  have hyc := hxc.set4 hc.kv
  generalize hWc : vc.setCell ⟨w.heap.size, 4, none⟩ (.slice Fc nc dc) = wc at hyc
  have HWc := Lib.hid hWc
  have HXc := Lib.hid hyc
  clear hc hWc hxc hyc HXb K3
  have K4 := Lib.hid (copy11_walk HXc.out.st.g4 hl4)
  go_wp2_with fail
  rw [HWc.out]
  clear HWc
  refine K4.out.mono ?_
  rintro e vd ⟨od, rfl, hd⟩
  obtain ⟨Fd, nd, dd, rfl⟩ := hd.kv.form
  have hxd := HXc.out.step hd.low
  clear x0 x1 x2 x3 x4 x5 xf0 xf1 xf2 xf3 xf4 xf5 hbb
  obtain ⟨⟨x0, x1, x2, x3, x4, x5⟩, xf0, xf1, xf2, xf3, xf4, xf5⟩ := c6_at hxd.bo.box
  have hbb := (head_row hxd.bo.box).lt
  have hyd := hxd.set5 hd.kv
  obtain ⟨⟨y0, y1, y2, y3, y4, y5⟩, yf0, yf1, yf2, yf3, yf4, yf5⟩ := c6_at hxd.bo.res
  have hrr := (head_row hxd.bo.res).lt
  have HXd := Lib.hid hyd
  clear hd hxd hyd HXc K4
  go_wp2
  exact bodyPost_ret (v := .agg (l11C c pp (.slice Fa na da) (.slice Fb nb db) (.slice Fc nc dc) (.slice Fd nd dd))) (by simp [results, Tryz.results33, go_sem, y0, y1, y2, y3, y4, y5]) rfl HXd.out.done
set_option maxHeartbeats 2000000 in
theorem chg_less_walk (hs : St11 w s u1 u2 u3 u4) (ok : s.Ok) {kb k : Nat} (hkb : kb < w.heap.size) (hk : w.cell? ⟨kb, 0, none⟩ = some (.int .u64 (k : Nat))) : Calls Tryz.prog 33 #[.agg (l11C s.c s.p u1 u2 u3 u4), .func (.func 34) #[] #[.pointer (some ⟨kb, 0, none⟩)]] w (P11 w (s.drop k)) := by
  have hl1 := ok.len_t1
  have hl2 := ok.len_t2
  have hl3 := ok.len_b1
  have hl4 := ok.len_b2
  clear ok
  obtain ⟨F1, n1, d1, rfl⟩ := hs.form1
  obtain ⟨F2, n2, d2, rfl⟩ := hs.form2
  obtain ⟨F3, n3, d3, rfl⟩ := hs.form3
  obtain ⟨F4, n4, d4, rfl⟩ := hs.form4
  have HKB : Hid (∀ W, Below w.heap.size w W → W.cell? ⟨kb, 0, none⟩ = some (.int .u64 (k : Nat))) := Lib.hid (fun W hb => (World.cell?_of_block (w := w) (a := ⟨kb, 0, none⟩) (hb.block kb hkb)).trans hk)
  clear hk hkb
  have HX0 := Lib.hid (Bx11.start w PT11 (by decide) hs)
  unfold L11.drop
  obtain ⟨c, pp, l1, l2, l3, l4⟩ := s
  simp only at *
  clear hs
  have K1 := Lib.hid (less11_walk HX0.out.st.g1 hl1 (HKB.out _ HX0.out.bo.low))
  go_enter Tryz.func33, Tryz.ntmps33
  go_wp2_with fail
  refine K1.out.mono ?_
  rintro e va ⟨oa, rfl, ha⟩
  obtain ⟨Fa, na, da, rfl⟩ := ha.kv.form
  have hxa := HX0.out.step ha.low
  obtain ⟨⟨x0, x1, x2, x3, x4, x5⟩, xf0, xf1, xf2, xf3, xf4, xf5⟩ := c6_at hxa.bo.box
  have hbb := (head_row hxa.bo.box).lt
  have hya := hxa.set2 ha.kv
  generalize hWa : va.setCell ⟨w.heap.size, 2, none⟩ (.slice Fa na da) = wa at hya
  have HWa := Lib.hid hWa
  have HXa := Lib.hid hya
  clear ha hWa hxa hya HX0 K1
  have K2 := Lib.hid (less11_walk HXa.out.st.g2 hl2 (HKB.out _ HXa.out.bo.low))
  go_wp2_with fail
  rw [HWa.out]
  clear HWa
  refine K2.out.mono ?_
  rintro e vb ⟨ob, rfl, hb⟩
  obtain ⟨Fb, nb, db, rfl⟩ := hb.kv.form
  have hxb := HXa.out.step hb.low
  clear x0 x1 x2 x3 x4 x5 xf0 xf1 xf2 xf3 xf4 xf5 hbb
  obtain ⟨⟨x0, x1, x2, x3, x4, x5⟩, xf0, xf1, xf2, xf3, xf4, xf5⟩ := c6_at hxb.bo.box
  have hbb := (head_row hxb.bo.box).lt
  have hyb := hxb.set3 hb.kv
  generalize hWb : vb.setCell ⟨w.heap.size, 3, none⟩ (.slice Fb nb db) = wb at hyb
  have HWb := Lib.hid hWb
  have HXb := Lib.hid hyb
  clear hb hWb hxb hyb HXa K2
  have K3 := Lib.hid (less11_walk HXb.out.st.g3 hl3 (HKB.out _ HXb.out.bo.low))
  go_wp2_with fail
  rw [HWb.out]
  clear HWb
  refine K3.out.mono ?_
  rintro e vc ⟨oc, rfl, hc⟩
  obtain ⟨Fc, nc, dc, rfl⟩ := hc.kv.form
  have hxc := HXb.out.step hc.low
  clear x0 x1 x2 x3 x4 x5 xf0 xf1 xf2 xf3 xf4 xf5 hbb
  obtain ⟨⟨x0, x1, x2, x3, x4, x5⟩, xf0, xf1, xf2, xf3, xf4, xf5⟩ := c6_at hxc.bo.box
  have hbb := (head_row hxc.bo.box).lt
  have hyc := hxc.set4 hc.kv
  generalize hWc : vc.setCell ⟨w.heap.size, 4, none⟩ (.slice Fc nc dc) = wc at hyc
  have HWc := Lib.hid hWc
  have HXc := Lib.hid hyc
  clear hc hWc hxc hyc HXb K3
  have K4 := Lib.hid (less11_walk HXc.out.st.g4 hl4 (HKB.out _ HXc.out.bo.low))
  go_wp2_with fail
  rw [HWc.out]
  clear HWc
  refine K4.out.mono ?_
  rintro e vd ⟨od, rfl, hd⟩
  obtain ⟨Fd, nd, dd, rfl⟩ := hd.kv.form
  have hxd := HXc.out.step hd.low
  clear x0 x1 x2 x3 x4 x5 xf0 xf1 xf2 xf3 xf4 xf5 hbb
  obtain ⟨⟨x0, x1, x2, x3, x4, x5⟩, xf0, xf1, xf2, xf3, xf4, xf5⟩ := c6_at hxd.bo.box
  have hbb := (head_row hxd.bo.box).lt
  have hyd := hxd.set5 hd.kv
  obtain ⟨⟨y0, y1, y2, y3, y4, y5⟩, yf0, yf1, yf2, yf3, yf4, yf5⟩ := c6_at hxd.bo.res
  have hrr := (head_row hxd.bo.res).lt
  have HXd := Lib.hid hyd
  clear hd hxd hyd HXc K4
  go_wp2
  exact bodyPost_ret (v := .agg (l11C c pp (.slice Fa na da) (.slice Fb nb db) (.slice Fc nc dc) (.slice Fd nd dd))) (by simp [results, Tryz.results33, go_sem, y0, y1, y2, y3, y4, y5]) rfl HXd.out.done
set_option maxHeartbeats 1000000 in
theorem owned11_walk (hs : St11 w s u1 u2 u3 u4) (ok : s.Ok) : Calls Tryz.prog 28 #[.agg (l11C s.c s.p u1 u2 u3 u4)] w (P11 w s) := by
  obtain ⟨F1, n1, d1, rfl⟩ := hs.form1
  obtain ⟨F2, n2, d2, rfl⟩ := hs.form2
  obtain ⟨F3, n3, d3, rfl⟩ := hs.form3
  obtain ⟨F4, n4, d4, rfl⟩ := hs.form4
  have HX0 := Lib.hid (Bx11.start w PT11 (by decide) hs)
  have K := Lib.hid (chg_owned_walk HX0.out.st ok)
  clear hs ok
  obtain ⟨c, pp, l1, l2, l3, l4⟩ := s
  dsimp only at HX0 K
  go_enter Tryz.func28, Tryz.ntmps28
  go_wp2_with fail
  refine K.out.mono ?_
  rintro e wc ⟨v1, v2, v3, v4, he, hbc, hsc⟩
  obtain ⟨Fc1, nc1, dc1, rfl⟩ := hsc.form1
  obtain ⟨Fc2, nc2, dc2, rfl⟩ := hsc.form2
  obtain ⟨Fc3, nc3, dc3, rfl⟩ := hsc.form3
  obtain ⟨Fc4, nc4, dc4, rfl⟩ := hsc.form4
  subst he
  have hbo := HX0.out.bo.step hbc
  obtain ⟨⟨y0, y1, y2, y3, y4, y5⟩, yf0, yf1, yf2, yf3, yf4, yf5⟩ := c6_at hbo.res
  have hrr := (head_row hbo.res).lt
  have HBO := Lib.hid hbo
  have HSC := Lib.hid hsc
  clear hbo hsc hbc K HX0
  go_wp2
  have HO : Hid (Only [w.heap.size, w.heap.size + 1] wc ((((((wc.setCell ⟨w.heap.size + 1, 0, none⟩ (.int .i64 (c : Nat))).setCell ⟨w.heap.size + 1, 1, none⟩ (.int .i64 (pp : Nat))).setCell ⟨w.heap.size + 1, 2, none⟩ (.slice Fc1 nc1 dc1)).setCell ⟨w.heap.size + 1, 3, none⟩ (.slice Fc2 nc2 dc2)).setCell ⟨w.heap.size + 1, 4, none⟩ (.slice Fc3 nc3 dc3)).setCell ⟨w.heap.size + 1, 5, none⟩ (.slice Fc4 nc4 dc4))) := Lib.hid (((((((Only.refl _ _).setCell (by simp) _).setCell (by simp) _).setCell (by simp) _).setCell (by simp) _).setCell (by simp) _).setCell (by simp) _)
  exact bodyPost_ret (v := .agg (l11C c pp (.slice Fc1 nc1 dc1) (.slice Fc2 nc2 dc2) (.slice Fc3 nc3 dc3) (.slice Fc4 nc4 dc4))) (by simp [results, Tryz.results28, go_sem, y0, y1, y2, y3, y4, y5]) rfl ⟨_, _, _, _, rfl, HBO.out.fin HO.out, HBO.out.st11 HO.out HSC.out⟩
set_option maxHeartbeats 1000000 in
theorem p11drop_walk (hs : St11 w s u1 u2 u3 u4) (ok : s.Ok) (k : Nat) : Calls Tryz.prog 11 #[.agg (l11C s.c s.p u1 u2 u3 u4), .int .u64 (k : Nat)] w (P11 w (s.drop k)) := by
  obtain ⟨F1, n1, d1, rfl⟩ := hs.form1
  obtain ⟨F2, n2, d2, rfl⟩ := hs.form2
  obtain ⟨F3, n3, d3, rfl⟩ := hs.form3
  obtain ⟨F4, n4, d4, rfl⟩ := hs.form4
  obtain ⟨h0, ha⟩ := Bo.start3 w PT11 31 (l11C s.c s.p (.slice F1 n1 d1) (.slice F2 n2 d2) (.slice F3 n3 d3) (.slice F4 n4 d4)) #[.int .u64 (k : Nat)] z11 rfl rfl (by decide)
  have hW := hs.below h0.low
  have K := Lib.hid (chg_less_walk (kb := w.heap.size + 1) (k := k) hW ok (head_row ha).lt ((head_row ha).cell (i := 0) (by simp)))
  have HB := Lib.hid h0
  clear hs ok hW h0 ha
  unfold L11.drop at K ⊢
  obtain ⟨c, pp, l1, l2, l3, l4⟩ := s
  dsimp only at HB K ⊢
  go_enter Tryz.func11, Tryz.ntmps11
  go_wp2_with fail
  refine K.out.mono ?_
  rintro e wc ⟨v1, v2, v3, v4, he, hbc, hsc⟩
  obtain ⟨Fc1, nc1, dc1, rfl⟩ := hsc.form1
  obtain ⟨Fc2, nc2, dc2, rfl⟩ := hsc.form2
  obtain ⟨Fc3, nc3, dc3, rfl⟩ := hsc.form3
  obtain ⟨Fc4, nc4, dc4, rfl⟩ := hsc.form4
  subst he
  have hbo := HB.out.step hbc
  obtain ⟨⟨y0, y1, y2, y3, y4, y5⟩, yf0, yf1, yf2, yf3, yf4, yf5⟩ := c6_at hbo.res
  have hrr := (head_row hbo.res).lt
  have HBO := Lib.hid hbo
  have HSC := Lib.hid hsc
  clear hbo hsc hbc K HB
  go_wp2
  have HO : Hid (Only [w.heap.size, w.heap.size + 1 + 1] wc ((((((wc.setCell ⟨w.heap.size + 1 + 1, 0, none⟩ (.int .i64 (c : Nat))).setCell ⟨w.heap.size + 1 + 1, 1, none⟩ (.int .i64 (pp : Nat))).setCell ⟨w.heap.size + 1 + 1, 2, none⟩ (.slice Fc1 nc1 dc1)).setCell ⟨w.heap.size + 1 + 1, 3, none⟩ (.slice Fc2 nc2 dc2)).setCell ⟨w.heap.size + 1 + 1, 4, none⟩ (.slice Fc3 nc3 dc3)).setCell ⟨w.heap.size + 1 + 1, 5, none⟩ (.slice Fc4 nc4 dc4))) := Lib.hid (((((((Only.refl _ _).setCell (by simp) _).setCell (by simp) _).setCell (by simp) _).setCell (by simp) _).setCell (by simp) _).setCell (by simp) _)
  exact bodyPost_ret (v := .agg (l11C c pp (.slice Fc1 nc1 dc1) (.slice Fc2 nc2 dc2) (.slice Fc3 nc3 dc3) (.slice Fc4 nc4 dc4))) (by simp [results, Tryz.results11, go_sem, y0, y1, y2, y3, y4, y5]) rfl ⟨_, _, _, _, rfl, HBO.out.fin HO.out, HBO.out.st11 HO.out HSC.out⟩
set_option maxHeartbeats 1000000 in
theorem p11has_walk (hs : St11 w s u1 u2 u3 u4) (ok : s.Ok) (k : Nat) : Calls Tryz.prog 8 #[.agg (l11C s.c s.p u1 u2 u3 u4), .int .u64 (k : Nat)] w (RetB w (decide (k ∈ s.keys))) := by
  have hl1 := ok.len_t1
  have hl2 := ok.len_t2
  obtain ⟨F1, n1, d1, rfl⟩ := hs.form1
  obtain ⟨F2, n2, d2, rfl⟩ := hs.form2
  obtain ⟨F3, n3, d3, rfl⟩ := hs.form3
  obtain ⟨F4, n4, d4, rfl⟩ := hs.form4
  have HB := Lib.hid (low_one w (.cells (l11C s.c s.p (.slice F1 n1 d1) (.slice F2 n2 d2) (.slice F3 n3 d3) (.slice F4 n4 d4)) PT11))
  have K1 := Lib.hid (has_walk (hs.below HB.out).g1 hl1 k)
  have K3 := Lib.hid (has_walk (hs.below HB.out).g2 hl2 k)
  have HD : Hid (decide (k ∈ s.keys) = (decide (k ∈ s.t1) || decide (k ∈ s.t2))) := Lib.hid (by simp [L11.keys])
  obtain ⟨b1, hb1⟩ : ∃ b, decide (k ∈ s.t1) = b := ⟨_, rfl⟩
  obtain ⟨b3, hb3⟩ : ∃ b, decide (k ∈ s.t2) = b := ⟨_, rfl⟩
  rw [hb1, hb3] at HD
  rw [hb1] at K1
  rw [hb3] at K3
  rw [HD.out]
  obtain ⟨c, pp, l1, l2, l3, l4⟩ := s
  simp only at *
  clear hs ok hb1 hb3 HD
  cases b1
  · go_enter Tryz.func8, Tryz.ntmps8
    go_wp2_with fail
    refine K1.out.mono ?_
    rintro e w1 ⟨rfl, rfl⟩
    go_wp2_with fail
    refine K3.out.mono ?_
    rintro e w1 ⟨rfl, rfl⟩
    go_wp2
    go_ret
    exact ⟨by simp, HB.out⟩
  · go_enter Tryz.func8, Tryz.ntmps8
    go_wp2_with fail
    refine K1.out.mono ?_
    rintro e w1 ⟨rfl, rfl⟩
    go_wp2
    go_ret
    exact ⟨by simp, HB.out⟩
theorem size_alloc11 (w : World) (o : Obj) : (w.alloc o).heap.size = w.heap.size + 1 := by simp
set_option maxHeartbeats 1000000 in
theorem p11keys_walk (hs : St11 w s u1 u2 u3 u4) (ok : s.Ok) : Calls Tryz.prog 17 #[.agg (l11C s.c s.p u1 u2 u3 u4)] w (RetK w s.keys) := by
  obtain ⟨F1, n1, d1, rfl⟩ := hs.form1
  obtain ⟨F2, n2, d2, rfl⟩ := hs.form2
  obtain ⟨F3, n3, d3, rfl⟩ := hs.form3
  obtain ⟨F4, n4, d4, rfl⟩ := hs.form4
  have hlk := (show s.t1.length + s.t2.length ≤ 100000000 from by have := ok.keysLen; unfold L11.keys at this; rw [List.length_append] at this; exact this)
  have hlo := low_one w (.cells (l11C s.c s.p (.slice F1 n1 d1) (.slice F2 n2 d2) (.slice F3 n3 d3) (.slice F4 n4 d4)) PT11)
  have hs1 := hs.below hlo
  have KC := concat_walk (KVV.two hs1.g1 hs1.g2 26) (by simp) (by simpa using hlk)
  rw [size_alloc11] at KC
  have HC := Lib.hid KC
  have HB := Lib.hid (hlo.trans ((low_one _ (.cells #[(.slice F1 n1 d1), (.slice F2 n2 d2)] 26)).mono hlo.size))
  unfold L11.keys
  obtain ⟨c, pp, l1, l2, l3, l4⟩ := s
  simp only at *
  clear hs ok hlo hs1 KC hlk
  go_enter Tryz.func17, Tryz.ntmps17
  go_wp2_with fail
  refine HC.out.mono ?_
  rintro e w2 ⟨v2, rfl, hk2⟩
  have HF := Lib.hid (And.intro (HB.out.trans (hk2.low.mono HB.out.size)) hk2.kv)
  clear hk2 HC
  go_wp2
  go_ret
  exact ⟨_, rfl, HF.out.1, by simpa using HF.out.2⟩
set_option maxHeartbeats 1000000 in
theorem p11ghosts_walk (hs : St11 w s u1 u2 u3 u4) (ok : s.Ok) : Calls Tryz.prog 19 #[.agg (l11C s.c s.p u1 u2 u3 u4)] w (fun e w' => e = .returned (.int .i64 (s.ghosts : Nat)) ∧ Below w.heap.size w w') := by
  obtain ⟨F1, n1, d1, rfl⟩ := hs.form1
  obtain ⟨F2, n2, d2, rfl⟩ := hs.form2
  obtain ⟨F3, n3, d3, rfl⟩ := hs.form3
  obtain ⟨F4, n4, d4, rfl⟩ := hs.form4
  have hlk := (show s.b1.length + s.b2.length ≤ 100000000 from by have := ok.gone; have := ok.cap; omega)
  have hlo := low_one w (.cells (l11C s.c s.p (.slice F1 n1 d1) (.slice F2 n2 d2) (.slice F3 n3 d3) (.slice F4 n4 d4)) PT11)
  have hs1 := hs.below hlo
  have KC := many_walk (KVV.two hs1.g3 hs1.g4 26) (by simp) (by simpa using hlk)
  rw [size_alloc11] at KC
  have HC := Lib.hid KC
  have HB := Lib.hid (hlo.trans ((low_one _ (.cells #[(.slice F3 n3 d3), (.slice F4 n4 d4)] 26)).mono hlo.size))
  unfold L11.ghosts
  obtain ⟨c, pp, l1, l2, l3, l4⟩ := s
  simp only at *
  clear hs ok hlo hs1 KC hlk
  go_enter Tryz.func19, Tryz.ntmps19
  go_wp2_with fail
  refine HC.out.mono ?_
  rintro e w2 ⟨rfl, rfl⟩
  clear HC
  go_wp2
  go_ret
  exact ⟨by simp, HB.out⟩
set_option maxHeartbeats 2000000 in
theorem p11touch_walk (hs : St11 w s u1 u2 u3 u4) (ok : s.Ok) (k : Nat) : Calls Tryz.prog 9 #[.agg (l11C s.c s.p u1 u2 u3 u4), .int .u64 (k : Nat)] w (P11 w (s.touch k)) := by
  have hl1 := ok.len_t1
  have hl2 := ok.len_t2
  obtain ⟨F1, n1, d1, rfl⟩ := hs.form1
  obtain ⟨F2, n2, d2, rfl⟩ := hs.form2
  obtain ⟨F3, n3, d3, rfl⟩ := hs.form3
  obtain ⟨F4, n4, d4, rfl⟩ := hs.form4
  have HX0 := Lib.hid (Bx11.start w PT11 (by decide) hs)
  have KO := Lib.hid (owned11_walk HX0.out.st ok)
  have HHS : Hid (∀ W v1 v2 v3 v4, St11 W s v1 v2 v3 v4 → Calls Tryz.prog 8 #[.agg (l11C s.c s.p v1 v2 v3 v4), .int .u64 (k : Nat)] W (RetB W (decide (k ∈ s.keys)))) := Lib.hid (fun W v1 v2 v3 v4 h => p11has_walk h ok k)
  obtain ⟨bb, hbb0⟩ : ∃ bb, decide (k ∈ s.keys) = bb := ⟨_, rfl⟩
  rw [hbb0] at HHS
  unfold L11.touch
  have HIF : Hid ((if k ∈ s.keys then (⟨s.c, s.p, wo k s.t1, fr k s.t2, s.b1, s.b2⟩ : L11) else s) = (if bb = true then ⟨s.c, s.p, wo k s.t1, fr k s.t2, s.b1, s.b2⟩ else s)) := Lib.hid (by rw [← hbb0]; simp)
  rw [HIF.out]
  clear HIF hbb0 hs ok
  obtain ⟨c, pp, l1, l2, l3, l4⟩ := s
  dsimp only at hl1 hl2 HX0 KO HHS ⊢
  generalize hW0 : World.alloc _ (.cells z11 PT11) = W0 at HX0 KO
  have HW0 := Lib.hid hW0
  clear hW0
  cases bb
  · rw [if_neg (by decide)]
    go_enter Tryz.func9, Tryz.ntmps9
    go_wp2_with fail
    rw [HW0.out]
    clear HW0
    refine KO.out.mono ?_
    rintro e w1 ⟨q1, q2, q3, q4, he, hb1, hk1⟩
    obtain ⟨Fp1, np1, dp1, rfl⟩ := hk1.form1
    obtain ⟨Fp2, np2, dp2, rfl⟩ := hk1.form2
    obtain ⟨Fp3, np3, dp3, rfl⟩ := hk1.form3
    obtain ⟨Fp4, np4, dp4, rfl⟩ := hk1.form4
    subst he
    have hx1 := HX0.out.step hb1
    obtain ⟨⟨x0, x1, x2, x3, x4, x5⟩, xf0, xf1, xf2, xf3, xf4, xf5⟩ := c6_at hx1.bo.box
    have hbb := (head_row hx1.bo.box).lt
    have hp := hx1.put hk1
    dsimp only at hp
    generalize hWp : ((((((w1.setCell ⟨w.heap.size, 0, none⟩ (.int .i64 (c : Nat))).setCell ⟨w.heap.size, 1, none⟩ (.int .i64 (pp : Nat))).setCell ⟨w.heap.size, 2, none⟩ (.slice Fp1 np1 dp1)).setCell ⟨w.heap.size, 3, none⟩ (.slice Fp2 np2 dp2)).setCell ⟨w.heap.size, 4, none⟩ (.slice Fp3 np3 dp3)).setCell ⟨w.heap.size, 5, none⟩ (.slice Fp4 np4 dp4)) = wp at hp
    have HWp := Lib.hid hWp
    have HXp := Lib.hid hp
    have KH := Lib.hid (HHS.out _ _ _ _ _ HXp.out.st)
    clear hWp hp hx1 hb1 hk1 KO HX0 HHS
    go_wp2_with fail
    rw [HWp.out]
    clear HWp
    refine KH.out.mono ?_
    rintro e w2 ⟨rfl, hb2⟩
    have HXq := Lib.hid (HXp.out.step hb2)
    clear x0 x1 x2 x3 x4 x5 xf0 xf1 xf2 xf3 xf4 xf5 hbb KH hb2 HXp
    obtain ⟨⟨x0, x1, x2, x3, x4, x5⟩, xf0, xf1, xf2, xf3, xf4, xf5⟩ := c6_at HXq.out.bo.box
    have hbb := (head_row HXq.out.bo.box).lt
    obtain ⟨⟨y0, y1, y2, y3, y4, y5⟩, yf0, yf1, yf2, yf3, yf4, yf5⟩ := c6_at HXq.out.bo.res
    have hrr := (head_row HXq.out.bo.res).lt
    go_wp2
    exact bodyPost_ret (v := .agg (l11C c pp (.slice Fp1 np1 dp1) (.slice Fp2 np2 dp2) (.slice Fp3 np3 dp3) (.slice Fp4 np4 dp4))) (by simp [results, Tryz.results9, go_sem, y0, y1, y2, y3, y4, y5]) rfl HXq.out.done
  · rw [if_pos rfl]
    go_enter Tryz.func9, Tryz.ntmps9
    go_wp2_with fail
    rw [HW0.out]
    clear HW0
    refine KO.out.mono ?_
    rintro e w1 ⟨q1, q2, q3, q4, he, hb1, hk1⟩
    obtain ⟨Fp1, np1, dp1, rfl⟩ := hk1.form1
    obtain ⟨Fp2, np2, dp2, rfl⟩ := hk1.form2
    obtain ⟨Fp3, np3, dp3, rfl⟩ := hk1.form3
    obtain ⟨Fp4, np4, dp4, rfl⟩ := hk1.form4
    subst he
    have hx1 := HX0.out.step hb1
    obtain ⟨⟨x0, x1, x2, x3, x4, x5⟩, xf0, xf1, xf2, xf3, xf4, xf5⟩ := c6_at hx1.bo.box
    have hbb := (head_row hx1.bo.box).lt
    have hp := hx1.put hk1
    dsimp only at hp
    generalize hWp : ((((((w1.setCell ⟨w.heap.size, 0, none⟩ (.int .i64 (c : Nat))).setCell ⟨w.heap.size, 1, none⟩ (.int .i64 (pp : Nat))).setCell ⟨w.heap.size, 2, none⟩ (.slice Fp1 np1 dp1)).setCell ⟨w.heap.size, 3, none⟩ (.slice Fp2 np2 dp2)).setCell ⟨w.heap.size, 4, none⟩ (.slice Fp3 np3 dp3)).setCell ⟨w.heap.size, 5, none⟩ (.slice Fp4 np4 dp4)) = wp at hp
    have HWp := Lib.hid hWp
    have HXp := Lib.hid hp
    have KH := Lib.hid (HHS.out _ _ _ _ _ HXp.out.st)
    clear hWp hp hx1 hb1 hk1 KO HX0 HHS
    go_wp2_with fail
    rw [HWp.out]
    clear HWp
    refine KH.out.mono ?_
    rintro e w2 ⟨rfl, hb2⟩
    have HXq := Lib.hid (HXp.out.step hb2)
    clear x0 x1 x2 x3 x4 x5 xf0 xf1 xf2 xf3 xf4 xf5 hbb KH hb2 HXp
    obtain ⟨⟨x0, x1, x2, x3, x4, x5⟩, xf0, xf1, xf2, xf3, xf4, xf5⟩ := c6_at HXq.out.bo.box
    have hbb := (head_row HXq.out.bo.box).lt
    have K1 := Lib.hid (without_walk HXq.out.st.g1 hl1 k)
    go_wp2_with fail
    refine K1.out.mono ?_
    rintro e va ⟨oa, rfl, ha⟩
    obtain ⟨Fa, na, da, rfl⟩ := ha.kv.form
    have hxa := HXq.out.step ha.low
    clear x0 x1 x2 x3 x4 x5 xf0 xf1 xf2 xf3 xf4 xf5 hbb
    obtain ⟨⟨x0, x1, x2, x3, x4, x5⟩, xf0, xf1, xf2, xf3, xf4, xf5⟩ := c6_at hxa.bo.box
    have hbb := (head_row hxa.bo.box).lt
    have hya := hxa.set2 ha.kv
    generalize hWa : va.setCell ⟨w.heap.size, 2, none⟩ (.slice Fa na da) = wa at hya
    have HWa := Lib.hid hWa
    have HXa := Lib.hid hya
    clear ha hWa hxa hya HXq K1
    have K2 := Lib.hid (kfront_walk HXa.out.st.g2 hl2 k)
    go_wp2_with fail
    rw [HWa.out]
    clear HWa
    refine K2.out.mono ?_
    rintro e vb ⟨ob, rfl, hb⟩
    obtain ⟨Fb, nb, db, rfl⟩ := hb.kv.form
    have hxb := HXa.out.step hb.low
    clear x0 x1 x2 x3 x4 x5 xf0 xf1 xf2 xf3 xf4 xf5 hbb
    obtain ⟨⟨x0, x1, x2, x3, x4, x5⟩, xf0, xf1, xf2, xf3, xf4, xf5⟩ := c6_at hxb.bo.box
    have hbb := (head_row hxb.bo.box).lt
    have hyb := hxb.set3 hb.kv
    obtain ⟨⟨y0, y1, y2, y3, y4, y5⟩, yf0, yf1, yf2, yf3, yf4, yf5⟩ := c6_at hxb.bo.res
    have hrr := (head_row hxb.bo.res).lt
    have HXb := Lib.hid hyb
    clear hb hxb hyb HXa K2
    go_wp2
    exact bodyPost_ret (v := .agg (l11C c pp (.slice Fa na da) (.slice Fb nb db) (.slice Fp3 np3 dp3) (.slice Fp4 np4 dp4))) (by simp [results, Tryz.results9, go_sem, y0, y1, y2, y3, y4, y5]) rfl HXb.out.done
end
end Go.Proofs.YtgkblelgcikafaaGreat
