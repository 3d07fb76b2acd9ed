/- Two queues: the program's own kin, kout, cut. -/
import Derived.Test.YtiokejhplbadeaaTqZ
import Derived.Deep.RegionHeld3
import Derived.Deep.RegionWith
import Derived.Deep.AppendLies
import Derived.Deep.RegionLaw
import Derived.Deep.DeepCutAuto
namespace Go.Proofs.Ytiokejhplbadeaa
open Go Go.RowKit Go.Deep

section
variable {w : World} {u1 u2 u3 : Value} {s : L9}
theorem kin9_walk (c : Nat) (hc : c ≤ 1048576) : Calls Try.prog 82 #[.int .i64 (c : Nat)] w fun e w' => e = .returned (.int .i64 (kin9 c : Nat)) ∧ w = w' := by
  obtain ⟨q, hq⟩ : ∃ q, c / 4 = q := ⟨_, rfl⟩
  have e4 : ((c : Nat) : Int).tdiv 4 = (q : Int) := by rw [Int.tdiv_eq_ediv_of_nonneg (by omega)]; omega
  have HK : Hid (kin9 c = max q 1) := Lib.hid (by rw [← hq]; rfl)
  have hqI : (q : Int) ≤ 1048576 := by omega
  clear hq hc
  rcases (by omega : q = 0 ∨ q = 1 ∨ 1 < q) with rfl | rfl | hq
  · go_enter Try.func82, Try.ntmps82
    go_wp2
    go_ret
    exact ⟨by rw [HK.out]; rfl, rfl⟩
  · go_enter Try.func82, Try.ntmps82
    go_wp2
    go_ret
    exact ⟨by rw [HK.out]; rfl, rfl⟩
  · have hq1 : (1 : Int) < (q : Int) := by omega
    go_enter Try.func82, Try.ntmps82
    go_wp2
    go_ret
    exact ⟨by rw [HK.out, Nat.max_eq_left (by omega)]; rfl, rfl⟩
theorem kout9_walk (c : Nat) (hc : c ≤ 1048576) : Calls Try.prog 88 #[.int .i64 (c : Nat)] w fun e w' => e = .returned (.int .i64 (c / 2 : Nat)) ∧ w = w' := by
  obtain ⟨q, hq⟩ : ∃ q, c / 2 = q := ⟨_, rfl⟩
  have e4 : ((c : Nat) : Int).tdiv 2 = (q : Int) := by rw [Int.tdiv_eq_ediv_of_nonneg (by omega)]; omega
  have hqI : (q : Int) ≤ 1048576 := by omega
  rw [hq]
  clear hq hc
  go_enter Try.func88, Try.ntmps88
  go_wp2
  go_ret
  exact ⟨rfl, rfl⟩
def Cut9 (w0 w : World) (b r : Nat) (s : L9) (e : Ending) (w' : World) : Prop := ∃ v1 v2 v3, e = .returned (.tuple #[]) ∧ Bx9 w0 w' PT9 b r s v1 v2 v3 ∧ ∀ v ks, KV w v ks → KV w' v ks
/- cut, where the begin of In's end is known. -/
set_option maxHeartbeats 1000000 in
theorem cut9_in {w0 : World} {b r i m n1 d1 c h : Nat} {F1 F2 F3 : Option Addr} {n2 d2 n3 d3 : Nat} {ad : Addr} {l1 l2 l3 ys : List Nat} (hi9 : (i : Int) ≤ 100000000) (HX : Hid (Bx9 w0 w PT9 b r ⟨c, l1, l2, l3⟩ (.slice F1 n1 d1) (.slice F2 n2 d2) (.slice F3 n3 d3)))
    (hd : d1 = i ∧ n1 = i ∨ d1 ≠ i ∧ F1 = some ad) (hcap : n1 ≤ d1) (h1 : n1 ≤ 1048576) (hi : i ≤ n1) (hhI : (h : Int) ≤ 1048576)
    (HV : Hid (KVV (w.alloc (.cells #[tailV F1 n1 d1 i, .slice F2 n2 d2] 24)) (.slice (some ⟨w.heap.size, 0, none⟩) 2 2) [l1.drop i, l2]))
    (HC : Hid (∀ (W : World) (v : Value), KVV W v [l1.drop i, l2] → Calls Try.prog 65 #[v] W (OwnK W ys))) (hll : ys.length ≤ 100000000)
    (KK : Hid (∀ (W : World), Calls Try.prog 88 #[.int .i64 (c : Nat)] W fun e w' => e = .returned (.int .i64 (h : Nat)) ∧ W = w'))
    (hl1 : l1.length ≤ 100000000) (hl3 : l3.length ≤ 100000000) (hm : m ≤ 100000000) :
    Calls Try.prog 83 #[.pointer (some ⟨b, 0, none⟩), .int .i64 (i : Nat), .int .i64 (m : Nat)] w (Cut9 w0 w b r ⟨c, l1.take i, ys.take h, l3.take m⟩) := by
  have HSS : Hid (∀ w' : World, Below w.heap.size w w' → w'.cell? ⟨b, 0, none⟩ = some (.int .i64 (c : Nat)) ∧ w'.cell? ⟨b, 1, none⟩ = some (.slice F1 n1 d1) ∧ w'.cell? ⟨b, 2, none⟩ = some (.slice F2 n2 d2) ∧ w'.cell? ⟨b, 3, none⟩ = some (.slice F3 n3 d3)) := Lib.hid (fun w' hb => by
    obtain ⟨⟨x0, x1, x2, x3⟩, _⟩ := c4_at (HX.out.step hb).bo.box
    exact ⟨x0, x1, x2, x3⟩)
  have hblt := (head_row HX.out.bo.box).lt
  have hbne : b ≠ w.heap.size := by omega
  have hbne2 : w.heap.size ≠ b := by omega
  rcases hd with ⟨hd1, hd2⟩ | ⟨hd1, rfl⟩
  · obtain rfl : n1 = i := hd2
    obtain rfl : n1 = d1 := hd1.symm
    rw [show tailV F1 n1 n1 n1 = .slice F1 0 0 by simp [tailV]] at HV
    clear hd1 hcap hi
    obtain ⟨x0, x1, x2, x3⟩ := HSS.out w (Below.refl _ _)
    go_enter Try.func83, Try.ntmps83
    go_wp2_with fail
    go_cut [] (fun wx => ∃ Fa na da, Bx9 w0 wx PT9 b r ⟨c, l1, ys.take h, l3⟩ (.slice F1 n1 n1) (.slice Fa na da) (.slice F3 n3 d3) ∧ ∀ v ks, KV w v ks → KV wx v ks)
    case first =>
      go_region_law
        (first
          | (go_simp; go_at_call 65; refine (HC.out _ _ (HV.out.below (below_drewn (Below.refl _ _) _))).mono ?_; rintro e wa ⟨va, rfl, ha⟩; have hba := (below_drewn (low_one w (.cells #[.slice F1 0 0, .slice F2 n2 d2] 24)) _).trans (ha.low.mono (by simp)); obtain ⟨kk0, kk1, kk2, kk3⟩ := HSS.out wa hba)
          | (go_simp; go_at_call 88; refine (KK.out _).mono ?_; rintro e wk ⟨rfl, rfl⟩)
          | (go_simp; go_at_call 75; refine (fall_walk ha.kv hll _ (by omega) (by omega)).mono ?_; rintro e wb ⟨v1, v2, rfl, hbb, hk1, hk2⟩; obtain ⟨Fa, na, da, rfl⟩ := hk2.form; have hbb2 := hba.trans (hbb.mono hba.size); obtain ⟨⟨xx0, xx1, xx2, xx3⟩, ff0, ff1, ff2, ff3⟩ := c4_at (HX.out.step hbb2).bo.box; have hlt9 := (head_row (HX.out.step hbb2).bo.box).lt))
      all_goals
        go_wp2_with fail
        go_meet
        rw [Int.toNat_natCast] at hk2
        exact ⟨_, _, _, (HX.out.step hbb2).set2 hk2, fun v ks hk => (HX.out.step hbb2).kv (hk.below hbb2)⟩
    case rest =>
      obtain ⟨Fa, na, da, hxc, hkp⟩ := hcut
      have HXa := Lib.hid hxc
      have HKP := Lib.hid hkp
      have KF1 := Lib.hid (fall_walk HXa.out.st.g1 hl1 (n1 : Nat) (by omega) (by omega))
      clear hxc hkp x0 x1 x2 x3 HC HV KK HSS HX hblt hbne hbne2 hll
      obtain ⟨⟨x0, x1, x2, x3⟩, xf0, xf1, xf2, xf3⟩ := c4_at HXa.out.bo.box
      go_wp2_with fail
      refine KF1.out.mono ?_
      rintro e wb ⟨v1, v2, rfl, hbb, hk1, hk2⟩
      obtain ⟨Fb, nb, db, rfl⟩ := hk2.form
      rw [Int.toNat_natCast] at hk2
      have hx := HXa.out.step hbb
      have hy := hx.set1 hk2
      clear x0 x1 x2 x3 xf0 xf1 xf2 xf3
      obtain ⟨⟨x0, x1, x2, x3⟩, xf0, xf1, xf2, xf3⟩ := c4_at hx.bo.box
      have hbb9 := (head_row hx.bo.box).lt
      have HKQ := Lib.hid (fun v ks hk => hx.kv (i := 1) (x := .slice Fb nb db) ((HKP.out v ks hk).below hbb))
      generalize hWb : wb.setCell ⟨b, 1, none⟩ (.slice Fb nb db) = wd at hy HKQ
      have HWb := Lib.hid hWb
      have HXd := Lib.hid hy
      have KF3 := Lib.hid (fall_walk HXd.out.st.g3 hl3 (m : Nat) (by omega) (by omega))
      clear hWb hx hy hbb hk1 hk2 HXa HKP KF1
      go_wp2_with fail
      rw [HWb.out]
      refine KF3.out.mono ?_
      rintro e we ⟨v1, v2, rfl, hbe, hk1, hk2⟩
      obtain ⟨Fe, ne, de, rfl⟩ := hk2.form
      rw [Int.toNat_natCast] at hk2
      have hx := HXd.out.step hbe
      have HXe := Lib.hid (hx.set3 hk2)
      have HKE := Lib.hid (fun v ks hk => hx.kv (i := 3) (x := .slice Fe ne de) ((HKQ.out v ks hk).below hbe))
      clear x0 x1 x2 x3 xf0 xf1 xf2 xf3 hbb9
      obtain ⟨⟨x0, x1, x2, x3⟩, xf0, xf1, xf2, xf3⟩ := c4_at hx.bo.box
      have hbb9 := (head_row hx.bo.box).lt
      clear hx hbe hk1 hk2 KF3 HXd HKQ HWb
      go_wp2
      exact bodyPost_ret (v := .tuple #[]) (by simp [results, Try.results83, go_sem]) rfl ⟨_, _, _, rfl, HXe.out, HKE.out⟩
  · rw [show tailV (some ad) n1 d1 i = .slice (some (ad.add i)) (n1 - i) (d1 - i) by simp [tailV, hd1]] at HV
    have hiI : (i : Int) ≤ (n1 : Int) := by omega
    have hidI : (i : Int) ≤ (d1 : Int) := by omega
    have hid1 : i ≤ d1 := by omega
    obtain ⟨x0, x1, x2, x3⟩ := HSS.out w (Below.refl _ _)
    go_enter Try.func83, Try.ntmps83
    go_wp2_with fail
    go_cut [] (fun wx => ∃ Fa na da, Bx9 w0 wx PT9 b r ⟨c, l1, ys.take h, l3⟩ (.slice (some ad) n1 d1) (.slice Fa na da) (.slice F3 n3 d3) ∧ ∀ v ks, KV w v ks → KV wx v ks)
    case first =>
      go_region_law
        (first
          | (go_simp; go_at_call 65; refine (HC.out _ _ (HV.out.below (below_drewn (Below.refl _ _) _))).mono ?_; rintro e wa ⟨va, rfl, ha⟩; have hba := (below_drewn (low_one w (.cells #[.slice (some (ad.add i)) (n1 - i) (d1 - i), .slice F2 n2 d2] 24)) _).trans (ha.low.mono (by simp)); obtain ⟨kk0, kk1, kk2, kk3⟩ := HSS.out wa hba)
          | (go_simp; go_at_call 88; refine (KK.out _).mono ?_; rintro e wk ⟨rfl, rfl⟩)
          | (go_simp; go_at_call 75; refine (fall_walk ha.kv hll _ (by omega) (by omega)).mono ?_; rintro e wb ⟨v1, v2, rfl, hbb, hk1, hk2⟩; obtain ⟨Fa, na, da, rfl⟩ := hk2.form; have hbb2 := hba.trans (hbb.mono hba.size); obtain ⟨⟨xx0, xx1, xx2, xx3⟩, ff0, ff1, ff2, ff3⟩ := c4_at (HX.out.step hbb2).bo.box; have hlt9 := (head_row (HX.out.step hbb2).bo.box).lt))
      all_goals
        go_wp2_with fail
        go_meet
        rw [Int.toNat_natCast] at hk2
        exact ⟨_, _, _, (HX.out.step hbb2).set2 hk2, fun v ks hk => (HX.out.step hbb2).kv (hk.below hbb2)⟩
    case rest =>
      obtain ⟨Fa, na, da, hxc, hkp⟩ := hcut
      have HXa := Lib.hid hxc
      have HKP := Lib.hid hkp
      have KF1 := Lib.hid (fall_walk HXa.out.st.g1 hl1 (i : Nat) (by omega) (by omega))
      clear hxc hkp x0 x1 x2 x3 HC HV KK HSS HX hblt hbne hbne2 hll
      obtain ⟨⟨x0, x1, x2, x3⟩, xf0, xf1, xf2, xf3⟩ := c4_at HXa.out.bo.box
      go_wp2_with fail
      refine KF1.out.mono ?_
      rintro e wb ⟨v1, v2, rfl, hbb, hk1, hk2⟩
      obtain ⟨Fb, nb, db, rfl⟩ := hk2.form
      rw [Int.toNat_natCast] at hk2
      have hx := HXa.out.step hbb
      have hy := hx.set1 hk2
      clear x0 x1 x2 x3 xf0 xf1 xf2 xf3
      obtain ⟨⟨x0, x1, x2, x3⟩, xf0, xf1, xf2, xf3⟩ := c4_at hx.bo.box
      have hbb9 := (head_row hx.bo.box).lt
      have HKQ := Lib.hid (fun v ks hk => hx.kv (i := 1) (x := .slice Fb nb db) ((HKP.out v ks hk).below hbb))
      generalize hWb : wb.setCell ⟨b, 1, none⟩ (.slice Fb nb db) = wd at hy HKQ
      have HWb := Lib.hid hWb
      have HXd := Lib.hid hy
      have KF3 := Lib.hid (fall_walk HXd.out.st.g3 hl3 (m : Nat) (by omega) (by omega))
      clear hWb hx hy hbb hk1 hk2 HXa HKP KF1
      go_wp2_with fail
      rw [HWb.out]
      refine KF3.out.mono ?_
      rintro e we ⟨v1, v2, rfl, hbe, hk1, hk2⟩
      obtain ⟨Fe, ne, de, rfl⟩ := hk2.form
      rw [Int.toNat_natCast] at hk2
      have hx := HXd.out.step hbe
      have HXe := Lib.hid (hx.set3 hk2)
      have HKE := Lib.hid (fun v ks hk => hx.kv (i := 3) (x := .slice Fe ne de) ((HKQ.out v ks hk).below hbe))
      clear x0 x1 x2 x3 xf0 xf1 xf2 xf3 hbb9
      obtain ⟨⟨x0, x1, x2, x3⟩, xf0, xf1, xf2, xf3⟩ := c4_at hx.bo.box
      have hbb9 := (head_row hx.bo.box).lt
      clear hx hbe hk1 hk2 KF3 HXd HKQ HWb
      go_wp2
      exact bodyPost_ret (v := .tuple #[]) (by simp [results, Try.results83, go_sem]) rfl ⟨_, _, _, rfl, HXe.out, HKE.out⟩
theorem cut9_walk {w0 : World} {b r i m : Nat} (hX : Bx9 w0 w PT9 b r s u1 u2 u3) (hi : i ≤ s.inn.length) (hm : m ≤ s.main.length) (h1 : s.inn.length ≤ 1048576) (h2 : s.out.length ≤ 1048576) (h3 : s.main.length ≤ 1048576) (hc : s.c ≤ 1048576) :
    Calls Try.prog 83 #[.pointer (some ⟨b, 0, none⟩), .int .i64 (i : Nat), .int .i64 (m : Nat)] w (Cut9 w0 w b r ⟨s.c, s.inn.take i, (s.inn.drop i ++ s.out).take (s.c / 2), s.main.take m⟩) := by
  obtain ⟨F1, d1, rfl, hcap, hnil, hall⟩ := hX.st.g1.mem
  obtain ⟨F2, n2, d2, rfl⟩ := hX.st.form2
  obtain ⟨F3, n3, d3, rfl⟩ := hX.st.form3
  have hfl : [s.inn.drop i, s.out].flatten = s.inn.drop i ++ s.out := by simp
  have hll : (s.inn.drop i ++ s.out).length ≤ 100000000 := by rw [List.length_append, List.length_drop]; omega
  have hlen : [s.inn.drop i, s.out].flatten.length ≤ 100000000 := by rw [hfl]; exact hll
  have HC : Hid (∀ (W : World) (v : Value), KVV W v [s.inn.drop i, s.out] → Calls Try.prog 65 #[v] W (OwnK W (s.inn.drop i ++ s.out))) := Lib.hid (fun W v hv => by
    have h := concat_walk hv (by simp) hlen
    rw [hfl] at h
    exact h)
  by_cases hd : d1 = i
  · exact cut9_in (ad := ⟨0, 0, none⟩) (by omega) (Lib.hid hX) (.inl ⟨hd, by omega⟩) hcap h1 hi (by omega) (Lib.hid (KVV.two (hX.st.g1.tail hi) hX.st.g2 _)) HC hll (Lib.hid (fun W => kout9_walk s.c hc)) (by omega) (by omega) (by omega)
  · obtain ⟨ad, rfl⟩ : ∃ ad, F1 = some ad := by
      cases F1 with
      | none => have := hnil rfl; omega
      | some ad => exact ⟨ad, rfl⟩
    exact cut9_in (ad := ad) (by omega) (Lib.hid hX) (.inr ⟨hd, rfl⟩) hcap h1 hi (by omega) (Lib.hid (KVV.two (hX.st.g1.tail hi) hX.st.g2 _)) HC hll (Lib.hid (fun W => kout9_walk s.c hc)) (by omega) (by omega) (by omega)
end
end Go.Proofs.Ytiokejhplbadeaa
