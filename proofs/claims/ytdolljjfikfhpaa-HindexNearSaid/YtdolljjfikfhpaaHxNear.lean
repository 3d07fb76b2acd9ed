/- HindexNear: no slot ahead of a key's, from its home on, has nothing; how many slots there are. -/
import Derived.Test.YtdolljjfikfhpaaHxA
namespace Go.Proofs.Ytdolljjfikfhpaa
open Go Go.RowKit Go.Deep

/- How large a table is, by how many keys were there at once. -/
structure NearInv (T : Tb) (j most : Nat) : Prop where
  top : most ≤ j
  cnt : T.cnt ≤ most
  n : T.n ≤ 3 * most + 8
theorem NearInv.act {T : Tb} {j most : Nat} (h : NearInv T j most) (gd : T.Good) (x : Actx) : NearInv (actT T x) (j + 1) (max most (actT T x).cnt) := by
  obtain ⟨h1, h2, h3⟩ := h
  unfold actT
  split
  · have hc := (gd.del_all x.key).2.1
    have hn := gd.del_n x.key most h3
    exact ⟨by omega, by omega, hn⟩
  · have hc := (gd.put_all x.key x.n).2.1
    have hn := gd.put_n x.key x.n most h3
    have : (T.put x.key x.n).cnt ≤ most + 1 := by rw [hc]; split <;> omega
    exact ⟨by omega, by omega, hn⟩
theorem rhome_is (w : World) (k n : Nat) (h : isSz n = true) :
    Calls Try.prog 19 #[.int .u64 (k : Nat), .int .i64 (n : Nat)] w fun e w' => e = .returned (.int .i64 (hm k n : Nat)) ∧ w = w' :=
  (rhome_yes w k n h).mono fun _ _ ⟨h1, h2⟩ => ⟨h1.trans (congrArg (fun z => Ending.returned (Value.int .i64 z)) (by rw [hm_mixN]; exact (Int.natCast_emod _ _).symm)), h2⟩

set_option maxHeartbeats 1000000 in
theorem near_short (w : World) (A : Option Addr) (n c : Nat) (l : Nat → Actx) (hn : n ≤ 50) (ha : ActsX w A n l) :
    Calls Try.prog 6 #[.slice A n c] w fun e w' => e = .returned (.bool true) ∧ Below w.heap.size w w' := by
  have HA := Lib.hid ha
  clear ha
  go_enter Try.func6, Try.ntmps6
  go_wp2_with fail
  refine (awake_walk _).mono ?_
  rintro e w1 ⟨rfl, h⟩
  have B1 := Lib.hid h; clear h
  go_wp2_with fail
  refine (hx_new B1.out [] (by simp)).mono ?_
  rintro e w2 ⟨p, rfl, h, _⟩
  have H2 := Lib.hid h
  clear h
  go_wp2_with fail
  go_loopg [5, 6] n (fun g s5 s6 wr => ∃ (j : Nat) (T : Tb) (m : Nat), j + g = n ∧ s5 = .int .i64 m ∧ s6 = .int .i64 j ∧ Hid (HX w wr p T [] ∧ NearInv T j m))
  case atStart => exact ⟨0, _, 0, by omega, rfl, rfl, Lib.hid ⟨H2.out, ⟨by omega, by rw [show Tb.new.cnt = 0 from none_cnt _]; omega, show 8 ≤ _ by omega⟩⟩⟩
  case round =>
    obtain ⟨j, T, m, hj, rfl, rfl, HI⟩ := hrel
    obtain ⟨hx, hr⟩ := HI.out
    have hTn : T.n ≤ 158 := by have := hr.n; have := hr.top; omega
    by_cases hlt : j < n
    · obtain ⟨wf, g, off, hA, hg, c0, c1, c2⟩ := (HA.out.below hx.below) j hlt
      have HD := Lib.hid (do_walk hx (by omega) (l j) wf)
      have HG := Lib.hid (hr.act hx.good (l j))
      clear hx hr HI wf
      subst hA
      have hjI : (j : Int) < (n : Int) := by omega
      go_wp2_with fail
      refine HD.out.mono ?_
      rintro e w3 ⟨rfl, h, _⟩
      have H3 := Lib.hid h
      have HL := Lib.hid (hx_len h)
      clear h hg HD
      go_wp2_with fail
      refine HL.out.mono ?_
      rintro e w4 ⟨rfl, rfl⟩
      clear HL c0 c1 c2
      generalize actT T (l j) = U at H3 HG ⊢
      by_cases hmx : m < U.cnt
      · have hmI : (m : Int) < (U.cnt : Int) := by omega
        rw [Nat.max_eq_right (Nat.le_of_lt hmx)] at HG
        go_wp2_with fail
        go_roundg (gk - 1)
        case measure => omega
        case rel => exact ⟨j + 1, U, U.cnt, by omega, rfl, by go_num, Lib.hid ⟨H3.out, HG.out⟩⟩
      · have hmI : ¬ (m : Int) < (U.cnt : Int) := by omega
        rw [Nat.max_eq_left (Nat.le_of_not_lt hmx)] at HG
        go_wp2_with fail
        go_roundg (gk - 1)
        case measure => omega
        case rel => exact ⟨j + 1, U, m, by omega, rfl, by go_num, Lib.hid ⟨H3.out, HG.out⟩⟩
    · have hge : ¬ (j : Int) < (n : Int) := by omega
      have HS := Lib.hid (hx_slots hx)
      have HL := Lib.hid (hx_len hx)
      have HX1 := Lib.hid hx
      have h8 := hx.good.n8
      have hhole := hx.good.ok.hole
      have hn3 := hr.n
      have hmj := hr.top
      clear hx hr HI
      have i1 : ¬ (T.n : Int) < 8 := by omega
      have i2 : ¬ (3 * (m : Int) + 9 ≤ (T.n : Int)) := by omega
      have i3 : ¬ ((T.n : Int) ≤ (T.cnt : Int)) := by omega
      have hmI : (m : Int) ≤ 50 := by omega
      have hTI : (T.n : Int) ≤ 158 := by omega
      go_wp2_with fail
      refine HS.out.mono ?_
      rintro e w4 ⟨rfl, rfl⟩
      go_wp2_with fail
      refine HL.out.mono ?_
      rintro e w4 ⟨rfl, rfl⟩
      clear HS HL
      go_wp2_with fail
      have HSZ := Lib.hid (HX1.out.sz (by omega))
      have i4 : ¬ T.n ≤ T.cnt := by omega
      simp only [decide_eq_false (show ¬ (T.n : Int) < 8 by omega), decide_eq_false (show ¬ 3 * (m : Int) + 9 ≤ (T.n : Int) by omega), decide_eq_false i4, Bool.or_false]
      clear i1 i2 i3 i4 hhole h8
      go_loopg [8] T.n (fun g s8 wr2 => ∃ i : Nat, i + g = T.n ∧ s8 = .int .i64 i ∧ Hid (HX w wr2 p T []))
      case atStart => exact ⟨0, by omega, rfl, HX1⟩
      case round =>
        obtain ⟨i, hi, rfl, HI2⟩ := hrel
        by_cases hin : i < T.n
        · have hinI : (i : Int) < (T.n : Int) := by omega
          have HSL := Lib.hid (hx_slot HI2.out i hin)
          have hok := HI2.out.good.ok
          have HAH := Lib.hid (fun e => hok.ahead hin e)
          have HST := Lib.hid (hok.steps_lt (T.sl i).key)
          have HGI := Lib.hid (fun (x y : Nat) (hx : x < T.n) (hy : y < T.n) e => T.go_inj (k := (T.sl i).key) (hi := hx) (hj := hy) hok.pos e)
          have HGL := Lib.hid (fun x => T.go_lt hok.pos (T.sl i).key x)
          have HRH := Lib.hid (fun w => rhome_is w (T.sl i).key T.n HSZ.out)
          have H0 : Hid (hm (T.sl i).key T.n = T.go (T.sl i).key 0) := Lib.hid (by unfold Tb.go; rw [Nat.add_zero, Nat.mod_eq_of_lt (hm_lt _ hok.pos)])
          have HNX := Lib.hid (fun x => go_succ T (T.sl i).key x)
          clear hok
          obtain ⟨s, hs⟩ : ∃ s, T.sl i = s := ⟨_, rfl⟩
          rw [hs] at HSL HAH HST HGI HGL HRH H0 HNX
          obtain ⟨key, v, full⟩ := s
          simp only at HSL HAH HST HGI HGL HRH H0 HNX
          clear hs
          go_wp2_with fail
          refine HSL.out.mono ?_
          rintro e w5 ⟨rfl, hb⟩
          have H5 := Lib.hid (HI2.out.still hb).1
          clear hb HSL HI2
          go_wp2_with fail
          refine (HRH.out _).mono ?_
          rintro e w6 ⟨rfl, rfl⟩
          clear HRH
          rw [H0.out]
          cases full
          · go_wp2_with fail
            go_loopg [12] 0 (fun g s12 wr3 => ∃ x : Nat, g = 0 ∧ s12 = .int .i64 (T.go key x : Nat) ∧ Hid (HX w wr3 p T []))
            case atStart => exact ⟨0, rfl, rfl, H5⟩
            case round =>
              obtain ⟨x, hg0, rfl, HI3⟩ := hrel
              go_wp2
              go_roundg (T.n - 1 - i)
              case measure => omega
              case rel => exact ⟨i + 1, by omega, by go_num, HI3⟩
          · obtain ⟨hah1, hah2⟩ := HAH.out rfl
            have hst := HST.out
            have HA1 := Lib.hid hah1
            have HA2 := Lib.hid hah2
            clear hah1 hah2 HAH
            go_wp2_with fail
            go_loopg [12] (T.steps key) (fun g s12 wr3 => ∃ x : Nat, x + g = T.steps key ∧ s12 = .int .i64 (T.go key x : Nat) ∧ Hid (HX w wr3 p T []))
            case atStart => exact ⟨0, by omega, rfl, H5⟩
            case round =>
              obtain ⟨x, hxg, rfl, HI3⟩ := hrel
              by_cases hxs : x = T.steps key
              · rw [hxs, HA1.out]
                go_wp2
                go_roundg (T.n - 1 - i)
                case measure => omega
                case rel => exact ⟨i + 1, by omega, by go_num, HI3⟩
              · have hne : T.go key x ≠ i := fun e => hxs (HGI.out x (T.steps key) (by omega) hst (e.trans HA1.out.symm))
                have hlt2 := HGL.out x
                have HSL := Lib.hid (hx_slot HI3.out (T.go key x) hlt2)
                have hfx := HA2.out x (by omega)
                have hnx := HNX.out x
                obtain ⟨y, hy⟩ : ∃ y, T.go key x = y := ⟨_, rfl⟩
                rw [hy] at hne hlt2 HSL hfx hnx ⊢
                obtain ⟨s, hs⟩ : ∃ s, T.sl y = s := ⟨_, rfl⟩
                rw [hs] at HSL hfx
                obtain ⟨sk, sv, sf⟩ := s
                simp only at hfx
                subst hfx
                have hneI : ((y : Int) == (i : Int)) = false := by rw [beq_eq_false_iff_ne]; omega
                have HNXT := Lib.hid hnx
                clear hs hy hnx
                go_wp2_with fail
                refine HSL.out.mono ?_
                rintro e w7 ⟨rfl, hb⟩
                have H7 := Lib.hid (HI3.out.still hb).1
                clear hb HSL
                go_wp2
                go_roundg (gk - 1)
                case measure => omega
                case rel => exact ⟨x + 1, by omega, congrArg (Value.int .i64) (by rw [← HNXT.out, Int.natCast_emod]; rfl), H7⟩
        · have hinI : ¬ (i : Int) < (T.n : Int) := by omega
          have HE := Lib.hid HI2.out.below
          go_wp2
          go_ret
          exact ⟨rfl, HE.out⟩
theorem near_long (w : World) (A : Option Addr) (n c : Nat) (hn : 50 < n) :
    Calls Try.prog 6 #[.slice A n c] w fun e w' => e = .returned (.bool true) ∧ Below w.heap.size w w' := by
  have h1 : (50 : Int) < (n : Int) := by omega
  go_enter Try.func6, Try.ntmps6
  go_wp2_with fail
  refine (awake_walk _).mono ?_
  rintro e w1 ⟨rfl, h⟩
  have B1 := Lib.hid h
  clear h
  go_wp2
  go_ret
  exact ⟨rfl, B1.out⟩
theorem hindexNear_walk (w : World) (A : Option Addr) (n c : Nat) (l : Nat → Actx) (ha : ActsX w A n l) :
    Calls Try.prog 6 #[.slice A n c] w fun e w' => e = .returned (.bool true) ∧ Below w.heap.size w w' := by
  by_cases hn : n ≤ 50
  · exact near_short w A n c l hn ha
  · exact near_long w A n c (by omega)
end Go.Proofs.Ytdolljjfikfhpaa
