/- Inter-reference recency: Bounds, walked. -/
import Derived.Test.YtjfhapobbglbpaaLiU
import Derived.Test.YtjfhapobbglbpaaLiN
import Derived.Test.YtjfhapobbglbpaaLiV
import Derived.Test.YtjfhapobbglbpaaLiG
import Derived.IntWalk
namespace Go.Proofs.Ytjfhapobbglbpaa
open Go Go.RowKit Go.Deep

/- A law's run, ahead of what the law says of it. -/
theorem run12_ok {w : World} {v : Value} {l : List Act8} (ha : AV w v l) (c : Nat) : ((L12.new (1 + c % 12 : Nat)).runS l).Ok := (L12.ok_new _).runS _ (fun x hx => by
  obtain ⟨A, c', _, h1⟩ := ha.mem
  obtain ⟨j, hj, rfl⟩ := List.getElem_of_mem hx
  exact (h1 j hj).1)
theorem L12.Ok.topHot {s : L12} (h : s.Ok) {i : Nat} (hi : i + 1 = s.s.length) : (s.s[i]'(by omega)).f = 2 := by
  have hne : s.s ≠ [] := fun e => by rw [e] at hi; cases hi
  have h1 : s.s.getLast hne = s.s[i]'(by omega) := by
    rw [List.getLast_eq_getElem]
    congr 1
    omega
  rw [← h1]
  exact pr_last _ s.s s.s.dropLast (by rw [h.top]; exact (List.dropLast_concat_getLast hne).symm)
section
variable {w : World} {v : Value} {l : List Act8}
set_option maxHeartbeats 4000000 in
set_option maxRecDepth 4000 in
theorem bounds12_short (PO : Pol12Ok) (AW : ∀ w, Calls Try.prog 9 #[] w (RetB w true)) (c : Nat) (hc : c < 256) (ha : AV w v l) (hl : l.length ≤ 60) : Calls Try.prog 6 #[.int .u8 (c : Nat), v] w (RetB w true) := by
  have HAW := Lib.hid (AW w)
  have HRUN : Hid (∀ W, AV W v l → Calls Try.prog 16 #[.int .u8 (c : Nat), v] W (P12 W ((L12.new (1 + c % 12 : Nat)).runS l))) := Lib.hid (fun W h => run12_walk PO c hc h hl)
  have HOKN := Lib.hid (run12_ok ha c)
  have HAV := Lib.hid ha
  obtain ⟨A, cap, rfl, _⟩ := ha.mem
  obtain ⟨na, hna⟩ : ∃ na, l.length = na := ⟨_, rfl⟩
  rw [hna] at hl HAV HRUN ⊢
  obtain ⟨σ, hσN⟩ : ∃ σN, (L12.new (1 + c % 12 : Nat)).runS l = σN := ⟨_, rfl⟩
  rw [hσN] at HRUN HOKN
  have hlen := HOKN.out.len
  have hhot := HOKN.out.hot
  have hgone := HOKN.out.gone
  have hcap := HOKN.out.cap
  have hsl := HOKN.out.sl
  have hpos := HOKN.out.pos
  have HGH : Hid (∀ W u1 u2, St12 W σ u1 u2 → Calls Try.prog 21 #[.agg (l12C σ.c u1 u2)] W (fun e w' => e = .returned (.int .i64 (nk 0 σ.s : Nat)) ∧ Below W.heap.size W w')) := Lib.hid (fun W _ _ h => PO.ghosts h HOKN.out)
  have HRM : Hid (∀ W : World, Calls Try.prog 26 #[.int .i64 (σ.c : Nat)] W fun e w'' => e = .returned (.int .i64 (roomH σ.c : Nat)) ∧ ∃ m', w'' = W.drewN m') := Lib.hid (fun W => room_quiet (w := W) σ.c hcap hpos 0)
  have HTOP : Hid (∀ (i : Nat) (hi : i + 1 = σ.s.length), (σ.s[i]'(by omega)).f = 2) := Lib.hid (fun i hi => HOKN.out.topHot hi)
  clear ha hna AW hσN hc HOKN
  have hlI : ¬ (60 : Int) < (na : Int) := by omega
  go_enter Try.func6, Try.ntmps6
  go_wp2_with fail
  refine (HAW.out).mono ?_
  rintro e w1 ⟨rfl, hb1⟩
  have HL1 := Lib.hid hb1
  have HAV1 := Lib.hid (HAV.out.below hb1)
  clear hb1 HAW HAV
  go_wp2_with fail
  refine (HRUN.out w1 HAV1.out).mono ?_
  rintro e w2 ⟨q1, q2, he, hb2, hk2⟩
  obtain ⟨F1, d1, rfl, -⟩ := hk2.g1.mem
  obtain ⟨F2, d2, rfl, -⟩ := hk2.g2.mem
  obtain ⟨n1, hn1⟩ : ∃ m, σ.s.length = m := ⟨_, rfl⟩
  obtain ⟨n2, hn2⟩ : ∃ m, σ.q.length = m := ⟨_, rfl⟩
  have HN := Lib.hid hn1
  rw [hn1] at hk2 he hsl
  rw [hn2] at hlen hk2 he
  subst he
  have hbs := Bs12.new (T := PT12) (by decide) (HL1.out.trans (hb2.mono HL1.out.size)) hk2
  have HBS := Lib.hid hbs
  clear hb2 hk2 hbs HRUN HL1 HAV1 hn1 hn2
  obtain ⟨m2, hm2⟩ : ∃ m, nk 2 σ.s = m := ⟨_, rfl⟩
  obtain ⟨m0, hm0⟩ : ∃ m, nk 0 σ.s = m := ⟨_, rfl⟩
  obtain ⟨rm, hrm⟩ : ∃ m, roomH σ.c = m := ⟨_, rfl⟩
  obtain ⟨cc, hcc⟩ : ∃ cc, σ.c = cc := ⟨_, rfl⟩
  have HCC := Lib.hid hcc
  have HM2 : Hid (nk 2 (σ.s.take n1) = m2) := Lib.hid (by rw [← HN.out, List.take_length]; exact hm2)
  have HM0 : Hid (nk 0 (σ.s.take n1) = m0) := Lib.hid (by rw [← HN.out, List.take_length]; exact hm0)
  rw [hm2] at hlen hhot
  rw [hm0] at hgone HGH
  rw [hrm] at hhot HRM
  rw [hcc] at hlen hgone hcap HGH HRM
  have hi1 : (m2 : Int) + (n2 : Int) ≤ (cc : Int) := by omega
  have hi2 : (m2 : Int) ≤ (rm : Int) := by omega
  have hi3 : (m0 : Int) ≤ (cc : Int) := by omega
  have hi4 : (cc : Int) ≤ 1048576 := by omega
  have hi5 : (n1 : Int) ≤ 2097152 := by omega
  have hi6 : (0 : Int) ≤ (m2 : Int) := by omega
  rw [hcc] at HBS ⊢
  clear hlen hhot hgone hcap hcc hpos hm2 hm0 hrm hsl
  have hIH : Hid (∀ (f i : Nat), nk f (σ.s.take i) ≤ i) := Lib.hid (fun f i => by
    have h1 : nk f (σ.s.take i) ≤ (σ.s.take i).length := List.countP_le_length
    rw [List.length_take] at h1
    omega)
  go_upto_region 5 with fail
  generalize w2.alloc (.cells (l12C cc (.slice F1 n1 d1) (.slice F2 n2 d2)) PT12) = w5 at HBS ⊢
  generalize w2.heap.size = b at HBS ⊢
  have hbx := HBS.out.box
  rw [HCC.out] at hbx
  obtain ⟨⟨x0, x1, x2⟩, _⟩ := c3_at hbx
  clear hbx
  have hbb : b < w5.heap.size := (head_row HBS.out.box).lt
  go_wp2_with fail
  go_loopg [7, 8, 9] n1 (fun gg s7 s8 s9 wr => ∃ (i h g : Nat), i + gg = n1 ∧ s7 = .int .i64 (h : Nat) ∧ s8 = .int .i64 (g : Nat) ∧ s9 = .int .i64 (i : Nat) ∧ h ≤ i ∧ g ≤ i ∧ Hid (h = nk 2 (σ.s.take i)) ∧ Hid (g = nk 0 (σ.s.take i)) ∧ wr = w5)
  case atStart => exact ⟨0, 0, 0, by omega, rfl, rfl, rfl, Nat.le_refl _, Nat.le_refl _, Lib.hid rfl, Lib.hid rfl, rfl⟩
  case round =>
    obtain ⟨i, h, g, hi, rfl, rfl, rfl, hhi, hgi, HH, HG, rfl⟩ := hrel
    by_cases hlt : i < n1
    · have hltI : (i : Int) < (n1 : Int) := by omega
      have hil : i < σ.s.length := by rw [HN.out]; exact hlt
      obtain ⟨F', d', e, _, _, h3⟩ := HBS.out.st.g1.mem
      injection e with e1 e2 e3
      subst e1 e3
      obtain ⟨gb, off, hF, hg, q0, q1⟩ := h3 i hil
      have hx2 := nk_take 2 hil
      have hx0 := nk_take 0 hil
      obtain ⟨fx, hfe⟩ : ∃ fx, σ.s[i].f = fx := ⟨_, rfl⟩
      rw [hfe] at q1 hx2 hx0
      subst hF
      clear h3 e2 q0
      by_cases he2 : fx = 2
      · subst he2
        have HX2 : Hid (h + 1 = nk 2 (σ.s.take (i + 1))) := Lib.hid (by rw [hx2, if_pos rfl, ← HH.out])
        have HX0 : Hid (g = nk 0 (σ.s.take (i + 1))) := Lib.hid (by rw [hx0, if_neg (by decide), Nat.add_zero, ← HG.out])
        have q1' : wr.cell? ⟨gb, off + i * 2 + 1, none⟩ = some (.int .i64 2) := q1
        clear hx2 hx0 hfe q1
        go_wp2
        go_roundg (gk - 1)
        case measure => omega
        case rel => exact ⟨i + 1, h + 1, g, by omega, by go_num, rfl, by go_num, by omega, by omega, HX2, HX0, rfl⟩
      · have he2I : ¬ (fx : Int) = 2 := by omega
        have HX2 : Hid (h = nk 2 (σ.s.take (i + 1))) := Lib.hid (by rw [hx2, if_neg he2, Nat.add_zero, ← HH.out])
        by_cases he0 : fx = 0
        · subst he0
          have HX0 : Hid (g + 1 = nk 0 (σ.s.take (i + 1))) := Lib.hid (by rw [hx0, if_pos rfl, ← HG.out])
          have q1' : wr.cell? ⟨gb, off + i * 2 + 1, none⟩ = some (.int .i64 0) := q1
          clear hx2 hx0 hfe q1 he2I
          go_wp2
          go_roundg (gk - 1)
          case measure => omega
          case rel => exact ⟨i + 1, h, g + 1, by omega, rfl, by go_num, by go_num, by omega, by omega, HX2, HX0, rfl⟩
        · have he0I : ¬ (fx : Int) = 0 := by omega
          have HX0 : Hid (g = nk 0 (σ.s.take (i + 1))) := Lib.hid (by rw [hx0, if_neg he0, Nat.add_zero, ← HG.out])
          clear hx2 hx0 hfe
          go_wp2
          go_roundg (gk - 1)
          case measure => omega
          case rel => exact ⟨i + 1, h, g, by omega, rfl, rfl, by go_num, by omega, by omega, HX2, HX0, rfl⟩
    · have hltI : ¬ (i : Int) < (n1 : Int) := by omega
      obtain rfl : i = n1 := by omega
      obtain rfl : h = m2 := HH.out.trans HM2.out
      obtain rfl : g = m0 := HG.out.trans HM0.out
      have KR := HRM
      clear HH HG HM2 HM0 HRM hIH hlt hi
      go_wp2_with fail
      refine (KR.out _).mono ?_
      rintro e wk ⟨rfl, m', rfl⟩
      clear KR
      have hbd := below_drewn (Below.refl wr.heap.size wr) m'
      have HBD := Lib.hid (HBS.out.step hbd)
      have KG := Lib.hid (HGH.out _ _ _ HBD.out.st)
      have hne : Hid (i ≠ 0 → ∃ (gb off : Nat), F1 = some ⟨gb, off, none⟩ ∧ gb < wr.heap.size ∧ wr.cell? ⟨gb, off + (i - 1) * 2 + 1, none⟩ = some (.int .i64 2)) := Lib.hid (fun h0 => by
        obtain ⟨F', d', e, _, _, h3⟩ := HBS.out.st.g1.mem
        injection e with e1 e2 e3
        subst e1 e3
        have hil : i - 1 < σ.s.length := by rw [HN.out]; omega
        obtain ⟨gb, off, hF, hg, q0, q1⟩ := h3 (i - 1) hil
        rw [HTOP.out (i - 1) (by rw [HN.out]; omega)] at q1
        exact ⟨gb, off, hF, hg, q1⟩)
      clear HGH hbd
      by_cases h0 : i = 0
      · subst h0
        go_wp2_with fail
        refine KG.out.mono ?_
        rintro e w6 ⟨rfl, hb6⟩
        have HB6 := Lib.hid (HBD.out.step hb6)
        clear hb6 KG HBS HBD hne
        go_wp2
        go_ret
        exact ⟨rfl, HB6.out.low⟩
      · obtain ⟨gb, off, rfl, hg, q1⟩ := hne.out h0
        have h0I : ¬ (i : Int) = 0 := by omega
        obtain ⟨j, hj⟩ : ∃ j, i - 1 = j := ⟨_, rfl⟩
        have hjI : (i : Int) - 1 = (j : Int) := by omega
        have hji : (j : Int) < (i : Int) := by omega
        have hw : IntKind.i64.wrap ((i : Int) - 1) = (j : Int) := by rw [hjI]; exact IntWalk.i64_in _ (by omega)
        rw [hj] at q1
        go_wp2_with fail
        refine KG.out.mono ?_
        rintro e w6 ⟨rfl, hb6⟩
        have HB6 := Lib.hid (HBD.out.step hb6)
        have hl6 : Below wr.heap.size wr w6 := (below_drewn (Below.refl wr.heap.size wr) m').trans (hb6.mono (by simp))
        have q1' : w6.cell? ⟨gb, off + j * 2 + 1, none⟩ = some (.int .i64 2) := (hl6.cell (p := ⟨gb, off + j * 2 + 1, none⟩) hg).trans q1
        have hbx := HB6.out.box
        rw [HCC.out] at hbx
        obtain ⟨⟨z0, z1, z2⟩, _⟩ := c3_at hbx
        clear hb6 KG HBS HBD hne hbx x0 x1 x2 hbb hl6 q1 hj h0
        go_wp2
        go_ret
        exact ⟨rfl, HB6.out.low⟩
theorem bounds12_walk (PO : Pol12Ok) (AW : ∀ w, Calls Try.prog 9 #[] w (RetB w true)) (c : Nat) (hc : c < 256) (ha : AV w v l) : Calls Try.prog 6 #[.int .u8 (c : Nat), v] w (RetB w true) := by
  by_cases hl : l.length ≤ 60
  · exact bounds12_short PO AW c hc ha hl
  · have HAW := Lib.hid (fun W => AW W)
    obtain ⟨A, cap, rfl, _⟩ := ha.mem
    obtain ⟨na, hna⟩ : ∃ na, l.length = na := ⟨_, rfl⟩
    rw [hna] at hl ⊢
    have hlI : (60 : Int) < (na : Int) := by omega
    clear ha hna AW
    go_enter Try.func6, Try.ntmps6
    go_wp2_with fail
    refine (HAW.out _).mono ?_
    rintro e w1 ⟨rfl, hb1⟩
    have HB := Lib.hid hb1
    clear hb1
    go_wp2
    go_ret
    exact ⟨rfl, HB.out⟩
end
end Go.Proofs.Ytjfhapobbglbpaa
