/- Two queues: Bounds, walked. -/
import Derived.Test.YtiokejhplbadeaaTqU
import Derived.Test.YtiokejhplbadeaaTqV
import Derived.IntWalk
namespace Go.Proofs.Ytiokejhplbadeaa
open Go Go.RowKit Go.Deep

theorem kvv_three {w : World} {v u x : Value} {ks js ls : List Nat} (h : KV w v ks) (h2 : KV w u js) (h3 : KV w x ls) (t : TypeId) : KVV (w.alloc (.cells #[v, u, x] t)) (.slice (some ⟨w.heap.size, 0, none⟩) 3 3) [ks, js, ls] :=
  KVV.lit [v, u, x] [ks, js, ls] rfl (fun i h4 h5 => by
    match i with
    | 0 => exact h
    | 1 => exact h2
    | 2 => exact h3
    | i + 3 => exact absurd h4 (by simp)) t
/- A law's run, ahead of what the law says of it. -/
theorem run9_ok {w : World} {v : Value} {l : List Act8} (ha : AV w v l) (c : Nat) : ((L9.new (1 + c % 12 : Nat)).runS l).Ok := (L9.ok_new _).runS _ (fun x hx => by
  obtain ⟨A, c', _, h1⟩ := ha.mem
  obtain ⟨j, hj, rfl⟩ := List.getElem_of_mem hx
  exact (h1 j hj).1)
section
variable {w : World} {v : Value} {l : List Act8}
set_option maxHeartbeats 2000000 in
set_option maxRecDepth 4000 in
theorem bounds9_short (PO : Pol9Ok) (AW : ∀ w, Calls Try.prog 33 #[] w (RetB w true)) (c : Nat) (hc : c < 256) (ha : AV w v l) (hl : l.length ≤ 60) : Calls Try.prog 11 #[.int .u8 (c : Nat), v] w (RetB w true) := by
  have HAW := Lib.hid (AW w)
  have HRUN : Hid (∀ W, AV W v l → Calls Try.prog 39 #[.int .u8 (c : Nat), v] W (P9 W ((L9.new (1 + c % 12 : Nat)).runS l))) := Lib.hid (fun W h => run9_walk PO c hc h hl)
  have HOKN := Lib.hid (run9_ok ha c)
  have HAV := Lib.hid ha
  obtain ⟨A, cap, rfl, _⟩ := ha.mem
  obtain ⟨na, hna⟩ : ∃ na, l.length = na := ⟨_, rfl⟩
  rw [hna] at hl HAV HRUN ⊢
  obtain ⟨σ, hσN⟩ : ∃ σN, (L9.new (1 + c % 12 : Nat)).runS l = σN := ⟨_, rfl⟩
  rw [hσN] at HRUN HOKN
  have HGH : Hid (∀ W u1 u2 u3, St9 W σ u1 u2 u3 → Calls Try.prog 43 #[.agg (l9C σ.c u1 u2 u3)] W (fun e w' => e = .returned (.int .i64 (σ.out.length : Nat)) ∧ Below W.heap.size W w')) := Lib.hid (fun W _ _ _ h => PO.ghosts h HOKN.out)
  have hlen := HOKN.out.len
  have holen := HOKN.out.olen
  have hcap := HOKN.out.cap
  have HND : Hid ([σ.inn, σ.out, σ.main].flatten.Nodup) := Lib.hid (by have := HOKN.out.fine.nd; simpa [List.append_assoc] using this)
  have HL8 : Hid ([σ.inn, σ.out, σ.main].flatten.length ≤ 100000000) := Lib.hid (by simp; omega)
  clear ha hna AW hσN hc HOKN
  have hlI : ¬ (60 : Int) < (na : Int) := by omega
  go_enter Try.func11, Try.ntmps11
  go_wp2_with fail
  refine (HAW.out).mono ?_
  rintro e w1 ⟨rfl, hb1⟩
  have HL1 := Lib.hid hb1
  have HAV1 := Lib.hid (HAV.out.below hb1)
  clear hb1 HAW HAV
  go_wp2_with fail
  refine (HRUN.out w1 HAV1.out).mono ?_
  rintro e w2 ⟨q1, q2, q3, he, hb2, hk2⟩
  obtain ⟨F1, d1, rfl, -⟩ := hk2.g1.mem
  obtain ⟨F2, d2, rfl, -⟩ := hk2.g2.mem
  obtain ⟨F3, d3, rfl, -⟩ := hk2.g3.mem
  obtain ⟨n1, hn1⟩ : ∃ m, σ.inn.length = m := ⟨_, rfl⟩
  obtain ⟨n2, hn2⟩ : ∃ m, σ.out.length = m := ⟨_, rfl⟩
  obtain ⟨n3, hn3⟩ : ∃ m, σ.main.length = m := ⟨_, rfl⟩
  rw [hn1] at hlen hk2 he
  rw [hn2] at holen hk2 he HGH
  rw [hn3] at hlen hk2 he
  subst he
  have hbs := Bs9.new (T := PT9) (by decide) (HL1.out.trans (hb2.mono HL1.out.size)) hk2
  have HBS := Lib.hid hbs
  clear hb2 hk2 hbs HRUN HL1 HAV1 hn1 hn2 hn3
  obtain ⟨h, hh⟩ : ∃ h, σ.c / 2 = h := ⟨_, rfl⟩
  have e2 : ((σ.c : Nat) : Int).tdiv 2 = (h : Int) := by rw [Int.tdiv_eq_ediv_of_nonneg (by omega)]; omega
  rw [hh] at holen
  obtain ⟨cc, hcc⟩ : ∃ cc, σ.c = cc := ⟨_, rfl⟩
  have HCC := Lib.hid hcc
  rw [hcc] at hlen hcap e2
  have hi1 : (n1 : Int) + (n3 : Int) ≤ (cc : Int) := by omega
  have hi2 : (n2 : Int) ≤ (h : Int) := by omega
  have hi3 : (h : Int) ≤ 1048576 := by omega
  have hi4 : (cc : Int) ≤ 1048576 := by omega
  have hi5 : (n1 : Int) ≤ 1048576 := by omega
  have hi6 : (n3 : Int) ≤ 1048576 := by omega
  rw [hcc] at HBS HGH ⊢
  clear hh hlen hcap holen hcc
  have w1 : IntKind.i64.wrap ((n1 : Int) + (n3 : Int)) = (n1 : Int) + (n3 : Int) := IntWalk.i64_in _ (by omega)
  have w2' : IntKind.i64.wrap (h : Int) = (h : Int) := IntWalk.i64_in _ (by omega)
  go_upto_region 5 with fail
  generalize w2.alloc (.cells (l9C cc (.slice F1 n1 d1) (.slice F2 n2 d2) (.slice F3 n3 d3)) PT9) = w5 at HBS ⊢
  generalize w2.heap.size = b at HBS ⊢
  have HSS : Hid (∀ w' : World, Below w5.heap.size w5 w' → w'.cell? ⟨b, 0, none⟩ = some (.int .i64 (cc : Nat)) ∧ w'.cell? ⟨b, 1, none⟩ = some (.slice F1 n1 d1) ∧ w'.cell? ⟨b, 2, none⟩ = some (.slice F2 n2 d2) ∧ w'.cell? ⟨b, 3, none⟩ = some (.slice F3 n3 d3)) := Lib.hid (fun w' hb => by
    obtain ⟨⟨x0, x1, x2, x3⟩, _⟩ := c4_at (HBS.out.step hb).box
    exact ⟨x0.trans (by rw [HCC.out]), x1, x2, x3⟩)
  obtain ⟨x0, x1, x2, x3⟩ := HSS.out w5 (Below.refl _ _)
  have HVX : Hid (∀ W, Below w5.heap.size w5 W → KVV (W.alloc (.cells #[.slice F1 n1 d1, .slice F2 n2 d2, .slice F3 n3 d3] 24)) (.slice (some ⟨W.heap.size, 0, none⟩) 3 3) [σ.inn, σ.out, σ.main]) := Lib.hid (fun W hb => kvv_three (HBS.out.step hb).st.g1 (HBS.out.step hb).st.g2 (HBS.out.step hb).st.g3 _)
  go_region_held3 (fun w' => w'.cell? ⟨b, 0, none⟩ = some (.int .i64 (cc : Nat)) ∧ w'.cell? ⟨b, 1, none⟩ = some (.slice F1 n1 d1) ∧ w'.cell? ⟨b, 2, none⟩ = some (.slice F2 n2 d2) ∧ w'.cell? ⟨b, 3, none⟩ = some (.slice F3 n3 d3))
    (first | with_reducible exact kkb | with_reducible exact kka | go_keep)
    (first
      | (go_at_call 29; refine (rapart_walk (kss := [σ.inn, σ.out, σ.main]) (HVX.out _ (below_drewn (Below.refl _ _) _)) (by simp) HL8.out).mono ?_; rintro e wa ⟨rfl, hba⟩; rw [decide_eq_true HND.out]; have hBa := ((below_drewn (Below.refl w5.heap.size w5) _).alloc (Nat.le_refl _) _).trans (hba.mono (by simp)); have kka := HSS.out wa hBa)
      | (go_at_call 43; refine (HGH.out wa _ _ _ (HBS.out.step hBa).st).mono ?_; rintro e wb ⟨rfl, hbb⟩; have hBb := hBa.trans (hbb.mono hBa.size); have kkb := HSS.out wb hBb))
  have HL := Lib.hid (HBS.out.low.trans (hBb.mono HBS.out.low.size))
  go_wp2
  go_ret
  exact ⟨rfl, HL.out⟩
theorem bounds9_walk (PO : Pol9Ok) (AW : ∀ w, Calls Try.prog 33 #[] w (RetB w true)) (c : Nat) (hc : c < 256) (ha : AV w v l) : Calls Try.prog 11 #[.int .u8 (c : Nat), v] w (RetB w true) := by
  by_cases hl : l.length ≤ 60
  · exact bounds9_short PO AW c hc ha hl
  · have HAW := Lib.hid (fun W => AW W)
    obtain ⟨A, cap, rfl, _⟩ := ha.mem
    obtain ⟨na, hna⟩ : ∃ na, l.length = na := ⟨_, rfl⟩
    rw [hna] at hl ⊢
    have hlI : (60 : Int) < (na : Int) := by omega
    clear ha hna AW
    go_enter Try.func11, Try.ntmps11
    go_wp2_with fail
    refine (HAW.out _).mono ?_
    rintro e w1 ⟨rfl, hb1⟩
    have HB := Lib.hid hb1
    clear hb1
    go_wp2
    go_ret
    exact ⟨rfl, HB.out⟩
end
end Go.Proofs.Ytiokejhplbadeaa
