/- Adaptive replacement: Bounds, walked. -/
import Derived.Test.YtemgbiohfgcphaaRcU
import Derived.Test.YtemgbiohfgcphaaRcV
import Derived.IntWalk
namespace Go.Proofs.Ytemgbiohfgcphaa
open Go Go.RowKit Go.Deep

theorem kvv_four {w : World} {v1 v2 v3 v4 : Value} {k1 k2 k3 k4 : List Nat} (h1 : KV w v1 k1) (h2 : KV w v2 k2) (h3 : KV w v3 k3) (h4 : KV w v4 k4) (t : TypeId) : KVV (w.alloc (.cells #[v1, v2, v3, v4] t)) (.slice (some ⟨w.heap.size, 0, none⟩) 4 4) [k1, k2, k3, k4] :=
  KVV.lit [v1, v2, v3, v4] [k1, k2, k3, k4] rfl (fun i h5 h6 => by
    match i with
    | 0 => exact h1
    | 1 => exact h2
    | 2 => exact h3
    | 3 => exact h4
    | i + 4 => exact absurd h5 (by simp)) t
/- A law's run, ahead of what the law says of it. -/
theorem run11_ok {w : World} {v : Value} {l : List Act8} (ha : AV w v l) (c : Nat) : ((L11.new (1 + c % 12 : Nat)).runS l).Ok := (L11.ok_new _).runS _ (fun x hx => by
  obtain ⟨A, c', _, h1⟩ := ha.mem
  obtain ⟨j, hj, rfl⟩ := List.getElem_of_mem hx
  exact (h1 j hj).1)
section
variable {w : World} {v : Value} {l : List Act8}
set_option maxHeartbeats 2000000 in
set_option maxRecDepth 4000 in
theorem bounds11_short (PO : Pol11Ok) (AW : ∀ w, Calls Try.prog 9 #[] w (RetB w true)) (c : Nat) (hc : c < 256) (ha : AV w v l) (hl : l.length ≤ 60) : Calls Try.prog 6 #[.int .u8 (c : Nat), v] w (RetB w true) := by
  have HAW := Lib.hid (AW w)
  have HRUN : Hid (∀ W, AV W v l → Calls Try.prog 16 #[.int .u8 (c : Nat), v] W (P11 W ((L11.new (1 + c % 12 : Nat)).runS l))) := Lib.hid (fun W h => run11_walk PO c hc h hl)
  have HOKN := Lib.hid (run11_ok ha c)
  have HAV := Lib.hid ha
  obtain ⟨A, cap, rfl, _⟩ := ha.mem
  obtain ⟨na, hna⟩ : ∃ na, l.length = na := ⟨_, rfl⟩
  rw [hna] at hl HAV HRUN ⊢
  obtain ⟨σ, hσN⟩ : ∃ σN, (L11.new (1 + c % 12 : Nat)).runS l = σN := ⟨_, rfl⟩
  rw [hσN] at HRUN HOKN
  have hlen := HOKN.out.len
  have hone := HOKN.out.one
  have hgone := HOKN.out.gone
  have hpc := HOKN.out.pc
  have hcap := HOKN.out.cap
  have HND : Hid ([σ.t1, σ.t2, σ.b1, σ.b2].flatten.Nodup) := Lib.hid (by have := HOKN.out.fine.allNd; simpa [List.append_assoc] using this)
  have HL8 : Hid ([σ.t1, σ.t2, σ.b1, σ.b2].flatten.length ≤ 100000000) := Lib.hid (by simp; omega)
  clear ha hna AW hσN hc HOKN
  have hlI : ¬ (60 : Int) < (na : Int) := by omega
  go_enter Try.func6, Try.ntmps6
  go_wp2_with fail
  refine (HAW.out).mono ?_
  rintro e w1 ⟨rfl, hb1⟩
  have HL1 := Lib.hid hb1
  have HAV1 := Lib.hid (HAV.out.below hb1)
  clear hb1 HAW HAV
  go_wp2_with fail
  refine (HRUN.out w1 HAV1.out).mono ?_
  rintro e w2 ⟨q1, q2, q3, q4, he, hb2, hk2⟩
  obtain ⟨F1, d1, rfl, -⟩ := hk2.g1.mem
  obtain ⟨F2, d2, rfl, -⟩ := hk2.g2.mem
  obtain ⟨F3, d3, rfl, -⟩ := hk2.g3.mem
  obtain ⟨F4, d4, rfl, -⟩ := hk2.g4.mem
  obtain ⟨n1, hn1⟩ : ∃ m, σ.t1.length = m := ⟨_, rfl⟩
  obtain ⟨n2, hn2⟩ : ∃ m, σ.t2.length = m := ⟨_, rfl⟩
  obtain ⟨n3, hn3⟩ : ∃ m, σ.b1.length = m := ⟨_, rfl⟩
  obtain ⟨n4, hn4⟩ : ∃ m, σ.b2.length = m := ⟨_, rfl⟩
  rw [hn1] at hlen hone hk2 he
  rw [hn2] at hlen hk2 he
  rw [hn3] at hone hgone hk2 he
  rw [hn4] at hgone hk2 he
  subst he
  have hbs := Bs11.new (T := PT11) (by decide) (HL1.out.trans (hb2.mono HL1.out.size)) hk2
  have HBS := Lib.hid hbs
  clear hb2 hk2 hbs HRUN HL1 HAV1 hn1 hn2 hn3 hn4
  obtain ⟨cc, hcc⟩ : ∃ cc, σ.c = cc := ⟨_, rfl⟩
  obtain ⟨pp, hpp⟩ : ∃ pp, σ.p = pp := ⟨_, rfl⟩
  have HCC := Lib.hid (And.intro hcc hpp)
  rw [hcc] at hlen hone hgone hcap hpc
  rw [hpp] at hpc
  have hi1 : (n1 : Int) + (n2 : Int) ≤ (cc : Int) := by omega
  have hi2 : (n1 : Int) + (n3 : Int) ≤ (cc : Int) := by omega
  have hi3 : (n3 : Int) + (n4 : Int) ≤ (cc : Int) := by omega
  have hi4 : (cc : Int) ≤ 1048576 := by omega
  have hi5 : (n1 : Int) + (n2 : Int) + ((n3 : Int) + (n4 : Int)) ≤ 2 * (cc : Int) := by omega
  have hi6 : (pp : Int) ≤ (cc : Int) := by omega
  have hi7 : (0 : Int) ≤ (pp : Int) := by omega
  rw [hcc, hpp] at HBS ⊢
  clear hlen hone hgone hpc hcap hcc hpp
  have w1 : IntKind.i64.wrap ((n1 : Int) + (n2 : Int)) = (n1 : Int) + (n2 : Int) := IntWalk.i64_in _ (by omega)
  have w2' : IntKind.i64.wrap ((n1 : Int) + (n3 : Int)) = (n1 : Int) + (n3 : Int) := IntWalk.i64_in _ (by omega)
  have w3' : IntKind.i64.wrap ((n3 : Int) + (n4 : Int)) = (n3 : Int) + (n4 : Int) := IntWalk.i64_in _ (by omega)
  have w4' : IntKind.i64.wrap ((n1 : Int) + (n2 : Int) + ((n3 : Int) + (n4 : Int))) = (n1 : Int) + (n2 : Int) + ((n3 : Int) + (n4 : Int)) := IntWalk.i64_in _ (by omega)
  have w5' : IntKind.i64.wrap (2 * (cc : Int)) = 2 * (cc : Int) := IntWalk.i64_in _ (by omega)
  have w6' : IntKind.i64.wrap (cc : Int) = (cc : Int) := IntWalk.i64_in _ (by omega)
  go_upto_region 5 with fail
  generalize w2.alloc (.cells (l11C cc pp (.slice F1 n1 d1) (.slice F2 n2 d2) (.slice F3 n3 d3) (.slice F4 n4 d4)) PT11) = w5 at HBS ⊢
  generalize w2.heap.size = b at HBS ⊢
  have HSS : Hid (∀ w' : World, Below w5.heap.size w5 w' → w'.cell? ⟨b, 0, none⟩ = some (.int .i64 (cc : Nat)) ∧ w'.cell? ⟨b, 1, none⟩ = some (.int .i64 (pp : Nat)) ∧ w'.cell? ⟨b, 2, none⟩ = some (.slice F1 n1 d1) ∧ w'.cell? ⟨b, 3, none⟩ = some (.slice F2 n2 d2) ∧ w'.cell? ⟨b, 4, none⟩ = some (.slice F3 n3 d3) ∧ w'.cell? ⟨b, 5, none⟩ = some (.slice F4 n4 d4)) := Lib.hid (fun w' hb => by
    obtain ⟨⟨x0, x1, x2, x3, x4, x5⟩, _⟩ := c6_at (HBS.out.step hb).box
    exact ⟨x0.trans (by rw [HCC.out.1]), x1.trans (by rw [HCC.out.2]), x2, x3, x4, x5⟩)
  obtain ⟨x0, x1, x2, x3, x4, x5⟩ := HSS.out w5 (Below.refl _ _)
  have HVX : Hid (∀ W, Below w5.heap.size w5 W → KVV (W.alloc (.cells #[.slice F1 n1 d1, .slice F2 n2 d2, .slice F3 n3 d3, .slice F4 n4 d4] 24)) (.slice (some ⟨W.heap.size, 0, none⟩) 4 4) [σ.t1, σ.t2, σ.b1, σ.b2]) := Lib.hid (fun W hb => kvv_four (HBS.out.step hb).st.g1 (HBS.out.step hb).st.g2 (HBS.out.step hb).st.g3 (HBS.out.step hb).st.g4 _)
  go_wp2_with fail
  refine (rapart_walk (kss := [σ.t1, σ.t2, σ.b1, σ.b2]) (HVX.out _ (Below.refl _ _)) (by simp) HL8.out).mono ?_
  rintro e wa ⟨rfl, hba⟩
  rw [decide_eq_true HND.out]
  have HL := Lib.hid (HBS.out.low.trans (((low_one w5 _).trans (hba.mono (by simp))).mono HBS.out.low.size))
  clear hba HBS HSS HVX
  go_wp2
  go_ret
  exact ⟨rfl, HL.out⟩
theorem bounds11_walk (PO : Pol11Ok) (AW : ∀ w, Calls Try.prog 9 #[] w (RetB w true)) (c : Nat) (hc : c < 256) (ha : AV w v l) : Calls Try.prog 6 #[.int .u8 (c : Nat), v] w (RetB w true) := by
  by_cases hl : l.length ≤ 60
  · exact bounds11_short PO AW c hc ha hl
  · have HAW := Lib.hid (fun W => AW W)
    obtain ⟨A, cap, rfl, _⟩ := ha.mem
    obtain ⟨na, hna⟩ : ∃ na, l.length = na := ⟨_, rfl⟩
    rw [hna] at hl ⊢
    have hlI : (60 : Int) < (na : Int) := by omega
    clear ha hna AW
    go_enter Try.func6, Try.ntmps6
    go_wp2_with fail
    refine (HAW.out _).mono ?_
    rintro e w1 ⟨rfl, hb1⟩
    have HB := Lib.hid hb1
    clear hb1
    go_wp2
    go_ret
    exact ⟨rfl, HB.out⟩
end
end Go.Proofs.Ytemgbiohfgcphaa
