/- HindexGets: any key's number, behind whatever was put, and taken out, and how many slots are gone to. -/
import Derived.Test.YtdolljjfikfhpaaHxU
namespace Go.Proofs.Ytdolljjfikfhpaa
open Go Go.RowKit Go.Deep

set_option maxHeartbeats 1000000 in
theorem gets_short (w : World) (A : Option Addr) (n c : Nat) (l : Nat → Actx) (hn : n ≤ 50) (ha : ActsX w A n l) (k : Nat) (hk : k < 18446744073709551616) :
    Calls Try.prog 4 #[.slice A n c, .int .u64 (k : Nat)] w fun e w' => e = .returned (.bool true) ∧ Below w.heap.size w w' := by
  have HA := Lib.hid ha
  clear ha
  go_enter Try.func4, Try.ntmps4
  go_wp2_with fail
  refine (awake_walk _).mono ?_
  rintro e w1 ⟨rfl, h⟩
  have B1 := Lib.hid h; clear h
  go_wp2_with fail
  refine (run_walk B1.out A n c l hn HA.out).mono ?_
  rintro e w2 ⟨p, T, gu, cu, rfl, hx, hr, hrun⟩
  have hTn : T.n ≤ 158 := by have := hrun.n; omega
  have ba := (Below.refl w2.heap.size w2).alloc (Nat.le_refl _) (.cells #[.slice (some ⟨gu, 0, none⟩) T.n cu] 27)
  have H3 := Lib.hid (hx.still ba).1
  have R3 := Lib.hid (hr.below ba)
  have C3 := Lib.hid (heap_alloc_new w2 (.cells #[.slice (some ⟨gu, 0, none⟩) T.n cu] 27))
  clear hx hr hrun ba
  go_wp2_with fail
  generalize w2.alloc (.cells #[.slice (some ⟨gu, 0, none⟩) T.n cu] 27) = w3 at H3 R3 C3 ⊢
  generalize w2.heap.size = b7 at C3 ⊢
  refine (hx_get H3.out (by omega) k hk).mono ?_
  rintro e w4 ⟨rfl, hb⟩
  have H4 := Lib.hid (H3.out.still hb).1
  have R4 := Lib.hid (R3.out.below hb)
  have C4 := Lib.hid ((hb.block b7 (head_row C3.out).lt).trans C3.out)
  clear hb
  have c0 : w4.cell? ⟨b7, 0, none⟩ = some (.slice (some ⟨gu, 0, none⟩) T.n cu) := (head_row C4.out).cell (i := 0) (by simp)
  have HSZ := Lib.hid (H4.out.sz (by omega))
  have HOK := Lib.hid H4.out.good.ok
  go_wp2_with fail
  refine (rget_walk R4.out HOK.out HSZ.out k cu hk).mono ?_
  rintro e w5 ⟨rfl, hb⟩
  have H5 := Lib.hid (H4.out.still hb).1
  have R5 := Lib.hid (R4.out.below hb)
  have C5 := Lib.hid ((hb.block b7 (head_row C4.out).lt).trans C4.out)
  clear hb c0
  have c0 : w5.cell? ⟨b7, 0, none⟩ = some (.slice (some ⟨gu, 0, none⟩) T.n cu) := (head_row C5.out).cell (i := 0) (by simp)
  have h5 : b7 < w5.heap.size := (head_row C5.out).lt
  have HP := Lib.hid (hx_probes (H5.out.still (Below.refl _ _).drew).1 (by omega) k hk)
  have HRP := Lib.hid (fun w' (b : Below w5.heap.size w5 w') => rprobes_walk (R5.out.below b) HOK.out HSZ.out k cu hk)
  have HPL := Lib.hid (fun w' (b : Below w5.heap.size w5 w') => hx_probes (H5.out.still b).1 (by omega) k hk)
  have HCC : Hid (∀ w', Below w5.heap.size w5 w' → w'.cell? ⟨b7, 0, none⟩ = some (.slice (some ⟨gu, 0, none⟩) T.n cu)) := Lib.hid (fun w' b => (b.cell (p := ⟨b7, 0, none⟩) h5).trans c0)
  obtain ⟨gt, hgt⟩ : ∃ gt, T.get k = gt := ⟨_, rfl⟩
  rw [hgt]
  obtain ⟨g1, g2⟩ := gt
  clear hgt H3 H4 R3 R4 C3 C4
  have HB := Lib.hid H5.out.below
  go_wp2_with fail
  go_region_held3 (fun w' => w'.cell? ⟨b7, 0, none⟩ = some (.slice (some ⟨gu, 0, none⟩) T.n cu)) (first | with_reducible exact kk7 | with_reducible exact kk6 | go_keep)
    (first
      | (go_at_call 13; refine HP.out.mono ?_; rintro e w6 ⟨rfl, b6⟩; have kk6 := HCC.out w6 ((Below.refl _ _).drew.trans b6))
      | (go_at_call 14; refine (HRP.out _ ((Below.refl _ _).drew.trans b6)).mono ?_; rintro e w7 ⟨rfl, b7'⟩; have kk7 := HCC.out w7 (((Below.refl _ _).drew.trans b6).trans (b7'.mono b6.size)))
      | (go_at_call 14; refine (HRP.out _ (Below.refl _ _).drew).mono ?_; rintro e w6 ⟨rfl, b6⟩; have kk6 := HCC.out w6 ((Below.refl _ _).drew.trans b6))
      | (go_at_call 13; refine (HPL.out _ ((Below.refl _ _).drew.trans b6)).mono ?_; rintro e w7 ⟨rfl, b7'⟩; have kk7 := HCC.out w7 (((Below.refl _ _).drew.trans b6).trans (b7'.mono b6.size))))
  have HB7 := Lib.hid (HB.out.trans ((((Below.refl w5.heap.size w5).drew.trans b6).trans (b7'.mono b6.size)).mono HB.out.size))
  go_wp2
  go_ret
  exact ⟨rfl, HB7.out⟩
theorem gets_long (w : World) (A : Option Addr) (n c : Nat) (k : Int) (hn : 50 < n) :
    Calls Try.prog 4 #[.slice A n c, .int .u64 k] w fun e w' => e = .returned (.bool true) ∧ Below w.heap.size w w' := by
  have h1 : (50 : Int) < (n : Int) := by omega
  go_enter Try.func4, Try.ntmps4
  go_wp2_with fail
  refine (awake_walk _).mono ?_
  rintro e w1 ⟨rfl, h⟩
  have B1 := Lib.hid h
  clear h
  go_wp2
  go_ret
  exact ⟨rfl, B1.out⟩
theorem hindexGets_walk (w : World) (A : Option Addr) (n c : Nat) (l : Nat → Actx) (ha : ActsX w A n l) (k : Int) (hk : (Lit.int .u64 k).wf = true) :
    Calls Try.prog 4 #[.slice A n c, .int .u64 k] w fun e w' => e = .returned (.bool true) ∧ Below w.heap.size w w' := by
  by_cases hn : n ≤ 50
  · simp only [Lit.wf, Bool.and_eq_true, decide_eq_true_eq] at hk
    have m1 : IntKind.u64.min = 0 := rfl
    have m2 : IntKind.u64.max = 18446744073709551615 := rfl
    obtain ⟨j, rfl⟩ : ∃ j : Nat, k = j := ⟨k.toNat, by omega⟩
    exact gets_short w A n c l hn ha j (by omega)
  · exact gets_long w A n c k (by omega)
end Go.Proofs.Ytdolljjfikfhpaa
