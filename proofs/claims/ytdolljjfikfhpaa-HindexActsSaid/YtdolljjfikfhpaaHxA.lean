/- The laws' awake, and do. -/
import Derived.Test.YtdolljjfikfhpaaHxH
namespace Go.Proofs.Ytdolljjfikfhpaa
open Go Go.RowKit Go.Deep

set_option maxHeartbeats 1000000 in
theorem awake_walk (w : World) :
    Calls Try.prog 8 #[] w fun e w' => e = .returned (.bool true) ∧ Below w.heap.size w w' := by
  have HF := Lib.hid awFacts
  have HH := Lib.hid (fun w => home_is w 5 8 sz8)
  go_enter Try.func8, Try.ntmps8
  go_wp2_with fail
  refine (hx_new (w0 := w) (Below.refl _ _) [] (by simp)).mono ?_
  rintro e w1 ⟨p, rfl, h, _⟩
  have H1 := Lib.hid h
  clear h
  go_wp2_with fail
  refine (hx_put H1.out (show 8 ≤ 100000 by decide) 5 (by decide) 7).mono ?_
  rintro e w2 ⟨rfl, h, _⟩
  have H2 : Hid (HX w w2 p aw1 []) := Lib.hid h
  clear h H1
  go_wp2_with fail
  refine (hx_put H2.out (by rw [HF.out.n1]; decide) 6 (by decide) 8).mono ?_
  rintro e w3 ⟨rfl, h, _⟩
  have H3 : Hid (HX w w3 p aw2 []) := Lib.hid h
  clear h H2
  go_wp2_with fail
  refine (hx_put H3.out (by rw [HF.out.n2]; decide) 5 (by decide) 9).mono ?_
  rintro e w4 ⟨rfl, h, _⟩
  have H4 : Hid (HX w w4 p aw3 []) := Lib.hid h
  clear h H3
  go_wp2_with fail
  refine (hx_get H4.out (by rw [HF.out.n3]; decide) 5 (by decide)).mono ?_
  rintro e w5 ⟨rfl, hb⟩
  have H5 := Lib.hid (H4.out.still hb).1
  clear hb H4
  rw [HF.out.g5]
  go_wp2_with fail
  refine (hx_get H5.out (by rw [HF.out.n3]; decide) 4 (by decide)).mono ?_
  rintro e w6 ⟨rfl, hb⟩
  have H6 := Lib.hid (H5.out.still hb).1
  clear hb H5
  rw [HF.out.g4]
  go_wp2_with fail
  refine (HH.out _).mono ?_
  rintro e w7 ⟨rfl, rfl⟩
  have H7 := Lib.hid (H6.out.still ((Below.refl _ _).alloc (Nat.le_refl _) box)).1
  generalize w6.alloc box = w7 at H7 ⊢
  clear H6
  go_wp2_with fail
  refine (hx_slot H7.out (hm 5 8) (by rw [HF.out.n3]; exact hm_lt 5 (by decide))).mono ?_
  rintro e w8 ⟨rfl, hb⟩
  have H8 := Lib.hid (H7.out.still hb).1
  clear hb H7
  rw [HF.out.s]
  go_wp2_with fail
  refine (hx_len H8.out).mono ?_
  rintro e w9 ⟨rfl, rfl⟩
  rw [HF.out.c3]
  go_wp2_with fail
  refine (hx_slots H8.out).mono ?_
  rintro e w9 ⟨rfl, rfl⟩
  rw [HF.out.n3]
  go_wp2_with fail
  refine (hx_del H8.out (by rw [HF.out.n3]; decide) 5 (by decide)).mono ?_
  rintro e w10 ⟨rfl, h, _⟩
  have H10 : Hid (HX w w10 p aw4 []) := Lib.hid h
  clear h H8
  rw [HF.out.t3]
  go_wp2_with fail
  refine (hx_del H10.out (by rw [HF.out.n4]; decide) 5 (by decide)).mono ?_
  rintro e w11 ⟨rfl, h, _⟩
  have H11 := Lib.hid h
  clear h H10
  rw [HF.out.t4]
  go_wp2_with fail
  refine (hx_len H11.out).mono ?_
  rintro e w12 ⟨rfl, rfl⟩
  rw [HF.out.c4]
  go_wp2_with fail
  refine (hx_probes H11.out (by rw [HF.out.n5]; decide) 5 (by decide)).mono ?_
  rintro e w13 ⟨rfl, hb⟩
  have HB := Lib.hid (H11.out.still hb).1.below
  clear hb H11
  generalize (aw4.del 5).steps 5 = q
  have hq : (1 : Int) ≤ (q : Int) + 1 := by omega
  go_wp2
  go_ret
  exact ⟨rfl, HB.out⟩

/- An act. -/
structure Actx where
  kind : Nat
  key : Nat
  n : Int
abbrev actC (x : Actx) : Array Value := #[.int .u8 (x.kind : Nat), .int .u64 (x.key : Nat), .int .i32 x.n]
noncomputable def actT (T : Tb) (x : Actx) : Tb := if x.kind % 3 = 2 then T.del x.key else T.put x.key x.n
noncomputable def doneT (T : Tb) (x : Actx) : Bool := if x.kind % 3 = 2 then T.there x.key else false
structure Actx.Ok (x : Actx) : Prop where
  kind : x.kind < 256
  key : x.key < 18446744073709551616
set_option maxHeartbeats 1000000 in
theorem do_walk {w0 w : World} {p : Nat} {T : Tb} {K : List Nat} (h : HX w0 w p T K) (hn : T.n ≤ 100000) (x : Actx) (ok : x.Ok) :
    Calls Try.prog 16 #[ptr p, .agg (actC x)] w fun e w' => e = .returned (.bool (doneT T x)) ∧ HX w0 w' p (actT T x) K ∧ KeptX K w w' := by
  obtain ⟨kind, key, n⟩ := x
  have hk := ok.kind
  have hky := ok.key
  simp only at hk hky
  have HA : Hid (HX w0 (w.alloc (.cells #[.int .u8 (kind : Nat), .int .u64 (key : Nat), .int .i32 n] 45)) p T K ∧ KeptX K w (w.alloc (.cells #[.int .u8 (kind : Nat), .int .u64 (key : Nat), .int .i32 n] 45))) := Lib.hid (h.still ((Below.refl _ _).alloc (Nat.le_refl _) _))
  have HD := Lib.hid (hx_del HA.out.1 hn key hky)
  have HP := Lib.hid (hx_put HA.out.1 hn key hky n)
  have HAT : Hid (actT T ⟨kind, key, n⟩ = if kind % 3 = 2 then T.del key else T.put key n) := Lib.hid rfl
  have HDT : Hid (doneT T ⟨kind, key, n⟩ = if kind % 3 = 2 then T.there key else false) := Lib.hid rfl
  clear h ok hky
  by_cases hc : kind % 3 = 2
  · rw [if_pos hc] at HAT HDT
    have e1 : (kind : Int) % 3 = 2 := by omega
    have e2 : (kind : Int).tmod 3 = 2 := by rw [Int.tmod_eq_emod_of_nonneg (by omega)]; exact e1
    clear HP
    go_enter Try.func16, Try.ntmps16
    go_wp2_with fail
    refine HD.out.mono ?_
    rintro e w2 ⟨rfl, h2, k2⟩
    have H2 := Lib.hid h2
    have K2 := Lib.hid (fun k hk => (k2 k hk).trans (HA.out.2 k hk) : KeptX K w w2)
    clear h2 k2 HD
    go_wp2
    go_ret
    exact ⟨by rw [HDT.out]; rfl, by rw [HAT.out]; exact H2.out, K2.out⟩
  · rw [if_neg hc] at HAT HDT
    have e1 : ((kind : Int) % 3 == 2) = false := by rw [beq_eq_false_iff_ne]; omega
    have e2 : ((kind : Int).tmod 3 == 2) = false := by rw [Int.tmod_eq_emod_of_nonneg (by omega)]; exact e1
    clear HD
    go_enter Try.func16, Try.ntmps16
    go_wp2_with fail
    refine HP.out.mono ?_
    rintro e w2 ⟨rfl, h2, k2⟩
    have H2 := Lib.hid h2
    have K2 := Lib.hid (fun k hk => (k2 k hk).trans (HA.out.2 k hk) : KeptX K w w2)
    clear h2 k2 HP
    go_wp2
    go_ret
    exact ⟨by rw [HDT.out]; rfl, by rw [HAT.out]; exact H2.out, K2.out⟩

/- Acts that came in: n of them, in one row. -/
def ActsX (w : World) (A : Option Addr) (n : Nat) (l : Nat → Actx) : Prop := ∀ k, k < n → (l k).Ok ∧ ∃ g off, A = some ⟨g, off, none⟩ ∧ g < w.heap.size ∧
  w.cell? ⟨g, off + k * 3, none⟩ = some (.int .u8 ((l k).kind : Nat)) ∧ w.cell? ⟨g, off + k * 3 + 1, none⟩ = some (.int .u64 ((l k).key : Nat)) ∧ w.cell? ⟨g, off + k * 3 + 2, none⟩ = some (.int .i32 (l k).n)
theorem ActsX.below {w w' : World} {A : Option Addr} {n : Nat} {l : Nat → Actx} (h : ActsX w A n l) (hb : Below w.heap.size w w') : ActsX w' A n l := fun k hk => by
  obtain ⟨wf, g, off, hA, hg, c0, c1, c2⟩ := h k hk
  exact ⟨wf, g, off, hA, Nat.lt_of_lt_of_le hg hb.size, (hb.cell hg).trans c0, (hb.cell hg).trans c1, (hb.cell hg).trans c2⟩

/- How large a table is behind k acts. -/
structure RunX (T : Tb) (k : Nat) : Prop where
  cnt : T.cnt ≤ k
  n : T.n ≤ 3 * k + 8
theorem run_new : RunX Tb.new 0 := ⟨by rw [show Tb.new.cnt = 0 from none_cnt _]; exact Nat.le_refl _, show 8 ≤ _ by omega⟩
theorem RunX.act {T : Tb} {k : Nat} (h : RunX T k) (gd : T.Good) (x : Actx) : RunX (actT T x) (k + 1) := by
  have h1 := h.cnt
  have h2 := h.n
  unfold actT
  split
  · have hc := (gd.del_all x.key).2.1
    have hn := (gd.del_all x.key).2.2.1
    exact ⟨by omega, by omega⟩
  · have hc := (gd.put_all x.key x.n).2.1
    have hn := gd.put_n x.key x.n k h2
    have : (T.put x.key x.n).cnt ≤ k + 1 := by rw [hc]; split <;> omega
    exact ⟨this, by omega⟩
end Go.Proofs.Ytdolljjfikfhpaa
