/- The document's own table: to look for a key, Get, Probes. -/
import Derived.Test.YtdolljjfikfhpaaHxM
import Derived.Test.YtdolljjfikfhpaaHxD
import Derived.Below
import Derived.Deep.OwnRows
import Derived.Deep.Draws
namespace Go.Proofs.Ytdolljjfikfhpaa
open Go Go.RowKit Go.Deep

def SlAt (w : World) (g i : Nat) (s : Sl) : Prop := w.cell? ⟨g, i * 3, none⟩ = some (.int .u64 (s.key : Nat)) ∧ w.cell? ⟨g, i * 3 + 1, none⟩ = some (.int .i32 s.n) ∧ w.cell? ⟨g, i * 3 + 2, none⟩ = some (.bool s.full)
/- The document's own table, as a value: its slots lie in block g. -/
structure RefT (w : World) (T : Tb) (g : Nat) : Prop where
  lt : g < w.heap.size
  sl : ∀ i, i < T.n → SlAt w g i (T.sl i)
abbrev tabV (g n c : Nat) : Value := .agg #[.slice (some ⟨g, 0, none⟩) n c]
theorem RefT.below {w w' : World} {T : Tb} {g : Nat} (h : RefT w T g) (hb : Below w.heap.size w w') : RefT w' T g :=
  ⟨Nat.lt_of_lt_of_le h.lt hb.size, fun i hi => by
    obtain ⟨h1, h2, h3⟩ := h.sl i hi
    exact ⟨(hb.cell h.lt).trans h1, (hb.cell h.lt).trans h2, (hb.cell h.lt).trans h3⟩⟩
theorem hm_mixN (k n : Nat) : hm k n = mixN k % n := hm_eq k n
theorem go_zero (T : Tb) (k : Nat) (hp : 0 < T.n) : ((mixN k : Nat) : Int) % (T.n : Int) = ((T.go k 0 : Nat) : Int) := by
  unfold Tb.go
  rw [Nat.add_zero, Nat.mod_eq_of_lt (hm_lt k hp), hm_mixN]
  exact (Int.natCast_emod _ _).symm
theorem go_succ (T : Tb) (k i : Nat) : (T.go k i + 1) % T.n = T.go k (i + 1) := by
  unfold Tb.go
  rw [Nat.mod_add_mod, Nat.add_assoc]

set_option maxHeartbeats 1000000 in
theorem rlook_walk {w : World} {T : Tb} {g : Nat} (h : RefT w T g) (ok : T.Ok) (hs : isSz T.n = true) (k c : Nat) (hk : k < 18446744073709551616) :
    Calls Try.prog 27 #[tabV g T.n c, .int .u64 (k : Int)] w fun e w' => e = .returned (.tuple #[.int .i64 (T.look k : Nat), .int .i64 ((T.steps k : Nat) + 1)]) ∧ Below w.heap.size w w' := by
  have hp := ok.pos
  obtain ⟨_, hsz⟩ := isSz_bounds hs
  have HB := Lib.hid ((Below.refl w.heap.size w).alloc (Nat.le_refl _) (.cells #[.slice (some ⟨g, 0, none⟩) T.n c] 27))
  have HSL : Hid (∀ i, i < T.n → SlAt (w.alloc (.cells #[.slice (some ⟨g, 0, none⟩) T.n c] 27)) g i (T.sl i)) := Lib.hid (h.below HB.out).sl
  have hh := rhome_yes (w.alloc (.cells #[.slice (some ⟨g, 0, none⟩) T.n c] 27)) k T.n hs
  rw [go_zero T k hp] at hh
  have HH := Lib.hid hh
  have HOK := Lib.hid ok
  have HST := Lib.hid (ok.steps_lt k)
  have HLK : Hid (T.look k = T.go k (T.steps k)) := Lib.hid rfl
  clear h hs ok hh
  go_enter Try.func27, Try.ntmps27
  go_wp2_with fail
  refine HH.out.mono ?_
  rintro e w' ⟨rfl, rfl⟩
  go_wp2_with fail
  go_loopg [6, 7] (T.steps k) (fun gg s6 s7 wr => ∃ i : Nat, i + gg = T.steps k ∧ s6 = .int .i64 (T.go k i : Nat) ∧ s7 = .int .i64 ((i : Int) + 1) ∧ wr = w.alloc (.cells #[.slice (some ⟨g, 0, none⟩) T.n c] 27))
  case atStart => exact ⟨0, by omega, rfl, rfl, rfl⟩
  case round =>
    obtain ⟨i, hi, rfl, rfl, rfl⟩ := hrel
    have hst := HST.out
    have hil : (i : Int) + 1 ≤ (T.n : Int) := by omega
    obtain ⟨x, hx⟩ : ∃ x, T.go k i = x := ⟨_, rfl⟩
    have hxn : x < T.n := hx ▸ T.go_lt hp k i
    obtain ⟨c0, _, c2⟩ := HSL.out x hxn
    by_cases hii : i = T.steps k
    · have hlk : T.look k = x := by rw [HLK.out, ← hii, hx]
      have hstp := HOK.out.look_stops k
      rw [hlk] at hstp
      have HE : Hid (T.look k = x ∧ T.steps k = i) := Lib.hid ⟨hlk, hii.symm⟩
      have HSP := Lib.hid hstp
      rw [hx]
      obtain ⟨sx, hsx⟩ : ∃ sx, T.sl x = sx := ⟨_, rfl⟩
      rw [hsx] at c0 c2 HSP
      obtain ⟨sk, sn, sf⟩ := sx
      clear hsx hstp hlk hii hi hx
      cases sf
      · simp only at c0 c2
        go_wp2
        exact bodyPost_ret (v := .tuple #[.int .i64 (x : Nat), .int .i64 ((i : Nat) + 1)]) (by simp [results, Try.results27, go_sem]) rfl ⟨by rw [HE.out.1, HE.out.2], HB.out⟩
      · obtain rfl : sk = k := by
          rcases HSP.out with q | q
          · exact absurd q (by simp)
          · exact q
        simp only at c0 c2
        go_wp2
        exact bodyPost_ret (v := .tuple #[.int .i64 (x : Nat), .int .i64 ((i : Nat) + 1)]) (by simp [results, Try.results27, go_sem]) rfl ⟨by rw [HE.out.1, HE.out.2], HB.out⟩
    · have hlt : i < T.steps k := by omega
      obtain ⟨hf, hne⟩ := T.path k hlt
      have hnx := go_succ T k i
      rw [hx] at hf hne hnx ⊢
      obtain ⟨sx, hsx⟩ : ∃ sx, T.sl x = sx := ⟨_, rfl⟩
      rw [hsx] at c0 c2 hf hne
      obtain ⟨sk, sn, sf⟩ := sx
      simp only at c0 c2 hf hne
      subst hf
      clear hsx hx
      have hneI : ((sk : Int) == (k : Int)) = false := by rw [beq_eq_false_iff_ne]; omega
      go_wp2
      go_roundg (gk - 1)
      case measure => omega
      case rel => exact ⟨i + 1, by omega, congrArg (Value.int .i64) (by rw [← hnx, Int.natCast_emod]; rfl), by go_num, rfl⟩

/- What a Get answers. -/
noncomputable def Tb.get (T : Tb) (k : Nat) : Int × Bool := ((T.sl (T.look k)).n, T.there k)
theorem rget_walk {w : World} {T : Tb} {g : Nat} (h : RefT w T g) (ok : T.Ok) (hs : isSz T.n = true) (k c : Nat) (hk : k < 18446744073709551616) :
    Calls Try.prog 12 #[tabV g T.n c, .int .u64 (k : Int)] w fun e w' => e = .returned (.tuple #[.int .i32 (T.get k).1, .bool (T.get k).2]) ∧ Below w.heap.size w w' := by
  have HB := Lib.hid ((Below.refl w.heap.size w).alloc (Nat.le_refl _) (.cells #[.slice (some ⟨g, 0, none⟩) T.n c] 27))
  have hl := rlook_walk (h.below HB.out) ok hs k c hk
  have HL := Lib.hid hl
  have HR := Lib.hid h
  have hlk := ok.look_lt k
  have HGET : Hid (T.get k = ((T.sl (T.look k)).n, (T.sl (T.look k)).full)) := Lib.hid rfl
  clear h hl hs ok
  go_enter Try.func12, Try.ntmps12
  go_wp2_with fail
  refine HL.out.mono ?_
  rintro e w2 ⟨rfl, hb⟩
  have hb2 : Below w.heap.size w w2 := HB.out.trans (hb.mono HB.out.size)
  obtain ⟨c0, c1, c2⟩ := (HR.out.below hb2).sl _ hlk
  have q0 : w2.cell? ⟨w.heap.size, 0, none⟩ = some (.slice (some ⟨g, 0, none⟩) T.n c) := (hb.cell (p := ⟨w.heap.size, 0, none⟩) (by simp)).trans (by simp)
  have HB2 := Lib.hid hb2
  clear hb hb2 c0
  obtain ⟨x, hx⟩ : ∃ x, T.look k = x := ⟨_, rfl⟩
  rw [hx] at c1 c2 hlk HGET ⊢
  clear hx
  go_wp2_with fail
  go_region
  go_wp2
  exact bodyPost_ret (v := .tuple #[.int .i32 (T.sl x).n, .bool (T.sl x).full]) (by simp [results, Try.results12, go_sem]) rfl ⟨by rw [HGET.out], HB2.out.drew⟩
theorem rprobes_walk {w : World} {T : Tb} {g : Nat} (h : RefT w T g) (ok : T.Ok) (hs : isSz T.n = true) (k c : Nat) (hk : k < 18446744073709551616) :
    Calls Try.prog 14 #[tabV g T.n c, .int .u64 (k : Int)] w fun e w' => e = .returned (.int .i64 ((T.steps k : Nat) + 1)) ∧ Below w.heap.size w w' := by
  have HB := Lib.hid ((Below.refl w.heap.size w).alloc (Nat.le_refl _) (.cells #[.slice (some ⟨g, 0, none⟩) T.n c] 27))
  have HL := Lib.hid (rlook_walk h ok hs k c hk)
  have HL2 := Lib.hid (rlook_walk (h.below HB.out) ok hs k c hk)
  clear h hs ok
  go_enter Try.func14, Try.ntmps14
  go_wp2_with fail
  first
    | (refine HL.out.mono ?_; rintro e w2 ⟨rfl, hb⟩; have HB2 := Lib.hid hb; go_wp2; go_ret; exact ⟨rfl, HB2.out⟩)
    | (refine HL2.out.mono ?_; rintro e w2 ⟨rfl, hb⟩; have HB2 := Lib.hid (HB.out.trans (hb.mono HB.out.size)); go_wp2; go_ret; exact ⟨rfl, HB2.out⟩)
theorem rlen_walk {w : World} {T : Tb} {g : Nat} (h : RefT w T g) (hn : T.n ≤ 1073741824) (c : Nat) :
    Calls Try.prog 25 #[tabV g T.n c] w fun e w' => e = .returned (.int .i64 (T.cnt : Nat)) ∧ Below w.heap.size w w' := by
  have HB := Lib.hid ((Below.refl w.heap.size w).alloc (Nat.le_refl _) (.cells #[.slice (some ⟨g, 0, none⟩) T.n c] 27))
  have HSL := Lib.hid (h.below HB.out).sl
  have hnI : (T.n : Int) ≤ 1073741824 := by omega
  have HC : Hid (T.cnt = cntB (fun i => (T.sl i).full) T.n) := Lib.hid rfl
  clear h
  go_enter Try.func25, Try.ntmps25
  go_wp2_with fail
  go_loopg [3, 4] T.n (fun gg s3 s4 wr => ∃ i m : Nat, i + gg = T.n ∧ m ≤ i ∧ Hid (m = cntB (fun i => (T.sl i).full) i) ∧ s3 = .int .i64 (m : Nat) ∧ s4 = .int .i64 (i : Nat) ∧ wr = w.alloc (.cells #[.slice (some ⟨g, 0, none⟩) T.n c] 27))
  case atStart => exact ⟨0, 0, by omega, by omega, Lib.hid rfl, rfl, rfl, rfl⟩
  case round =>
    obtain ⟨i, m, hi, hm, HM, rfl, rfl, rfl⟩ := hrel
    by_cases hlt : i < T.n
    · have hltI : (i : Int) < (T.n : Int) := by omega
      obtain ⟨_, _, c2⟩ := HSL.out i hlt
      obtain ⟨b, hb⟩ : ∃ b, (T.sl i).full = b := ⟨_, rfl⟩
      rw [hb] at c2
      have HBB := Lib.hid hb
      clear hb
      cases b
      · go_wp2
        go_roundg (gk - 1)
        case measure => omega
        case rel => exact ⟨i + 1, m, by omega, by omega, Lib.hid (by rw [HM.out]; show _ = cntB _ i + (if (T.sl i).full = true then 1 else 0); rw [HBB.out]; rfl), rfl, by go_num, rfl⟩
      · go_wp2
        go_roundg (gk - 1)
        case measure => omega
        case rel => exact ⟨i + 1, m + 1, by omega, by omega, Lib.hid (by rw [HM.out]; show _ = cntB _ i + (if (T.sl i).full = true then 1 else 0); rw [HBB.out]; rfl), by go_num, by go_num, rfl⟩
    · have hge : ¬ (i : Int) < (T.n : Int) := by omega
      obtain rfl : i = T.n := by omega
      go_wp2
      go_ret
      exact ⟨congrArg (fun z : Nat => Ending.returned (Value.int .i64 (z : Int))) (HM.out.trans HC.out.symm), HB.out⟩
end Go.Proofs.Ytdolljjfikfhpaa
