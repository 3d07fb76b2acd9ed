/- Words and walks: PoC SqH SqP2 SqP3. -/
import Derived.Test.YtkhikpnlpcankaaG0
import Derived.Test.YtkhikpnlpcankaaG15
import Derived.Deep.RegionHeld3
import Derived.Maps.OwnSet
namespace Go.Proofs.Ytkhikpnlpcankaa
open Go Go.RowKit Go.Deep
set_option maxRecDepth 8000
theorem flat_take {kss : List (List Nat)} (i : Nat) : (kss.take i).flatten.length ≤ kss.flatten.length := by
  conv => rhs; rw [← List.take_append_drop i kss, List.flatten_append, List.length_append]
  omega
theorem flat_next {kss : List (List Nat)} {i : Nat} (hi : i < kss.length) : (kss.take (i + 1)).flatten = (kss.take i).flatten ++ kss[i] := by
  rw [List.take_succ_eq_append_getElem hi, List.flatten_append]
  simp
section
variable {w : World} {v : Value} {kss : List (List Nat)}
set_option maxHeartbeats 1000000 in
theorem concat_walk (h : KVV w v kss) (hl : kss.length ≤ 1000) (hl2 : kss.flatten.length ≤ 100000000) :
    Calls Try.prog 29 #[v] w (OwnK w kss.flatten) := by
  have HK := Lib.hid h
  obtain ⟨F, c, rfl, _⟩ := h.mem
  obtain ⟨nn, hnn⟩ : ∃ nn, kss.length = nn := ⟨_, rfl⟩
  have HNN := Lib.hid hnn
  rw [hnn] at hl HK ⊢
  have HE : Hid (∀ (W : World) (_ : Below w.heap.size w W) (i : Nat) (hi : i < kss.length), ∃ ad u, F = some ad ∧ W.cell? (ad.add i) = some u ∧ KV W u kss[i]) := Lib.hid (fun W hb i hi => by
    obtain ⟨F', c', e, h2⟩ := (HK.out.below hb).mem
    obtain ⟨ad, u, e2, _, h3, h4⟩ := h2 i hi
    injection e with e3 _ _
    exact ⟨ad, u, e3.trans e2, h3, h4⟩)
  clear h hnn HK
  go_enter Try.func29, Try.ntmps29
  go_wp2_with fail
  go_loopg [3, 11] nn (fun gg s3 s11 wr => ∃ i : Nat, i + gg = nn ∧ s3 = .int .i64 ((kss.take i).flatten.length : Nat) ∧ s11 = .int .i64 (i : Nat) ∧ w = wr)
  case atStart => exact ⟨0, by omega, by simp, rfl, rfl⟩
  case round =>
    obtain ⟨i, hi, rfl, rfl, rfl⟩ := hrel
    have hf1 := flat_take (kss := kss) i
    by_cases hlt : i < nn
    · have hltI : (i : Int) < (nn : Int) := by omega
      have hil : i < kss.length := by have := HNN.out; omega
      obtain ⟨ad, u, hF, q0, hk⟩ := HE.out w (Below.refl _ _) i hil
      subst hF
      obtain ⟨Fu, cu, rfl, _⟩ := hk.mem
      have hf2 := flat_take (kss := kss) (i + 1)
      have hn : (kss.take (i + 1)).flatten.length = (kss.take i).flatten.length + kss[i].length := by rw [flat_next hil, List.length_append]
      have HN := Lib.hid hn
      obtain ⟨a, ha⟩ : ∃ a, (kss.take i).flatten.length = a := ⟨_, rfl⟩
      obtain ⟨m, hm⟩ : ∃ m, kss[i].length = m := ⟨_, rfl⟩
      have hbd : (a : Int) + (m : Int) ≤ 100000000 := by omega
      have HX : Hid ((a : Int) + (m : Int) = ((kss.take (i + 1)).flatten.length : Nat)) := Lib.hid (by omega)
      have ha0 : (0 : Int) ≤ (a : Int) + (m : Int) := by omega
      have hng : ¬ ((a : Int) + (m : Int) < 0) := by omega
      rw [ha]
      rw [hm] at q0
      clear hf1 hf2 hn ha hm hk HN hlt
      go_wp2
      go_roundg (gk - 1)
      case measure => omega
      case rel => exact ⟨i + 1, by omega, by rw [← HX.out], by go_num, rfl⟩
    · have hltI : ¬ (i : Int) < (nn : Int) := by omega
      obtain rfl : i = nn := by omega
      have HFL : Hid (kss.take i = kss) := Lib.hid (List.take_of_length_le (by have := HNN.out; omega))
      rw [HFL.out] at hf1 ⊢
      have KG := Lib.hid (grow_walk (B := w.heap.size) (KO.nil (Below.refl w.heap.size w)) (Nat.le_refl _) kss.flatten.length hl2 (by simp))
      have HLL := Lib.hid hl2
      obtain ⟨a, ha⟩ : ∃ a, kss.flatten.length = a := ⟨_, rfl⟩
      rw [ha] at KG hl2 ⊢
      clear hf1 ha hlt
      go_wp2_with fail
      refine KG.out.mono ?_
      rintro e w1 ⟨v1, rfl, hk1⟩
      have HK1 := Lib.hid hk1
      clear hk1 KG
      go_wp2_with fail
      go_loopg [6, 27] i (fun gg s6 s27 wr => ∃ (j : Nat) (v6 : Value), j + gg = i ∧ v6 = s6 ∧ s27 = .int .i64 (j : Nat) ∧ Hid (KO w.heap.size w wr v6 (kss.take j).flatten))
      case atStart => exact ⟨0, _, by omega, rfl, rfl, Lib.hid (by simpa using HK1.out)⟩
      case round =>
        obtain ⟨j, v6, hj, rfl, rfl, HI⟩ := hrel
        by_cases hlt : j < i
        · have hltI2 : (j : Int) < (i : Int) := by omega
          have hjl : j < kss.length := by have := HNN.out; omega
          obtain ⟨ad, u, hF, q0, hk⟩ := HE.out wr HI.out.low j hjl
          subst hF
          have HKJ := Lib.hid hk
          have hf1 := flat_take (kss := kss) j
          have hf2 := flat_take (kss := kss) (j + 1)
          have hlen : (kss.take j).flatten.length + kss[j].length ≤ 1000000000 := by
            have h := congrArg List.length (flat_next hjl)
            rw [List.length_append] at h
            have := HLL.out
            omega
          have HNX := Lib.hid (flat_next hjl)
          have hszw := HI.out.low.size
          obtain ⟨Fu, cu, rfl, _⟩ := hk.mem
          obtain ⟨ys, hys⟩ : ∃ ys, (kss.take j).flatten = ys := ⟨_, rfl⟩
          obtain ⟨zs, hzs⟩ : ∃ zs, kss[j] = zs := ⟨_, rfl⟩
          rw [hys] at HI HNX hlen
          rw [hzs] at HKJ HNX hlen q0
          clear hf1 hf2 hys hzs hk
          go_wp2_with (at_builtin; refine wpList_append_kv rfl (.tmp 31) (.tmp 32) rfl w.heap.size (by kernel_rfl) (by kernel_rfl) v6 ys rfl HI.out _ zs rfl HKJ.out hlen hszw ?_)
          intro v7 w7 hown7 _ _
          rw [← HNX.out] at hown7
          have HN := Lib.hid hown7
          clear hown7 q0
          go_wp2
          go_roundg (gk - 1)
          case measure => omega
          case rel => exact ⟨j + 1, v7, by omega, rfl, by go_num, HN⟩
        · have hltI2 : ¬ (j : Int) < (i : Int) := by omega
          obtain rfl : j = i := by omega
          have hfin := HI.out
          rw [HFL.out] at hfin
          have HF := Lib.hid hfin
          clear hfin HI
          go_wp2
          go_ret
          exact ⟨_, rfl, HF.out⟩
end
def tailV (F : Option Addr) (n c i : Nat) : Value := .slice (if c = i then F else F.map (fun a => a.add i)) (n - i) (c - i)
theorem KV.tail {w : World} {F : Option Addr} {c : Nat} {ks : List Nat} (h : KV w (.slice F ks.length c) ks) {i : Nat} (hi : i ≤ ks.length) : KV w (tailV F ks.length c i) (ks.drop i) := by
  obtain ⟨hl, ⟨F', c', e, h1, h2, h3⟩, hnp⟩ := h
  injection e with e1 e2 e3
  subst e1 e3
  refine ⟨by simp [u64L], ⟨(if c = i then F else F.map (fun a => a.add i)), c - i, by simp [tailV], by simp; omega, fun hn => ?_, fun j u hj => ?_⟩, fun m c2 ad e1 => ?_⟩
  rotate_left 2
  · injection e1 with e1 e2 e3
    obtain ⟨n', hn'⟩ : ∃ n', ks.length = n' + 1 := ⟨ks.length - 1, by omega⟩
    cases F with
    | none => split at e1 <;> cases e1
    | some a =>
      have hb : ad.block = a.block := by
        split at e1
        · injection e1 with e1
          rw [e1]
        · have e4 : a.add i = ad := by injection e1
          rw [← e4, ad_block]
      rw [hb]
      exact hnp n' c a (by rw [hn'])
  · split at hn
    · omega
    · cases F with
      | none => have := h2 rfl; omega
      | some a => cases hn
  · have hd : (u64L ks)[i + j]? = some u := by
      simp only [u64L, List.map_drop, List.getElem?_drop] at hj ⊢
      exact hj
    obtain ⟨ad, rfl, h4, h5⟩ := h3 _ _ hd
    have hlt : i + j < ks.length := by
      have := (List.getElem?_eq_some_iff.1 hd).1
      simpa [u64L] using this
    rw [if_neg (by omega)]
    refine ⟨ad.add i, rfl, by rw [ad_block]; exact h4, ?_⟩
    rw [← h5]
    rw [Addr.add_add]
section
variable {w : World} {v : Value} {ks : List Nat}
def FallP (w : World) (ks : List Nat) (N : Nat) (e : Ending) (w' : World) : Prop := ∃ v1 v2, e = .returned (.tuple #[v1, v2]) ∧ KO w.heap.size w w' v1 (ks.drop N).reverse ∧ KV w' v2 (ks.take N)
end
section
variable {w : World} {v : Value} {ks : List Nat}
def IdxP (w : World) (ks : List Nat) (k : Nat) (e : Ending) (w' : World) : Prop := ∃ r : Int, e = .returned (.int .i64 r) ∧ -1 ≤ r ∧ r ≤ 100000000 ∧ decide (0 ≤ r) = decide (k ∈ ks) ∧ w = w'
end
set_option maxRecDepth 8000
theorem key64 {k : Nat} (hk : k < 18446744073709551616) : keyOf Try.prog 28 (.int .u64 (k : Nat)) = some (.int .u64 (k : Nat)) := by
  refine Maps.keyOf_int_mk Try.underlying28 ?_
  have m1 : IntKind.u64.min = 0 := rfl
  have m2 : IntKind.u64.max = 18446744073709551615 := rfl
  simp only [Lit.wf, Bool.and_eq_true, decide_eq_true_eq, m1, m2]
  omega
structure SeenK (w0 w : World) (b : Nat) (L : List Nat) : Prop where
  low : Below w0.heap.size w0 w
  lo : w0.heap.size ≤ b
  own : ∃ D : DataW Unit, w.ownsMap Try.prog 28 (plainElem Try.prog 4) b L.length D ∧ Maps.IsMap D ∧ ∀ k : Nat, k < 18446744073709551616 → D.atKey (.int .u64 (k : Nat)) (.lit (.bool false)) = .lit (.bool (decide (k ∈ L)))
section
variable {w : World} {v : Value} {kss : List (List Nat)}
end
end Go.Proofs.Ytkhikpnlpcankaa
