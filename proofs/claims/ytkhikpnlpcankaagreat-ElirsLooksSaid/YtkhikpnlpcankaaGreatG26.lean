/- Words and walks: LiG. -/
import Derived.Test.YtkhikpnlpcankaaGreatG25
namespace Go.Proofs.YtkhikpnlpcankaaGreat
open Go Go.RowKit Go.Deep
set_option maxRecDepth 8000
def RevK12 (cur : Array Value) (ks : List Nat) (i : Nat) : Prop := ∀ p (hp : p < ks.length), cur[p]? = some (.int .u64 ((if p < i ∨ ks.length ≤ p + i then ks[ks.length - 1 - p]'(by omega) else ks[p] : Nat) : Int))
theorem RevK12.next {cur : Array Value} {ks : List Nat} {i j : Nat} (h : RevK12 cur ks i) (hij : i < j) (hn : i + j + 1 = ks.length) (hs : ks.length ≤ cur.size) :
    RevK12 ((cur.setIfInBounds i (.int .u64 ((ks[j]'(by omega) : Nat) : Int))).setIfInBounds j (.int .u64 ((ks[i]'(by omega) : Nat) : Int))) ks (i + 1) := fun p hp => by
  by_cases hpi : p = i
  · subst hpi
    rw [if_pos (by omega)]
    have e : ks.length - 1 - p = j := by omega
    simp only [e]
    rw [arr_set_other12 (by omega), arr_set_same12 (by omega)]
  · by_cases hpj : p = j
    · subst hpj
      rw [if_pos (by omega)]
      have e : ks.length - 1 - p = i := by omega
      simp only [e]
      rw [arr_set_same12 (by simp; omega)]
    · have h1 := h p hp
      rw [arr_set_other12 (by omega), arr_set_other12 (by omega)]
      by_cases hc : p < i ∨ ks.length ≤ p + i
      · rw [if_pos hc] at h1
        rw [if_pos (by omega)]
        exact h1
      · rw [if_neg hc] at h1
        rw [if_neg (by omega)]
        exact h1
def HoldK12 (cur : Array Value) (ks : List Nat) : Prop := ∀ i (h : i < ks.length), cur[i]? = some (.int .u64 (ks[i] : Nat))
def RkS12 (w wr : World) (g sz : Nat) (ks : List Nat) (i : Nat) : Prop := Only [g] w wr ∧ ∃ cur', wr.heap[g]? = some (.cells cur' 32 (0, 0)) ∧ cur'.size = sz ∧ RevK12 cur' ks i
theorem RkS12.next {w wr : World} {g sz i j : Nat} {ks : List Nat} (h : RkS12 w wr g sz ks i) (hij : i < j) (hn : i + j + 1 = ks.length) (hs : ks.length ≤ sz) {xi xj : Nat} (hi : ks[i]? = some xi) (hj : ks[j]? = some xj) :
    RkS12 w ((wr.setCell ⟨g, i, none⟩ (.int .u64 (xj : Nat))).setCell ⟨g, j, none⟩ (.int .u64 (xi : Nat))).drew g sz ks (i + 1) := by
  obtain ⟨ho, cur', hg', hs', hr'⟩ := h
  have h2 := RevK12.next hr' hij hn (by rw [hs']; exact hs)
  rw [List.getElem?_eq_getElem (by omega)] at hi hj
  injection hi with hi
  injection hj with hj
  subst hi hj
  exact ⟨((ho.setCell (by simp) _).setCell (by simp) _).drew, _, set_one (set_one hg'), by simpa using hs', h2⟩
section
variable {w : World}
set_option maxHeartbeats 2000000 in
theorem revK12_core {g c n : Nat} {cur : Array Value} {ks : List Nat} (hg : w.heap[g]? = some (.cells cur 32 (0, 0))) (hh : HoldK12 cur ks) (hn : ks.length = n + 1) (hs : n + 1 ≤ cur.size) (hl : n ≤ 100000000) :
    Calls Tryz.prog 83 #[.slice (some ⟨g, 0, none⟩) (n + 1) c] w fun e w' => e = .returned (.tuple #[]) ∧ Only [g] w w' ∧ ∃ cur', w'.heap[g]? = some (.cells cur' 32 (0, 0)) ∧ cur'.size = cur.size ∧ HoldK12 cur' ks.reverse := by
  have HI0 : Hid (RkS12 w w g cur.size ks 0) := Lib.hid ⟨Only.refl _ _, cur, hg, rfl, fun p hp => by
    rw [if_neg (by omega)]
    exact hh p hp⟩
  have HN := Lib.hid (And.intro hn hs)
  have hnI : (n : Int) ≤ 100000000 := by omega
  clear hg hh hn hs
  go_enter Tryz.func83, Tryz.ntmps83
  go_wp2_with fail
  go_loopg [2, 3] n (fun gg s2 s3 wr => ∃ (i j : Nat), i + j = n ∧ gg = j - i ∧ s2 = .int .i64 (i : Nat) ∧ s3 = .int .i64 (j : Nat) ∧ Hid (RkS12 w wr g cur.size ks i))
  case atStart => exact ⟨0, n, by omega, by omega, rfl, by go_num, HI0⟩
  case round =>
    obtain ⟨i, j, hij, hgg, rfl, rfl, HI⟩ := hrel
    by_cases hlt : i < j
    · have hltI : (i : Int) < (j : Int) := by omega
      have hi1 : (i : Int) < (n : Int) + 1 := by omega
      have hj1 : (j : Int) < (n : Int) + 1 := by omega
      obtain ⟨ho, cur', hg', hs', hr'⟩ := HI.out
      have hxl : i < ks.length := by have := HN.out.1; omega
      have hxj : j < ks.length := by have := HN.out.1; omega
      have pi0 := hr' i hxl
      have pj0 := hr' j hxj
      rw [if_neg (by have := HN.out.1; omega)] at pi0 pj0
      have hxI : ks[i]? = some ks[i] := List.getElem?_eq_getElem hxl
      have hxJ : ks[j]? = some ks[j] := List.getElem?_eq_getElem hxj
      have e0 := (cell_of_row wr g i cur' 32 (0, 0) hg').trans pi0
      have e2 := (cell_of_row wr g j cur' 32 (0, 0) hg').trans pj0
      have hro := head_row hg'
      have f0 := hro.frozen i
      have f2 := hro.frozen j
      have hglt := hro.lt
      obtain ⟨kj, hxjv⟩ : ∃ x, ks[j] = x := ⟨_, rfl⟩
      obtain ⟨ki, hxiv⟩ : ∃ x, ks[i] = x := ⟨_, rfl⟩
      rw [hxiv] at e0 hxI
      rw [hxjv] at e2 hxJ
      have HNX := Lib.hid (RkS12.next HI.out hlt (by have := HN.out.1; omega) (by have h2 := HN.out; rw [h2.1]; exact h2.2) hxI hxJ)
      have hne : i ≠ j := by omega
      clear ho hg' hs' hr' pi0 pj0 hro hxjv hxiv hxI hxJ hxl hxj HI
      go_wp2_with fail
      go_region
      go_wp2
      go_roundg (j - 1 - (i + 1))
      case measure => omega
      case rel => exact ⟨i + 1, j - 1, by omega, rfl, by go_num, congrArg (Value.int IntKind.i64) (by omega), HNX⟩
    · have hltI : ¬ (i : Int) < (j : Int) := by omega
      obtain ⟨ho, cur', hg', hs', hr'⟩ := HI.out
      have HF : Hid (Only [g] w wr ∧ ∃ cur', wr.heap[g]? = some (.cells cur' 32 (0, 0)) ∧ cur'.size = cur.size ∧ HoldK12 cur' ks.reverse) := Lib.hid ⟨ho, cur', hg', hs', fun p hp => by
        rw [List.length_reverse] at hp
        have h1 := hr' p hp
        rw [List.getElem_reverse]
        by_cases hc : p < i ∨ ks.length ≤ p + i
        · rw [if_pos hc] at h1
          exact h1
        · rw [if_neg hc] at h1
          have e : ks.length - 1 - p = p := by have := HN.out.1; omega
          simp only [e]
          exact h1⟩
      clear ho hg' hs' hr' HI
      go_wp2
      go_end0
      exact ⟨rfl, HF.out⟩
theorem revK12_nil (F : Option Addr) (c : Nat) : Calls Tryz.prog 83 #[.slice F 0 c] w fun e w' => e = .returned (.tuple #[]) ∧ w' = w := by
  go_enter Tryz.func83, Tryz.ntmps83
  go_wp2_with fail
  go_loopg [2, 3] 1 (fun gg s2 s3 wr => gg = 1 ∧ s2 = .int .i64 0 ∧ s3 = .int .i64 (-1) ∧ wr = w)
  case atStart => exact ⟨rfl, rfl, by go_num, rfl⟩
  case round =>
    obtain ⟨-, rfl, rfl, rfl⟩ := hrel
    go_wp2
    go_end0
    exact ⟨rfl, rfl⟩
theorem revK12_walk {B : Nat} {w0 : World} {v : Value} {ks : List Nat} (h : KO B w0 w v ks) (hB : B ≤ w.heap.size) (hl : ks.length ≤ 100000000) :
    Calls Tryz.prog 83 #[v] w fun e w' => e = .returned (.tuple #[]) ∧ KO B w0 w' v ks.reverse ∧ w.grownBy w' v.ownBlock := by
  rcases Nat.eq_zero_or_pos ks.length with h0 | h0
  · obtain rfl : ks = [] := List.length_eq_zero_iff.1 h0
    obtain ⟨F, c, rfl, _⟩ := h.kv.mem
    refine (revK12_nil F c).mono ?_
    rintro e w' ⟨rfl, rfl⟩
    exact ⟨rfl, h, World.grownBy.refl _ _⟩
  · rcases h.own.2 with ⟨rfl, h1⟩ | ⟨g, c, cur, rfl, hBg, hg, hle, hcm, hsz, htk⟩
    · omega
    · obtain ⟨n, hn⟩ : ∃ n, ks.length = n + 1 := ⟨ks.length - 1, by omega⟩
      have hh : HoldK12 cur ks := fun i hi => by
        have h2 : (u64L ks)[i]? = some (.int .u64 (ks[i] : Nat)) := by simp [u64L, hi]
        rw [← htk, List.getElem?_take, if_pos (by omega)] at h2
        simpa using h2
      have hr := revK12_core (c := c) hg hh hn (by omega) (by omega)
      rw [← hn] at hr
      refine hr.mono ?_
      rintro e w' ⟨rfl, ho, cur', hg', hs', hh'⟩
      refine ⟨rfl, ⟨h.low.trans (ho.below (by simpa using hBg) hB), ⟨by simp [u64L], .inr ⟨g, c, cur', by rw [List.length_reverse], hBg, hg', by rw [List.length_reverse]; exact hle, hcm, by rw [hs']; exact hsz, ?_⟩⟩⟩, ⟨ho.os, ho.tape, ho.output, ho.size, fun k hk hne => ho.block k hk (by simpa [Value.ownBlock] using fun e : k = g => hne (by simp [Value.ownBlock, e]))⟩⟩
      refine List.ext_getElem? (fun i => ?_)
      by_cases hi : i < ks.reverse.length
      · rw [List.getElem?_take, if_pos (by omega)]
        have h3 := hh' i hi
        rw [Array.getElem?_toList, h3]
        simp only [u64L]
        rw [List.getElem?_map, List.getElem?_eq_getElem hi]
        rfl
      · rw [List.getElem?_eq_none (by rw [List.length_take]; omega), List.getElem?_eq_none (by simp [u64L] at hi ⊢; omega)]
theorem bounded12_walk (n : Int) (hn1 : -9223372036854775808 ≤ n) (hn2 : n ≤ 9223372036854775807) :
    Calls Tryz.prog 49 #[.int .i64 n] w fun e w' => e = .returned (.int .i64 (capI n : Nat)) ∧ w = w' := by
  obtain ⟨c, hc⟩ : ∃ c, capI n = c := ⟨_, rfl⟩
  have HC := Lib.hid hc
  rw [hc]
  clear hc
  by_cases h1 : n < 1
  · have H : Hid ((1 : Int) = (c : Int)) := Lib.hid (by rw [← HC.out, capI, if_pos h1]; rfl)
    go_enter Tryz.func49, Tryz.ntmps49
    go_wp2
    go_ret
    exact ⟨by rw [H.out]; rfl, rfl⟩
  · by_cases h1e : n = 1
    · subst h1e
      have H : Hid ((1 : Int) = (c : Int)) := Lib.hid (by rw [← HC.out]; rfl)
      go_enter Tryz.func49, Tryz.ntmps49
      go_wp2
      go_ret
      exact ⟨by rw [H.out]; rfl, rfl⟩
    · have h1g : 1 < n := by omega
      by_cases h2 : 1048576 < n
      · have H : Hid ((1048576 : Int) = (c : Int)) := Lib.hid (by rw [← HC.out, capI, if_neg h1, if_pos h2]; rfl)
        clear h1 h1e
        go_enter Tryz.func49, Tryz.ntmps49
        go_wp2
        go_ret
        exact ⟨by rw [H.out]; rfl, rfl⟩
      · have H : Hid (n = (c : Int)) := Lib.hid (by rw [← HC.out, capI, if_neg h1, if_neg h2]; omega)
        clear h1 h1e
        by_cases h2e : n = 1048576
        · subst h2e
          go_enter Tryz.func49, Tryz.ntmps49
          go_wp2
          go_ret
          exact ⟨by rw [← H.out]; rfl, rfl⟩
        · have h2l : n < 1048576 := by omega
          clear h2e h2
          go_enter Tryz.func49, Tryz.ntmps49
          go_wp2
          go_ret
          exact ⟨by rw [← H.out]; rfl, rfl⟩
theorem hotroom_walk (c : Nat) (h1 : 1 ≤ c) (hc : c ≤ 1048576) : Calls Tryz.prog 57 #[.int .i64 (c : Nat)] w fun e w' => e = .returned (.int .i64 (roomH c : Nat)) ∧ w = w' := by
  obtain ⟨r, hr⟩ : ∃ r, roomH c = r := ⟨_, rfl⟩
  have HR := Lib.hid hr
  rw [hr]
  clear hr
  rcases (by omega : c / 100 < 1 ∨ c / 100 = 1 ∨ 1 < c / 100) with h | h | h
  · have hI : (c : Int) / 100 < 1 := by omega
    have H : Hid ((c : Int) - 1 = (r : Int)) := Lib.hid (by rw [← HR.out]; unfold roomH; omega)
    go_enter Tryz.func57, Tryz.ntmps57
    go_wp2
    go_ret
    exact ⟨by rw [← H.out]; rfl, rfl⟩
  · have hI : (c : Int) / 100 = 1 := by omega
    have H : Hid ((c : Int) - 1 = (r : Int)) := Lib.hid (by rw [← HR.out]; unfold roomH; omega)
    go_enter Tryz.func57, Tryz.ntmps57
    go_wp2
    go_ret
    exact ⟨by rw [← H.out]; rfl, rfl⟩
  · have hI : (1 : Int) < (c : Int) / 100 := by omega
    have H : Hid ((c : Int) - (c : Int) / 100 = (r : Int)) := Lib.hid (by rw [← HR.out]; unfold roomH; omega)
    go_enter Tryz.func57, Tryz.ntmps57
    go_wp2
    go_ret
    exact ⟨by rw [← H.out]; rfl, rfl⟩
theorem p12new_walk (n : Int) (hn1 : -9223372036854775808 ≤ n) (hn2 : n ≤ 9223372036854775807) : Calls Tryz.prog 20 #[.int .i64 n] w (P12 w (L12.new n)) := by
  have KK := Lib.hid (bounded12_walk (w := w.alloc (.cells z12 PT12)) n hn1 hn2)
  obtain ⟨c, hc⟩ : ∃ c, capI n = c := ⟨_, rfl⟩
  have HC : Hid (P12 w (L12.new n) = P12 w ⟨c, [], []⟩) := Lib.hid (by rw [← hc]; rfl)
  rw [hc] at KK
  rw [HC.out]
  clear hc HC
  go_enter Tryz.func20, Tryz.ntmps20
  go_wp2_with fail
  refine KK.out.mono ?_
  rintro e w1 ⟨rfl, rfl⟩
  go_wp2
  exact bodyPost_ret (v := .agg (l12C c (.slice none 0 0) (.slice none 0 0))) (by simp [results, Tryz.results20, go_sem]) rfl ⟨_, _, rfl, (Below.refl _ _).alloc (Nat.le_refl _) _, ⟨IV.nil _, KV.nil _⟩⟩
end
section
variable {w : World} {u u1 u2 : Value} {xs : List It} {s : L12}
theorem pwithout_walk (h : IV w u xs) (hl : xs.length ≤ 10000000) (k : Nat) : Calls Tryz.prog 59 #[u, .int .u64 (k : Nat)] w (RetP w (wi k xs)) := by
  have hb := low_one w (.cells #[.int .u64 (k : Nat)] 32)
  have hc := (head_row (heap_alloc_new w (.cells #[.int .u64 (k : Nat)] 32))).cell (i := 0) (by simp)
  have KC : Hid (Calls Tryz.prog 100 #[u, .func (.func 104) #[] #[.pointer (some ⟨w.heap.size, 0, none⟩)]] (w.alloc (.cells #[.int .u64 (k : Nat)] 32)) (RetP (w.alloc (.cells #[.int .u64 (k : Nat)] 32)) (wi k xs))) := Lib.hid (chg_without (h.below hb) hl hc (by simp))
  have HB := Lib.hid hb
  obtain ⟨F, n, c, rfl⟩ := h.form
  clear h hb hc
  go_enter Tryz.func59, Tryz.ntmps59
  go_wp2_with fail
  refine KC.out.mono ?_
  rintro e w2 ⟨v, rfl, ho⟩
  have HF : Hid (OwnI PTI12 w.heap.size w w2 v (wi k xs)) := Lib.hid ⟨HB.out.trans (ho.low.mono HB.out.size), own_low ho.own HB.out.size⟩
  clear ho KC
  go_wp2
  go_ret
  exact ⟨_, rfl, HF.out⟩
set_option maxHeartbeats 1000000 in
theorem licount_walk (hs : St12 w s u1 u2) (hl : s.s.length ≤ 10000000) (f : Nat) : Calls Tryz.prog 56 #[.agg (l12C s.c u1 u2), .int .i64 (f : Nat)] w fun e w' => e = .returned (.int .i64 (nk f s.s : Nat)) ∧ Below w.heap.size w w' := by
  obtain ⟨F1, d1, rfl, -⟩ := hs.g1.mem
  obtain ⟨F2, n2, d2, rfl⟩ := hs.form2
  have H := Lib.hid hs.g1
  obtain ⟨c, xs, q⟩ := s
  simp only at *
  have HU : Hid (∀ i, nk f (xs.take i) ≤ i) := Lib.hid (fun i => by
    have h1 : nk f (xs.take i) ≤ (xs.take i).length := List.countP_le_length
    rw [List.length_take] at h1
    omega)
  have HR : Hid (nk f (xs.take xs.length) = nk f xs) := Lib.hid (by rw [List.take_length])
  obtain ⟨n, hn⟩ : ∃ n, xs.length = n := ⟨_, rfl⟩
  have HN := Lib.hid hn
  rw [hn] at hl H HR ⊢
  have hnI : (n : Int) ≤ 10000000 := by omega
  have hbx := low_one w (.cells (l12C c (.slice F1 n d1) (.slice F2 n2 d2)) PT12)
  have HBX := Lib.hid hbx
  clear hs hn hbx
  go_enter Tryz.func56, Tryz.ntmps56
  go_wp2_with fail
  go_loopg [5, 11] n (fun gg s5 s11 wr => ∃ (i m : Nat), i + gg = n ∧ s5 = .int .i64 (m : Nat) ∧ s11 = .int .i64 (i : Nat) ∧ m ≤ i ∧ Hid (m = nk f (xs.take i)) ∧ Hid (Below w.heap.size w wr))
  case atStart => exact ⟨0, 0, by omega, rfl, rfl, Nat.le_refl _, Lib.hid rfl, HBX⟩
  case round =>
    obtain ⟨i, m, hi, rfl, rfl, hmi, HM, HB⟩ := hrel
    by_cases hlt : i < n
    · have hltI : (i : Int) < (n : Int) := by omega
      have hil : i < xs.length := by rw [HN.out]; exact hlt
      obtain ⟨F', d', e, _, _, h3⟩ := (H.out.below HB.out).mem
      injection e with e1 e2 e3
      subst e1 e3
      obtain ⟨g, off, hF, hg, q0, q1⟩ := h3 i hil
      have hnx := nk_take f hil
      obtain ⟨fx, hfe⟩ : ∃ fx, xs[i].f = fx := ⟨_, rfl⟩
      obtain ⟨kx, hke⟩ : ∃ kx, xs[i].key = kx := ⟨_, rfl⟩
      rw [hfe] at q1 hnx
      rw [hke] at q0
      subst hF
      have hB2 := HB.out.alloc HB.out.size (.cells #[.int .u64 (kx : Nat), .int .i64 (fx : Nat)] PTI12)
      have HB2 := Lib.hid hB2
      clear h3 e2 hB2 hke
      by_cases he : fx = f
      · subst he
        have HX : Hid (m + 1 = nk fx (xs.take (i + 1))) := Lib.hid (by rw [hnx, if_pos rfl, ← HM.out])
        clear hnx hfe
        go_wp2
        go_roundg (gk - 1)
        case measure => omega
        case rel => exact ⟨i + 1, m + 1, by omega, by go_num, by go_num, by omega, HX, HB2⟩
      · have heI : ¬ (fx : Int) = (f : Int) := by omega
        have HX : Hid (m = nk f (xs.take (i + 1))) := Lib.hid (by rw [hnx, if_neg he, Nat.add_zero, ← HM.out])
        clear hnx hfe
        go_wp2
        go_roundg (gk - 1)
        case measure => omega
        case rel => exact ⟨i + 1, m, by omega, rfl, by go_num, by omega, HX, HB2⟩
    · have hltI : ¬ (i : Int) < (n : Int) := by omega
      obtain rfl : i = n := by omega
      have HE : Hid (m = nk f xs) := Lib.hid (HM.out.trans HR.out)
      go_wp2
      go_ret
      exact ⟨congrArg (fun x : Nat => Ending.returned (Value.int .i64 (x : Int))) HE.out, HB.out⟩
theorem p12ghosts_walk (hs : St12 w s u1 u2) (ok : s.Ok) : Calls Tryz.prog 29 #[.agg (l12C s.c u1 u2)] w fun e w' => e = .returned (.int .i64 (s.ghosts : Nat)) ∧ Below w.heap.size w w' := by
  have hl := ok.sl
  obtain ⟨F1, n1, d1, rfl⟩ := hs.form1
  obtain ⟨F2, n2, d2, rfl⟩ := hs.form2
  unfold L12.ghosts
  have hb := low_one w (.cells (l12C s.c (.slice F1 n1 d1) (.slice F2 n2 d2)) PT12)
  have HB := Lib.hid hb
  have KM : Hid (Calls Tryz.prog 56 #[.agg (l12C s.c (.slice F1 n1 d1) (.slice F2 n2 d2)), .int .i64 0] (w.alloc (.cells (l12C s.c (.slice F1 n1 d1) (.slice F2 n2 d2)) PT12)) fun e w' => e = .returned (.int .i64 (nk 0 s.s : Nat)) ∧ Below (w.alloc (.cells (l12C s.c (.slice F1 n1 d1) (.slice F2 n2 d2)) PT12)).heap.size (w.alloc (.cells (l12C s.c (.slice F1 n1 d1) (.slice F2 n2 d2)) PT12)) w') := Lib.hid (licount_walk (hs.below hb) (by omega) 0)
  clear hs ok hb
  go_enter Tryz.func29, Tryz.ntmps29
  go_wp2_with fail
  refine KM.out.mono ?_
  rintro e w1 ⟨rfl, hb1⟩
  have HF := Lib.hid (HB.out.trans (hb1.mono HB.out.size))
  clear hb1
  go_wp2
  go_ret
  exact ⟨rfl, HF.out⟩
end
end Go.Proofs.YtkhikpnlpcankaaGreat
