/- Words and walks: SqP1 PoC SqH SqP2 SqP3. -/
import Derived.Test.YtkhikpnlpcankaaGreatG1
import Derived.Test.YtkhikpnlpcankaaGreatG15
import Derived.Lib.AppendZerosOnto
import Derived.Deep.RegionHeld3
import Derived.Maps.OwnSet
namespace Go.Proofs.YtkhikpnlpcankaaGreat
open Go Go.RowKit Go.Deep
theorem grow_room (base : Option Addr) (l c n : Nat) (w : World) (hlc : l ≤ c) (hc : c ≤ maxLen) (hn : n ≤ 1000000000) (hroom : l + n ≤ c) :
    Calls Tryz.prog 86 #[.slice base l c, .int .i64 n] w fun e w' => e = .returned (.slice base l c) ∧ w' = w := by
  unfold maxLen at hc
  have h1 : ¬ ((n : Int) < 0) := by omega
  have h2 : wrap64 ((c : Int) - (l : Int)) = (c : Int) - (l : Int) := by unfold wrap64; omega
  have h3 : wrap64 ((n : Int) - ((c : Int) - (l : Int))) = (n : Int) - ((c : Int) - (l : Int)) := by unfold wrap64; omega
  have h4 : ¬ ((n : Int) - ((c : Int) - (l : Int)) > 0) := by omega
  go_enter Tryz.func86, Tryz.ntmps86
  go_wp2
  go_ret
  exact ⟨rfl, rfl⟩
set_option maxHeartbeats 2000000 in
set_option maxRecDepth 4000 in
theorem grow_new (base : Option Addr) (l c n : Nat) (cs : List Value) (w : World) (hlc : l ≤ c) (hroom : c < l + n) (hbig : l + n ≤ 1000000000) (hcl : cs.length = c) (hnil : base = none → c = 0)
    (hcs : ∀ a, base = some a → ∀ j v, cs[j]? = some v → w.cell? (a.add j) = some v) :
    Calls Tryz.prog 86 #[.slice base l c, .int .i64 n] w fun e w' =>
      e = .returned (.slice (some ⟨w.heap.size, 0, none⟩) l (grownCap w (l + n) c 32)) ∧
      w' = w.drew.alloc (.cells (cs.toArray ++ Builtin.zeroCells (Value.int .u64 0).cells (l + n - c) ++ Builtin.zeroCells (Value.int .u64 0).cells (grownCap w (l + n) c 32 - (l + n))) 32) := by
  have hinfo : (Tryz.prog.info? 32).map (fun i => (i.zero, i.size, i.bytes)) = some (some (.int .u64 0), 1, 8) := by kernel_rfl
  obtain ⟨i0, hi0, hz0, hs0, hby⟩ := info_parts hinfo
  have ht : Tryz.prog.underlying 27 = some (.slice 32) := by kernel_rfl
  have htn : Tryz.prog.underlying 3 = some (.int .i64) := by kernel_rfl
  have hck : c + (l + n - c) = l + n := by omega
  have hold : (Builtin.firstCells i0.size c (.slice base c c)).run Tryz.prog w.drew = .ok cs.toArray w.drew := by
    rw [hs0]
    cases base with
    | none =>
      have h0 := hnil rfl
      subst h0
      obtain rfl : cs = [] := List.length_eq_zero_iff.1 hcl
      exact run_firstCells_none w.drew 1 0 0 0
    | some a => exact run_firstCells_some w.drew 1 c a c c cs (by omega) (fun j v hj => hcs a rfl j v hj)
  have hrz : ∀ ty, (Builtin.append_ #[27, 3] ty #[.slice base c c, .int .i64 ((n : Int) - ((c : Int) - (l : Int)))]).run Tryz.prog w =
      .ok (.slice (some ⟨w.heap.size, 0, none⟩) (l + n) (grownCap w (l + n) c 32)) (w.drew.alloc (.cells (cs.toArray ++ Builtin.zeroCells (Value.int .u64 0).cells (l + n - c) ++ Builtin.zeroCells (Value.int .u64 0).cells (grownCap w (l + n) c 32 - (l + n))) 32)) := fun ty => by
    have h := Lib.run_append_grow_zeros w 27 3 ty 32 i0 (.int .u64 0) .i64 .i64 ht htn hi0 hz0 base c c cs hold (l + n - c) (by omega) (by omega) (by omega) (by omega)
      (by rw [hby]; omega) (by rw [hck, hby]; exact growslice_fits hroom (by omega))
    rw [hck] at h
    rw [show (n : Int) - ((c : Int) - (l : Int)) = ((l + n - c : Nat) : Int) by omega]
    exact h
  have hGn : l + n ≤ grownCap w (l + n) c 32 := grownCap_ge w _ _ _
  have hG63 : grownCap w (l + n) c 32 ≤ maxLen := grownCap_le_maxLen w (l + n) c 32 (by unfold maxLen; omega)
  unfold maxLen at hG63
  have h1 : ¬ ((n : Int) < 0) := by omega
  have h2 : wrap64 ((c : Int) - (l : Int)) = (c : Int) - (l : Int) := by unfold wrap64; omega
  have h3 : wrap64 ((n : Int) - ((c : Int) - (l : Int))) = (n : Int) - ((c : Int) - (l : Int)) := by unfold wrap64; omega
  have h4 : (n : Int) - ((c : Int) - (l : Int)) > 0 := by omega
  generalize grownCap w (l + n) c 32 = G at hrz hGn hG63 ⊢
  clear hold hck hcs hcl hi0 hz0 hs0 hby hinfo i0
  go_enter Tryz.func86, Tryz.ntmps86
  cases base with
  | none =>
    obtain rfl : c = 0 := hnil rfl
    obtain rfl : l = 0 := by omega
    go_wp2_with (at_builtin; refine Lib.wpList_append_run _ rfl _ _ _ _ rfl _ _ rfl rfl _ _ (hrz _) ?_)
    all_goals (go_ret; exact ⟨rfl, rfl⟩)
  | some a =>
    obtain ⟨ab, ao, asp⟩ := a
    go_wp2_with (at_builtin; refine Lib.wpList_append_run _ rfl _ _ _ _ rfl _ _ rfl rfl _ _ (hrz _) ?_)
    all_goals (go_ret; exact ⟨rfl, rfl⟩)
theorem grown_own {B n G m : Nat} {w0 w : World} {xs cs : List Value} (hlow : Below B w0 w) (hB : B ≤ w.heap.size) (hx : xs.length = n) (hn : n ≤ G) (hG : G ≤ maxLen) (hm : cs.length + m ≤ G) (ht : cs.take n = xs) :
    Below B w0 (w.drew.alloc (.cells (cs.toArray ++ Builtin.zeroCells (Value.int .u64 0).cells m ++ Builtin.zeroCells (Value.int .u64 0).cells (G - (cs.length + m))) 32)) ∧
    (w.drew.alloc (.cells (cs.toArray ++ Builtin.zeroCells (Value.int .u64 0).cells m ++ Builtin.zeroCells (Value.int .u64 0).cells (G - (cs.length + m))) 32)).ownsRow B 32 1 (.slice (some ⟨w.heap.size, 0, none⟩) n G) n xs := by
  refine ⟨(below_drewn hlow 1).alloc hB _, by omega, .inr ⟨w.heap.size, G, _, rfl, hB, heap_alloc_new w.drew _, hn, hG, ?_, ?_⟩⟩
  · simp [size_zeroCells, Value.cells]
    omega
  · have h2 : n ≤ cs.length := by
      rw [← hx, ← ht, List.length_take]
      omega
    simp only [Array.toList_append, Nat.mul_one]
    rw [List.append_assoc, List.take_append_of_le_length (by simpa using h2)]
    exact ht
theorem grow_walk {B : Nat} {w0 w : World} {v : Value} {ks : List Nat} (h : KO B w0 w v ks) (hB : B ≤ w.heap.size) (n : Nat) (hn : n ≤ 100000000) (hl : ks.length ≤ 100000000) :
    Calls Tryz.prog 86 #[v, .int .i64 n] w fun e w' => ∃ v', e = .returned v' ∧ KO B w0 w' v' ks := by
  obtain ⟨hlow, hx, h2⟩ := h
  rcases h2 with ⟨rfl, h0⟩ | ⟨g, c, cur, rfl, hBg, hg, hle, hc, hsz, htk⟩
  · obtain rfl : ks = [] := List.length_eq_zero_iff.1 h0
    rcases Nat.eq_zero_or_pos n with rfl | hp
    · refine (grow_room none 0 0 0 w (by omega) (by unfold maxLen; omega) (by omega) (by omega)).mono ?_
      rintro e w' ⟨rfl, rfl⟩
      exact ⟨_, rfl, KO.nil hlow⟩
    · refine (grow_new none 0 0 n [] w (by omega) (by omega) (by omega) rfl (fun _ => rfl) (fun a e => by cases e)).mono ?_
      rintro e w' ⟨rfl, rfl⟩
      have hG := grownCap_ge w (0 + n) 0 32
      have hG2 := grownCap_le_maxLen w (0 + n) 0 32 (by unfold maxLen; omega)
      obtain ⟨h3, h4⟩ := grown_own (n := 0) (m := 0 + n - 0) (xs := []) (cs := []) hlow hB rfl (Nat.zero_le _) hG2 (by simpa using hG) rfl
      refine ⟨_, rfl, ⟨?_, ?_⟩⟩
      · simpa using h3
      · simpa [u64L] using h4
  · by_cases hr : ks.length + n ≤ c
    · refine (grow_room (some ⟨g, 0, none⟩) ks.length c n w hle hc (by omega) hr).mono ?_
      rintro e w' ⟨rfl, rfl⟩
      exact ⟨_, rfl, ⟨hlow, hx, .inr ⟨g, c, cur, rfl, hBg, hg, hle, hc, hsz, htk⟩⟩⟩
    · have hcl : cur.toList.length = c := by simpa using hsz
      refine (grow_new (some ⟨g, 0, none⟩) ks.length c n cur.toList w hle (by omega) (by omega) hcl (fun e => by cases e) (fun a e j u hj => ?_)).mono ?_
      · injection e with e
        subst e
        have := (head_row hg).cell (i := j) (by have := (List.getElem?_eq_some_iff.1 hj).1; simpa using this)
        rw [Addr.add_lit, Nat.zero_add, this]
        rw [Array.getElem?_toList] at hj
        simp [Array.getD_eq_getD_getElem?, hj]
      rintro e w' ⟨rfl, rfl⟩
      have hG := grownCap_ge w (ks.length + n) c 32
      have hG2 := grownCap_le_maxLen w (ks.length + n) c 32 (by unfold maxLen; omega)
      obtain ⟨h3, h4⟩ := grown_own (n := ks.length) (m := ks.length + n - c) (xs := u64L ks) (cs := cur.toList) hlow hB (by simp [u64L]) (Nat.le_trans (by omega) hG) hG2 (by rw [hcl]; omega) (by simpa using htk)
      rw [hcl, show c + (ks.length + n - c) = ks.length + n by omega] at h3 h4
      exact ⟨_, rfl, ⟨h3, h4⟩⟩
section
variable {w0 w : World} {u v : Value} {ks js : List Nat}
def OthP (w0 : World) (ks : List Nat) (e : Ending) (w' : World) : Prop := ∃ v', e = .returned v' ∧ KO w0.heap.size w0 w' v' ks
set_option maxHeartbeats 100000000 in
theorem others_walk (H0 : KV w0 u ks) (hl : ks.length ≤ 100000000) (hj : KO w0.heap.size w0 w v js) (hjl : js.length ≤ 100000000) (k : Nat) :
    Calls Tryz.prog 105 #[v, u, .int .u64 (k : Nat)] w (OthP w0 (js ++ wo k ks)) := by
  have H := Lib.hid H0
  have HJ := Lib.hid hj
  have HJL := Lib.hid hjl
  obtain ⟨F, c, rfl, h1, h2, h3⟩ := H0.mem
  have HG := Lib.hid (grow_walk hj hj.low.size ks.length hl hjl)
  clear H0 h3 h2 h1 hj hjl
  go_enter Tryz.func105, Tryz.ntmps105
  go_wp2_with fail
  refine HG.out.mono ?_
  rintro e w1 ⟨v1, rfl, hk1⟩
  have H1 := Lib.hid hk1
  clear hk1 HJ HG
  go_wp2_with fail
  go_loopg [0, 15] ks.length (fun gg s0 s15 wr => ∃ (i : Nat) (v0 : Value), i + gg = ks.length ∧ v0 = s0 ∧ s15 = .int .i64 (i : Nat) ∧ Hid (KO w0.heap.size w0 wr v0 (js ++ wo k (ks.take i))))
  case atStart => exact ⟨0, _, by omega, rfl, rfl, Lib.hid (by simpa [wo] using H1.out)⟩
  case round =>
    obtain ⟨i, v5, hi, rfl, rfl, HI⟩ := hrel
    by_cases hlt : i < ks.length
    · have hltI : (i : Int) < (ks.length : Int) := by omega
      obtain ⟨F', c', e, _, _, h3⟩ := (H.out.below HI.out.low).mem
      injection e with e1 e2 e3
      subst e1 e3
      obtain ⟨ad, hF, hadb, q0⟩ := h3 i hlt
      subst hF
      have HW := Lib.hid (wo_take (k := k) hlt)
      have hszw := HI.out.low.size
      clear h3
      by_cases he : ks[i] = k
      · have HW2 : Hid (wo k (ks.take (i + 1)) = wo k (ks.take i)) := Lib.hid (by rw [HW.out, if_pos he, List.append_nil])
        rw [he] at q0
        have HN := HI.out
        rw [← HW2.out] at HN
        have HNX := Lib.hid HN
        clear he HN HI HW
        go_wp2
        go_roundg (gk - 1)
        case measure => omega
        case rel => exact ⟨i + 1, v5, by omega, rfl, by go_num, HNX⟩
      · have hne : (((ks[i] : Nat) : Int) == (k : Int)) = false := by
          rw [beq_eq_false_iff_ne]
          omega
        have hne2 : (((ks[i] : Nat) : Int) != (k : Int)) = true := by
          rw [bne_iff_ne]
          omega
        have HW2 : Hid (js ++ wo k (ks.take i) ++ [ks[i]] = js ++ wo k (ks.take (i + 1))) := Lib.hid (by rw [HW.out, if_neg he, List.append_assoc])
        have hwl : (js ++ wo k (ks.take i)).length ≤ 200000000 := by
          have h5 := wo_len k (ks.take i)
          have h6 := HJL.out
          rw [List.length_take] at h5
          rw [List.length_append]
          omega
        obtain ⟨ys, hys⟩ : ∃ ys, js ++ wo k (ks.take i) = ys := ⟨_, rfl⟩
        obtain ⟨zs, hzs⟩ : ∃ zs, js ++ wo k (ks.take (i + 1)) = zs := ⟨_, rfl⟩
        rw [hys] at HI HW2 hwl
        rw [hzs] at HW2
        have HZS := Lib.hid hzs
        obtain ⟨x, hx⟩ : ∃ x, ks[i] = x := ⟨_, rfl⟩
        rw [hx] at q0 hne hne2 HW2
        clear he hys hzs hx HW
        have HOW := Lib.hid (HI.out.alloc hszw (.cells #[.int .u64 (x : Nat)] 32))
        have HSRC := Lib.hid (KV.one wr x)
        have hszA : w0.heap.size ≤ (wr.alloc (.cells #[.int .u64 (x : Nat)] 32)).heap.size := by simp; omega
        go_wp2_with (at_builtin; refine wpList_append_kv rfl (.tmp 22) (.tmp 24) rfl w0.heap.size (by kernel_rfl) (by kernel_rfl) v5 ys rfl HOW.out _ [x] rfl HSRC.out (by simp; omega) hszA ?_)
        intro v6 w6 hown6 _ _
        rw [HW2.out, ← HZS.out] at hown6
        have HN := Lib.hid hown6
        clear hown6 hne hne2 q0 hadb
        go_wp2
        go_roundg (gk - 1)
        case measure => omega
        case rel => exact ⟨i + 1, v6, by omega, rfl, by go_num, HN⟩
    · have hltI : ¬ (i : Int) < (ks.length : Int) := by omega
      obtain rfl : i = ks.length := by omega
      have hfin := HI.out
      rw [List.take_length] at hfin
      have HF := Lib.hid hfin
      clear hfin HI
      go_wp2
      go_ret
      exact ⟨_, rfl, HF.out⟩
theorem without_walk (h : KV w v ks) (hl : ks.length ≤ 100000000) (k : Nat) :
    Calls Tryz.prog 60 #[v, .int .u64 (k : Nat)] w (OwnK w (wo k ks)) := by
  have HC := Lib.hid (others_walk h hl (KO.nil (Below.refl _ _)) (by simp) k)
  obtain ⟨F, n, c, rfl⟩ := h.form
  clear h
  go_enter Tryz.func60, Tryz.ntmps60
  go_wp2_with fail
  refine HC.out.mono ?_
  rintro e w1 ⟨v1, rfl, hk⟩
  have HK := Lib.hid hk
  clear hk HC
  go_wp2
  go_ret
  exact ⟨_, rfl, HK.out⟩
end
set_option maxRecDepth 8000
theorem flat_take {kss : List (List Nat)} (i : Nat) : (kss.take i).flatten.length ≤ kss.flatten.length := by
  conv => rhs; rw [← List.take_append_drop i kss, List.flatten_append, List.length_append]
  omega
theorem flat_next {kss : List (List Nat)} {i : Nat} (hi : i < kss.length) : (kss.take (i + 1)).flatten = (kss.take i).flatten ++ kss[i] := by
  rw [List.take_succ_eq_append_getElem hi, List.flatten_append]
  simp
section
variable {w : World} {v : Value} {kss : List (List Nat)}
set_option maxHeartbeats 1000000 in
theorem concat_walk (h : KVV w v kss) (hl : kss.length ≤ 1000) (hl2 : kss.flatten.length ≤ 100000000) :
    Calls Tryz.prog 44 #[v] w (OwnK w kss.flatten) := by
  have HK := Lib.hid h
  obtain ⟨F, c, rfl, _⟩ := h.mem
  obtain ⟨nn, hnn⟩ : ∃ nn, kss.length = nn := ⟨_, rfl⟩
  have HNN := Lib.hid hnn
  rw [hnn] at hl HK ⊢
  have HE : Hid (∀ (W : World) (_ : Below w.heap.size w W) (i : Nat) (hi : i < kss.length), ∃ ad u, F = some ad ∧ W.cell? (ad.add i) = some u ∧ KV W u kss[i]) := Lib.hid (fun W hb i hi => by
    obtain ⟨F', c', e, h2⟩ := (HK.out.below hb).mem
    obtain ⟨ad, u, e2, _, h3, h4⟩ := h2 i hi
    injection e with e3 _ _
    exact ⟨ad, u, e3.trans e2, h3, h4⟩)
  clear h hnn HK
  go_enter Tryz.func44, Tryz.ntmps44
  go_wp2_with fail
  go_loopg [3, 11] nn (fun gg s3 s11 wr => ∃ i : Nat, i + gg = nn ∧ s3 = .int .i64 ((kss.take i).flatten.length : Nat) ∧ s11 = .int .i64 (i : Nat) ∧ w = wr)
  case atStart => exact ⟨0, by omega, by simp, rfl, rfl⟩
  case round =>
    obtain ⟨i, hi, rfl, rfl, rfl⟩ := hrel
    have hf1 := flat_take (kss := kss) i
    by_cases hlt : i < nn
    · have hltI : (i : Int) < (nn : Int) := by omega
      have hil : i < kss.length := by have := HNN.out; omega
      obtain ⟨ad, u, hF, q0, hk⟩ := HE.out w (Below.refl _ _) i hil
      subst hF
      obtain ⟨Fu, cu, rfl, _⟩ := hk.mem
      have hf2 := flat_take (kss := kss) (i + 1)
      have hn : (kss.take (i + 1)).flatten.length = (kss.take i).flatten.length + kss[i].length := by rw [flat_next hil, List.length_append]
      have HN := Lib.hid hn
      obtain ⟨a, ha⟩ : ∃ a, (kss.take i).flatten.length = a := ⟨_, rfl⟩
      obtain ⟨m, hm⟩ : ∃ m, kss[i].length = m := ⟨_, rfl⟩
      have hbd : (a : Int) + (m : Int) ≤ 100000000 := by omega
      have HX : Hid ((a : Int) + (m : Int) = ((kss.take (i + 1)).flatten.length : Nat)) := Lib.hid (by omega)
      have ha0 : (0 : Int) ≤ (a : Int) + (m : Int) := by omega
      have hng : ¬ ((a : Int) + (m : Int) < 0) := by omega
      rw [ha]
      rw [hm] at q0
      clear hf1 hf2 hn ha hm hk HN hlt
      go_wp2
      go_roundg (gk - 1)
      case measure => omega
      case rel => exact ⟨i + 1, by omega, by rw [← HX.out], by go_num, rfl⟩
    · have hltI : ¬ (i : Int) < (nn : Int) := by omega
      obtain rfl : i = nn := by omega
      have HFL : Hid (kss.take i = kss) := Lib.hid (List.take_of_length_le (by have := HNN.out; omega))
      rw [HFL.out] at hf1 ⊢
      have KG := Lib.hid (grow_walk (B := w.heap.size) (KO.nil (Below.refl w.heap.size w)) (Nat.le_refl _) kss.flatten.length hl2 (by simp))
      have HLL := Lib.hid hl2
      obtain ⟨a, ha⟩ : ∃ a, kss.flatten.length = a := ⟨_, rfl⟩
      rw [ha] at KG hl2 ⊢
      clear hf1 ha hlt
      go_wp2_with fail
      refine KG.out.mono ?_
      rintro e w1 ⟨v1, rfl, hk1⟩
      have HK1 := Lib.hid hk1
      clear hk1 KG
      go_wp2_with fail
      go_loopg [6, 27] i (fun gg s6 s27 wr => ∃ (j : Nat) (v6 : Value), j + gg = i ∧ v6 = s6 ∧ s27 = .int .i64 (j : Nat) ∧ Hid (KO w.heap.size w wr v6 (kss.take j).flatten))
      case atStart => exact ⟨0, _, by omega, rfl, rfl, Lib.hid (by simpa using HK1.out)⟩
      case round =>
        obtain ⟨j, v6, hj, rfl, rfl, HI⟩ := hrel
        by_cases hlt : j < i
        · have hltI2 : (j : Int) < (i : Int) := by omega
          have hjl : j < kss.length := by have := HNN.out; omega
          obtain ⟨ad, u, hF, q0, hk⟩ := HE.out wr HI.out.low j hjl
          subst hF
          have HKJ := Lib.hid hk
          have hf1 := flat_take (kss := kss) j
          have hf2 := flat_take (kss := kss) (j + 1)
          have hlen : (kss.take j).flatten.length + kss[j].length ≤ 1000000000 := by
            have h := congrArg List.length (flat_next hjl)
            rw [List.length_append] at h
            have := HLL.out
            omega
          have HNX := Lib.hid (flat_next hjl)
          have hszw := HI.out.low.size
          obtain ⟨Fu, cu, rfl, _⟩ := hk.mem
          obtain ⟨ys, hys⟩ : ∃ ys, (kss.take j).flatten = ys := ⟨_, rfl⟩
          obtain ⟨zs, hzs⟩ : ∃ zs, kss[j] = zs := ⟨_, rfl⟩
          rw [hys] at HI HNX hlen
          rw [hzs] at HKJ HNX hlen q0
          clear hf1 hf2 hys hzs hk
          go_wp2_with (at_builtin; refine wpList_append_kv rfl (.tmp 31) (.tmp 32) rfl w.heap.size (by kernel_rfl) (by kernel_rfl) v6 ys rfl HI.out _ zs rfl HKJ.out hlen hszw ?_)
          intro v7 w7 hown7 _ _
          rw [← HNX.out] at hown7
          have HN := Lib.hid hown7
          clear hown7 q0
          go_wp2
          go_roundg (gk - 1)
          case measure => omega
          case rel => exact ⟨j + 1, v7, by omega, rfl, by go_num, HN⟩
        · have hltI2 : ¬ (j : Int) < (i : Int) := by omega
          obtain rfl : j = i := by omega
          have hfin := HI.out
          rw [HFL.out] at hfin
          have HF := Lib.hid hfin
          clear hfin HI
          go_wp2
          go_ret
          exact ⟨_, rfl, HF.out⟩
end
def tailV (F : Option Addr) (n c i : Nat) : Value := .slice (if c = i then F else F.map (fun a => a.add i)) (n - i) (c - i)
theorem KV.tail {w : World} {F : Option Addr} {c : Nat} {ks : List Nat} (h : KV w (.slice F ks.length c) ks) {i : Nat} (hi : i ≤ ks.length) : KV w (tailV F ks.length c i) (ks.drop i) := by
  obtain ⟨hl, ⟨F', c', e, h1, h2, h3⟩, hnp⟩ := h
  injection e with e1 e2 e3
  subst e1 e3
  refine ⟨by simp [u64L], ⟨(if c = i then F else F.map (fun a => a.add i)), c - i, by simp [tailV], by simp; omega, fun hn => ?_, fun j u hj => ?_⟩, fun m c2 ad e1 => ?_⟩
  rotate_left 2
  · injection e1 with e1 e2 e3
    obtain ⟨n', hn'⟩ : ∃ n', ks.length = n' + 1 := ⟨ks.length - 1, by omega⟩
    cases F with
    | none => split at e1 <;> cases e1
    | some a =>
      have hb : ad.block = a.block := by
        split at e1
        · injection e1 with e1
          rw [e1]
        · have e4 : a.add i = ad := by injection e1
          rw [← e4, ad_block]
      rw [hb]
      exact hnp n' c a (by rw [hn'])
  · split at hn
    · omega
    · cases F with
      | none => have := h2 rfl; omega
      | some a => cases hn
  · have hd : (u64L ks)[i + j]? = some u := by
      simp only [u64L, List.map_drop, List.getElem?_drop] at hj ⊢
      exact hj
    obtain ⟨ad, rfl, h4, h5⟩ := h3 _ _ hd
    have hlt : i + j < ks.length := by
      have := (List.getElem?_eq_some_iff.1 hd).1
      simpa [u64L] using this
    rw [if_neg (by omega)]
    refine ⟨ad.add i, rfl, by rw [ad_block]; exact h4, ?_⟩
    rw [← h5]
    rw [Addr.add_add]
section
variable {w : World} {v : Value} {ks : List Nat}
def FallP (w : World) (ks : List Nat) (N : Nat) (e : Ending) (w' : World) : Prop := ∃ v1 v2, e = .returned (.tuple #[v1, v2]) ∧ KO w.heap.size w w' v1 (ks.drop N).reverse ∧ KV w' v2 (ks.take N)
end
section
variable {w : World} {v : Value} {ks : List Nat}
def IdxP (w : World) (ks : List Nat) (k : Nat) (e : Ending) (w' : World) : Prop := ∃ r : Int, e = .returned (.int .i64 r) ∧ -1 ≤ r ∧ r ≤ 100000000 ∧ decide (0 ≤ r) = decide (k ∈ ks) ∧ w = w'
theorem index_walk (h : KV w v ks) (hl : ks.length ≤ 100000000) (k : Nat) :
    Calls Tryz.prog 119 #[v, .int .u64 (k : Nat)] w (IdxP w ks k) := by
  obtain ⟨F, c, rfl, h1, h2, h3⟩ := h.mem
  have HC := Lib.hid h3
  have HY := Lib.hid (fun hm : k ∈ ks => hm)
  obtain ⟨b, hb⟩ : ∃ b, decide (k ∈ ks) = b := ⟨_, rfl⟩
  have HB := Lib.hid hb
  clear h h3 h2 h1 hb HY
  go_enter Tryz.func119, Tryz.ntmps119
  go_wp2_with fail
  go_loopg [8] ks.length (fun gg s8 wr => ∃ i : Nat, i + gg = ks.length ∧ s8 = .int .i64 (i : Nat) ∧ wr = w ∧ Hid (∀ j (hj : j < ks.length), j < i → ks[j] ≠ k))
  case atStart => exact ⟨0, by omega, rfl, rfl, Lib.hid (fun j _ hj => by omega)⟩
  case round =>
    obtain ⟨i, hi, rfl, rfl, HN⟩ := hrel
    by_cases hlt : i < ks.length
    · have hltI : (i : Int) < (ks.length : Int) := by omega
      obtain ⟨ad, hF, _, q0⟩ := HC.out i hlt
      subst hF
      by_cases he : ks[i] = k
      · rw [he] at q0
        have HT : Hid (b = true) := Lib.hid (by rw [← HB.out]; exact decide_eq_true (he ▸ List.getElem_mem hlt))
        clear he
        go_wp2
        go_ret
        exact ⟨(i : Int), rfl, by omega, by omega, by rw [HB.out, HT.out]; exact decide_eq_true (by omega), rfl⟩
      · have HNX : Hid (∀ j (hj : j < ks.length), j < i + 1 → ks[j] ≠ k) := Lib.hid (fun j hj hji => by
          rcases Nat.lt_or_ge j i with h | h
          · exact HN.out j hj h
          · have : j = i := by omega
            subst this
            exact he)
        have hne : ((k : Int) == ((ks[i] : Nat) : Int)) = false := by
          rw [beq_eq_false_iff_ne]
          omega
        generalize ks[i] = x at q0 hne
        clear he
        go_wp2
        go_roundg (gk - 1)
        case measure => omega
        case rel => exact ⟨i + 1, by omega, by go_num, rfl, HNX⟩
    · have hltI : ¬ (i : Int) < (ks.length : Int) := by omega
      have HF : Hid (b = false) := Lib.hid (by
        rw [← HB.out]
        refine decide_eq_false (fun hm => ?_)
        obtain ⟨j, hj, e⟩ := List.getElem_of_mem hm
        exact HN.out j hj (by omega) e)
      go_wp2
      go_ret
      exact ⟨-1, rfl, by omega, by omega, by rw [HB.out, HF.out]; rfl, rfl⟩
theorem contains_walk (h : KV w v ks) (hl : ks.length ≤ 100000000) (k : Nat) :
    Calls Tryz.prog 94 #[v, .int .u64 (k : Nat)] w fun e w' => e = .returned (.bool (decide (k ∈ ks))) ∧ w = w' := by
  have HC := Lib.hid (index_walk h hl k)
  obtain ⟨F, n, c, rfl⟩ := h.form
  obtain ⟨b, hb⟩ : ∃ b, decide (k ∈ ks) = b := ⟨_, rfl⟩
  have HB := Lib.hid hb
  rw [hb]
  clear h hl hb
  go_enter Tryz.func94, Tryz.ntmps94
  go_wp2_with fail
  refine HC.out.mono ?_
  rintro e w1 ⟨r, rfl, h1, h2, h3, rfl⟩
  rw [HB.out] at h3
  by_cases h0 : 0 ≤ r
  · rw [decide_eq_true h0] at h3
    subst h3
    clear HC HB
    go_wp2
    go_ret
    exact ⟨rfl, rfl⟩
  · rw [decide_eq_false h0] at h3
    subst h3
    clear HC HB
    go_wp2
    go_ret
    exact ⟨congrArg (fun x : Bool => Ending.returned (Value.bool x)) (decide_eq_false (by omega)), rfl⟩
theorem has_walk (h : KV w v ks) (hl : ks.length ≤ 100000000) (k : Nat) :
    Calls Tryz.prog 51 #[v, .int .u64 (k : Nat)] w fun e w' => e = .returned (.bool (decide (k ∈ ks))) ∧ w = w' := by
  have HC := Lib.hid (contains_walk h hl k)
  obtain ⟨F, n, c, rfl⟩ := h.form
  generalize decide (k ∈ ks) = b at HC ⊢
  clear h hl
  go_enter Tryz.func51, Tryz.ntmps51
  go_wp2_with fail
  refine HC.out.mono ?_
  rintro e w1 ⟨rfl, rfl⟩
  clear HC
  go_wp2
  go_ret
  exact ⟨rfl, rfl⟩
end
set_option maxRecDepth 8000
theorem keyed64 : Maps.Keyed Tryz.prog 32 := Maps.int_keyed Tryz.underlying32
theorem zeroB (w : World) : (zeroValue 4).run Tryz.prog w = .ok (.bool false) w := by kernel_rfl
theorem key64 {k : Nat} (hk : k < 18446744073709551616) : keyOf Tryz.prog 32 (.int .u64 (k : Nat)) = some (.int .u64 (k : Nat)) := by
  refine Maps.keyOf_int_mk Tryz.underlying32 ?_
  have m1 : IntKind.u64.min = 0 := rfl
  have m2 : IntKind.u64.max = 18446744073709551615 := rfl
  simp only [Lit.wf, Bool.and_eq_true, decide_eq_true_eq, m1, m2]
  omega
structure SeenK (w0 w : World) (b : Nat) (L : List Nat) : Prop where
  low : Below w0.heap.size w0 w
  lo : w0.heap.size ≤ b
  own : ∃ D : DataW Unit, w.ownsMap Tryz.prog 32 (plainElem Tryz.prog 4) b L.length D ∧ Maps.IsMap D ∧ ∀ k : Nat, k < 18446744073709551616 → D.atKey (.int .u64 (k : Nat)) (.lit (.bool false)) = .lit (.bool (decide (k ∈ L)))
theorem SeenK.made {w0 w : World} (h : Below w0.heap.size w0 w) : SeenK w0 (w.alloc (.map #[] 0)) w.heap.size [] :=
  ⟨h.alloc h.size _, h.size, ⟨.map [], World.ownsMap_made _ _ _ _, ⟨_, rfl⟩, fun k _ => by simp [DataW.atKey]⟩⟩
set_option maxRecDepth 8000 in
theorem SeenK.look {w0 w : World} {b : Nat} {L : List Nat} (h : SeenK w0 w b L) {k : Nat} (hk : k < 18446744073709551616) :
    (Instr.lookup 127 (.map (some b)) (.int .u64 (k : Nat)) false).run Tryz.prog w = .ok (.bool (decide (k ∈ L))) w := by
  obtain ⟨D, h1, _, h3⟩ := h.own
  obtain ⟨v, ps, hrun, hv⟩ := h1.lookup keyed64 Tryz.underlying127 (zeroB w) (plainElem_bool Tryz.underlying4 false) (key64 hk)
  rw [h3 k hk] at hv
  rw [hrun]
  unfold plainElem at hv
  rw [Tryz.underlying4] at hv
  cases v <;> simp at hv
  rw [hv.1]
section
variable {w : World} {v : Value} {kss : List (List Nat)}
end
end Go.Proofs.YtkhikpnlpcankaaGreat
