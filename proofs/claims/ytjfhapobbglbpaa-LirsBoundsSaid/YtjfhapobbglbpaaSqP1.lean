/- The program's lists of keys: room for more (slices.Grow), the other keys behind a row, Without, Front, a copy. -/
import Derived.Test.YtjfhapobbglbpaaSqJ
import Derived.Lib.AppendZerosOnto
namespace Go.Proofs.Ytjfhapobbglbpaa
open Go Go.RowKit Go.Deep

theorem grow_room (base : Option Addr) (l c n : Nat) (w : World) (hlc : l ≤ c) (hc : c ≤ maxLen) (hn : n ≤ 1000000000) (hroom : l + n ≤ c) :
    Calls Try.prog 81 #[.slice base l c, .int .i64 n] w fun e w' => e = .returned (.slice base l c) ∧ w' = w := by
  unfold maxLen at hc
  have h1 : ¬ ((n : Int) < 0) := by omega
  have h2 : wrap64 ((c : Int) - (l : Int)) = (c : Int) - (l : Int) := by unfold wrap64; omega
  have h3 : wrap64 ((n : Int) - ((c : Int) - (l : Int))) = (n : Int) - ((c : Int) - (l : Int)) := by unfold wrap64; omega
  have h4 : ¬ ((n : Int) - ((c : Int) - (l : Int)) > 0) := by omega
  go_enter Try.func81, Try.ntmps81
  go_wp2
  go_ret
  exact ⟨rfl, rfl⟩
set_option maxHeartbeats 2000000 in
set_option maxRecDepth 4000 in
theorem grow_new (base : Option Addr) (l c n : Nat) (cs : List Value) (w : World) (hlc : l ≤ c) (hroom : c < l + n) (hbig : l + n ≤ 1000000000) (hcl : cs.length = c) (hnil : base = none → c = 0)
    (hcs : ∀ a, base = some a → ∀ j v, cs[j]? = some v → w.cell? (a.add j) = some v) :
    Calls Try.prog 81 #[.slice base l c, .int .i64 n] w fun e w' =>
      e = .returned (.slice (some ⟨w.heap.size, 0, none⟩) l (grownCap w (l + n) c 35)) ∧
      w' = w.drew.alloc (.cells (cs.toArray ++ Builtin.zeroCells (Value.int .u64 0).cells (l + n - c) ++ Builtin.zeroCells (Value.int .u64 0).cells (grownCap w (l + n) c 35 - (l + n))) 35) := by
  have hinfo : (Try.prog.info? 35).map (fun i => (i.zero, i.size, i.bytes)) = some (some (.int .u64 0), 1, 8) := by kernel_rfl
  obtain ⟨i0, hi0, hz0, hs0, hby⟩ := info_parts hinfo
  have ht : Try.prog.underlying 25 = some (.slice 35) := by kernel_rfl
  have htn : Try.prog.underlying 3 = some (.int .i64) := by kernel_rfl
  have hck : c + (l + n - c) = l + n := by omega
  have hold : (Builtin.firstCells i0.size c (.slice base c c)).run Try.prog w.drew = .ok cs.toArray w.drew := by
    rw [hs0]
    cases base with
    | none =>
      have h0 := hnil rfl
      subst h0
      obtain rfl : cs = [] := List.length_eq_zero_iff.1 hcl
      exact run_firstCells_none w.drew 1 0 0 0
    | some a => exact run_firstCells_some w.drew 1 c a c c cs (by omega) (fun j v hj => hcs a rfl j v hj)
  have hrz : ∀ ty, (Builtin.append_ #[25, 3] ty #[.slice base c c, .int .i64 ((n : Int) - ((c : Int) - (l : Int)))]).run Try.prog w =
      .ok (.slice (some ⟨w.heap.size, 0, none⟩) (l + n) (grownCap w (l + n) c 35)) (w.drew.alloc (.cells (cs.toArray ++ Builtin.zeroCells (Value.int .u64 0).cells (l + n - c) ++ Builtin.zeroCells (Value.int .u64 0).cells (grownCap w (l + n) c 35 - (l + n))) 35)) := fun ty => by
    have h := Lib.run_append_grow_zeros w 25 3 ty 35 i0 (.int .u64 0) .i64 .i64 ht htn hi0 hz0 base c c cs hold (l + n - c) (by omega) (by omega) (by omega) (by omega)
      (by rw [hby]; omega) (by rw [hck, hby]; exact growslice_fits hroom (by omega))
    rw [hck] at h
    rw [show (n : Int) - ((c : Int) - (l : Int)) = ((l + n - c : Nat) : Int) by omega]
    exact h
  have hGn : l + n ≤ grownCap w (l + n) c 35 := grownCap_ge w _ _ _
  have hG63 : grownCap w (l + n) c 35 ≤ maxLen := grownCap_le_maxLen w (l + n) c 35 (by unfold maxLen; omega)
  unfold maxLen at hG63
  have h1 : ¬ ((n : Int) < 0) := by omega
  have h2 : wrap64 ((c : Int) - (l : Int)) = (c : Int) - (l : Int) := by unfold wrap64; omega
  have h3 : wrap64 ((n : Int) - ((c : Int) - (l : Int))) = (n : Int) - ((c : Int) - (l : Int)) := by unfold wrap64; omega
  have h4 : (n : Int) - ((c : Int) - (l : Int)) > 0 := by omega
  generalize grownCap w (l + n) c 35 = G at hrz hGn hG63 ⊢
  clear hold hck hcs hcl hi0 hz0 hs0 hby hinfo i0
  go_enter Try.func81, Try.ntmps81
  cases base with
  | none =>
    obtain rfl : c = 0 := hnil rfl
    obtain rfl : l = 0 := by omega
    go_wp2_with (at_builtin; refine Lib.wpList_append_run _ rfl _ _ _ _ rfl _ _ rfl rfl _ _ (hrz _) ?_)
    all_goals (go_ret; exact ⟨rfl, rfl⟩)
  | some a =>
    obtain ⟨ab, ao, asp⟩ := a
    go_wp2_with (at_builtin; refine Lib.wpList_append_run _ rfl _ _ _ _ rfl _ _ rfl rfl _ _ (hrz _) ?_)
    all_goals (go_ret; exact ⟨rfl, rfl⟩)
/- What Grow leaves of an own row. -/
theorem grown_own {B n G m : Nat} {w0 w : World} {xs cs : List Value} (hlow : Below B w0 w) (hB : B ≤ w.heap.size) (hx : xs.length = n) (hn : n ≤ G) (hG : G ≤ maxLen) (hm : cs.length + m ≤ G) (ht : cs.take n = xs) :
    Below B w0 (w.drew.alloc (.cells (cs.toArray ++ Builtin.zeroCells (Value.int .u64 0).cells m ++ Builtin.zeroCells (Value.int .u64 0).cells (G - (cs.length + m))) 35)) ∧
    (w.drew.alloc (.cells (cs.toArray ++ Builtin.zeroCells (Value.int .u64 0).cells m ++ Builtin.zeroCells (Value.int .u64 0).cells (G - (cs.length + m))) 35)).ownsRow B 35 1 (.slice (some ⟨w.heap.size, 0, none⟩) n G) n xs := by
  refine ⟨(below_drewn hlow 1).alloc hB _, by omega, .inr ⟨w.heap.size, G, _, rfl, hB, heap_alloc_new w.drew _, hn, hG, ?_, ?_⟩⟩
  · simp [size_zeroCells, Value.cells]
    omega
  · have h2 : n ≤ cs.length := by
      rw [← hx, ← ht, List.length_take]
      omega
    simp only [Array.toList_append, Nat.mul_one]
    rw [List.append_assoc, List.take_append_of_le_length (by simpa using h2)]
    exact ht
theorem grow_walk {B : Nat} {w0 w : World} {v : Value} {ks : List Nat} (h : KO B w0 w v ks) (hB : B ≤ w.heap.size) (n : Nat) (hn : n ≤ 100000000) (hl : ks.length ≤ 100000000) :
    Calls Try.prog 81 #[v, .int .i64 n] w fun e w' => ∃ v', e = .returned v' ∧ KO B w0 w' v' ks := by
  obtain ⟨hlow, hx, h2⟩ := h
  rcases h2 with ⟨rfl, h0⟩ | ⟨g, c, cur, rfl, hBg, hg, hle, hc, hsz, htk⟩
  · obtain rfl : ks = [] := List.length_eq_zero_iff.1 h0
    rcases Nat.eq_zero_or_pos n with rfl | hp
    · refine (grow_room none 0 0 0 w (by omega) (by unfold maxLen; omega) (by omega) (by omega)).mono ?_
      rintro e w' ⟨rfl, rfl⟩
      exact ⟨_, rfl, KO.nil hlow⟩
    · refine (grow_new none 0 0 n [] w (by omega) (by omega) (by omega) rfl (fun _ => rfl) (fun a e => by cases e)).mono ?_
      rintro e w' ⟨rfl, rfl⟩
      have hG := grownCap_ge w (0 + n) 0 35
      have hG2 := grownCap_le_maxLen w (0 + n) 0 35 (by unfold maxLen; omega)
      obtain ⟨h3, h4⟩ := grown_own (n := 0) (m := 0 + n - 0) (xs := []) (cs := []) hlow hB rfl (Nat.zero_le _) hG2 (by simpa using hG) rfl
      refine ⟨_, rfl, ⟨?_, ?_⟩⟩
      · simpa using h3
      · simpa [u64L] using h4
  · by_cases hr : ks.length + n ≤ c
    · refine (grow_room (some ⟨g, 0, none⟩) ks.length c n w hle hc (by omega) hr).mono ?_
      rintro e w' ⟨rfl, rfl⟩
      exact ⟨_, rfl, ⟨hlow, hx, .inr ⟨g, c, cur, rfl, hBg, hg, hle, hc, hsz, htk⟩⟩⟩
    · have hcl : cur.toList.length = c := by simpa using hsz
      refine (grow_new (some ⟨g, 0, none⟩) ks.length c n cur.toList w hle (by omega) (by omega) hcl (fun e => by cases e) (fun a e j u hj => ?_)).mono ?_
      · injection e with e
        subst e
        have := (head_row hg).cell (i := j) (by have := (List.getElem?_eq_some_iff.1 hj).1; simpa using this)
        rw [Addr.add_lit, Nat.zero_add, this]
        rw [Array.getElem?_toList] at hj
        simp [Array.getD_eq_getD_getElem?, hj]
      rintro e w' ⟨rfl, rfl⟩
      have hG := grownCap_ge w (ks.length + n) c 35
      have hG2 := grownCap_le_maxLen w (ks.length + n) c 35 (by unfold maxLen; omega)
      obtain ⟨h3, h4⟩ := grown_own (n := ks.length) (m := ks.length + n - c) (xs := u64L ks) (cs := cur.toList) hlow hB (by simp [u64L]) (Nat.le_trans (by omega) hG) hG2 (by rw [hcl]; omega) (by simpa using htk)
      rw [hcl, show c + (ks.length + n - c) = ks.length + n by omega] at h3 h4
      exact ⟨_, rfl, ⟨h3, h4⟩⟩
section
variable {w0 w : World} {u v : Value} {ks js : List Nat}
def OthP (w0 : World) (ks : List Nat) (e : Ending) (w' : World) : Prop := ∃ v', e = .returned v' ∧ KO w0.heap.size w0 w' v' ks
set_option maxHeartbeats 100000000 in
/- The other keys of a list behind an own row. -/
theorem others_walk (H0 : KV w0 u ks) (hl : ks.length ≤ 100000000) (hj : KO w0.heap.size w0 w v js) (hjl : js.length ≤ 100000000) (k : Nat) :
    Calls Try.prog 72 #[v, u, .int .u64 (k : Nat)] w (OthP w0 (js ++ wo k ks)) := by
  have H := Lib.hid H0
  have HJ := Lib.hid hj
  have HJL := Lib.hid hjl
  obtain ⟨F, c, rfl, h1, h2, h3⟩ := H0.mem
  have HG := Lib.hid (grow_walk hj hj.low.size ks.length hl hjl)
  clear H0 h3 h2 h1 hj hjl
  go_enter Try.func72, Try.ntmps72
  go_wp2_with fail
  refine HG.out.mono ?_
  rintro e w1 ⟨v1, rfl, hk1⟩
  have H1 := Lib.hid hk1
  clear hk1 HJ HG
  go_wp2_with fail
  go_loopg [0, 15] ks.length (fun gg s0 s15 wr => ∃ (i : Nat) (v0 : Value), i + gg = ks.length ∧ v0 = s0 ∧ s15 = .int .i64 (i : Nat) ∧ Hid (KO w0.heap.size w0 wr v0 (js ++ wo k (ks.take i))))
  case atStart => exact ⟨0, _, by omega, rfl, rfl, Lib.hid (by simpa [wo] using H1.out)⟩
  case round =>
    obtain ⟨i, v5, hi, rfl, rfl, HI⟩ := hrel
    by_cases hlt : i < ks.length
    · have hltI : (i : Int) < (ks.length : Int) := by omega
      obtain ⟨F', c', e, _, _, h3⟩ := (H.out.below HI.out.low).mem
      injection e with e1 e2 e3
      subst e1 e3
      obtain ⟨ad, hF, hadb, q0⟩ := h3 i hlt
      subst hF
      have HW := Lib.hid (wo_take (k := k) hlt)
      have hszw := HI.out.low.size
      clear h3
      by_cases he : ks[i] = k
      · have HW2 : Hid (wo k (ks.take (i + 1)) = wo k (ks.take i)) := Lib.hid (by rw [HW.out, if_pos he, List.append_nil])
        rw [he] at q0
        have HN := HI.out
        rw [← HW2.out] at HN
        have HNX := Lib.hid HN
        clear he HN HI HW
        go_wp2
        go_roundg (gk - 1)
        case measure => omega
        case rel => exact ⟨i + 1, v5, by omega, rfl, by go_num, HNX⟩
      · have hne : (((ks[i] : Nat) : Int) == (k : Int)) = false := by
          rw [beq_eq_false_iff_ne]
          omega
        have hne2 : (((ks[i] : Nat) : Int) != (k : Int)) = true := by
          rw [bne_iff_ne]
          omega
        have HW2 : Hid (js ++ wo k (ks.take i) ++ [ks[i]] = js ++ wo k (ks.take (i + 1))) := Lib.hid (by rw [HW.out, if_neg he, List.append_assoc])
        have hwl : (js ++ wo k (ks.take i)).length ≤ 200000000 := by
          have h5 := wo_len k (ks.take i)
          have h6 := HJL.out
          rw [List.length_take] at h5
          rw [List.length_append]
          omega
        obtain ⟨ys, hys⟩ : ∃ ys, js ++ wo k (ks.take i) = ys := ⟨_, rfl⟩
        obtain ⟨zs, hzs⟩ : ∃ zs, js ++ wo k (ks.take (i + 1)) = zs := ⟨_, rfl⟩
        rw [hys] at HI HW2 hwl
        rw [hzs] at HW2
        have HZS := Lib.hid hzs
        obtain ⟨x, hx⟩ : ∃ x, ks[i] = x := ⟨_, rfl⟩
        rw [hx] at q0 hne hne2 HW2
        clear he hys hzs hx HW
        have HOW := Lib.hid (HI.out.alloc hszw (.cells #[.int .u64 (x : Nat)] 35))
        have HSRC := Lib.hid (KV.one wr x)
        have hszA : w0.heap.size ≤ (wr.alloc (.cells #[.int .u64 (x : Nat)] 35)).heap.size := by simp; omega
        go_wp2_with (at_builtin; refine wpList_append_kv rfl (.tmp 22) (.tmp 24) rfl w0.heap.size (by kernel_rfl) (by kernel_rfl) v5 ys rfl HOW.out _ [x] rfl HSRC.out (by simp; omega) hszA ?_)
        intro v6 w6 hown6 _ _
        rw [HW2.out, ← HZS.out] at hown6
        have HN := Lib.hid hown6
        clear hown6 hne hne2 q0 hadb
        go_wp2
        go_roundg (gk - 1)
        case measure => omega
        case rel => exact ⟨i + 1, v6, by omega, rfl, by go_num, HN⟩
    · have hltI : ¬ (i : Int) < (ks.length : Int) := by omega
      obtain rfl : i = ks.length := by omega
      have hfin := HI.out
      rw [List.take_length] at hfin
      have HF := Lib.hid hfin
      clear hfin HI
      go_wp2
      go_ret
      exact ⟨_, rfl, HF.out⟩
theorem without_walk (h : KV w v ks) (hl : ks.length ≤ 100000000) (k : Nat) :
    Calls Try.prog 48 #[v, .int .u64 (k : Nat)] w (OwnK w (wo k ks)) := by
  have HC := Lib.hid (others_walk h hl (KO.nil (Below.refl _ _)) (by simp) k)
  obtain ⟨F, n, c, rfl⟩ := h.form
  clear h
  go_enter Try.func48, Try.ntmps48
  go_wp2_with fail
  refine HC.out.mono ?_
  rintro e w1 ⟨v1, rfl, hk⟩
  have HK := Lib.hid hk
  clear hk HC
  go_wp2
  go_ret
  exact ⟨_, rfl, HK.out⟩
end
end Go.Proofs.Ytjfhapobbglbpaa
