/- Least recently used, the document's own: Drop, shrink. -/
import Derived.Test.YtemgbiohfgcphaaLrR
namespace Go.Proofs.Ytemgbiohfgcphaa
open Go Go.RowKit Go.Deep

section
variable {w : World} {u : Value} {s : L8}
/- The state of the loop: m keys are left. -/
structure Sh8 (w wr : World) (b r c : Nat) (l : List Nat) (F : Option Addr) (m d : Nat) (o : Value) : Prop where
  bo : Bo w wr T8 b r (l8C c (.slice F m d)) z8
  ko : KO w.heap.size w wr o (l.drop m).reverse
set_option maxHeartbeats 2000000 in
theorem r8shrink_walk (hs : St8 w s u) (hl : s.l.length ≤ 100000000) (N : Nat) : Calls Try.prog 46 #[.agg (l8C s.c u), .int .i64 (N : Nat)] w (P8o w ⟨s.c, s.l.take N⟩ (s.l.drop N).reverse) := by
  have h := hs.g1
  clear hs
  obtain ⟨F, d, rfl, _⟩ := h.mem
  have h0 := B8.start w s.c F s.l.length d
  have HI0 : Hid (Sh8 w ((w.alloc (.cells (l8C s.c (.slice F s.l.length d)) T8)).alloc (.cells z8 T8)) w.heap.size (w.heap.size + 1) s.c s.l F s.l.length d (.slice none 0 0)) := Lib.hid ⟨h0, by rw [List.drop_length]; exact KO.nil h0.low⟩
  have HT : Hid (∀ W, Below w.heap.size w W → ∀ m, m ≤ s.l.length → KV W (.slice F m d) (s.l.take m)) := Lib.hid (fun W hb m hm => by
    obtain ⟨F', d', e, hk⟩ := (h.below hb).take m hm
    injection e with e1 e2 e3
    subst e1 e3
    exact hk)
  obtain ⟨c, l⟩ := s
  simp only at *
  clear h0 h
  obtain ⟨n, hn⟩ : ∃ n, l.length = n := ⟨_, rfl⟩
  have HN := Lib.hid hn
  rw [hn] at hl HI0 HT ⊢
  clear hn
  go_enter Try.func46, Try.ntmps46
  go_wp2_with fail
  generalize ((w.alloc (.cells (l8C c (.slice F n d)) T8)).alloc (.cells z8 T8)) = W0 at HI0 ⊢
  go_loopg [6] n (fun gg s6 wr => ∃ (m : Nat) (v6 : Value), gg = m ∧ v6 = s6 ∧ Hid ((m ≤ n ∧ N ≤ m ∨ m = n)) ∧ Hid (Sh8 w wr w.heap.size (w.heap.size + 1) c l F m d v6))
  case atStart => exact ⟨n, _, rfl, rfl, Lib.hid (.inr rfl), HI0⟩
  case round =>
    obtain ⟨m, v6, hi, rfl, HM, HI⟩ := hrel
    have hmle : m ≤ n := by
      rcases HM.out with h | h
      · exact h.1
      · omega
    have hszw := HI.out.bo.low.size
    obtain ⟨⟨x0, x1⟩, x2, x3⟩ := c2_at HI.out.bo.box
    have hbb := (head_row HI.out.bo.box).lt
    by_cases hgt : N < m
    · obtain ⟨k, rfl⟩ : ∃ k, m = k + 1 := ⟨m - 1, by omega⟩
      have hgtI : (N : Int) < (k : Int) + 1 := by omega
      have hk : k < l.length := by rw [HN.out]; omega
      have KB := rback_walk (HT.out wr HI.out.bo.low (k + 1) hmle) (by rw [List.length_take, HN.out]; omega) (by rw [List.length_take, HN.out]; omega)
      have HX : (l.take (k + 1)).getLastD 0 = l[k] := by
        rw [List.take_succ_eq_append_getElem hk, List.getLastD_concat]
      rw [HX] at KB
      have HD := Lib.hid (drop_rev hk)
      have HMN : Hid (k ≤ n ∧ N ≤ k ∨ k = n) := Lib.hid (.inl ⟨by omega, by omega⟩)
      have hlen : ((l.drop (k + 1)).reverse).length ≤ 100000000 := by simp; have := HN.out; omega
      obtain ⟨ys, hys⟩ : ∃ ys, (l.drop (k + 1)).reverse = ys := ⟨_, rfl⟩
      obtain ⟨x, hx⟩ : ∃ x, l[k] = x := ⟨_, rfl⟩
      have HKO := Lib.hid HI.out.ko
      rw [hys] at HKO HD hlen
      rw [hx] at KB HD
      have HKB := Lib.hid KB
      clear KB HX hys hx hgt HM
      have HOW := Lib.hid (HKO.out.alloc hszw (.cells #[.int .u64 (x : Nat)] 32))
      have HBO := Lib.hid (HI.out.bo.step (low_one wr (.cells #[.int .u64 (x : Nat)] 32)))
      have HSRC := Lib.hid (KV.one wr x)
      have hszA : w.heap.size ≤ (wr.alloc (.cells #[.int .u64 (x : Nat)] 32)).heap.size := by simp; omega
      go_wp2_with fail
      refine HKB.out.mono ?_
      rintro e w5 ⟨rfl, rfl⟩
      go_wp2_with (at_builtin; refine wpList_append_kv rfl (.tmp 12) (.tmp 16) rfl w.heap.size (by kernel_rfl) (by kernel_rfl) v6 ys rfl HOW.out _ [x] rfl HSRC.out (by simp; omega) hszA ?_)
      intro v7 w7 hown7 _ hkt
      rw [← HD.out] at hown7
      have HB7 := Lib.hid (HBO.out.kt hkt hown7.low)
      have HN7 := Lib.hid hown7
      clear hown7 hkt x0 x1 x2 x3
      obtain ⟨⟨x0, x1⟩, x2, x3⟩ := c2_at HB7.out.box
      have hbb7 := (head_row HB7.out.box).lt
      go_wp2
      have HSH : Hid (Sh8 w (w7.setCell ⟨w.heap.size, 1, none⟩ (.slice F k d)) w.heap.size (w.heap.size + 1) c l F k d v7) := Lib.hid (by
        obtain ⟨h1, h2⟩ := HB7.out.set 1 (.slice F k d) rfl
        exact ⟨h1, HB7.out.ko h2 HN7.out⟩)
      go_roundg (gk - 1)
      case measure => omega
      case rel => exact ⟨k, v7, by omega, rfl, HMN, HSH⟩
    · have hgtI : (m : Int) ≤ (N : Int) := by omega
      have HT2 : Hid (l.take N = l.take m ∧ (l.drop N).reverse = (l.drop m).reverse) := Lib.hid (by
        rcases HM.out with h | h
        · have : N = m := by omega
          rw [this]
          exact ⟨rfl, rfl⟩
        · have := HN.out
          rw [List.take_of_length_le (by omega), List.take_of_length_le (by omega), List.drop_of_length_le (by omega), List.drop_of_length_le (by omega)]
          exact ⟨rfl, rfl⟩)
      obtain ⟨⟨y0, y1⟩, y2, y3⟩ := c2_at HI.out.bo.res
      have hrr := (head_row HI.out.bo.res).lt
      go_wp2
      have HO : Hid (Only [w.heap.size, w.heap.size + 1] wr ((wr.setCell ⟨w.heap.size + 1, 0, none⟩ (.int .i64 (c : Nat))).setCell ⟨w.heap.size + 1, 1, none⟩ (.slice F m d))) := Lib.hid (((Only.refl _ _).setCell (by simp) _).setCell (by simp) _)
      refine bodyPost_ret (v := .tuple #[.agg (l8C c (.slice F m d)), v6]) (by simp [results, Try.results46, go_sem, y0, y1]) rfl ⟨_, _, rfl, HI.out.bo.fin HO.out, ⟨?_⟩, ?_⟩
      · show KV _ _ (l.take N)
        rw [HT2.out.1]
        exact HI.out.bo.kv HO.out (HT.out wr HI.out.bo.low m hmle)
      · rw [HT2.out.2]
        exact HI.out.bo.kv HO.out HI.out.ko.kv
end
end Go.Proofs.Ytemgbiohfgcphaa
