/- Words and walks: LrP LrB LrO LrR LrS LrA LrD LrW. -/
import Derived.Test.YtebdggoncnhjeaaG1
import Derived.Deep.RegionHeld3
import Derived.Deep.RegionWith
namespace Go.Proofs.Ytebdggoncnhjeaa
open Go Go.RowKit Go.Deep
structure L8 where
  c : Nat
  l : List Nat
namespace L8
def keys (s : L8) : List Nat := s.l
def ghosts (_ : L8) : Nat := 0
def new (n : Int) : L8 := ⟨capI n, []⟩
def touch (s : L8) (k : Nat) : L8 := if k ∈ s.l then ⟨s.c, fr k s.l⟩ else s
def adm (s : L8) (k : Nat) : L8 := if k ∈ s.l then s else ⟨s.c, fr k (s.l.take (s.c - 1))⟩
def admitOut (s : L8) (k : Nat) : List Nat := if k ∈ s.l then [] else (s.l.drop (s.c - 1)).reverse
def drop (s : L8) (k : Nat) : L8 := ⟨s.c, wo k s.l⟩
def resize (s : L8) (n : Int) : L8 := ⟨capI n, s.l.take (capI n)⟩
def resizeOut (s : L8) (n : Int) : List Nat := (s.l.drop (capI n)).reverse
def act (s : L8) (x : Act8) : L8 := match kindA x (decide (x.key ∈ s.keys)) with
  | 1 => s.touch x.key
  | 2 => s.adm x.key
  | 3 => s.drop x.key
  | _ => s.resize (sizeA x : Nat)
def actOut (s : L8) (x : Act8) : List Nat := match kindA x (decide (x.key ∈ s.keys)) with
  | 1 => []
  | 2 => s.admitOut x.key
  | 3 => []
  | _ => s.resizeOut (sizeA x : Nat)
structure Ok (s : L8) : Prop where
  pos : 1 ≤ s.c
  cap : s.c ≤ 1048576
  nd : s.l.Nodup
  len : s.l.length ≤ s.c
  key : ∀ k ∈ s.l, k < 18446744073709551616
end L8
theorem wo_mem {ks : List Nat} {k x : Nat} : x ∈ wo k ks ↔ x ∈ ks ∧ x ≠ k := by simp [wo]
theorem fr_mem {ks : List Nat} {k x : Nat} : x ∈ fr k ks ↔ x = k ∨ x ∈ ks ∧ x ≠ k := by simp [fr, wo_mem]
theorem wo_lt {ks : List Nat} {k : Nat} (h : k ∈ ks) : (wo k ks).length < ks.length := by
  unfold wo
  exact List.length_filter_lt_length_iff_exists.2 ⟨k, h, by simp⟩
theorem take_nodup {ks : List Nat} (h : ks.Nodup) (n : Nat) : (ks.take n).Nodup := h.sublist (List.take_sublist n ks)
theorem fr_len_in {ks : List Nat} {k : Nat} (h : k ∈ ks) : (fr k ks).length ≤ ks.length := by
  have := wo_lt h
  simp [fr]
  omega
theorem wo_none8 {ks : List Nat} {k : Nat} (h : k ∉ ks) : wo k ks = ks := by
  unfold wo
  refine List.filter_eq_self.2 (fun a ha => ?_)
  simp only [bne_iff_ne, ne_eq]
  rintro rfl
  exact h ha
namespace L8
variable {s : L8}
theorem Ok.keysLen (h : s.Ok) : s.keys.length ≤ 100000000 := by have := h.len; have := h.cap; unfold L8.keys; omega
theorem Ok.len_l (h : s.Ok) : s.l.length ≤ 100000000 := by have := h.len; have := h.cap; omega
theorem Ok.hl (h : s.Ok) : s.l.length ≤ 100000000 := by have := h.len; have := h.cap; omega
theorem ok_new (n : Int) : (new n).Ok := ⟨(capI_pos n).1, (capI_pos n).2, List.nodup_nil, by simp [new], fun k hk => by simp [new] at hk⟩
theorem Ok.touch (h : s.Ok) (k : Nat) : (s.touch k).Ok := by
  unfold L8.touch
  split
  · rename_i hk
    exact ⟨h.pos, h.cap, fr_nodup h.nd k, Nat.le_trans (fr_len_in hk) h.len, fun x hx => by
      rcases fr_mem.1 hx with rfl | hx
      · exact h.key _ hk
      · exact h.key x hx.1⟩
  · exact h
theorem Ok.adm (h : s.Ok) (k : Nat) (hk : k < 18446744073709551616) : (s.adm k).Ok := by
  unfold L8.adm
  split
  · exact h
  · have h1 := fr_len k (s.l.take (s.c - 1))
    rw [List.length_take] at h1
    have hp := h.pos
    exact ⟨h.pos, h.cap, fr_nodup (take_nodup h.nd _) k, by show (fr k (s.l.take (s.c - 1))).length ≤ s.c; omega, fun x hx => by
      rcases fr_mem.1 hx with rfl | hx
      · exact hk
      · exact h.key x (List.mem_of_mem_take hx.1)⟩
theorem Ok.drop (h : s.Ok) (k : Nat) : (s.drop k).Ok := ⟨h.pos, h.cap, wo_nodup h.nd k, Nat.le_trans (wo_len k s.l) h.len, fun x hx => h.key x (wo_mem.1 hx).1⟩
theorem Ok.resize (h : s.Ok) (n : Int) : (s.resize n).Ok := ⟨(capI_pos n).1, (capI_pos n).2, take_nodup h.nd _, by
  show (s.l.take (capI n)).length ≤ capI n
  rw [List.length_take]
  omega, fun x hx => h.key x (List.mem_of_mem_take hx)⟩
theorem Ok.act (h : s.Ok) {x : Act8} (wf : x.Ok) : (s.act x).Ok := by
  unfold L8.act
  split
  · exact h.touch _
  · exact h.adm _ wf.key
  · exact h.drop _
  · exact h.resize _
theorem Ok.actOutLen (h : s.Ok) {x : Act8} (_ : x.Ok) : (s.actOut x).length ≤ 100000000 := by
  have h1 := h.len
  have h2 := h.cap
  unfold L8.actOut admitOut resizeOut
  repeat' split
  all_goals simp
  all_goals omega
theorem act_cases (s : L8) (x : Act8) : kindA x (decide (x.key ∈ s.keys)) = 1 ∧ s.act x = s.touch x.key ∧ s.actOut x = [] ∨ kindA x (decide (x.key ∈ s.keys)) = 2 ∧ s.act x = s.adm x.key ∧ s.actOut x = s.admitOut x.key ∨
    kindA x (decide (x.key ∈ s.keys)) = 3 ∧ s.act x = s.drop x.key ∧ s.actOut x = [] ∨ kindA x (decide (x.key ∈ s.keys)) = 4 ∧ s.act x = s.resize (sizeA x : Nat) ∧ s.actOut x = s.resizeOut (sizeA x : Nat) := by
  unfold L8.act L8.actOut
  rcases kindA_is x (decide (x.key ∈ s.keys)) with h | h | h | h <;> rw [h] <;> simp
end L8
abbrev l8C (c : Nat) (u_l : Value) : Array Value := #[(.int .i64 (c : Nat)), u_l]
abbrev z8 : Array Value := #[.int .i64 0, .slice none 0 0]
abbrev T8 : TypeId := 28
structure St8 (w : World) (s : L8) (u1 : Value) : Prop where
  g1 : KV w u1 s.l
section
variable {w w' : World} {s : L8} {u1 : Value}
theorem St8.form1 (h : St8 w s u1) : ∃ F n c, u1 = .slice F n c := h.g1.form
theorem St8.below (h : St8 w s u1) (hb : Below w.heap.size w w') : St8 w' s u1 := ⟨h.g1.below hb⟩
theorem Bo.st8 {w0 : World} {T : TypeId} {b r : Nat} {cs zs : Array Value} (hb : Bo w0 w T b r cs zs) (ho : Only [b, r] w w') (h : St8 w s u1) : St8 w' s u1 := ⟨hb.kv ho h.g1⟩
theorem Bp.st8 {w0 : World} {T U : TypeId} {b r : Nat} {cs zs : Array Value} (hb : Bp w0 w T U b r cs zs) (ho : Only [b, r] w w') (h : St8 w s u1) : St8 w' s u1 := ⟨hb.kv ho h.g1⟩
end
def P8 (w : World) (s : L8) (e : Ending) (w' : World) : Prop := ∃ u1, e = .returned (.agg (l8C s.c u1)) ∧ Below w.heap.size w w' ∧ St8 w' s u1
def P8o (w : World) (s : L8) (out : List Nat) (e : Ending) (w' : World) : Prop := ∃ u1 o, e = .returned (.tuple #[.agg (l8C s.c u1), o]) ∧ Below w.heap.size w w' ∧ St8 w' s u1 ∧ KV w' o out
theorem B8.start (w : World) (c : Nat) (F1 : Option Addr) (n1 d1 : Nat) : Bo w ((w.alloc (.cells (l8C c (.slice F1 n1 d1)) T8)).alloc (.cells z8 T8)) T8 w.heap.size (w.heap.size + 1) (l8C c (.slice F1 n1 d1)) z8 :=
  Bo.start w T8 _ _ rfl rfl (by decide)
abbrev PT8 : TypeId := 39
structure Pol8Ok : Prop where
  new : ∀ (w : World) (n : Int) (_ : -9223372036854775808 ≤ n) (_ : n ≤ 9223372036854775807), Calls Try.prog 22 #[.int .i64 n] w (P8 w (L8.new n))
  touch : ∀ {w : World} {s : L8} {u1 : Value} (_ : St8 w s u1) (_ : s.Ok) (k : Nat) (_ : k < 18446744073709551616), Calls Try.prog 25 #[(.agg (l8C s.c u1)), .int .u64 (k : Nat)] w (P8 w (s.touch k))
  adm : ∀ {w : World} {s : L8} {u1 : Value} (_ : St8 w s u1) (_ : s.Ok) (k : Nat) (_ : k < 18446744073709551616), Calls Try.prog 26 #[(.agg (l8C s.c u1)), .int .u64 (k : Nat)] w (P8o w (s.adm k) (s.admitOut k))
  drop : ∀ {w : World} {s : L8} {u1 : Value} (_ : St8 w s u1) (_ : s.Ok) (k : Nat) (_ : k < 18446744073709551616), Calls Try.prog 27 #[(.agg (l8C s.c u1)), .int .u64 (k : Nat)] w (P8 w (s.drop k))
  resize : ∀ {w : World} {s : L8} {u1 : Value} (_ : St8 w s u1) (_ : s.Ok) (n : Int) (_ : -9223372036854775808 ≤ n) (_ : n ≤ 9223372036854775807), Calls Try.prog 28 #[(.agg (l8C s.c u1)), .int .i64 n] w (P8o w (s.resize n) (s.resizeOut n))
  has : ∀ {w : World} {s : L8} {u1 : Value} (_ : St8 w s u1) (_ : s.Ok) (k : Nat) (_ : k < 18446744073709551616), Calls Try.prog 24 #[(.agg (l8C s.c u1)), .int .u64 (k : Nat)] w (RetB w (decide (k ∈ s.keys)))
  keys : ∀ {w : World} {s : L8} {u1 : Value} (_ : St8 w s u1) (_ : s.Ok), Calls Try.prog 30 #[(.agg (l8C s.c u1))] w (RetK w s.keys)
  ghosts : ∀ {w : World} {s : L8} {u1 : Value} (_ : St8 w s u1) (_ : s.Ok), Calls Try.prog 31 #[(.agg (l8C s.c u1))] w (fun e w' => e = .returned (.int .i64 (s.ghosts : Nat)) ∧ Below w.heap.size w w')
section
variable {w : World} {u : Value} {s : L8}
set_option maxHeartbeats 100000000 in
theorem r8new_walk (n : Int) (hn1 : -9223372036854775808 ≤ n) (hn2 : n ≤ 9223372036854775807) : Calls Try.prog 10 #[.int .i64 n] w (P8 w (L8.new n)) := by
  have HB := Lib.hid ((Below.refl w.heap.size w).alloc (Nat.le_refl _) (.cells z8 28))
  have KK := Lib.hid (rcap_walk (w := w.alloc (.cells z8 28)) n hn1 hn2)
  obtain ⟨c, hc⟩ : ∃ c, capI n = c := ⟨_, rfl⟩
  have HC : Hid (P8 w (L8.new n) = P8 w ⟨c, []⟩) := Lib.hid (by rw [← hc]; rfl)
  rw [hc] at KK
  rw [HC.out]
  clear hc HC
  go_enter Try.func10, Try.ntmps10
  go_wp2_with fail
  refine KK.out.mono ?_
  rintro e w1 ⟨rfl, rfl⟩
  go_wp2
  exact bodyPost_ret (v := .agg (l8C c (.slice none 0 0))) (by simp [results, Try.results10, go_sem]) rfl ⟨_, rfl, (Below.refl _ _).alloc (Nat.le_refl _) _, ⟨KV.nil _⟩⟩
set_option maxHeartbeats 100000000 in
theorem r8touch_walk (hs : St8 w s u) (ok : s.Ok) (k : Nat) : Calls Try.prog 42 #[.agg (l8C s.c u), .int .u64 (k : Nat)] w (P8 w (s.touch k)) := by
  have h := hs.g1
  have hl := ok.hl
  clear hs ok
  obtain ⟨F, n, d, rfl⟩ := h.form
  have h0 := B8.start w s.c F n d
  have HB := Lib.hid h0
  have hk0 := h.below h0.low
  have KH := Lib.hid (rhas_walk hk0 hl k)
  have KF := Lib.hid (rfront_walk hk0 hl k)
  have HK0 := Lib.hid hk0
  obtain ⟨c, l⟩ := s
  simp only at *
  unfold L8.touch
  simp only
  have H := Lib.hid h
  clear h0 hk0 h
  by_cases hin : k ∈ l
  · rw [decide_eq_true hin] at KH
    rw [if_pos hin]
    clear hin
    go_enter Try.func42, Try.ntmps42
    go_wp2_with fail
    refine KH.out.mono ?_
    rintro e w1 ⟨rfl, rfl⟩
    go_wp2_with fail
    refine KF.out.mono ?_
    rintro e w2 ⟨v2, rfl, h2⟩
    obtain ⟨F2, n2, d2, rfl⟩ := h2.kv.form
    have H2 := Lib.hid (HB.out.step h2.low)
    have HV := Lib.hid h2.kv
    obtain ⟨⟨x0, x1⟩, x2, x3⟩ := c2_at H2.out.box
    obtain ⟨⟨y0, y1⟩, y2, y3⟩ := c2_at H2.out.res
    clear h2 KH KF HB HK0
    go_wp2
    have HO : Hid (Only [w.heap.size, w.heap.size + 1] w2 (((w2.setCell ⟨w.heap.size, 1, none⟩ (.slice F2 n2 d2)).setCell ⟨w.heap.size + 1, 0, none⟩ (.int .i64 (c : Nat))).setCell ⟨w.heap.size + 1, 1, none⟩ (.slice F2 n2 d2))) := Lib.hid ((((Only.refl _ _).setCell (by simp) _).setCell (by simp) _).setCell (by simp) _)
    exact bodyPost_ret (v := .agg (l8C c (.slice F2 n2 d2))) (by simp [results, Try.results42, go_sem, y0, y1]) rfl ⟨_, rfl, H2.out.fin HO.out, ⟨H2.out.kv HO.out HV.out⟩⟩
  · rw [decide_eq_false hin] at KH
    rw [if_neg hin]
    clear hin
    go_enter Try.func42, Try.ntmps42
    go_wp2_with fail
    refine KH.out.mono ?_
    rintro e w1 ⟨rfl, rfl⟩
    go_wp2
    exact bodyPost_ret (v := .agg (l8C c (.slice F n d))) (by simp [results, Try.results42, go_sem]) rfl ⟨_, rfl, low_two w _ _, ⟨H.out.below (low_two w _ _)⟩⟩
end
section
variable {w : World} {u : Value} {s : L8}
set_option maxHeartbeats 100000000 in
theorem r8drop_walk (hs : St8 w s u) (ok : s.Ok) (k : Nat) : Calls Try.prog 44 #[.agg (l8C s.c u), .int .u64 (k : Nat)] w (P8 w (s.drop k)) := by
  have h := hs.g1
  have hl := ok.hl
  clear hs ok
  obtain ⟨F, n, d, rfl⟩ := h.form
  have h0 := B8.start w s.c F n d
  have HB := Lib.hid h0
  have KF := Lib.hid (rwithout_walk (h.below h0.low) hl k)
  obtain ⟨c, l⟩ := s
  simp only at *
  unfold L8.drop
  simp only
  clear h0 h
  go_enter Try.func44, Try.ntmps44
  go_wp2_with fail
  refine KF.out.mono ?_
  rintro e w2 ⟨v2, rfl, h2⟩
  obtain ⟨F2, n2, d2, rfl⟩ := h2.kv.form
  have H2 := Lib.hid (HB.out.step h2.low)
  have HV := Lib.hid h2.kv
  obtain ⟨⟨x0, x1⟩, x2, x3⟩ := c2_at H2.out.box
  obtain ⟨⟨y0, y1⟩, y2, y3⟩ := c2_at H2.out.res
  clear h2 KF HB
  go_wp2
  have HO : Hid (Only [w.heap.size, w.heap.size + 1] w2 (((w2.setCell ⟨w.heap.size, 1, none⟩ (.slice F2 n2 d2)).setCell ⟨w.heap.size + 1, 0, none⟩ (.int .i64 (c : Nat))).setCell ⟨w.heap.size + 1, 1, none⟩ (.slice F2 n2 d2))) := Lib.hid ((((Only.refl _ _).setCell (by simp) _).setCell (by simp) _).setCell (by simp) _)
  exact bodyPost_ret (v := .agg (l8C c (.slice F2 n2 d2))) (by simp [results, Try.results44, go_sem, y0, y1]) rfl ⟨_, rfl, H2.out.fin HO.out, ⟨H2.out.kv HO.out HV.out⟩⟩
structure Sh8 (w wr : World) (b r c : Nat) (l : List Nat) (F : Option Addr) (m d : Nat) (o : Value) : Prop where
  bo : Bo w wr T8 b r (l8C c (.slice F m d)) z8
  ko : KO w.heap.size w wr o (l.drop m).reverse
set_option maxHeartbeats 2000000 in
theorem r8shrink_walk (hs : St8 w s u) (hl : s.l.length ≤ 100000000) (N : Nat) : Calls Try.prog 64 #[.agg (l8C s.c u), .int .i64 (N : Nat)] w (P8o w ⟨s.c, s.l.take N⟩ (s.l.drop N).reverse) := by
  have h := hs.g1
  clear hs
  obtain ⟨F, d, rfl, _⟩ := h.mem
  have h0 := B8.start w s.c F s.l.length d
  have HI0 : Hid (Sh8 w ((w.alloc (.cells (l8C s.c (.slice F s.l.length d)) T8)).alloc (.cells z8 T8)) w.heap.size (w.heap.size + 1) s.c s.l F s.l.length d (.slice none 0 0)) := Lib.hid ⟨h0, by rw [List.drop_length]; exact KO.nil h0.low⟩
  have HT : Hid (∀ W, Below w.heap.size w W → ∀ m, m ≤ s.l.length → KV W (.slice F m d) (s.l.take m)) := Lib.hid (fun W hb m hm => by
    obtain ⟨F', d', e, hk⟩ := (h.below hb).take m hm
    injection e with e1 e2 e3
    subst e1 e3
    exact hk)
  obtain ⟨c, l⟩ := s
  simp only at *
  clear h0 h
  obtain ⟨n, hn⟩ : ∃ n, l.length = n := ⟨_, rfl⟩
  have HN := Lib.hid hn
  rw [hn] at hl HI0 HT ⊢
  clear hn
  go_enter Try.func64, Try.ntmps64
  go_wp2_with fail
  generalize ((w.alloc (.cells (l8C c (.slice F n d)) T8)).alloc (.cells z8 T8)) = W0 at HI0 ⊢
  go_loopg [6] n (fun gg s6 wr => ∃ (m : Nat) (v6 : Value), gg = m ∧ v6 = s6 ∧ Hid ((m ≤ n ∧ N ≤ m ∨ m = n)) ∧ Hid (Sh8 w wr w.heap.size (w.heap.size + 1) c l F m d v6))
  case atStart => exact ⟨n, _, rfl, rfl, Lib.hid (.inr rfl), HI0⟩
  case round =>
    obtain ⟨m, v6, hi, rfl, HM, HI⟩ := hrel
    have hmle : m ≤ n := by
      rcases HM.out with h | h
      · exact h.1
      · omega
    have hszw := HI.out.bo.low.size
    obtain ⟨⟨x0, x1⟩, x2, x3⟩ := c2_at HI.out.bo.box
    have hbb := (head_row HI.out.bo.box).lt
    by_cases hgt : N < m
    · obtain ⟨k, rfl⟩ : ∃ k, m = k + 1 := ⟨m - 1, by omega⟩
      have hgtI : (N : Int) < (k : Int) + 1 := by omega
      have hk : k < l.length := by rw [HN.out]; omega
      have KB := rback_walk (HT.out wr HI.out.bo.low (k + 1) hmle) (by rw [List.length_take, HN.out]; omega) (by rw [List.length_take, HN.out]; omega)
      have HX : (l.take (k + 1)).getLastD 0 = l[k] := by
        rw [List.take_succ_eq_append_getElem hk, List.getLastD_concat]
      rw [HX] at KB
      have HD := Lib.hid (drop_rev hk)
      have HMN : Hid (k ≤ n ∧ N ≤ k ∨ k = n) := Lib.hid (.inl ⟨by omega, by omega⟩)
      have hlen : ((l.drop (k + 1)).reverse).length ≤ 100000000 := by simp; have := HN.out; omega
      obtain ⟨ys, hys⟩ : ∃ ys, (l.drop (k + 1)).reverse = ys := ⟨_, rfl⟩
      obtain ⟨x, hx⟩ : ∃ x, l[k] = x := ⟨_, rfl⟩
      have HKO := Lib.hid HI.out.ko
      rw [hys] at HKO HD hlen
      rw [hx] at KB HD
      have HKB := Lib.hid KB
      clear KB HX hys hx hgt HM
      have HOW := Lib.hid (HKO.out.alloc hszw (.cells #[.int .u64 (x : Nat)] 31))
      have HBO := Lib.hid (HI.out.bo.step (low_one wr (.cells #[.int .u64 (x : Nat)] 31)))
      have HSRC := Lib.hid (KV.one wr x)
      have hszA : w.heap.size ≤ (wr.alloc (.cells #[.int .u64 (x : Nat)] 31)).heap.size := by simp; omega
      go_wp2_with fail
      refine HKB.out.mono ?_
      rintro e w5 ⟨rfl, rfl⟩
      go_wp2_with (at_builtin; refine wpList_append_kv rfl (.tmp 12) (.tmp 16) rfl w.heap.size (by kernel_rfl) (by kernel_rfl) v6 ys rfl HOW.out _ [x] rfl HSRC.out (by simp; omega) hszA ?_)
      intro v7 w7 hown7 _ hkt
      rw [← HD.out] at hown7
      have HB7 := Lib.hid (HBO.out.kt hkt hown7.low)
      have HN7 := Lib.hid hown7
      clear hown7 hkt x0 x1 x2 x3
      obtain ⟨⟨x0, x1⟩, x2, x3⟩ := c2_at HB7.out.box
      have hbb7 := (head_row HB7.out.box).lt
      go_wp2
      have HSH : Hid (Sh8 w (w7.setCell ⟨w.heap.size, 1, none⟩ (.slice F k d)) w.heap.size (w.heap.size + 1) c l F k d v7) := Lib.hid (by
        obtain ⟨h1, h2⟩ := HB7.out.set 1 (.slice F k d) rfl
        exact ⟨h1, HB7.out.ko h2 HN7.out⟩)
      go_roundg (gk - 1)
      case measure => omega
      case rel => exact ⟨k, v7, by omega, rfl, HMN, HSH⟩
    · have hgtI : (m : Int) ≤ (N : Int) := by omega
      have HT2 : Hid (l.take N = l.take m ∧ (l.drop N).reverse = (l.drop m).reverse) := Lib.hid (by
        rcases HM.out with h | h
        · have : N = m := by omega
          rw [this]
          exact ⟨rfl, rfl⟩
        · have := HN.out
          rw [List.take_of_length_le (by omega), List.take_of_length_le (by omega), List.drop_of_length_le (by omega), List.drop_of_length_le (by omega)]
          exact ⟨rfl, rfl⟩)
      obtain ⟨⟨y0, y1⟩, y2, y3⟩ := c2_at HI.out.bo.res
      have hrr := (head_row HI.out.bo.res).lt
      go_wp2
      have HO : Hid (Only [w.heap.size, w.heap.size + 1] wr ((wr.setCell ⟨w.heap.size + 1, 0, none⟩ (.int .i64 (c : Nat))).setCell ⟨w.heap.size + 1, 1, none⟩ (.slice F m d))) := Lib.hid (((Only.refl _ _).setCell (by simp) _).setCell (by simp) _)
      refine bodyPost_ret (v := .tuple #[.agg (l8C c (.slice F m d)), v6]) (by simp [results, Try.results64, go_sem, y0, y1]) rfl ⟨_, _, rfl, HI.out.bo.fin HO.out, ⟨?_⟩, ?_⟩
      · show KV _ _ (l.take N)
        rw [HT2.out.1]
        exact HI.out.bo.kv HO.out (HT.out wr HI.out.bo.low m hmle)
      · rw [HT2.out.2]
        exact HI.out.bo.kv HO.out HI.out.ko.kv
end
section
variable {w : World} {u : Value} {s : L8}
set_option maxHeartbeats 2000000 in
theorem r8admit_walk (hs : St8 w s u) (ok : s.Ok) (k : Nat) (_ : k < 18446744073709551616) : Calls Try.prog 43 #[.agg (l8C s.c u), .int .u64 (k : Nat)] w (P8o w (s.adm k) (s.admitOut k)) := by
  have hc1 := ok.pos
  have hl := ok.hl

  have hc2 := ok.cap
  have h := hs.g1
  clear hs
  obtain ⟨F, n, d, rfl⟩ := h.form
  have h0 := B8.start w s.c F n d
  have HB := Lib.hid h0
  have KH := Lib.hid (rhas_walk (h.below h0.low) hl k)
  have KF := Lib.hid (r8shrink_walk (s := s) ⟨h.below h0.low⟩ hl (s.c - 1))
  have H := Lib.hid h
  obtain ⟨c, l⟩ := s
  simp only at *
  unfold L8.adm L8.admitOut
  simp only
  obtain ⟨c', hc'⟩ : ∃ c', c - 1 = c' := ⟨_, rfl⟩
  have hcI : (c : Int) - 1 = (c' : Int) := by omega
  rw [hc'] at KF ⊢
  have HTL := Lib.hid (show (l.take c').length ≤ 100000000 by rw [List.length_take]; omega)
  clear h0 h ok hc'
  by_cases hin : k ∈ l
  · rw [decide_eq_true hin] at KH
    rw [if_pos hin, if_pos hin]
    clear hin
    go_enter Try.func43, Try.ntmps43
    go_wp2_with fail
    refine KH.out.mono ?_
    rintro e w1 ⟨rfl, rfl⟩
    go_wp2
    exact bodyPost_ret (v := .tuple #[.agg (l8C c (.slice F n d)), .slice none 0 0]) (by simp [results, Try.results43, go_sem]) rfl ⟨_, _, rfl, low_two w _ _, ⟨H.out.below (low_two w _ _)⟩, KV.nil _⟩
  · rw [decide_eq_false hin] at KH
    rw [if_neg hin, if_neg hin]
    clear hin
    go_enter Try.func43, Try.ntmps43
    go_wp2_with fail
    refine KH.out.mono ?_
    rintro e w1 ⟨rfl, rfl⟩
    go_wp2_with fail
    refine KF.out.mono ?_
    rintro e w2 ⟨u2, o2, he, hb2, ⟨hk2⟩, ho2⟩
    obtain ⟨F2, n2, d2, rfl⟩ := hk2.form
    have he' : e = .returned (.tuple #[.agg (l8C c (.slice F2 n2 d2)), o2]) := he
    subst he'
    clear he
    have hbo := (HB.out.step hb2).alloc (l8C c (.slice F2 n2 d2)) rfl
    have HB3 := Lib.hid hbo
    have hne : w.heap.size + 2 ≤ w2.heap.size := by have := hb2.size; simp at this; omega
    have hlo := low_one w2 (.cells (l8C c (.slice F2 n2 d2)) T8)
    have KR := Lib.hid (rfront_walk (hk2.below hlo) HTL.out k)
    have HO3 := Lib.hid (ho2.below hlo)
    clear hb2 hk2 ho2 hbo hlo KH KF HB
    go_wp2_with fail
    refine KR.out.mono ?_
    rintro e w4 ⟨v4, rfl, h4⟩
    obtain ⟨F4, n4, d4, rfl⟩ := h4.kv.form
    have H4 := Lib.hid (HB3.out.step h4.low)
    have HV := Lib.hid h4.kv
    have HO4 := Lib.hid (HO3.out.below h4.low)
    obtain ⟨⟨x0, x1⟩, x2, x3⟩ := c2_at H4.out.box
    obtain ⟨⟨y0, y1⟩, y2, y3⟩ := c2_at H4.out.res
    clear h4 KR HB3 HO3
    go_wp2
    have HO : Hid (Only [w2.heap.size, w.heap.size + 1] w4 (((w4.setCell ⟨w2.heap.size, 1, none⟩ (.slice F4 n4 d4)).setCell ⟨w.heap.size + 1, 0, none⟩ (.int .i64 (c : Nat))).setCell ⟨w.heap.size + 1, 1, none⟩ (.slice F4 n4 d4))) := Lib.hid ((((Only.refl _ _).setCell (by simp) _).setCell (by simp) _).setCell (by simp) _)
    exact bodyPost_ret (v := .tuple #[.agg (l8C c (.slice F4 n4 d4)), o2]) (by simp [results, Try.results43, go_sem, y0, y1]) rfl ⟨_, _, rfl, H4.out.fin HO.out, ⟨H4.out.kv HO.out HV.out⟩, H4.out.kv HO.out HO4.out⟩
set_option maxHeartbeats 2000000 in
theorem r8resize_walk (hs : St8 w s u) (ok : s.Ok) (n : Int) (hn1 : -9223372036854775808 ≤ n) (hn2 : n ≤ 9223372036854775807) : Calls Try.prog 45 #[.agg (l8C s.c u), .int .i64 n] w (P8o w (s.resize n) (s.resizeOut n)) := by
  have h := hs.g1
  have hl := ok.hl
  clear hs ok
  obtain ⟨F, m, d, rfl⟩ := h.form
  have h0 := B8.start w (capI n) F m d
  have HB := Lib.hid h0
  have KC := Lib.hid (rcap_walk (w := (w.alloc (.cells (l8C s.c (.slice F m d)) T8)).alloc (.cells z8 T8)) n hn1 hn2)
  have KF := Lib.hid (r8shrink_walk (s := ⟨capI n, s.l⟩) ⟨h.below h0.low⟩ hl (capI n))
  unfold L8.resize L8.resizeOut
  obtain ⟨c', hc'⟩ : ∃ c', capI n = c' := ⟨_, rfl⟩
  obtain ⟨c, l⟩ := s
  simp only at *
  rw [hc'] at HB KC KF ⊢
  clear h0 h hc'
  go_enter Try.func45, Try.ntmps45
  go_wp2_with fail
  refine KC.out.mono ?_
  rintro e w1 ⟨rfl, rfl⟩
  go_wp2_with fail
  refine KF.out.mono ?_
  rintro e w2 ⟨u2, o2, he, hb2, ⟨hk2⟩, ho2⟩
  obtain ⟨F2, n2, d2, rfl⟩ := hk2.form
  have he' : e = .returned (.tuple #[.agg (l8C c' (.slice F2 n2 d2)), o2]) := he
  subst he'
  clear he
  have H4 := Lib.hid (HB.out.step hb2)
  have HV := Lib.hid hk2
  have HO4 := Lib.hid ho2
  obtain ⟨⟨y0, y1⟩, y2, y3⟩ := c2_at H4.out.res
  clear hb2 hk2 ho2 KC KF HB
  go_wp2
  have HO : Hid (Only [w.heap.size, w.heap.size + 1] w2 ((w2.setCell ⟨w.heap.size + 1, 0, none⟩ (.int .i64 (c' : Nat))).setCell ⟨w.heap.size + 1, 1, none⟩ (.slice F2 n2 d2))) := Lib.hid (((Only.refl _ _).setCell (by simp) _).setCell (by simp) _)
  exact bodyPost_ret (v := .tuple #[.agg (l8C c' (.slice F2 n2 d2)), o2]) (by simp [results, Try.results45, go_sem, y0, y1]) rfl ⟨_, _, rfl, H4.out.fin HO.out, ⟨H4.out.kv HO.out HV.out⟩, H4.out.kv HO.out HO4.out⟩
theorem r8keys_walk (hs : St8 w s u) (_ : s.Ok) : Calls Try.prog 16 #[.agg (l8C s.c u)] w (RetK w s.keys) := by
  have h := hs.g1
  clear hs
  obtain ⟨F, m, d, rfl⟩ := h.form
  have H := Lib.hid h
  have HB := Lib.hid (low_one w (.cells (l8C s.c (.slice F m d)) T8))
  obtain ⟨c, l⟩ := s
  simp only at *
  clear h
  go_enter Try.func16, Try.ntmps16
  go_wp2
  go_ret
  exact ⟨_, rfl, HB.out, H.out.below HB.out⟩
theorem r8ghosts_walk (hs : St8 w s u) (_ : s.Ok) : Calls Try.prog 21 #[.agg (l8C s.c u)] w fun e w' => e = .returned (.int .i64 (s.ghosts : Nat)) ∧ Below w.heap.size w w' := by
  have h := hs.g1
  clear hs
  obtain ⟨F, m, d, rfl⟩ := h.form
  have HB := Lib.hid (low_one w (.cells (l8C s.c (.slice F m d)) T8))
  obtain ⟨c, l⟩ := s
  simp only at *
  clear h
  go_enter Try.func21, Try.ntmps21
  go_wp2
  go_ret
  exact ⟨rfl, by first | exact HB.out | exact Below.refl _ _⟩
end
section
variable {w : World} {u1 : Value} {s : L8}
abbrev Ld8 (w' : World) (b a : Nat) (c : Nat) (F1 : Option Addr) (n1 d1 : Nat) (x : Act8) : Prop := w'.cell? ⟨b, 0, none⟩ = some (.int .i64 (c : Nat)) ∧ w'.cell? ⟨b, 1, none⟩ = some (.slice F1 n1 d1) ∧ w'.cell? ⟨a, 0, none⟩ = some (.int .u8 (x.kind : Nat)) ∧ w'.cell? ⟨a, 1, none⟩ = some (.int .u64 (x.key : Nat)) ∧ w'.cell? ⟨a, 2, none⟩ = some (.int .u16 (x.n : Nat))
theorem ld8 {T : TypeId} {zs : Array Value} {w w1 : World} {b r a : Nat} {c : Nat} {F1 : Option Addr} {n1 d1 : Nat} {x : Act8} (h : Bo w w1 T b r (l8C c (.slice F1 n1 d1)) zs) (ha : w1.heap[a]? = some (.cells (act8C x) 34 (0, 0))) : Ld8 w1 b a c F1 n1 d1 x := by
  obtain ⟨⟨x0, x1⟩, xf0, xf1⟩ := c2_at h.box
  obtain ⟨⟨a0, a1, a2⟩, _⟩ := c3_at ha
  exact ⟨x0, x1, a0, a1, a2⟩
set_option maxHeartbeats 8000000 in
set_option maxRecDepth 4000 in
theorem r8do_walk (h : St8 w s u1) (ok : s.Ok) (x : Act8) (wf : x.Ok) : Calls Try.prog 12 #[.agg (l8C s.c u1), .agg (act8C x)] w (P8o w (s.act x) (s.actOut x)) := by
  obtain ⟨F1, n1, d1, rfl⟩ := h.form1
  obtain ⟨h0, ha⟩ := Bo.start3 w T8 34 (l8C s.c (.slice F1 n1 d1)) (act8C x) z8 rfl rfl (by decide)
  have HB := Lib.hid h0
  have HA := Lib.hid ha
  have hc := L8.act_cases s x
  obtain ⟨q, hq⟩ : ∃ q, kindA x (decide (x.key ∈ s.keys)) = q := ⟨_, rfl⟩
  have KH : Hid (∀ W, Below w.heap.size w W → Calls Try.prog 19 #[.slice F1 n1 d1, .int .u64 (x.key : Nat)] W fun e w' => e = .returned (.bool (decide (x.key ∈ s.keys))) ∧ W = w') := Lib.hid (fun W hb => rhas_walk (h.g1.below hb) ok.keysLen x.key)
  have KK : Hid (∀ W, Calls Try.prog 23 #[.agg (act8C x), .bool (decide (x.key ∈ s.keys))] W fun e w' => e = .returned (.int .i64 (q : Nat)) ∧ Below W.heap.size W w') := Lib.hid (fun W => by rw [← hq]; exact rkind_walk x wf _)
  have KS : Hid (∀ W, Calls Try.prog 29 #[.agg (act8C x)] W fun e w' => e = .returned (.int .i64 (sizeA x : Nat)) ∧ Below W.heap.size W w') := Lib.hid (fun W => rsize_walk x wf)
  have KT : Hid (∀ W, Below w.heap.size w W → Calls Try.prog 42 #[.agg (l8C s.c (.slice F1 n1 d1)), .int .u64 (x.key : Nat)] W (P8 W (s.touch x.key))) := Lib.hid (fun W hb => r8touch_walk (h.below hb) ok x.key)
  have KA : Hid (∀ W, Below w.heap.size w W → Calls Try.prog 43 #[.agg (l8C s.c (.slice F1 n1 d1)), .int .u64 (x.key : Nat)] W (P8o W (s.adm x.key) (s.admitOut x.key))) := Lib.hid (fun W hb => r8admit_walk (h.below hb) ok x.key wf.key)
  have KD : Hid (∀ W, Below w.heap.size w W → Calls Try.prog 44 #[.agg (l8C s.c (.slice F1 n1 d1)), .int .u64 (x.key : Nat)] W (P8 W (s.drop x.key))) := Lib.hid (fun W hb => r8drop_walk (h.below hb) ok x.key)
  have hz := sizeA_is x
  have KR : Hid (∀ W, Below w.heap.size w W → Calls Try.prog 45 #[.agg (l8C s.c (.slice F1 n1 d1)), .int .i64 (sizeA x : Nat)] W (P8o W (s.resize (sizeA x : Nat)) (s.resizeOut (sizeA x : Nat)))) := Lib.hid (fun W hb => r8resize_walk (h.below hb) ok _ (by omega) (by omega))
  rw [hq] at hc
  generalize decide (x.key ∈ s.keys) = bb at KH KK hq
  generalize sizeA x = z at KS KR hz hc
  clear hq h0 ha h ok wf hz
  obtain ⟨x0, x1, a0, a1, a2⟩ := ld8 HB.out HA.out
  generalize hW0 : (((w.alloc (.cells (l8C s.c (.slice F1 n1 d1)) T8)).alloc (.cells (act8C x) 34)).alloc (.cells z8 T8)) = W0 at HB HA x0 x1 a0 a1 a2
  have HW0 := Lib.hid hW0
  clear hW0
  have hne0 : w.heap.size + 1 + 1 ≠ w.heap.size := by omega
  have hne1 : w.heap.size ≠ w.heap.size + 1 + 1 := by omega
  rcases hc with ⟨rfl, e1, e2⟩ | ⟨rfl, e1, e2⟩ | ⟨rfl, e1, e2⟩ | ⟨rfl, e1, e2⟩
  · rw [e1, e2]
    clear e1 e2
    go_enter Try.func12, Try.ntmps12
    go_wp2_with fail
    rw [HW0.out]
    clear HW0
    go_region_held3 (fun w' => w'.cell? ⟨w.heap.size, 0, none⟩ = some (.int .i64 ((s).c : Nat)) ∧ w'.cell? ⟨w.heap.size, 1, none⟩ = some (.slice F1 n1 d1) ∧ w'.cell? ⟨w.heap.size + 1, 0, none⟩ = some (.int .u8 (x.kind : Nat)) ∧ w'.cell? ⟨w.heap.size + 1, 1, none⟩ = some (.int .u64 (x.key : Nat)) ∧ w'.cell? ⟨w.heap.size + 1, 2, none⟩ = some (.int .u16 (x.n : Nat))) (first | with_reducible exact kk5 | go_keep)
      (first
        | (go_at_call 19; refine (KH.out _ (below_drewn HB.out.low _)).mono ?_; rintro e w5 ⟨rfl, rfl⟩)
        | (go_at_call 23; refine (KK.out _).mono ?_; rintro e w6 ⟨rfl, hb6⟩; have hB6 := HB.out.step ((below_drewn (Below.refl _ _) _).trans hb6); have hA6 := (hb6.block (w.heap.size + 1) (head_row HA.out).lt).trans HA.out; have kk5 := ld8 hB6 hA6))
    have HB6 := Lib.hid hB6
    have HA6 := Lib.hid hA6
    obtain ⟨x0, x1, a0, a1, a2⟩ := kk5
    clear hB6 hA6 hb6 KH KK HB HA
    go_wp2_with fail
    refine (KT.out w6 HB6.out.low).mono ?_
    rintro e w7 ⟨q1, he, hb7, hk7⟩
    obtain ⟨Fa1, na1, da1, rfl⟩ := hk7.form1
    have HB7 := Lib.hid (HB6.out.step hb7)
    have HV := Lib.hid hk7
    subst he
    obtain ⟨⟨y0, y1⟩, yf0, yf1⟩ := c2_at HB7.out.res
    have hrr := (head_row HB7.out.res).lt
    clear hb7 hk7 HB6 HA6 KT KA KD KR KS
    go_wp2
    have HO : Hid (Only [w.heap.size, w.heap.size + 1 + 1] w7 ((w7.setCell ⟨w.heap.size + 1 + 1, 0, none⟩ (.int .i64 ((s.touch x.key).c : Nat))).setCell ⟨w.heap.size + 1 + 1, 1, none⟩ (.slice Fa1 na1 da1))) := Lib.hid (((Only.refl _ _).setCell (by simp) _).setCell (by simp) _)
    exact bodyPost_ret (v := .tuple #[.agg (l8C (s.touch x.key).c (.slice Fa1 na1 da1)), .slice none 0 0]) (by simp [results, Try.results12, go_sem, y0, y1]) rfl ⟨_, _, rfl, HB7.out.fin HO.out, HB7.out.st8 HO.out HV.out, KV.nil _⟩
  · rw [e1, e2]
    clear e1 e2
    go_enter Try.func12, Try.ntmps12
    go_wp2_with fail
    rw [HW0.out]
    clear HW0
    go_region_held3 (fun w' => w'.cell? ⟨w.heap.size, 0, none⟩ = some (.int .i64 ((s).c : Nat)) ∧ w'.cell? ⟨w.heap.size, 1, none⟩ = some (.slice F1 n1 d1) ∧ w'.cell? ⟨w.heap.size + 1, 0, none⟩ = some (.int .u8 (x.kind : Nat)) ∧ w'.cell? ⟨w.heap.size + 1, 1, none⟩ = some (.int .u64 (x.key : Nat)) ∧ w'.cell? ⟨w.heap.size + 1, 2, none⟩ = some (.int .u16 (x.n : Nat))) (first | with_reducible exact kk5 | go_keep)
      (first
        | (go_at_call 19; refine (KH.out _ (below_drewn HB.out.low _)).mono ?_; rintro e w5 ⟨rfl, rfl⟩)
        | (go_at_call 23; refine (KK.out _).mono ?_; rintro e w6 ⟨rfl, hb6⟩; have hB6 := HB.out.step ((below_drewn (Below.refl _ _) _).trans hb6); have hA6 := (hb6.block (w.heap.size + 1) (head_row HA.out).lt).trans HA.out; have kk5 := ld8 hB6 hA6))
    have HB6 := Lib.hid hB6
    have HA6 := Lib.hid hA6
    obtain ⟨x0, x1, a0, a1, a2⟩ := kk5
    clear hB6 hA6 hb6 KH KK HB HA
    go_wp2_with fail
    refine (KA.out w6 HB6.out.low).mono ?_
    rintro e w7 ⟨q1, o7, he, hb7, hk7, ho7⟩
    obtain ⟨Fa1, na1, da1, rfl⟩ := hk7.form1
    have HB7 := Lib.hid (HB6.out.step hb7)
    have HV := Lib.hid hk7
    have HVO := Lib.hid ho7
    subst he
    obtain ⟨⟨y0, y1⟩, yf0, yf1⟩ := c2_at HB7.out.res
    have hrr := (head_row HB7.out.res).lt
    clear hb7 hk7 ho7 HB6 HA6 KT KA KD KR KS
    go_wp2
    have HO : Hid (Only [w.heap.size, w.heap.size + 1 + 1] w7 ((w7.setCell ⟨w.heap.size + 1 + 1, 0, none⟩ (.int .i64 ((s.adm x.key).c : Nat))).setCell ⟨w.heap.size + 1 + 1, 1, none⟩ (.slice Fa1 na1 da1))) := Lib.hid (((Only.refl _ _).setCell (by simp) _).setCell (by simp) _)
    exact bodyPost_ret (v := .tuple #[.agg (l8C (s.adm x.key).c (.slice Fa1 na1 da1)), o7]) (by simp [results, Try.results12, go_sem, y0, y1]) rfl ⟨_, _, rfl, HB7.out.fin HO.out, HB7.out.st8 HO.out HV.out, HB7.out.kv HO.out HVO.out⟩
  · rw [e1, e2]
    clear e1 e2
    go_enter Try.func12, Try.ntmps12
    go_wp2_with fail
    rw [HW0.out]
    clear HW0
    go_region_held3 (fun w' => w'.cell? ⟨w.heap.size, 0, none⟩ = some (.int .i64 ((s).c : Nat)) ∧ w'.cell? ⟨w.heap.size, 1, none⟩ = some (.slice F1 n1 d1) ∧ w'.cell? ⟨w.heap.size + 1, 0, none⟩ = some (.int .u8 (x.kind : Nat)) ∧ w'.cell? ⟨w.heap.size + 1, 1, none⟩ = some (.int .u64 (x.key : Nat)) ∧ w'.cell? ⟨w.heap.size + 1, 2, none⟩ = some (.int .u16 (x.n : Nat))) (first | with_reducible exact kk5 | go_keep)
      (first
        | (go_at_call 19; refine (KH.out _ (below_drewn HB.out.low _)).mono ?_; rintro e w5 ⟨rfl, rfl⟩)
        | (go_at_call 23; refine (KK.out _).mono ?_; rintro e w6 ⟨rfl, hb6⟩; have hB6 := HB.out.step ((below_drewn (Below.refl _ _) _).trans hb6); have hA6 := (hb6.block (w.heap.size + 1) (head_row HA.out).lt).trans HA.out; have kk5 := ld8 hB6 hA6))
    have HB6 := Lib.hid hB6
    have HA6 := Lib.hid hA6
    obtain ⟨x0, x1, a0, a1, a2⟩ := kk5
    clear hB6 hA6 hb6 KH KK HB HA
    go_wp2_with fail
    refine (KD.out w6 HB6.out.low).mono ?_
    rintro e w7 ⟨q1, he, hb7, hk7⟩
    obtain ⟨Fa1, na1, da1, rfl⟩ := hk7.form1
    have HB7 := Lib.hid (HB6.out.step hb7)
    have HV := Lib.hid hk7
    subst he
    obtain ⟨⟨y0, y1⟩, yf0, yf1⟩ := c2_at HB7.out.res
    have hrr := (head_row HB7.out.res).lt
    clear hb7 hk7 HB6 HA6 KT KA KD KR KS
    go_wp2
    have HO : Hid (Only [w.heap.size, w.heap.size + 1 + 1] w7 ((w7.setCell ⟨w.heap.size + 1 + 1, 0, none⟩ (.int .i64 ((s.drop x.key).c : Nat))).setCell ⟨w.heap.size + 1 + 1, 1, none⟩ (.slice Fa1 na1 da1))) := Lib.hid (((Only.refl _ _).setCell (by simp) _).setCell (by simp) _)
    exact bodyPost_ret (v := .tuple #[.agg (l8C (s.drop x.key).c (.slice Fa1 na1 da1)), .slice none 0 0]) (by simp [results, Try.results12, go_sem, y0, y1]) rfl ⟨_, _, rfl, HB7.out.fin HO.out, HB7.out.st8 HO.out HV.out, KV.nil _⟩
  · rw [e1, e2]
    clear e1 e2
    go_enter Try.func12, Try.ntmps12
    go_wp2_with fail
    rw [HW0.out]
    clear HW0
    go_region_held3 (fun w' => w'.cell? ⟨w.heap.size, 0, none⟩ = some (.int .i64 ((s).c : Nat)) ∧ w'.cell? ⟨w.heap.size, 1, none⟩ = some (.slice F1 n1 d1) ∧ w'.cell? ⟨w.heap.size + 1, 0, none⟩ = some (.int .u8 (x.kind : Nat)) ∧ w'.cell? ⟨w.heap.size + 1, 1, none⟩ = some (.int .u64 (x.key : Nat)) ∧ w'.cell? ⟨w.heap.size + 1, 2, none⟩ = some (.int .u16 (x.n : Nat))) (first | with_reducible exact kk5 | go_keep)
      (first
        | (go_at_call 19; refine (KH.out _ (below_drewn HB.out.low _)).mono ?_; rintro e w5 ⟨rfl, rfl⟩)
        | (go_at_call 23; refine (KK.out _).mono ?_; rintro e w6 ⟨rfl, hb6⟩; have hB6 := HB.out.step ((below_drewn (Below.refl _ _) _).trans hb6); have hA6 := (hb6.block (w.heap.size + 1) (head_row HA.out).lt).trans HA.out; have kk5 := ld8 hB6 hA6))
    have HB6 := Lib.hid hB6
    have HA6 := Lib.hid hA6
    obtain ⟨x0, x1, a0, a1, a2⟩ := kk5
    clear hB6 hA6 hb6 KH KK HB HA
    go_wp2_with fail
    clear KT KA KD
    go_region_held3 (fun w' => w'.cell? ⟨w.heap.size, 0, none⟩ = some (.int .i64 ((s).c : Nat)) ∧ w'.cell? ⟨w.heap.size, 1, none⟩ = some (.slice F1 n1 d1) ∧ w'.cell? ⟨w.heap.size + 1, 0, none⟩ = some (.int .u8 (x.kind : Nat)) ∧ w'.cell? ⟨w.heap.size + 1, 1, none⟩ = some (.int .u64 (x.key : Nat)) ∧ w'.cell? ⟨w.heap.size + 1, 2, none⟩ = some (.int .u16 (x.n : Nat))) (first | with_reducible exact kk7 | with_reducible exact kk8 | go_keep)
      (first
        | (go_at_call 29; refine (KS.out _).mono ?_; rintro e w6b ⟨rfl, hb6⟩; have hB6 := HB6.out.step ((below_drewn (Below.refl _ _) _).trans hb6); have hA6 := (hb6.block (w.heap.size + 1) (head_row HA6.out).lt).trans HA6.out; have kk7 := ld8 hB6 hA6)
        | (go_at_call 45; refine (KR.out _ hB6.low).mono ?_; rintro e w7 ⟨q1, o7, he, hb7, hk7, ho7⟩; obtain ⟨Fa1, na1, da1, rfl⟩ := hk7.form1; have hB7 := hB6.step hb7; subst he; have hA7 := (hb7.block (w.heap.size + 1) (head_row hA6).lt).trans hA6; have kk8 := ld8 hB7 hA7; obtain ⟨⟨y0, y1⟩, yf0, yf1⟩ := c2_at hB7.res; have hrr := (head_row hB7.res).lt))
    have HB7 := Lib.hid hB7
    have HV := Lib.hid hk7
    have HVO := Lib.hid ho7
    have HO : Hid (Only [w.heap.size, w.heap.size + 1 + 1] w7 ((w7.setCell ⟨w.heap.size + 1 + 1, 0, none⟩ (.int .i64 ((s.resize z).c : Nat))).setCell ⟨w.heap.size + 1 + 1, 1, none⟩ (.slice Fa1 na1 da1))) := Lib.hid (((Only.refl _ _).setCell (by simp) _).setCell (by simp) _)
    go_wp2
    exact bodyPost_ret (v := .tuple #[.agg (l8C (s.resize z).c (.slice Fa1 na1 da1)), o7]) (by simp [results, Try.results12, go_sem, y0, y1]) rfl ⟨_, _, rfl, HB7.out.fin HO.out, HB7.out.st8 HO.out HV.out, HB7.out.kv HO.out HVO.out⟩
end
section
variable {w : World} {u1 : Value} {s : L8}
end
end Go.Proofs.Ytebdggoncnhjeaa
