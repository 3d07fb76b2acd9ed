/- Words and walks: LiC LiC2 LiC3 LiC4 LiG LiA LiD LiW LiU. -/
import Derived.Test.YtkhikpnlpcankaaG1
import Derived.Test.YtkhikpnlpcankaaG16
import Derived.Test.YtkhikpnlpcankaaG20
import Derived.Deep.RegionLaw
import Derived.Deep.RegionHeld3
import Derived.Deep.RegionWith
import Derived.Deep.DeepCutAuto
namespace Go.Proofs.Ytkhikpnlpcankaa
open Go Go.RowKit Go.Deep
set_option maxRecDepth 8000
section
variable {w : World}
def MapHas (w : World) (b : Nat) (L : List Nat) : Prop := ∃ (n : Nat) (D : DataW Unit), w.ownsMap Try.prog 28 (plainElem Try.prog 4) b n D ∧ ∀ k : Nat, k < 18446744073709551616 → D.atKey (.int .u64 (k : Nat)) (.lit (.bool false)) = .lit (.bool (decide (k ∈ L)))
theorem MapHas.keep {w w' : World} {b : Nat} {L : List Nat} (h : MapHas w b L) (e : w'.heap[b]? = w.heap[b]?) : MapHas w' b L := by
  obtain ⟨n, D, ⟨es, clock, h1, h2⟩, h3⟩ := h
  exact ⟨n, D, ⟨es, clock, e.trans h1, h2⟩, h3⟩
theorem MapHas.lt {w : World} {b : Nat} {L : List Nat} (h : MapHas w b L) : b < w.heap.size := by
  obtain ⟨n, D, h1, _⟩ := h
  exact h1.lt
theorem SeenK.has {w0 w : World} {b : Nat} {L : List Nat} (h : SeenK w0 w b L) : MapHas w b L := by
  obtain ⟨D, h1, _, h3⟩ := h.own
  exact ⟨_, D, h1, h3⟩
end
set_option maxRecDepth 8000
theorem own_other {w w' : World} {S : List Nat} {B size n : Nat} {e : TypeId} {v : Value} {xs : List Value} (h : w.ownsRow B e size v n xs) (ho : Only S w w') (hS : ∀ g ∈ S, ∀ cs, w.heap[g]? ≠ some (.cells cs e (0, 0))) : w'.ownsRow B e size v n xs := by
  refine ⟨h.1, h.2.imp id ?_⟩
  rintro ⟨g, cap, cur, e1, e2, e3, e4⟩
  exact ⟨g, cap, cur, e1, e2, (ho.block g (Array.getElem?_eq_some_iff.1 e3).1 (fun hm => hS g hm cur e3)).trans e3, e4⟩
abbrev KT : TypeId := 26
structure CB (w : World) (B gc : Nat) (cs : List Nat) : Prop where
  ge : B ≤ gc
  row : ∃ v, w.heap[gc]? = some (.cells #[v] KT (0, 0)) ∧ w.ownsRow B 28 1 v cs.length (u64L cs)
def KeepB (gc : Nat) (w w' : World) : Prop := ∀ (g : Nat) (cs : Array Value) (t : TypeId), w.heap[g]? = some (.cells cs t (0, 0)) → t ≠ 28 → g ≠ gc → w'.heap[g]? = some (.cells cs t (0, 0))
section
variable {w : World}
abbrev capsB (n : Nat) : Array Value := #[.pointer (some ⟨n, 0, none⟩), .pointer (some ⟨n + 1 + 1 + 1, 0, none⟩), .pointer (some ⟨n + 1, 0, none⟩), .pointer (some ⟨n + 1 + 1, 0, none⟩)]
end
set_option maxRecDepth 8000
section
variable {w : World} {n kind seen most : Nat} {fv : Value}
end
set_option maxRecDepth 8000
def gW (k : Nat) (xs : List It) (i : Nat) : It × Bool := (xs.getD i ⟨0, 0⟩, !decide ((xs.getD i ⟨0, 0⟩).key = k))
def gG (ks : List Nat) (xs : List It) (i : Nat) : It × Bool := (if (xs.getD i ⟨0, 0⟩).key ∈ ks then ⟨(xs.getD i ⟨0, 0⟩).key, 0⟩ else xs.getD i ⟨0, 0⟩, true)
def gF (c : Nat) (xs : List It) (i : Nat) : It × Bool := (xs.getD i ⟨0, 0⟩, !(decide ((xs.getD i ⟨0, 0⟩).f = 0) && decide (c < nk 0 (xs.take (i + 1)))))
def gC (r : Nat) (xs : List It) (i : Nat) : It × Bool := (if (xs.getD i ⟨0, 0⟩).f = 2 ∧ r < nk 2 (xs.take (i + 1)) then ⟨(xs.getD i ⟨0, 0⟩).key, 1⟩ else xs.getD i ⟨0, 0⟩, true)
section
variable {xs : List It} {i k : Nat}
end
section
variable {w : World} {u : Value} {xs : List It}
theorem CB.stay {w W W' : World} {B gc : Nat} {cs : List Nat} (h : CB W B gc cs) (hg : gc < w.heap.size) (hb : Below w.heap.size W W') (hk : Kt PTI12 W W') : CB W' B gc cs := by
  obtain ⟨v, h1, h2⟩ := h.row
  refine ⟨h.ge, v, (hb.block _ hg).trans h1, h2.1, h2.2.imp id ?_⟩
  rintro ⟨g, cap, cur, e1, e2, e3, e4⟩
  exact ⟨g, cap, cur, e1, e2, hk _ _ _ _ e3 (by decide), e4⟩
theorem CB.below {W W' : World} {B gc : Nat} {cs : List Nat} (h : CB W B gc cs) (hb : Below W.heap.size W W') : CB W' B gc cs := by
  obtain ⟨v, h1, h2⟩ := h.row
  exact ⟨h.ge, v, (hb.block _ (Array.getElem?_eq_some_iff.1 h1).1).trans h1, own_below h2 hb⟩
theorem CB.only {W W' : World} {B gc n : Nat} {cs : List Nat} {c0 : Array Value} (h : CB W B gc cs) (ho : Only [n] W W') (hn : W.heap[n]? = some (.cells c0 3 (0, 0))) : CB W' B gc cs := by
  obtain ⟨v, h1, h2⟩ := h.row
  refine ⟨h.ge, v, (ho.block _ (Array.getElem?_eq_some_iff.1 h1).1 (fun hm => ?_)).trans h1, own_other h2 ho (fun g hg cs' he => ?_)⟩
  · rw [List.mem_singleton] at hm
    subst hm
    rw [hn] at h1
    injection h1 with h1
    injection h1 with _ h1
    exact absurd h1 (by decide)
  · rw [List.mem_singleton] at hg
    subst hg
    rw [hn] at he
    injection he with he
    injection he with _ he
    exact absurd he (by decide)
theorem CB.ne {W : World} {B gc g : Nat} {cs : List Nat} {c0 : Array Value} {t : TypeId} (h : CB W B gc cs) (hg : W.heap[g]? = some (.cells c0 t (0, 0))) (ht : t ≠ KT) : g ≠ gc := fun e => by
  obtain ⟨v, h1, _⟩ := h.row
  rw [e, h1] at hg
  injection hg with hg
  injection hg with _ hg
  exact ht hg.symm
end
set_option maxRecDepth 8000
def RevK12 (cur : Array Value) (ks : List Nat) (i : Nat) : Prop := ∀ p (hp : p < ks.length), cur[p]? = some (.int .u64 ((if p < i ∨ ks.length ≤ p + i then ks[ks.length - 1 - p]'(by omega) else ks[p] : Nat) : Int))
theorem RevK12.next {cur : Array Value} {ks : List Nat} {i j : Nat} (h : RevK12 cur ks i) (hij : i < j) (hn : i + j + 1 = ks.length) (hs : ks.length ≤ cur.size) :
    RevK12 ((cur.setIfInBounds i (.int .u64 ((ks[j]'(by omega) : Nat) : Int))).setIfInBounds j (.int .u64 ((ks[i]'(by omega) : Nat) : Int))) ks (i + 1) := fun p hp => by
  by_cases hpi : p = i
  · subst hpi
    rw [if_pos (by omega)]
    have e : ks.length - 1 - p = j := by omega
    simp only [e]
    rw [arr_set_other12 (by omega), arr_set_same12 (by omega)]
  · by_cases hpj : p = j
    · subst hpj
      rw [if_pos (by omega)]
      have e : ks.length - 1 - p = i := by omega
      simp only [e]
      rw [arr_set_same12 (by simp; omega)]
    · have h1 := h p hp
      rw [arr_set_other12 (by omega), arr_set_other12 (by omega)]
      by_cases hc : p < i ∨ ks.length ≤ p + i
      · rw [if_pos hc] at h1
        rw [if_pos (by omega)]
        exact h1
      · rw [if_neg hc] at h1
        rw [if_neg (by omega)]
        exact h1
def HoldK12 (cur : Array Value) (ks : List Nat) : Prop := ∀ i (h : i < ks.length), cur[i]? = some (.int .u64 (ks[i] : Nat))
def RkS12 (w wr : World) (g sz : Nat) (ks : List Nat) (i : Nat) : Prop := Only [g] w wr ∧ ∃ cur', wr.heap[g]? = some (.cells cur' 28 (0, 0)) ∧ cur'.size = sz ∧ RevK12 cur' ks i
theorem RkS12.next {w wr : World} {g sz i j : Nat} {ks : List Nat} (h : RkS12 w wr g sz ks i) (hij : i < j) (hn : i + j + 1 = ks.length) (hs : ks.length ≤ sz) {xi xj : Nat} (hi : ks[i]? = some xi) (hj : ks[j]? = some xj) :
    RkS12 w ((wr.setCell ⟨g, i, none⟩ (.int .u64 (xj : Nat))).setCell ⟨g, j, none⟩ (.int .u64 (xi : Nat))).drew g sz ks (i + 1) := by
  obtain ⟨ho, cur', hg', hs', hr'⟩ := h
  have h2 := RevK12.next hr' hij hn (by rw [hs']; exact hs)
  rw [List.getElem?_eq_getElem (by omega)] at hi hj
  injection hi with hi
  injection hj with hj
  subst hi hj
  exact ⟨((ho.setCell (by simp) _).setCell (by simp) _).drew, _, set_one (set_one hg'), by simpa using hs', h2⟩
section
variable {w : World}
set_option maxHeartbeats 2000000 in
theorem revK12_core {g c n : Nat} {cur : Array Value} {ks : List Nat} (hg : w.heap[g]? = some (.cells cur 28 (0, 0))) (hh : HoldK12 cur ks) (hn : ks.length = n + 1) (hs : n + 1 ≤ cur.size) (hl : n ≤ 100000000) :
    Calls Try.prog 43 #[.slice (some ⟨g, 0, none⟩) (n + 1) c] w fun e w' => e = .returned (.tuple #[]) ∧ Only [g] w w' ∧ ∃ cur', w'.heap[g]? = some (.cells cur' 28 (0, 0)) ∧ cur'.size = cur.size ∧ HoldK12 cur' ks.reverse := by
  have HI0 : Hid (RkS12 w w g cur.size ks 0) := Lib.hid ⟨Only.refl _ _, cur, hg, rfl, fun p hp => by
    rw [if_neg (by omega)]
    exact hh p hp⟩
  have HN := Lib.hid (And.intro hn hs)
  have hnI : (n : Int) ≤ 100000000 := by omega
  clear hg hh hn hs
  go_enter Try.func43, Try.ntmps43
  go_wp2_with fail
  go_loopg [2, 3] n (fun gg s2 s3 wr => ∃ (i j : Nat), i + j = n ∧ gg = j - i ∧ s2 = .int .i64 (i : Nat) ∧ s3 = .int .i64 (j : Nat) ∧ Hid (RkS12 w wr g cur.size ks i))
  case atStart => exact ⟨0, n, by omega, by omega, rfl, by go_num, HI0⟩
  case round =>
    obtain ⟨i, j, hij, hgg, rfl, rfl, HI⟩ := hrel
    by_cases hlt : i < j
    · have hltI : (i : Int) < (j : Int) := by omega
      have hi1 : (i : Int) < (n : Int) + 1 := by omega
      have hj1 : (j : Int) < (n : Int) + 1 := by omega
      obtain ⟨ho, cur', hg', hs', hr'⟩ := HI.out
      have hxl : i < ks.length := by have := HN.out.1; omega
      have hxj : j < ks.length := by have := HN.out.1; omega
      have pi0 := hr' i hxl
      have pj0 := hr' j hxj
      rw [if_neg (by have := HN.out.1; omega)] at pi0 pj0
      have hxI : ks[i]? = some ks[i] := List.getElem?_eq_getElem hxl
      have hxJ : ks[j]? = some ks[j] := List.getElem?_eq_getElem hxj
      have e0 := (cell_of_row wr g i cur' 28 (0, 0) hg').trans pi0
      have e2 := (cell_of_row wr g j cur' 28 (0, 0) hg').trans pj0
      have hro := head_row hg'
      have f0 := hro.frozen i
      have f2 := hro.frozen j
      have hglt := hro.lt
      obtain ⟨kj, hxjv⟩ : ∃ x, ks[j] = x := ⟨_, rfl⟩
      obtain ⟨ki, hxiv⟩ : ∃ x, ks[i] = x := ⟨_, rfl⟩
      rw [hxiv] at e0 hxI
      rw [hxjv] at e2 hxJ
      have HNX := Lib.hid (RkS12.next HI.out hlt (by have := HN.out.1; omega) (by have h2 := HN.out; rw [h2.1]; exact h2.2) hxI hxJ)
      have hne : i ≠ j := by omega
      clear ho hg' hs' hr' pi0 pj0 hro hxjv hxiv hxI hxJ hxl hxj HI
      go_wp2_with fail
      go_region
      go_wp2
      go_roundg (j - 1 - (i + 1))
      case measure => omega
      case rel => exact ⟨i + 1, j - 1, by omega, rfl, by go_num, congrArg (Value.int IntKind.i64) (by omega), HNX⟩
    · have hltI : ¬ (i : Int) < (j : Int) := by omega
      obtain ⟨ho, cur', hg', hs', hr'⟩ := HI.out
      have HF : Hid (Only [g] w wr ∧ ∃ cur', wr.heap[g]? = some (.cells cur' 28 (0, 0)) ∧ cur'.size = cur.size ∧ HoldK12 cur' ks.reverse) := Lib.hid ⟨ho, cur', hg', hs', fun p hp => by
        rw [List.length_reverse] at hp
        have h1 := hr' p hp
        rw [List.getElem_reverse]
        by_cases hc : p < i ∨ ks.length ≤ p + i
        · rw [if_pos hc] at h1
          exact h1
        · rw [if_neg hc] at h1
          have e : ks.length - 1 - p = p := by have := HN.out.1; omega
          simp only [e]
          exact h1⟩
      clear ho hg' hs' hr' HI
      go_wp2
      go_end0
      exact ⟨rfl, HF.out⟩
theorem revK12_nil (F : Option Addr) (c : Nat) : Calls Try.prog 43 #[.slice F 0 c] w fun e w' => e = .returned (.tuple #[]) ∧ w' = w := by
  go_enter Try.func43, Try.ntmps43
  go_wp2_with fail
  go_loopg [2, 3] 1 (fun gg s2 s3 wr => gg = 1 ∧ s2 = .int .i64 0 ∧ s3 = .int .i64 (-1) ∧ wr = w)
  case atStart => exact ⟨rfl, rfl, by go_num, rfl⟩
  case round =>
    obtain ⟨-, rfl, rfl, rfl⟩ := hrel
    go_wp2
    go_end0
    exact ⟨rfl, rfl⟩
theorem revK12_walk {B : Nat} {w0 : World} {v : Value} {ks : List Nat} (h : KO B w0 w v ks) (hB : B ≤ w.heap.size) (hl : ks.length ≤ 100000000) :
    Calls Try.prog 43 #[v] w fun e w' => e = .returned (.tuple #[]) ∧ KO B w0 w' v ks.reverse ∧ w.grownBy w' v.ownBlock := by
  rcases Nat.eq_zero_or_pos ks.length with h0 | h0
  · obtain rfl : ks = [] := List.length_eq_zero_iff.1 h0
    obtain ⟨F, c, rfl, _⟩ := h.kv.mem
    refine (revK12_nil F c).mono ?_
    rintro e w' ⟨rfl, rfl⟩
    exact ⟨rfl, h, World.grownBy.refl _ _⟩
  · rcases h.own.2 with ⟨rfl, h1⟩ | ⟨g, c, cur, rfl, hBg, hg, hle, hcm, hsz, htk⟩
    · omega
    · obtain ⟨n, hn⟩ : ∃ n, ks.length = n + 1 := ⟨ks.length - 1, by omega⟩
      have hh : HoldK12 cur ks := fun i hi => by
        have h2 : (u64L ks)[i]? = some (.int .u64 (ks[i] : Nat)) := by simp [u64L, hi]
        rw [← htk, List.getElem?_take, if_pos (by omega)] at h2
        simpa using h2
      have hr := revK12_core (c := c) hg hh hn (by omega) (by omega)
      rw [← hn] at hr
      refine hr.mono ?_
      rintro e w' ⟨rfl, ho, cur', hg', hs', hh'⟩
      refine ⟨rfl, ⟨h.low.trans (ho.below (by simpa using hBg) hB), ⟨by simp [u64L], .inr ⟨g, c, cur', by rw [List.length_reverse], hBg, hg', by rw [List.length_reverse]; exact hle, hcm, by rw [hs']; exact hsz, ?_⟩⟩⟩, ⟨ho.os, ho.tape, ho.output, ho.size, fun k hk hne => ho.block k hk (by simpa [Value.ownBlock] using fun e : k = g => hne (by simp [Value.ownBlock, e]))⟩⟩
      refine List.ext_getElem? (fun i => ?_)
      by_cases hi : i < ks.reverse.length
      · rw [List.getElem?_take, if_pos (by omega)]
        have h3 := hh' i hi
        rw [Array.getElem?_toList, h3]
        simp only [u64L]
        rw [List.getElem?_map, List.getElem?_eq_getElem hi]
        rfl
      · rw [List.getElem?_eq_none (by rw [List.length_take]; omega), List.getElem?_eq_none (by simp [u64L] at hi ⊢; omega)]
end
section
variable {w : World} {u u1 u2 : Value} {xs : List It} {s : L12}
end
set_option maxRecDepth 8000
section
variable {w : World} {u1 u2 : Value} {s : L12}
structure Tau (s τ : L12) : Prop where
  fine : τ.Fine
  len : τ.s.length ≤ 9000000
  c : τ.c = s.c
section
variable {w4 w5 : World} {c : Nat} {s : L12} {out : List Nat} {o : Value} {F1 : Option Addr} {n1 d1 : Nat} {F2 : Option Addr} {n2 d2 : Nat}
end
end
section
variable {w : World} {u1 u2 : Value} {s : L12}
abbrev Ld12 (w' : World) (b a : Nat) (c : Nat) (F1 : Option Addr) (n1 d1 : Nat) (F2 : Option Addr) (n2 d2 : Nat) (x : Act8) : Prop := w'.cell? ⟨b, 0, none⟩ = some (.int .i64 (c : Nat)) ∧ w'.cell? ⟨b, 1, none⟩ = some (.slice F1 n1 d1) ∧ w'.cell? ⟨b, 2, none⟩ = some (.slice F2 n2 d2) ∧ w'.cell? ⟨a, 0, none⟩ = some (.int .u8 (x.kind : Nat)) ∧ w'.cell? ⟨a, 1, none⟩ = some (.int .u64 (x.key : Nat)) ∧ w'.cell? ⟨a, 2, none⟩ = some (.int .u16 (x.n : Nat))
end
section
variable {w : World} {u1 u2 : Value} {s : L12}
end
def Af12 (w4 : World) (T : TypeId) (s : L12) (out : List Nat) (v o : Value) (wx : World) : Prop := ∃ (P : Nat) (F1 : Option Addr) (n1 d1 : Nat) (F2 : Option Addr) (n2 d2 : Nat), v = .pointer (some ⟨P, 0, none⟩) ∧ Below w4.heap.size w4 wx ∧ w4.heap.size ≤ P ∧ wx.heap[P]? = some (.cells (l12C s.c (.slice F1 n1 d1) (.slice F2 n2 d2)) T (0, 0)) ∧ St12 wx s (.slice F1 n1 d1) (.slice F2 n2 d2) ∧ KV wx o out
section
variable {w4 w5 : World} {T : TypeId} {s : L12} {out : List Nat} {o : Value} {F1 : Option Addr} {n1 d1 : Nat} {F2 : Option Addr} {n2 d2 : Nat}
end
def L12.runS (s : L12) (l : List Act8) : L12 := l.foldl L12.act s
theorem L12.runS_next (s : L12) {l : List Act8} {i : Nat} (hi : i < l.length) : s.runS (l.take (i + 1)) = (s.runS (l.take i)).act l[i] := by
  unfold L12.runS
  rw [List.take_succ_eq_append_getElem hi, List.foldl_append]
  rfl
theorem L12.Ok.runS {s : L12} (h : s.Ok) : ∀ (l : List Act8), (∀ x ∈ l, x.Ok) → (s.runS l).Ok
  | [], _ => h
  | x :: l, hx => L12.Ok.runS (h.act (hx x (by simp))) l (fun y hy => hx y (by simp [hy]))
section
variable {w : World} {v : Value} {l : List Act8}
end
end Go.Proofs.Ytkhikpnlpcankaa
