/- Words and walks: ErP ErE ErW ErV ErC. -/
import Derived.Test.YtebdggoncnhjeaaG1
import Derived.Test.YtebdggoncnhjeaaG15
import Derived.Test.YtebdggoncnhjeaaG17
import Derived.Deep.RegionHeld3
namespace Go.Proofs.Ytebdggoncnhjeaa
open Go Go.RowKit Go.Deep
def en0 (k : Nat) : Ent := ⟨k, 0, 0⟩
def Qk (l : List Nat) : Nat → List Ent := fun _ => l.map en0
section
variable {l : List Nat}
theorem qk_len (l : List Nat) (t : Nat) : (Qk l t).length = l.length := by simp [Qk]
theorem qk_key (l : List Nat) (t i : Nat) (hi : i < (Qk l t).length) : ((Qk l t)[i]).key = l[i]'(by rw [← qk_len l t]; exact hi) := by simp [Qk, en0]
theorem qk_nokey (k : Nat) : NoKey 1 (Qk l) k ↔ k ∉ l := by
  constructor
  · intro h hk
    obtain ⟨i, hi, rfl⟩ := List.getElem_of_mem hk
    exact h 0 i (by decide) (by rw [qk_len]; exact hi) (qk_key l 0 i _)
  · intro h t i _ hi e
    rw [qk_key] at e
    exact h (e ▸ List.getElem_mem _)
theorem qk_sum (l : List Nat) : sumE (Qk l) 1 = l.length := by simp [sumE, Qk]
theorem qk_qI (l : List Nat) : qI 1 (Qk l) 0 = l.map en0 := rfl
theorem qk_keys (l : List Nat) : (qI 1 (Qk l) 0).map Ent.key = l := by
  rw [qk_qI, List.map_map]
  exact (List.map_congr_left (fun _ _ => rfl)).trans (List.map_id l)
theorem qk_last (l : List Nat) : lastK (qI 1 (Qk l) 0) = l.getLastD 0 := by
  rw [qk_qI]
  unfold lastK
  rw [List.getLast?_map, Option.map_map]
  cases h : l.getLast? with
  | none => rw [List.getLast?_eq_none_iff.1 h]; rfl
  | some x => simp [List.getLastD_eq_getLast?, h, en0]
theorem cut_wo : ∀ (l : List Nat) (_ : l.Nodup) (i : Nat) (hi : i < l.length), l.take i ++ l.drop (i + 1) = wo l[i] l
  | [], _, _, hi => by simp at hi
  | x :: xs, hn, 0, _ => by
    have hx := (List.nodup_cons.1 hn).1
    show xs = wo x (x :: xs)
    have : wo x (x :: xs) = wo x xs := by simp [wo]
    rw [this, wo_none8 hx]
  | x :: xs, hn, i + 1, hi => by
    have hx := (List.nodup_cons.1 hn).1
    have hi' : i < xs.length := by simpa using hi
    have hne : x ≠ xs[i] := fun e => hx (e ▸ List.getElem_mem hi')
    have e := cut_wo xs (List.nodup_cons.1 hn).2 i hi'
    show x :: (xs.take i ++ xs.drop (i + 1)) = wo xs[i] (x :: xs)
    rw [e]
    simp [wo, hne]
theorem qk_cut (hn : l.Nodup) (i : Nat) (hi : i < l.length) : cutE (Qk l 0) i = (wo l[i] l).map en0 := by
  rw [← cut_wo l hn i hi]
  simp [cutE, Qk, List.map_take, List.map_drop]
theorem qk_move (hn : l.Nodup) (i : Nat) (hi : i < l.length) (hi' : i < (Qk l 0).length) {t : Nat} (ht : t < 1) : movE (Qk l) 0 i 0 ((Qk l 0)[i]) t = Qk (fr l[i] l) t := by
  obtain rfl : t = 0 := by omega
  unfold movE
  simp only [upd, if_true]
  rw [qk_cut hn i hi]
  have e : (Qk l 0)[i] = en0 l[i] := by simp [Qk]
  rw [e]
  rfl
theorem qk_rem (hn : l.Nodup) (i : Nat) (hi : i < l.length) {t : Nat} (ht : t < 1) : upd (Qk l) 0 (cutE (Qk l 0) i) t = Qk (wo l[i] l) t := by
  obtain rfl : t = 0 := by omega
  simp only [upd, if_true]
  rw [qk_cut hn i hi]
  rfl
theorem qk_push (k : Nat) {t : Nat} (ht : t < 1) : pushedQ true (Qk l) 0 k t = Qk (k :: l) t := by
  obtain rfl : t = 0 := by omega
  rfl
theorem wo_last (hn : l.Nodup) (h0 : 0 < l.length) : wo (l[l.length - 1]) l = l.take (l.length - 1) := by
  rw [← cut_wo l hn (l.length - 1) (by omega), Nat.sub_add_cancel h0, List.drop_length, List.append_nil]
theorem last_is (h0 : 0 < l.length) : l.getLastD 0 = l[l.length - 1] := by
  rw [List.getLastD_eq_getLast?, List.getLast?_eq_getElem?, List.getElem?_eq_getElem (by omega)]
  rfl
end
theorem drop_more (l : List Nat) (m : Nat) (h0 : 0 < m) (hm : m ≤ l.length) : (l.drop m).reverse ++ [l[m - 1]] = (l.drop (m - 1)).reverse := by
  have e : l.drop (m - 1) = l[m - 1] :: l.drop m := by
    have := List.drop_eq_getElem_cons (l := l) (i := m - 1) (by omega)
    rw [this, Nat.sub_add_cancel h0]
  rw [e, List.reverse_cons]
theorem take_last (l : List Nat) (m : Nat) (h0 : 0 < m) (hm : m ≤ l.length) : (l.take m).getLastD 0 = l[m - 1] ∧ wo l[m - 1] (l.take m) = wo l[m - 1] (l.take m) := by
  have hl : (l.take m).length = m := by rw [List.length_take]; omega
  refine ⟨?_, rfl⟩
  rw [last_is (l := l.take m) (by omega), List.getElem_take]
  congr 1
  omega
theorem take_less (l : List Nat) (hn : l.Nodup) (m : Nat) (h0 : 0 < m) (hm : m ≤ l.length) : wo l[m - 1] (l.take m) = l.take (m - 1) := by
  have hl : (l.take m).length = m := by rw [List.length_take]; omega
  have h := wo_last (l := l.take m) (hn.sublist (List.take_sublist m l)) (by omega)
  rw [List.getElem_take, List.take_take] at h
  simp only [hl] at h
  rw [h, Nat.min_eq_left (by omega)]
def Kn (w w' : World) : Prop := ∀ g, NP w g → w'.heap[g]? = w.heap[g]?
section
variable {w w' w2 : World}
theorem Kn.refl (w : World) : Kn w w := fun _ _ => rfl
theorem Kn.trans (h : Kn w w') (h2 : Kn w' w2) : Kn w w2 := fun g hg => (h2 g (hg.keep (h g hg))).trans (h g hg)
theorem Kn.below (h : Below w.heap.size w w') : Kn w w' := fun g hg => h.block g hg.lt
theorem RV.kn {v : Value} {size n : Nat} {xs : List Value} (h : RV w size v n xs) (hk : Kn w w') : RV w' size v n xs := by
  obtain ⟨hl, ⟨F, c, rfl, h1, h2, h3⟩, hn⟩ := h
  refine ⟨hl, ⟨F, c, rfl, h1, h2, fun j u hu => ?_⟩, fun m c ad e => (hn m c ad e).keep (hk _ (hn m c ad e))⟩
  obtain ⟨ad, rfl, h4, h5⟩ := h3 j u hu
  have hn0 : 0 < n := by
    rcases Nat.eq_zero_or_pos n with rfl | q
    · have := (List.getElem?_eq_some_iff.1 hu).1
      omega
    · exact q
  obtain ⟨k, rfl⟩ : ∃ k, n = k + 1 := ⟨n - 1, by omega⟩
  have hp := hn k c ad rfl
  refine ⟨ad, rfl, (hp.keep (hk _ hp)).lt, ?_⟩
  refine Eq.trans (World.cell?_of_block (w := w) ?_) h5
  rw [ad_block]
  exact hk _ hp
theorem KV.kn {v : Value} {ks : List Nat} (h : KV w v ks) (hk : Kn w w') : KV w' v ks := RV.kn h hk
theorem KO.kn {B : Nat} {v : Value} {ks : List Nat} (h : KO B w w v ks) (hk : Kn w w') : KO B w' w' v ks := by
  refine ⟨Below.refl _ _, h.own.1, ?_⟩
  rcases h.own.2 with q | ⟨g, cap, cur, e1, e2, e3, e4⟩
  · exact .inl q
  · exact .inr ⟨g, cap, cur, e1, e2, (hk g (NP.cells e3 (by decide))).trans e3, e4⟩
end
noncomputable def allN (w : World) : List Nat := (List.range w.heap.size).filter (fun g => @decide (NP w g) (Classical.propDecidable _))
theorem allN_mem {w : World} {g : Nat} : g ∈ allN w ↔ NP w g := by
  unfold allN
  rw [List.mem_filter, List.mem_range]
  constructor
  · exact fun h => by simpa using h.2
  · exact fun h => ⟨h.lt, by simpa using h⟩
section
variable {w0 w w' : World} {sp n m most : Nat} {Q Q' : Nat → List Ent} {U U' : Tb} {K : List Nat} {m' most' : Nat} {ok : Bool}
theorem si_any {f : FuncId} {args : Array Value} (h : SI w0 w sp n Q m U most K) (hc : ∀ K', SI w0 w sp n Q m U most K' → Calls Try.prog f args w (SIPost w0 w sp n Q' m' U' most' K' ok)) :
    Calls Try.prog f args w fun e w' => e = .returned (.bool ok) ∧ SI w0 w' sp n Q' m' U' most' K ∧ Kept K w w' ∧ Kn w w' := by
  have h1 : SI w0 w sp n Q m U most (K ++ allN w) := h.sty h.below (Sty.refl w) (Nat.le_refl _) (fun k hk => by
    rcases List.mem_append.1 hk with q | q
    · exact ⟨h.old k q, .inl q⟩
    · exact ⟨(allN_mem.1 q).lt, .inr (fun q2 => q2.not (allN_mem.1 q))⟩)
  refine (hc _ h1).mono ?_
  rintro e w' ⟨rfl, g1, g2⟩
  exact ⟨rfl, g1.less (fun k hk => by simp [hk]), fun k hk => g2 k (by simp [hk]), fun g hg => g2 g (by simp [allN_mem.2 hg])⟩
end
def R8 (m : Nat) : Prop := ∃ p, m = 8 * 2 ^ p
theorem R8.start : R8 8 := ⟨0, rfl⟩
theorem R8.room {m : Nat} (h : R8 m) (Q : Nat → List Ent) (n : Nat) : R8 (roomE Q n m) := by
  unfold roomE
  split
  · obtain ⟨p, rfl⟩ := h
    exact ⟨p + 1, by rw [Nat.pow_succ]; omega⟩
  · exact h
theorem R8.small {m : Nat} (h : R8 m) (hm : m < 16) : m = 8 := by
  obtain ⟨p, rfl⟩ := h
  cases p with
  | zero => rfl
  | succ p =>
    have := Nat.one_le_two_pow (n := p)
    rw [Nat.pow_succ] at hm
    omega
abbrev CaT : TypeId := 72
abbrev cacheC (sp c : Nat) : Array Value := #[ptr sp, .int .i64 (c : Nat)]
structure EC (w0 w : World) (xp : Nat) (s : L8) (top : Nat) : Prop where
  ok : s.Ok
  small : top ≤ 10000
  ge : w0.heap.size ≤ xp
  mem : ∃ sp m U, w.heap[xp]? = some (.cells (cacheC sp s.c) CaT (0, 0)) ∧ SI w0 w sp 1 (Qk s.l) m U top [xp] ∧ R8 m
section
variable {w0 w w' : World} {xp top : Nat} {s : L8}
theorem EC.below (h : EC w0 w xp s top) : Below w0.heap.size w0 w := by
  obtain ⟨sp, m, U, h1, h2, h8⟩ := h.mem
  exact h2.below
theorem EC.lt (h : EC w0 w xp s top) : xp < w.heap.size := by
  obtain ⟨sp, m, U, h1, h2, h8⟩ := h.mem
  exact (head_row h1).lt
theorem EC.styB (h : EC w0 w xp s top) : StyB w xp := by
  obtain ⟨sp, m, U, h1, h2, h8⟩ := h.mem
  exact ⟨_, _, _, h1, by decide⟩
theorem EC.sty (h : EC w0 w xp s top) (hb : Below w0.heap.size w0 w') (hs : Sty w w') (hz : w.heap.size ≤ w'.heap.size) : EC w0 w' xp s top := by
  obtain ⟨sp, m, U, h1, h2, h8⟩ := h.mem
  have hx := h.lt
  refine ⟨h.ok, h.small, h.ge, sp, m, U, (hs xp h.styB).trans h1, h2.sty hb hs hz (fun k hk => ?_), h8⟩
  simp only [List.mem_singleton] at hk
  subst hk
  exact ⟨by omega, .inl (by simp)⟩
theorem EC.still (h : EC w0 w xp s top) (hb : Below w.heap.size w w') : EC w0 w' xp s top := h.sty (h.below.trans (hb.mono h.below.size)) (Sty.below hb) hb.size
theorem EC.only {S : List Nat} (h : EC w0 w xp s top) (ho : Only S w w') (hS : ∀ g ∈ S, w0.heap.size ≤ g ∧ ¬ StyB w g) : EC w0 w' xp s top :=
  h.sty (h.below.trans (ho.below (fun g hg => (hS g hg).1) h.below.size)) (fun g hg => ho.block g hg.lt (fun q => (hS g q).2 hg)) ho.size
theorem EC.more (h : EC w0 w xp s top) {top' : Nat} (ht : top ≤ top') (h2 : top' ≤ 10000) : EC w0 w xp s top' := by
  obtain ⟨sp, m, U, h1, h3, h8⟩ := h.mem
  exact ⟨h.ok, h2, h.ge, sp, m, U, h1, h3.more ht, h8⟩
theorem EC.len (h : EC w0 w xp s top) : s.l.length ≤ top := by
  obtain ⟨sp, m, U, h1, h2, h8⟩ := h.mem
  have := h2.ok.le
  rw [qk_sum] at this
  exact this
end
theorem NP.not_sty {w : World} {g : Nat} (h : NP w g) : ¬ StyB w g := fun q => q.not h
section
variable {w0 w : World} {sp m top : Nat} {l : List Nat} {U : Tb} {K : List Nat}
def SK (w0 w : World) (sp : Nat) (l : List Nat) (top : Nat) (K : List Nat) : Prop := ∃ m U, SI w0 w sp 1 (Qk l) m U top K ∧ R8 m
theorem SK.key64 (h : SK w0 w sp l top K) {k : Nat} (hk : k ∈ l) : k < 18446744073709551616 := by
  obtain ⟨m, U, h, h8⟩ := h
  obtain ⟨i, hi, rfl⟩ := List.getElem_of_mem hk
  have := h.key64 (t := 0) (i := i) (by decide) (by rw [qk_len]; exact hi)
  rw [qk_key] at this
  exact this
theorem SK.below (h : SK w0 w sp l top K) : Below w0.heap.size w0 w := by
  obtain ⟨m, U, h, h8⟩ := h
  exact h.below
theorem SK.len (h : SK w0 w sp l top K) : l.length ≤ top := by
  obtain ⟨m, U, h, h8⟩ := h
  have := h.ok.le
  rw [qk_sum] at this
  exact this
theorem SK.nodup (h : SK w0 w sp l top K) : l.Nodup := by
  obtain ⟨m, U, h, h8⟩ := h
  refine List.pairwise_iff_getElem.2 (fun i j hi hj hij e => ?_)
  have q := (h.ok.uq 0 0 i j (by decide) (by decide) (by rw [qk_len]; exact hi) (by rw [qk_len]; exact hj) (by rw [qk_key, qk_key]; exact e)).2
  omega
theorem SK.sty {w' : World} (h : SK w0 w sp l top K) (hb : Below w0.heap.size w0 w') (hs : Sty w w') (hz : w.heap.size ≤ w'.heap.size) : SK w0 w' sp l top K := by
  obtain ⟨m, U, h, h8⟩ := h
  exact ⟨m, U, h.sty hb hs hz (fun k hk => ⟨Nat.lt_of_lt_of_le (h.old k hk) hz, .inl hk⟩), h8⟩
theorem SK.styK {w' : World} (h : SK w0 w sp l top K) (hb : Below w0.heap.size w0 w') (hs : StyK K w w') (hz : w.heap.size ≤ w'.heap.size) : SK w0 w' sp l top K := by
  obtain ⟨m, U, h, h8⟩ := h
  exact ⟨m, U, h.styK hb hs hz (fun k hk => ⟨Nat.lt_of_lt_of_le (h.old k hk) hz, .inl hk⟩), h8⟩
theorem SK.still {w' : World} (h : SK w0 w sp l top K) (hb : Below w.heap.size w w') : SK w0 w' sp l top K := h.sty (h.below.trans (hb.mono h.below.size)) (Sty.below hb) hb.size
def SKP (w0 w : World) (sp : Nat) (l : List Nat) (top : Nat) (K : List Nat) (ok : Bool) (e : Ending) (w' : World) : Prop :=
  e = .returned (.bool ok) ∧ SK w0 w' sp l top K ∧ Kept K w w' ∧ Kn w w'
theorem k_find (h : SK w0 w sp l top K) (hm : top ≤ 10000) (k : Nat) (h64 : k < 18446744073709551616) :
    Calls Try.prog 48 #[ptr sp, .int .u64 (k : Nat)] w fun e w' => e = .returned (.tuple #[.int .i64 0, .bool (decide (k ∈ l))]) ∧ Below w.heap.size w w' := by
  obtain ⟨m, U, h, h8⟩ := h
  by_cases hk : k ∈ l
  · obtain ⟨i, hi, rfl⟩ := List.getElem_of_mem hk
    rw [decide_eq_true hk]
    exact si_find_in h hm 0 i (by decide) (by rw [qk_len]; exact hi) _ (qk_key l 0 i _)
  · rw [decide_eq_false hk]
    exact si_find_out h hm k h64 ((qk_nokey k).2 hk)
theorem k_move (h : SK w0 w sp l top K) (hm : top ≤ 10000) (k : Nat) (h64 : k < 18446744073709551616) :
    Calls Try.prog 56 #[ptr sp, .int .i64 0, .int .u64 (k : Nat)] w (SKP w0 w sp (if k ∈ l then fr k l else l) top K (decide (k ∈ l))) := by
  have hn := h.nodup
  obtain ⟨m, U, h, h8⟩ := h
  by_cases hk : k ∈ l
  · obtain ⟨i, hi, rfl⟩ := List.getElem_of_mem hk
    rw [decide_eq_true hk, if_pos hk]
    have hi' : i < (Qk l 0).length := by rw [qk_len]; exact hi
    refine (si_any h (fun K' h' => si_move h' hm 0 i (by decide) hi' _ (qk_key l 0 i _) 0 (by decide))).mono ?_
    rintro e w' ⟨rfl, g1, g2, g3⟩
    exact ⟨rfl, ⟨_, _, g1.congr (fun t ht => qk_move hn i hi hi' ht), h8⟩, g2, g3⟩
  · rw [decide_eq_false hk, if_neg hk]
    refine (si_any h (fun K' h' => si_move_no h' hm 0 k h64 (.inr (.inr ⟨by decide, by decide, (qk_nokey k).2 hk⟩)))).mono ?_
    rintro e w' ⟨rfl, g1, g2, g3⟩
    exact ⟨rfl, ⟨_, _, g1, h8⟩, g2, g3⟩
theorem k_rem (h : SK w0 w sp l top K) (hm : top ≤ 10000) (k : Nat) (h64 : k < 18446744073709551616) :
    Calls Try.prog 57 #[ptr sp, .int .u64 (k : Nat)] w (SKP w0 w sp (wo k l) top K (decide (k ∈ l))) := by
  have hn := h.nodup
  obtain ⟨m, U, h, h8⟩ := h
  by_cases hk : k ∈ l
  · obtain ⟨i, hi, rfl⟩ := List.getElem_of_mem hk
    rw [decide_eq_true hk]
    have hi' : i < (Qk l 0).length := by rw [qk_len]; exact hi
    refine (si_any h (fun K' h' => si_rem h' hm 0 i (by decide) hi' _ (qk_key l 0 i _))).mono ?_
    rintro e w' ⟨rfl, g1, g2, g3⟩
    exact ⟨rfl, ⟨_, _, g1.congr (fun t ht => qk_rem hn i hi ht), h8⟩, g2, g3⟩
  · rw [decide_eq_false hk, wo_none8 hk]
    refine (si_any h (fun K' h' => si_rem_no h' hm k h64 ((qk_nokey k).2 hk))).mono ?_
    rintro e w' ⟨rfl, g1, g2, g3⟩
    exact ⟨rfl, ⟨_, _, g1, h8⟩, g2, g3⟩
theorem k_push (h : SK w0 w sp l top K) (hm : top ≤ 10000) (k : Nat) (h64 : k < 18446744073709551616) (hk : k ∉ l) {top' : Nat} (ht : top ≤ top') (hl : l.length + 1 ≤ top') :
    Calls Try.prog 59 #[ptr sp, .int .i64 0, .int .u64 (k : Nat)] w (SKP w0 w sp (k :: l) top' K true) := by
  obtain ⟨m, U, h, h8⟩ := h
  refine (si_any h (fun K' h' => si_pushF h' hm 0 (by decide) k h64 ((qk_nokey k).2 hk))).mono ?_
  rintro e w' ⟨rfl, g1, g2, g3⟩
  rw [qk_sum] at g1
  exact ⟨rfl, ⟨_, _, (g1.congr (fun t ht => qk_push k ht)).more (by omega), h8.room _ _⟩, g2, g3⟩
theorem k_len (h : SK w0 w sp l top K) :
    Calls Try.prog 82 #[ptr sp, .int .i64 0] w fun e w' => e = .returned (.int .i64 (l.length : Nat)) ∧ Below w.heap.size w w' := by
  obtain ⟨m, U, h, h8⟩ := h
  have := si_len h 0
  rw [qk_qI, List.length_map] at this
  exact this
theorem k_back (h : SK w0 w sp l top K) (hm : top ≤ 10000) :
    Calls Try.prog 83 #[ptr sp, .int .i64 0] w fun e w' => e = .returned (.tuple #[.int .u64 (l.getLastD 0 : Nat), .bool (decide (0 < l.length))]) ∧ Below w.heap.size w w' := by
  obtain ⟨m, U, h, h8⟩ := h
  have := si_back h hm 0
  rw [qk_last, qk_qI, List.length_map] at this
  exact this
theorem k_keys (h : SK w0 w sp l top K) (hm : top ≤ 10000) :
    Calls Try.prog 47 #[ptr sp, .int .i64 0] w fun e w' => ∃ v, e = .returned v ∧ Below w.heap.size w w' ∧ KO w.heap.size w w' v l := by
  obtain ⟨m, U, h, h8⟩ := h
  refine (si_keys_own h hm 0).mono ?_
  rintro e w' ⟨v, rfl, hb, ho⟩
  rw [qk_keys] at ho
  exact ⟨v, rfl, hb, hb, ho⟩
theorem tb_r8 (h : U.Good) : R8 U.n := by
  obtain ⟨p, hp⟩ := h.pow
  have h8 := h.n8
  rw [hp] at h8 ⊢
  have h3 : 3 ≤ p := Classical.byContradiction fun q => by
    have : p = 0 ∨ p = 1 ∨ p = 2 := by omega
    rcases this with rfl | rfl | rfl <;> simp at h8
  exact ⟨p - 3, by rw [show (8 : Nat) = 2 ^ 3 from rfl, ← Nat.pow_add]; congr 1; omega⟩
theorem k_rooms (h : SK w0 w sp l top K) :
    Calls Try.prog 55 #[ptr sp] w fun e w' => ∃ a b : Nat, e = .returned (.tuple #[.int .i64 (a : Nat), .int .i64 (b : Nat)]) ∧ Below w.heap.size w w' ∧ l.length ≤ a ∧ l.length ≤ b ∧ a ≤ 2 * top + 8 ∧ b ≤ 3 * top + 8 ∧ R8 a ∧ R8 b := by
  obtain ⟨m, U, h, h8⟩ := h
  have h1 := h.room
  rw [qk_sum] at h1
  have h2 := h.ok.an
  have h3 := h.ok.tn
  exact (si_rooms h).mono (fun e w' ⟨he, hb⟩ => ⟨m, U.n, he, hb, by omega, h1.2, h2, h3, h8, tb_r8 h.ok.good⟩)
end
section
variable {w0 w : World}
abbrev paT : TypeId := 70
theorem eopen_walk {xp sp c : Nat} (h : w.heap[xp]? = some (.cells (cacheC sp c) CaT (0, 0))) :
    Calls Try.prog 46 #[ptr xp] w fun e w' => e = .returned (.agg (cacheC sp c)) ∧ Below w.heap.size w w' := by
  obtain ⟨⟨c0, c1⟩, _⟩ := c2_at h
  have hsp : xp < w.heap.size := (head_row h).lt
  clear h
  go_enter Try.func46, Try.ntmps46
  go_wp2_with fail
  exact bodyPost_ret (v := .agg (cacheC sp c)) (by simp [results, Try.results46, go_sem]) rfl ⟨rfl, (Below.refl w.heap.size w).alloc (Nat.le_refl _) _⟩
abbrev nilC : Array Value := #[.pointer none, .int .i64 0]
theorem eopen_nil (w : World) :
    Calls Try.prog 46 #[.pointer none] w fun e w' => e = .returned (.agg nilC) ∧ Below w.heap.size w w' := by
  go_enter Try.func46, Try.ntmps46
  go_wp2_with fail
  exact bodyPost_ret (v := .agg nilC) (by simp [results, Try.results46, go_sem]) rfl ⟨rfl, (Below.refl w.heap.size w).alloc (Nat.le_refl _) _⟩
end
section
variable {w : World}
theorem ebounded_walk (n : Int) (hn1 : -9223372036854775808 ≤ n) (hn2 : n ≤ 9223372036854775807) :
    Calls Try.prog 41 #[.int .i64 n] w fun e w' => e = .returned (.int .i64 (capI n : Nat)) ∧ w = w' := by
  obtain ⟨c, hc⟩ : ∃ c, capI n = c := ⟨_, rfl⟩
  have HC := Lib.hid hc
  rw [hc]
  clear hc
  by_cases h1 : n < 1
  · have H : Hid ((1 : Int) = (c : Int)) := Lib.hid (by rw [← HC.out, capI, if_pos h1]; rfl)
    go_enter Try.func41, Try.ntmps41
    go_wp2
    go_ret
    exact ⟨by rw [H.out]; rfl, rfl⟩
  · by_cases h1e : n = 1
    · subst h1e
      have H : Hid ((1 : Int) = (c : Int)) := Lib.hid (by rw [← HC.out]; rfl)
      go_enter Try.func41, Try.ntmps41
      go_wp2
      go_ret
      exact ⟨by rw [H.out]; rfl, rfl⟩
    · have h1g : 1 < n := by omega
      by_cases h2 : 1048576 < n
      · have H : Hid ((1048576 : Int) = (c : Int)) := Lib.hid (by rw [← HC.out, capI, if_neg h1, if_pos h2]; rfl)
        clear h1 h1e
        go_enter Try.func41, Try.ntmps41
        go_wp2
        go_ret
        exact ⟨by rw [H.out]; rfl, rfl⟩
      · have H : Hid (n = (c : Int)) := Lib.hid (by rw [← HC.out, capI, if_neg h1, if_neg h2]; omega)
        clear h1 h1e
        by_cases h2e : n = 1048576
        · subst h2e
          go_enter Try.func41, Try.ntmps41
          go_wp2
          go_ret
          exact ⟨by rw [← H.out]; rfl, rfl⟩
        · have h2l : n < 1048576 := by omega
          clear h2e h2
          go_enter Try.func41, Try.ntmps41
          go_wp2
          go_ret
          exact ⟨by rw [← H.out]; rfl, rfl⟩
end
section
variable {w0 w : World} {sp top xp : Nat} {l : List Nat}
def EvP (w0 w : World) (sp : Nat) (l : List Nat) (N top : Nat) (K : List Nat) (e : Ending) (w' : World) : Prop :=
  ∃ o, e = .returned o ∧ SK w0 w' sp (l.take N) top K ∧ Kept K w w' ∧ Kn w w' ∧ KO w.heap.size w' w' o (l.drop N).reverse
structure EvL (w0 w wr : World) (sp bx c : Nat) (l : List Nat) (i top : Nat) (K : List Nat) (v : Value) : Prop where
  sk : SK w0 wr sp (l.take (l.length - i)) top K
  kp : Kept K w wr
  kn : Kn w wr
  own : KO w.heap.size wr wr v (l.drop (l.length - i)).reverse
  old : ∀ k ∈ K, k < wr.heap.size
  box : wr.heap[bx]? = some (.cells (cacheC sp c) paT (0, 0))
theorem EvL.low {w0 w wr w2 : World} {sp bx c : Nat} {l : List Nat} {i top : Nat} {K : List Nat} {v : Value} (h : EvL w0 w wr sp bx c l i top K v) (hb : Below wr.heap.size wr w2) : EvL w0 w w2 sp bx c l i top K v :=
  ⟨h.sk.still hb, fun k hk => (hb.block k (h.old k hk)).trans (h.kp k hk), h.kn.trans (Kn.below hb), h.own.kn (Kn.below hb), fun k hk => Nat.lt_of_lt_of_le (h.old k hk) hb.size, (hb.block bx (head_row h.box).lt).trans h.box⟩
set_option maxHeartbeats 4000000 in
theorem eevict_walk {K : List Nat} (h : SK w0 w sp l top K) (hK : ∀ k ∈ K, k < w.heap.size) (hm : top ≤ 10000) (c : Nat) (n : Int) (N : Nat) (hN : n < 0 ∧ N = 0 ∨ n = 0 ∧ N = 0 ∨ 0 < n ∧ n = (N : Int)) (hn1 : -9223372036854775808 ≤ n) (hn2 : n ≤ 9223372036854775807) :
    Calls Try.prog 58 #[.agg (cacheC sp c), .int .i64 n] w (EvP w0 w sp l N top K) := by
  have hlen := h.len
  have hnd := h.nodup
  have hsz := h.below.size
  have hb1 := low_one w (.cells (cacheC sp c) paT)
  have HX := Lib.hid (heap_alloc_new w (.cells (cacheC sp c) paT))
  have HB := Lib.hid hb1
  have HL := Lib.hid (k_len (h.still hb1))
  have HS := Lib.hid h
  have HND := Lib.hid hnd
  have HKK := Lib.hid hK
  obtain ⟨m, hml⟩ : ∃ m, l.length = m := ⟨_, rfl⟩
  have HM := Lib.hid hml
  rw [hml] at HL hlen
  clear h hnd hb1 hml hK
  rcases hN with ⟨h1, hN⟩ | ⟨rfl, hN⟩ | ⟨h1, rfl⟩
  all_goals
    go_enter Try.func58, Try.ntmps58
    go_wp2_with fail
    refine HL.out.mono ?_
    rintro e w2 ⟨rfl, hb⟩
    have hb2 := HB.out.trans (hb.mono HB.out.size)
    have HI0 : Hid (EvL w0 w w2 sp w.heap.size c l 0 top K (.slice none 0 0)) := Lib.hid ⟨by rw [Nat.sub_zero, List.take_length]; exact HS.out.still hb2, fun k hk => hb2.block k (HKK.out k hk), Kn.below hb2, by rw [Nat.sub_zero, List.drop_length]; exact KO.nil (Below.refl _ _), fun k hk => Nat.lt_of_lt_of_le (HKK.out k hk) hb2.size, (hb.block w.heap.size (by simp)).trans HX.out⟩
    clear hb hb2 HB HX HL
    go_wp2_with fail
    go_loopg [5, 14] (m - N) (fun gg s5 s14 wr => ∃ (i : Nat) (v5 : Value), i + gg = m - N ∧ v5 = s5 ∧ s14 = .int .i64 (i : Nat) ∧ Hid (EvL w0 w wr sp w.heap.size c l i top K v5))
    case atStart => exact ⟨0, _, by omega, rfl, rfl, HI0⟩
    case round =>
      obtain ⟨i, v5, hi, rfl, rfl, HI⟩ := hrel
      obtain ⟨⟨c0, c1⟩, _⟩ := c2_at HI.out.box
      by_cases hlt : (i : Int) < (m : Int) - N
      · have hj : i < m := by omega
        have hml := HM.out
        have h0 : 0 < m - i := by omega
        have hle : m - i ≤ l.length := by omega
        obtain ⟨kx, hkx⟩ : ∃ kx, l[m - i - 1] = kx := ⟨_, rfl⟩
        have hLA := take_last l (m - i) h0 hle
        have hLE := take_less l HND.out (m - i) h0 hle
        have hDR := drop_more l (m - i) h0 hle
        rw [hkx] at hLA hLE hDR
        have hi1 : m - (i + 1) = m - i - 1 := by omega
        have hsk := HI.out.sk
        have hkin : kx ∈ l.take (m - i) := by
          rw [← hkx]
          exact List.mem_iff_getElem.2 ⟨m - i - 1, by rw [List.length_take]; omega, by rw [List.getElem_take]⟩
        have hK64 : kx < 18446744073709551616 := by
          rw [hml] at hsk
          exact hsk.key64 hkin
        have HBK : Hid (Calls Try.prog 83 #[ptr sp, .int .i64 0] wr fun e w' => ∃ b, e = .returned (.tuple #[.int .u64 (kx : Nat), .bool b]) ∧ EvL w0 w w' sp w.heap.size c l i top K v5) := Lib.hid (by
          refine (k_back hsk hm).mono ?_
          rintro e w' ⟨rfl, hb⟩
          rw [hml, hLA.1]
          exact ⟨_, rfl, HI.out.low hb⟩)
        have HRM : Hid (∀ W, EvL w0 w W sp w.heap.size c l i top K v5 → Calls Try.prog 57 #[ptr sp, .int .u64 (kx : Nat)] W fun e w' => e = .returned (.bool true) ∧ w0.heap.size ≤ w'.heap.size ∧ SK w0 w' sp (l.take (m - i - 1)) top K ∧ Kept K w w' ∧ Kn w w' ∧ KO w.heap.size w' w' v5 (l.drop (m - i)).reverse ∧ (∀ k ∈ K, k < w'.heap.size) ∧ w'.heap[w.heap.size]? = some (.cells (cacheC sp c) paT (0, 0))) := Lib.hid (fun W hW => by
          have hs := hW.sk
          rw [hml] at hs
          have hold := hW.sk
          refine (k_rem hs hm kx hK64).mono ?_
          rintro e w' ⟨rfl, g1, g2, g3⟩
          rw [hLE] at g1
          have hown := hW.own.kn g3
          rw [hml] at hown
          refine ⟨by rw [decide_eq_true hkin], g1.below.size, g1, fun k hk => (g2 k hk).trans (hW.kp k hk), hW.kn.trans g3, hown, fun k hk => ?_, (g3 _ (NP.cells hW.box (by decide))).trans hW.box⟩
          have := (g2 k hk)
          exact (Array.getElem?_eq_some_iff.1 (this.trans (Array.getElem?_eq_getElem (hW.old k hk)))).1)
        have HIH := Lib.hid HI.out
        have HDR := Lib.hid hDR
        have hi2 : m - (i + 1) = m - i - 1 := hi1
        have HL2 : Hid ((l.drop (m - i)).reverse.length ≤ 10000) := Lib.hid (by simp; omega)
        clear HI hkx hLA hLE hDR hsk hkin hle h0
        go_wp2_with fail
        refine HBK.out.mono ?_
        rintro e w4 ⟨b4, rfl, h4⟩
        obtain ⟨⟨c0, c1⟩, _⟩ := c2_at h4.box
        have H4 := Lib.hid h4
        clear h4 HBK
        go_wp2_with fail
        refine (HRM.out w4 H4.out).mono ?_
        rintro e w5 ⟨rfl, hz5, h5, kp5, kn5, own5, old5, box5⟩
        have hlow5 := low_one w5 (.cells #[.int .u64 (kx : Nat)] 31)
        have HO5 := Lib.hid (own5.kn (Kn.below hlow5))
        have HS5 := Lib.hid (h5.still hlow5)
        have HKV := Lib.hid (KV.one w5 kx)
        have hz5' : w.heap.size ≤ (w5.alloc (.cells #[.int .u64 (kx : Nat)] 31)).heap.size := by have := (head_row box5).lt; simp; omega
        have HR5 := Lib.hid (And.intro (fun k hk => (hlow5.block k (old5 k hk)).trans (kp5 k hk) : Kept K w (w5.alloc (.cells #[.int .u64 (kx : Nat)] 31))) (And.intro (kn5.trans (Kn.below hlow5)) (And.intro (fun k hk => Nat.lt_of_lt_of_le (old5 k hk) hlow5.size : ∀ k ∈ K, k < (w5.alloc (.cells #[.int .u64 (kx : Nat)] 31)).heap.size) ((hlow5.block _ (head_row box5).lt).trans box5))))
        clear hlow5 h5 kp5 kn5 own5 old5 box5 HRM H4
        go_wp2_with (at_builtin; refine wpList_append_kv rfl (.tmp 26) (.tmp 28) rfl w.heap.size (by kernel_rfl) (by kernel_rfl) _ _ rfl HO5.out _ [kx] rfl HKV.out (by have := HL2.out; simp; omega) hz5' ?_)
        intro v6 w6 hown6 hkp6 hkt6
        rw [HDR.out] at hown6
        have HN : Hid (EvL w0 w w6 sp w.heap.size c l (i + 1) top K v6) := Lib.hid (by
          have hl := hown6.low
          refine ⟨?_, fun k hk => (hl.block k (HKK.out k hk)).trans (HR5.out.1 k hk), fun g hg => (hl.block g hg.lt).trans (HR5.out.2.1 g hg), ?_, fun k hk => Nat.lt_of_lt_of_le (HR5.out.2.2.1 k hk) hl.size, hkt6 _ _ _ _ HR5.out.2.2.2 (by decide)⟩
          · rw [hml, hi2]
            exact HS5.out.sty (HS5.out.below.trans (hl.mono hsz)) hkt6.sty hl.size
          · rw [hml, hi2]
            exact ⟨Below.refl _ _, hown6.own⟩)
        clear hown6 hkp6 hkt6 HS5 HO5 HR5 HIH
        go_wp2
        go_roundg (m - N - i - 1)
        case measure => omega
        case rel => exact ⟨i + 1, v6, by omega, rfl, by go_num, HN⟩
      · have hltI : ¬ (i : Int) < (m : Int) - N := hlt
        have hF : Hid (EvP w0 w sp l N top K (.returned v5) wr) := Lib.hid (by
          have hml := HM.out
          have h1 := HI.out.sk
          have h2 := HI.out.own
          have e1 : l.take (l.length - i) = l.take N := by
            by_cases q : N ≤ m
            · rw [show l.length - i = N by omega]
            · rw [List.take_of_length_le (by omega), List.take_of_length_le (by omega)]
          have e2 : l.drop (l.length - i) = l.drop N := by
            by_cases q : N ≤ m
            · rw [show l.length - i = N by omega]
            · rw [List.drop_eq_nil_of_le (by omega), List.drop_eq_nil_of_le (by omega)]
          rw [e1] at h1
          rw [e2] at h2
          exact ⟨_, rfl, h1, HI.out.kp, HI.out.kn, h2⟩)
        clear HI
        go_wp2
        go_ret
        first
          | exact hF.out
          | (subst hN; exact hF.out)
end
section
variable {w0 w w' : World} {xp top : Nat} {s : L8}
theorem EC.open (h : EC w0 w xp s top) : ∃ sp, w.heap[xp]? = some (.cells (cacheC sp s.c) CaT (0, 0)) ∧ SK w0 w sp s.l top [xp] := by
  obtain ⟨sp, m, U, h1, h2, h8⟩ := h.mem
  exact ⟨sp, h1, m, U, h2, h8⟩
theorem EC.make {sp : Nat} (ok : s.Ok) (small : top ≤ 10000) (ge : w0.heap.size ≤ xp) (h1 : w.heap[xp]? = some (.cells (cacheC sp s.c) CaT (0, 0))) (h2 : SK w0 w sp s.l top [xp]) : EC w0 w xp s top := by
  obtain ⟨m, U, h2, h8⟩ := h2
  exact ⟨ok, small, ge, sp, m, U, h1, h2, h8⟩
def EP (w0 w : World) (xp : Nat) (s : L8) (top : Nat) (w' : World) : Prop := EC w0 w' xp s top ∧ Kn w w'
set_option maxHeartbeats 1000000 in
theorem enew_walk (hb : Below w0.heap.size w0 w) (n : Int) (hn1 : -9223372036854775808 ≤ n) (hn2 : n ≤ 9223372036854775807) :
    Calls Try.prog 9 #[.int .i64 n] w fun e w' => ∃ xp, e = .returned (ptr xp) ∧ EP w0 w xp (L8.new n) 0 w' := by
  have HN : Hid (Calls Try.prog 40 #[.int .i64 1] w (SINew w0 w 1 (allN w))) := Lib.hid (si_new hb (K := allN w) (fun k hk => (allN_mem.1 hk).lt) 1)
  have HB := Lib.hid (fun (W : World) => ebounded_walk (w := W) n hn1 hn2)
  have HOK := Lib.hid (L8.ok_new n)
  have hsz := hb.size
  obtain ⟨c, hc⟩ : ∃ c, capI n = c := ⟨_, rfl⟩
  have HE : Hid (L8.new n = ⟨c, []⟩) := Lib.hid (by rw [← hc]; rfl)
  rw [hc] at HB
  rw [HE.out] at HOK ⊢
  clear hc HE hb
  go_enter Try.func9, Try.ntmps9
  go_wp2_with fail
  refine HN.out.mono ?_
  rintro e w2 ⟨sp, rfl, h, hk⟩
  have H2 := Lib.hid h
  have HK := Lib.hid hk
  clear h hk
  go_wp2_with fail
  refine (HB.out w2).mono ?_
  rintro e w3 ⟨rfl, rfl⟩
  have hz2 := H2.out.below.size
  have hlow := low_one w2 (.cells (cacheC sp c) CaT)
  have HF : Hid (EP w0 w w2.heap.size ⟨c, []⟩ 0 (w2.alloc (.cells (cacheC sp c) CaT))) := Lib.hid ⟨⟨HOK.out, by decide, hz2, sp, 8, Tb.new, heap_alloc_new w2 _, (H2.out.less (K' := []) (by simp)).other hlow (fun k hk => by
    simp only [List.mem_singleton] at hk
    subst hk
    exact ⟨.inr (Nat.le_refl _), by simp⟩), R8.start⟩, fun g hg => (hlow.block g (by
      have := HK.out g (allN_mem.2 hg)
      exact (hg.keep this).lt)).trans (HK.out g (allN_mem.2 hg))⟩
  clear hlow
  go_wp2
  go_ret
  exact ⟨_, rfl, HF.out⟩
theorem etouch_walk (h : EC w0 w xp s top) (k : Nat) (h64 : k < 18446744073709551616) :
    Calls Try.prog 35 #[ptr xp, .int .u64 (k : Nat)] w fun e w' => e = .returned (.tuple #[]) ∧ EP w0 w xp (s.touch k) top w' := by
  obtain ⟨sp, h1, h2⟩ := h.open
  have HO := Lib.hid (eopen_walk h1)
  have HM : Hid (∀ W, Below w.heap.size w W → Calls Try.prog 56 #[ptr sp, .int .i64 0, .int .u64 (k : Nat)] W fun e w' => ∃ b, e = .returned (.bool b) ∧ EP w0 w xp (s.touch k) top w') := Lib.hid (fun W hb => by
    refine (k_move (h2.still hb) h.small k h64).mono ?_
    rintro e w' ⟨rfl, g1, g2, g3⟩
    refine ⟨_, rfl, EC.make (h.ok.touch k) h.small h.ge (sp := sp) ?_ ?_, (Kn.below hb).trans g3⟩
    · have e : (s.touch k).c = s.c := by unfold L8.touch; split <;> rfl
      rw [e]
      exact (g2 xp (by simp)).trans ((hb.block xp h.lt).trans h1)
    · have e : (s.touch k).l = if k ∈ s.l then fr k s.l else s.l := by unfold L8.touch; split <;> rfl
      rw [e]
      exact g1)
  have hfld : ∀ w : World, (Instr.field paT (.agg (cacheC sp s.c)) 0).run Try.prog w = .ok (ptr sp) w := fun _ => by kernel_rfl
  clear h h1 h2
  go_enter Try.func35, Try.ntmps35
  go_wp2_with fail
  refine HO.out.mono ?_
  rintro e w1 ⟨rfl, hb⟩
  go_wp2_with fail
  refine (HM.out w1 hb).mono ?_
  rintro e w2 ⟨b, rfl, hp⟩
  have HP := Lib.hid hp
  clear hp hb
  go_wp2
  exact bodyPost_end (v := .tuple #[]) (by simp [results, Try.results35, go_sem]) rfl ⟨rfl, HP.out⟩
theorem edrop_walk (h : EC w0 w xp s top) (k : Nat) (h64 : k < 18446744073709551616) :
    Calls Try.prog 36 #[ptr xp, .int .u64 (k : Nat)] w fun e w' => e = .returned (.tuple #[]) ∧ EP w0 w xp (s.drop k) top w' := by
  obtain ⟨sp, h1, h2⟩ := h.open
  have HO := Lib.hid (eopen_walk h1)
  have HM : Hid (∀ W, Below w.heap.size w W → Calls Try.prog 57 #[ptr sp, .int .u64 (k : Nat)] W fun e w' => ∃ b, e = .returned (.bool b) ∧ EP w0 w xp (s.drop k) top w') := Lib.hid (fun W hb => by
    refine (k_rem (h2.still hb) h.small k h64).mono ?_
    rintro e w' ⟨rfl, g1, g2, g3⟩
    exact ⟨_, rfl, EC.make (h.ok.drop k) h.small h.ge (sp := sp) ((g2 xp (by simp)).trans ((hb.block xp h.lt).trans h1)) g1, (Kn.below hb).trans g3⟩)
  have hfld : ∀ w : World, (Instr.field paT (.agg (cacheC sp s.c)) 0).run Try.prog w = .ok (ptr sp) w := fun _ => by kernel_rfl
  clear h h1 h2
  go_enter Try.func36, Try.ntmps36
  go_wp2_with fail
  refine HO.out.mono ?_
  rintro e w1 ⟨rfl, hb⟩
  go_wp2_with fail
  refine (HM.out w1 hb).mono ?_
  rintro e w2 ⟨b, rfl, hp⟩
  have HP := Lib.hid hp
  clear hp hb
  go_wp2
  exact bodyPost_end (v := .tuple #[]) (by simp [results, Try.results36, go_sem]) rfl ⟨rfl, HP.out⟩
theorem ehas_walk (h : EC w0 w xp s top) (k : Nat) (h64 : k < 18446744073709551616) :
    Calls Try.prog 18 #[ptr xp, .int .u64 (k : Nat)] w (RetB w (decide (k ∈ s.keys))) := by
  obtain ⟨sp, h1, h2⟩ := h.open
  have HO := Lib.hid (eopen_walk h1)
  have HM : Hid (∀ W, Below w.heap.size w W → Calls Try.prog 48 #[ptr sp, .int .u64 (k : Nat)] W fun e w' => e = .returned (.tuple #[.int .i64 0, .bool (decide (k ∈ s.keys))]) ∧ Below w.heap.size w w') := Lib.hid (fun W hb => by
    refine (k_find (h2.still hb) h.small k h64).mono ?_
    rintro e w' ⟨rfl, g1⟩
    exact ⟨rfl, hb.trans (g1.mono hb.size)⟩)
  have hfld : ∀ w : World, (Instr.field paT (.agg (cacheC sp s.c)) 0).run Try.prog w = .ok (ptr sp) w := fun _ => by kernel_rfl
  generalize decide (k ∈ s.keys) = b at HM ⊢
  clear h h1 h2
  go_enter Try.func18, Try.ntmps18
  go_wp2_with fail
  refine HO.out.mono ?_
  rintro e w1 ⟨rfl, hb⟩
  go_wp2_with fail
  refine (HM.out w1 hb).mono ?_
  rintro e w2 ⟨rfl, hp⟩
  have HP := Lib.hid hp
  clear hp hb
  go_wp2
  go_ret
  exact ⟨rfl, HP.out⟩
theorem ekeys_walk (h : EC w0 w xp s top) :
    Calls Try.prog 17 #[ptr xp] w (RetK w s.keys) := by
  obtain ⟨sp, h1, h2⟩ := h.open
  have HO := Lib.hid (eopen_walk h1)
  have HM : Hid (∀ W, Below w.heap.size w W → Calls Try.prog 47 #[ptr sp, .int .i64 0] W fun e w' => ∃ v, e = .returned v ∧ Below w.heap.size w w' ∧ KV w' v s.keys) := Lib.hid (fun W hb => by
    refine (k_keys (h2.still hb) h.small).mono ?_
    rintro e w' ⟨v, rfl, g1, g2⟩
    exact ⟨v, rfl, hb.trans (g1.mono hb.size), g2.kv⟩)
  have hfld : ∀ w : World, (Instr.field paT (.agg (cacheC sp s.c)) 0).run Try.prog w = .ok (ptr sp) w := fun _ => by kernel_rfl
  clear h h1 h2
  go_enter Try.func17, Try.ntmps17
  go_wp2_with fail
  refine HO.out.mono ?_
  rintro e w1 ⟨rfl, hb⟩
  go_wp2_with fail
  refine (HM.out w1 hb).mono ?_
  rintro e w2 ⟨v, rfl, hp, hv⟩
  have HP := Lib.hid hp
  have HV := Lib.hid hv
  clear hp hb hv
  go_wp2
  go_ret
  exact ⟨_, rfl, HP.out, HV.out⟩
theorem eghosts_walk (p : Value) :
    Calls Try.prog 20 #[p] w fun e w' => e = .returned (.int .i64 0) ∧ w = w' := by
  go_enter Try.func20, Try.ntmps20
  go_wp2
  go_ret
  exact ⟨rfl, rfl⟩
theorem erooms_walk (h : EC w0 w xp s top) :
    Calls Try.prog 33 #[ptr xp] w fun e w' => ∃ a b : Nat, e = .returned (.tuple #[.int .i64 (a : Nat), .int .i64 (b : Nat)]) ∧ Below w.heap.size w w' ∧ s.l.length ≤ a ∧ s.l.length ≤ b ∧ a ≤ 2 * top + 8 ∧ b ≤ 3 * top + 8 ∧ R8 a ∧ R8 b := by
  obtain ⟨sp, h1, h2⟩ := h.open
  have HO := Lib.hid (eopen_walk h1)
  have HM : Hid (∀ W, Below w.heap.size w W → Calls Try.prog 55 #[ptr sp] W fun e w' => ∃ a b : Nat, e = .returned (.tuple #[.int .i64 (a : Nat), .int .i64 (b : Nat)]) ∧ Hid (Below w.heap.size w w' ∧ s.l.length ≤ a ∧ s.l.length ≤ b ∧ a ≤ 2 * top + 8 ∧ b ≤ 3 * top + 8 ∧ R8 a ∧ R8 b)) := Lib.hid (fun W hb => by
    refine (k_rooms (h2.still hb)).mono ?_
    rintro e w' ⟨a, b, rfl, g1, g2⟩
    exact ⟨a, b, rfl, Lib.hid ⟨hb.trans (g1.mono hb.size), g2⟩⟩)
  have hfld : ∀ w : World, (Instr.field paT (.agg (cacheC sp s.c)) 0).run Try.prog w = .ok (ptr sp) w := fun _ => by kernel_rfl
  clear h h1 h2
  go_enter Try.func33, Try.ntmps33
  go_wp2_with fail
  refine HO.out.mono ?_
  rintro e w1 ⟨rfl, hb⟩
  go_wp2_with fail
  refine (HM.out w1 hb).mono ?_
  rintro e w2 ⟨a, b, rfl, hp⟩
  clear hb
  go_wp2
  exact bodyPost_ret (v := .tuple #[.int .i64 (a : Nat), .int .i64 (b : Nat)]) (by simp [results, Try.results33, go_sem]) rfl ⟨_, _, rfl, hp.out⟩
end
end Go.Proofs.Ytebdggoncnhjeaa
