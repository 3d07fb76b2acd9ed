/- Words and walks: EqE EqF EqW. -/
import Derived.Test.YtkhikpnlpcankaaG1
import Derived.Test.YtkhikpnlpcankaaG15
import Derived.Test.YtkhikpnlpcankaaG17
namespace Go.Proofs.Ytkhikpnlpcankaa
open Go Go.RowKit Go.Deep
def Kn (w w' : World) : Prop := ∀ g, NP w g → w'.heap[g]? = w.heap[g]?
section
variable {w w' w2 : World}
theorem Kn.refl (w : World) : Kn w w := fun _ _ => rfl
theorem Kn.trans (h : Kn w w') (h2 : Kn w' w2) : Kn w w2 := fun g hg => (h2 g (hg.keep (h g hg))).trans (h g hg)
theorem Kn.below (h : Below w.heap.size w w') : Kn w w' := fun g hg => h.block g hg.lt
theorem RV.kn {v : Value} {size n : Nat} {xs : List Value} (h : RV w size v n xs) (hk : Kn w w') : RV w' size v n xs := by
  obtain ⟨hl, ⟨F, c, rfl, h1, h2, h3⟩, hn⟩ := h
  refine ⟨hl, ⟨F, c, rfl, h1, h2, fun j u hu => ?_⟩, fun m c ad e => (hn m c ad e).keep (hk _ (hn m c ad e))⟩
  obtain ⟨ad, rfl, h4, h5⟩ := h3 j u hu
  have hn0 : 0 < n := by
    rcases Nat.eq_zero_or_pos n with rfl | q
    · have := (List.getElem?_eq_some_iff.1 hu).1
      omega
    · exact q
  obtain ⟨k, rfl⟩ : ∃ k, n = k + 1 := ⟨n - 1, by omega⟩
  have hp := hn k c ad rfl
  refine ⟨ad, rfl, (hp.keep (hk _ hp)).lt, ?_⟩
  refine Eq.trans (World.cell?_of_block (w := w) ?_) h5
  rw [ad_block]
  exact hk _ hp
theorem KV.kn {v : Value} {ks : List Nat} (h : KV w v ks) (hk : Kn w w') : KV w' v ks := RV.kn h hk
theorem KO.kn {B : Nat} {v : Value} {ks : List Nat} (h : KO B w w v ks) (hk : Kn w w') : KO B w' w' v ks := by
  refine ⟨Below.refl _ _, h.own.1, ?_⟩
  rcases h.own.2 with q | ⟨g, cap, cur, e1, e2, e3, e4⟩
  · exact .inl q
  · exact .inr ⟨g, cap, cur, e1, e2, (hk g (NP.cells e3 (by decide))).trans e3, e4⟩
end
noncomputable def allN (w : World) : List Nat := (List.range w.heap.size).filter (fun g => @decide (NP w g) (Classical.propDecidable _))
theorem allN_mem {w : World} {g : Nat} : g ∈ allN w ↔ NP w g := by
  unfold allN
  rw [List.mem_filter, List.mem_range]
  constructor
  · exact fun h => by simpa using h.2
  · exact fun h => ⟨h.lt, by simpa using h⟩
section
variable {w0 w w' : World} {sp n m most : Nat} {Q Q' : Nat → List Ent} {U U' : Tb} {K : List Nat} {m' most' : Nat} {ok : Bool}
theorem si_any {f : FuncId} {args : Array Value} (h : SI w0 w sp n Q m U most K) (hc : ∀ K', SI w0 w sp n Q m U most K' → Calls Try.prog f args w (SIPost w0 w sp n Q' m' U' most' K' ok)) :
    Calls Try.prog f args w fun e w' => e = .returned (.bool ok) ∧ SI w0 w' sp n Q' m' U' most' K ∧ Kept K w w' ∧ Kn w w' := by
  have h1 : SI w0 w sp n Q m U most (K ++ allN w) := h.sty h.below (Sty.refl w) (Nat.le_refl _) (fun k hk => by
    rcases List.mem_append.1 hk with q | q
    · exact ⟨h.old k q, .inl q⟩
    · exact ⟨(allN_mem.1 q).lt, .inr (fun q2 => q2.not (allN_mem.1 q))⟩)
  refine (hc _ h1).mono ?_
  rintro e w' ⟨rfl, g1, g2⟩
  exact ⟨rfl, g1.less (fun k hk => by simp [hk]), fun k hk => g2 k (by simp [hk]), fun g hg => g2 g (by simp [allN_mem.2 hg])⟩
end
def R8 (m : Nat) : Prop := ∃ p, m = 8 * 2 ^ p
theorem R8.start : R8 8 := ⟨0, rfl⟩
theorem R8.room {m : Nat} (h : R8 m) (Q : Nat → List Ent) (n : Nat) : R8 (roomE Q n m) := by
  unfold roomE
  split
  · obtain ⟨p, rfl⟩ := h
    exact ⟨p + 1, by rw [Nat.pow_succ]; omega⟩
  · exact h
theorem R8.small {m : Nat} (h : R8 m) (hm : m < 16) : m = 8 := by
  obtain ⟨p, rfl⟩ := h
  cases p with
  | zero => rfl
  | succ p =>
    have := Nat.one_le_two_pow (n := p)
    rw [Nat.pow_succ] at hm
    omega
def en0 (k : Nat) : Ent := ⟨k, 0, 0⟩
section
variable {l : List Nat}
theorem cut_wo : ∀ (l : List Nat) (_ : l.Nodup) (i : Nat) (hi : i < l.length), l.take i ++ l.drop (i + 1) = wo l[i] l
  | [], _, _, hi => by simp at hi
  | x :: xs, hn, 0, _ => by
    have hx := (List.nodup_cons.1 hn).1
    show xs = wo x (x :: xs)
    have : wo x (x :: xs) = wo x xs := by simp [wo]
    rw [this, wo_none8 hx]
  | x :: xs, hn, i + 1, hi => by
    have hx := (List.nodup_cons.1 hn).1
    have hi' : i < xs.length := by simpa using hi
    have hne : x ≠ xs[i] := fun e => hx (e ▸ List.getElem_mem hi')
    have e := cut_wo xs (List.nodup_cons.1 hn).2 i hi'
    show x :: (xs.take i ++ xs.drop (i + 1)) = wo xs[i] (x :: xs)
    rw [e]
    simp [wo, hne]
theorem last_is (h0 : 0 < l.length) : l.getLastD 0 = l[l.length - 1] := by
  rw [List.getLastD_eq_getLast?, List.getLast?_eq_getElem?, List.getElem?_eq_getElem (by omega)]
  rfl
end
section
variable {U : Tb}
end
def KF (b : Nat) (w W : World) (v : Value) (ks : List Nat) : Prop := ∃ B, KO B W W v ks ∧ b ≤ B ∧ B ≤ W.heap.size ∧ ∀ g, NP w g → g < B
section
variable {b : Nat} {w W W' : World} {v v' : Value} {ks : List Nat}
theorem Kn.lt {g : Nat} (hk : Kn w W) (hg : NP w g) : g < W.heap.size := (hg.keep (hk g hg)).lt
theorem KF.nil (hk : Kn w W) (hb : b ≤ W.heap.size) : KF b w W (.slice none 0 0) [] := ⟨W.heap.size, KO.nil (Below.refl _ _), hb, Nat.le_refl _, fun _ hg => hk.lt hg⟩
theorem KF.kv (h : KF b w W v ks) : KV W v ks := by
  obtain ⟨B, h1, _⟩ := h
  exact h1.kv
theorem KF.kn (h : KF b w W v ks) (hkw : Kn w W) (hk : Kn W W') (hb : b ≤ W'.heap.size) : KF b w W' v ks := by
  obtain ⟨B, h1, h2, h3, h4⟩ := h
  have hk2 := hkw.trans hk
  have h5 := h1.kn hk
  rcases h5.own.2 with ⟨rfl, q⟩ | ⟨g, cap, cur, e1, e2, e3, e4⟩
  · obtain rfl : ks = [] := List.eq_nil_of_length_eq_zero q
    exact KF.nil hk2 hb
  · have := (Array.getElem?_eq_some_iff.1 e3).1
    exact ⟨B, h5, h2, by omega, h4⟩
end
def Qm (l : Nat → List Nat) : Nat → List Ent := fun t => (l t).map en0
def mvQ (l : Nat → List Nat) (t u k : Nat) : Nat → List Nat := upd (upd l t (wo k (l t))) u (k :: upd l t (wo k (l t)) u)
def rmQ (l : Nat → List Nat) (t k : Nat) : Nat → List Nat := upd l t (wo k (l t))
def puQ (l : Nat → List Nat) (u k : Nat) : Nat → List Nat := upd l u (k :: l u)
section
variable {l : Nat → List Nat} {n : Nat}
theorem qm_len (l : Nat → List Nat) (t : Nat) : (Qm l t).length = (l t).length := by simp [Qm]
theorem qm_key (l : Nat → List Nat) (t i : Nat) (hi : i < (Qm l t).length) : ((Qm l t)[i]).key = (l t)[i]'(by rw [← qm_len l t]; exact hi) := by simp [Qm, en0]
theorem qm_nokey (k : Nat) : NoKey n (Qm l) k ↔ ∀ t, t < n → k ∉ l t := by
  constructor
  · intro h t ht hk
    obtain ⟨i, hi, rfl⟩ := List.getElem_of_mem hk
    exact h t i ht (by rw [qm_len]; exact hi) (qm_key l t i _)
  · intro h t i ht hi e
    rw [qm_key] at e
    exact h t ht (e ▸ List.getElem_mem _)
theorem qm_qI {t : Nat} (ht : t < n) : qI n (Qm l) (t : Nat) = (l t).map en0 := by
  unfold qI
  rw [hasT_of ht, if_pos rfl]
  rfl
theorem map_keys (xs : List Nat) : (xs.map en0).map Ent.key = xs := by
  rw [List.map_map]
  exact (List.map_congr_left (fun _ _ => rfl)).trans (List.map_id xs)
theorem map_last (xs : List Nat) : lastK (xs.map en0) = xs.getLastD 0 := by
  unfold lastK
  rw [List.getLast?_map, Option.map_map]
  cases h : xs.getLast? with
  | none => rw [List.getLast?_eq_none_iff.1 h]; rfl
  | some x => simp [List.getLastD_eq_getLast?, h, en0]
theorem qm_cut {t : Nat} (hn : (l t).Nodup) (i : Nat) (hi : i < (l t).length) : cutE (Qm l t) i = (wo (l t)[i] (l t)).map en0 := by
  rw [← cut_wo (l t) hn i hi]
  simp [cutE, Qm, List.map_take, List.map_drop]
theorem qm_upd (t : Nat) (xs : List Nat) : Qm (upd l t xs) = upd (Qm l) t (xs.map en0) := by
  funext j
  unfold Qm upd
  split <;> rfl
theorem qm_mov {t : Nat} (hn : (l t).Nodup) (i : Nat) (hi : i < (l t).length) (hi' : i < (Qm l t).length) (u : Nat) : movE (Qm l) t i u ((Qm l t)[i]) = Qm (mvQ l t u (l t)[i]) := by
  have e : (Qm l t)[i] = en0 (l t)[i] := by simp [Qm]
  unfold movE mvQ
  rw [qm_upd, qm_upd, qm_cut hn i hi, e]
  congr 1
  show en0 (l t)[i] :: _ = en0 (l t)[i] :: _
  congr 1
  have : upd (Qm l) t ((wo (l t)[i] (l t)).map en0) u = Qm (upd l t (wo (l t)[i] (l t))) u := by rw [qm_upd]
  rw [this]
  rfl
theorem qm_rem {t : Nat} (hn : (l t).Nodup) (i : Nat) (hi : i < (l t).length) : upd (Qm l) t (cutE (Qm l t) i) = Qm (rmQ l t (l t)[i]) := by
  unfold rmQ
  rw [qm_upd, qm_cut hn i hi]
theorem qm_push (u k : Nat) : pushedQ true (Qm l) u k = Qm (puQ l u k) := by
  unfold puQ pushedQ
  rw [qm_upd]
  rfl
end
section
variable {w0 w : World} {sp top n : Nat} {l : Nat → List Nat} {K : List Nat}
def SK (w0 w : World) (sp n : Nat) (l : Nat → List Nat) (top : Nat) (K : List Nat) : Prop := ∃ m U, SI w0 w sp n (Qm l) m U top K ∧ R8 m
theorem SK.key64 (h : SK w0 w sp n l top K) {t k : Nat} (ht : t < n) (hk : k ∈ l t) : k < 18446744073709551616 := by
  obtain ⟨m, U, h, h8⟩ := h
  obtain ⟨i, hi, rfl⟩ := List.getElem_of_mem hk
  have := h.key64 (t := t) (i := i) ht (by rw [qm_len]; exact hi)
  rw [qm_key] at this
  exact this
theorem SK.below (h : SK w0 w sp n l top K) : Below w0.heap.size w0 w := by
  obtain ⟨m, U, h, h8⟩ := h
  exact h.below
theorem SK.sum (h : SK w0 w sp n l top K) : sumE (Qm l) n ≤ top := by
  obtain ⟨m, U, h, h8⟩ := h
  exact h.ok.le
theorem SK.nodup (h : SK w0 w sp n l top K) {t : Nat} (ht : t < n) : (l t).Nodup := by
  obtain ⟨m, U, h, h8⟩ := h
  refine List.pairwise_iff_getElem.2 (fun i j hi hj hij e => ?_)
  have q := (h.ok.uq t t i j ht ht (by rw [qm_len]; exact hi) (by rw [qm_len]; exact hj) (by rw [qm_key, qm_key]; exact e)).2
  omega
theorem SK.congr {l' : Nat → List Nat} (h : SK w0 w sp n l top K) (hl : ∀ t, t < n → l t = l' t) : SK w0 w sp n l' top K := by
  obtain ⟨m, U, h, h8⟩ := h
  exact ⟨m, U, h.congr (fun t ht => by unfold Qm; rw [hl t ht]), h8⟩
theorem SK.sty {w' : World} (h : SK w0 w sp n l top K) (hb : Below w0.heap.size w0 w') (hs : Sty w w') (hz : w.heap.size ≤ w'.heap.size) : SK w0 w' sp n l top K := by
  obtain ⟨m, U, h, h8⟩ := h
  exact ⟨m, U, h.sty hb hs hz (fun k hk => ⟨Nat.lt_of_lt_of_le (h.old k hk) hz, .inl hk⟩), h8⟩
theorem SK.styK {w' : World} (h : SK w0 w sp n l top K) (hb : Below w0.heap.size w0 w') (hs : StyK K w w') (hz : w.heap.size ≤ w'.heap.size) : SK w0 w' sp n l top K := by
  obtain ⟨m, U, h, h8⟩ := h
  exact ⟨m, U, h.styK hb hs hz (fun k hk => ⟨Nat.lt_of_lt_of_le (h.old k hk) hz, .inl hk⟩), h8⟩
theorem SK.still {w' : World} (h : SK w0 w sp n l top K) (hb : Below w.heap.size w w') : SK w0 w' sp n l top K := h.sty (h.below.trans (hb.mono h.below.size)) (Sty.below hb) hb.size
def SKP (w0 w : World) (sp n : Nat) (l : Nat → List Nat) (top : Nat) (K : List Nat) (ok : Bool) (e : Ending) (w' : World) : Prop :=
  e = .returned (.bool ok) ∧ SK w0 w' sp n l top K ∧ Kept K w w' ∧ Kn w w'
theorem m_find_in (h : SK w0 w sp n l top K) (hm : top ≤ 10000) {t k : Nat} (ht : t < n) (hk : k ∈ l t) :
    Calls Try.prog 31 #[ptr sp, .int .u64 (k : Nat)] w fun e w' => e = .returned (.tuple #[.int .i64 (t : Nat), .bool true]) ∧ Below w.heap.size w w' := by
  obtain ⟨m, U, h, h8⟩ := h
  obtain ⟨i, hi, rfl⟩ := List.getElem_of_mem hk
  exact si_find_in h hm t i ht (by rw [qm_len]; exact hi) _ (qm_key l t i _)
theorem m_find_out (h : SK w0 w sp n l top K) (hm : top ≤ 10000) (k : Nat) (h64 : k < 18446744073709551616) (hk : ∀ t, t < n → k ∉ l t) :
    Calls Try.prog 31 #[ptr sp, .int .u64 (k : Nat)] w fun e w' => e = .returned (.tuple #[.int .i64 0, .bool false]) ∧ Below w.heap.size w w' := by
  obtain ⟨m, U, h, h8⟩ := h
  exact si_find_out h hm k h64 ((qm_nokey k).2 hk)
theorem m_move (h : SK w0 w sp n l top K) (hm : top ≤ 10000) {t k u : Nat} (ht : t < n) (hk : k ∈ l t) (hu : u < n) :
    Calls Try.prog 58 #[ptr sp, .int .i64 (u : Nat), .int .u64 (k : Nat)] w (SKP w0 w sp n (mvQ l t u k) top K true) := by
  have hn := h.nodup ht
  obtain ⟨m, U, h, h8⟩ := h
  obtain ⟨i, hi, rfl⟩ := List.getElem_of_mem hk
  have hi' : i < (Qm l t).length := by rw [qm_len]; exact hi
  refine (si_any h (fun K' h' => si_move h' hm t i ht hi' _ (qm_key l t i _) u hu)).mono ?_
  rintro e w' ⟨rfl, g1, g2, g3⟩
  rw [qm_mov hn i hi hi'] at g1
  exact ⟨rfl, ⟨_, _, g1, h8⟩, g2, g3⟩
theorem m_move_no (h : SK w0 w sp n l top K) (hm : top ≤ 10000) {k u : Nat} (h64 : k < 18446744073709551616) (hk : ∀ t, t < n → k ∉ l t) (hu : u < n) :
    Calls Try.prog 58 #[ptr sp, .int .i64 (u : Nat), .int .u64 (k : Nat)] w (SKP w0 w sp n l top K false) := by
  obtain ⟨m, U, h, h8⟩ := h
  refine (si_any h (fun K' h' => si_move_no h' hm (u : Nat) k h64 (.inr (.inr ⟨by omega, by omega, (qm_nokey k).2 hk⟩)))).mono ?_
  rintro e w' ⟨rfl, g1, g2, g3⟩
  exact ⟨rfl, ⟨_, _, g1, h8⟩, g2, g3⟩
theorem m_rem (h : SK w0 w sp n l top K) (hm : top ≤ 10000) {t k : Nat} (ht : t < n) (hk : k ∈ l t) :
    Calls Try.prog 55 #[ptr sp, .int .u64 (k : Nat)] w (SKP w0 w sp n (rmQ l t k) top K true) := by
  have hn := h.nodup ht
  obtain ⟨m, U, h, h8⟩ := h
  obtain ⟨i, hi, rfl⟩ := List.getElem_of_mem hk
  have hi' : i < (Qm l t).length := by rw [qm_len]; exact hi
  refine (si_any h (fun K' h' => si_rem h' hm t i ht hi' _ (qm_key l t i _))).mono ?_
  rintro e w' ⟨rfl, g1, g2, g3⟩
  rw [qm_rem hn i hi] at g1
  exact ⟨rfl, ⟨_, _, g1, h8⟩, g2, g3⟩
theorem m_rem_no (h : SK w0 w sp n l top K) (hm : top ≤ 10000) {k : Nat} (h64 : k < 18446744073709551616) (hk : ∀ t, t < n → k ∉ l t) :
    Calls Try.prog 55 #[ptr sp, .int .u64 (k : Nat)] w (SKP w0 w sp n l top K false) := by
  obtain ⟨m, U, h, h8⟩ := h
  refine (si_any h (fun K' h' => si_rem_no h' hm k h64 ((qm_nokey k).2 hk))).mono ?_
  rintro e w' ⟨rfl, g1, g2, g3⟩
  exact ⟨rfl, ⟨_, _, g1, h8⟩, g2, g3⟩
theorem m_push (h : SK w0 w sp n l top K) (hm : top ≤ 10000) {k u : Nat} (h64 : k < 18446744073709551616) (hk : ∀ t, t < n → k ∉ l t) (hu : u < n) {top' : Nat} (ht : top ≤ top') (hl : sumE (Qm l) n + 1 ≤ top') :
    Calls Try.prog 64 #[ptr sp, .int .i64 (u : Nat), .int .u64 (k : Nat)] w (SKP w0 w sp n (puQ l u k) top' K true) := by
  obtain ⟨m, U, h, h8⟩ := h
  refine (si_any h (fun K' h' => si_pushF h' hm u hu k h64 ((qm_nokey k).2 hk))).mono ?_
  rintro e w' ⟨rfl, g1, g2, g3⟩
  rw [qm_push] at g1
  exact ⟨rfl, ⟨_, _, g1.more (by omega), h8.room _ _⟩, g2, g3⟩
theorem m_len (h : SK w0 w sp n l top K) {t : Nat} (ht : t < n) :
    Calls Try.prog 36 #[ptr sp, .int .i64 (t : Nat)] w fun e w' => e = .returned (.int .i64 ((l t).length : Nat)) ∧ Below w.heap.size w w' := by
  obtain ⟨m, U, h, h8⟩ := h
  have := si_len h (t : Nat)
  rw [qm_qI ht, List.length_map] at this
  exact this
theorem m_back (h : SK w0 w sp n l top K) (hm : top ≤ 10000) {t : Nat} (ht : t < n) :
    Calls Try.prog 57 #[ptr sp, .int .i64 (t : Nat)] w fun e w' => e = .returned (.tuple #[.int .u64 ((l t).getLastD 0 : Nat), .bool (decide (0 < (l t).length))]) ∧ Below w.heap.size w w' := by
  obtain ⟨m, U, h, h8⟩ := h
  have := si_back h hm (t : Nat)
  rw [qm_qI ht, map_last, List.length_map] at this
  exact this
theorem m_keys (h : SK w0 w sp n l top K) (hm : top ≤ 10000) {t : Nat} (ht : t < n) :
    Calls Try.prog 30 #[ptr sp, .int .i64 (t : Nat)] w fun e w' => ∃ v, e = .returned v ∧ Below w.heap.size w w' ∧ KO w.heap.size w w' v (l t) := by
  obtain ⟨m, U, h, h8⟩ := h
  refine (si_keys_own h hm (t : Nat)).mono ?_
  rintro e w' ⟨v, rfl, hb, ho⟩
  rw [qm_qI ht, map_keys] at ho
  exact ⟨v, rfl, hb, hb, ho⟩
theorem m_rooms (h : SK w0 w sp n l top K) :
    Calls Try.prog 28 #[ptr sp] w fun e w' => ∃ a b : Nat, e = .returned (.tuple #[.int .i64 (a : Nat), .int .i64 (b : Nat)]) ∧ Below w.heap.size w w' ∧ sumE (Qm l) n ≤ a ∧ sumE (Qm l) n ≤ b ∧ a ≤ 2 * top + 8 ∧ b ≤ 3 * top + 8 := by
  obtain ⟨m, U, h, h8⟩ := h
  have h1 := h.room
  have h2 := h.ok.an
  have h3 := h.ok.tn
  exact (si_rooms h).mono (fun e w' ⟨he, hb⟩ => ⟨m, U.n, he, hb, by omega, h1.2, h2, h3⟩)
end
end Go.Proofs.Ytkhikpnlpcankaa
