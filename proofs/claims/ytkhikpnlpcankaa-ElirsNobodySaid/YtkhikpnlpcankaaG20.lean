/- Words and walks: LiV LiR LiI LiS LiT LiF LiO LiN LiH LiJ LiY. -/
import Derived.Test.YtkhikpnlpcankaaG0
import Derived.Test.YtkhikpnlpcankaaG1
import Derived.Test.YtkhikpnlpcankaaG15
import Derived.Test.YtkhikpnlpcankaaG16
import Derived.Test.YtkhikpnlpcankaaG19
import Derived.IntWalk
import Derived.Deep.LoopGhost
import Derived.Deep.QuietTactic
import Derived.BigQuiet
import Derived.Deep.RegionHeld3
import Derived.Deep.RegionWith
import Derived.Deep.RegionLaw
import Derived.Deep.CutRange
import Derived.Deep.DeepCutAuto
namespace Go.Proofs.Ytkhikpnlpcankaa
open Go Go.RowKit Go.Deep
structure Bx12 (w w1 : World) (T : TypeId) (b r : Nat) (s : L12) (u1 u2 : Value) : Prop where
  bo : Bo w w1 T b r (l12C s.c u1 u2) z12
  st : St12 w1 s u1 u2
section
variable {w w1 w2 : World} {T : TypeId} {b r : Nat} {s : L12} {u1 u2 : Value}
theorem Bx12.start (w : World) (T : TypeId) (hT : T ≠ 28) {s : L12} {F1 : Option Addr} {n1 d1 : Nat} {F2 : Option Addr} {n2 d2 : Nat} (h : St12 w s (.slice F1 n1 d1) (.slice F2 n2 d2)) : Bx12 w ((w.alloc (.cells (l12C s.c (.slice F1 n1 d1) (.slice F2 n2 d2)) T)).alloc (.cells z12 T)) T w.heap.size (w.heap.size + 1) s (.slice F1 n1 d1) (.slice F2 n2 d2) :=
  ⟨Bo.start w T _ _ rfl rfl hT, h.below (low_two w _ _)⟩
theorem Bx12.step (h : Bx12 w w1 T b r s u1 u2) (hb : Below w1.heap.size w1 w2) : Bx12 w w2 T b r s u1 u2 := ⟨h.bo.step hb, h.st.below hb⟩
theorem Bx12.kv {v : Value} {ks : List Nat} {i : Nat} {x : Value} (h : Bx12 w w1 T b r s u1 u2) (hk : KV w1 v ks) : KV (w1.setCell ⟨b, i, none⟩ x) v ks := h.bo.kv ((Only.refl _ _).setCell (by simp) _) hk
theorem Bx12.only (_ : Bx12 w w1 T b r s u1 u2) : Only [b, r] w1 (((w1.setCell ⟨r, 0, none⟩ (.int .i64 (s.c : Nat))).setCell ⟨r, 1, none⟩ u1).setCell ⟨r, 2, none⟩ u2) := (((Only.refl _ _).setCell (by simp) _).setCell (by simp) _).setCell (by simp) _
theorem Bx12.done (h : Bx12 w w1 T b r s u1 u2) : P12 w s (.returned (.agg (l12C s.c u1 u2))) (((w1.setCell ⟨r, 0, none⟩ (.int .i64 (s.c : Nat))).setCell ⟨r, 1, none⟩ u1).setCell ⟨r, 2, none⟩ u2) := ⟨_, _, rfl, h.bo.fin h.only, h.bo.st12 h.only h.st⟩
theorem Bx12.put {s' : L12} {u1 u2 : Value} {F1 : Option Addr} {n1 d1 : Nat} {F2 : Option Addr} {n2 d2 : Nat} (h : Bx12 w w1 T b r s u1 u2) (hs : St12 w1 s' (.slice F1 n1 d1) (.slice F2 n2 d2)) : Bx12 w (((w1.setCell ⟨b, 0, none⟩ (.int .i64 (s'.c : Nat))).setCell ⟨b, 1, none⟩ (.slice F1 n1 d1)).setCell ⟨b, 2, none⟩ (.slice F2 n2 d2)) T b r s' (.slice F1 n1 d1) (.slice F2 n2 d2) := by
  obtain ⟨h1, h2⟩ := c3_set h.bo.box (.int .i64 (s'.c : Nat)) (.slice F1 n1 d1) (.slice F2 n2 d2)
  have ho : Only [b, r] w1 (((w1.setCell ⟨b, 0, none⟩ (.int .i64 (s'.c : Nat))).setCell ⟨b, 1, none⟩ (.slice F1 n1 d1)).setCell ⟨b, 2, none⟩ (.slice F2 n2 d2)) := (((Only.refl _ _).setCell (by simp) _).setCell (by simp) _).setCell (by simp) _
  exact ⟨⟨h.bo.fin ho, h1, (h2.block r (head_row h.bo.res).lt (by simpa using fun e => h.bo.ge.2.2 e.symm)).trans h.bo.res, h.bo.ge, ⟨rfl, h.bo.nu.2⟩, h.bo.ty⟩, h.bo.st12 ho hs⟩
theorem Bx12.alloc {s' : L12} {v1 v2 : Value} {F1 : Option Addr} {n1 d1 : Nat} {F2 : Option Addr} {n2 d2 : Nat} (h : Bx12 w w1 T b r s' v1 v2) (hs : St12 w1 s (.slice F1 n1 d1) (.slice F2 n2 d2)) : Bx12 w (w1.alloc (.cells (l12C s.c (.slice F1 n1 d1) (.slice F2 n2 d2)) T)) T w1.heap.size r s (.slice F1 n1 d1) (.slice F2 n2 d2) :=
  ⟨h.bo.alloc _ rfl, hs.below (low_one w1 _)⟩
end
structure Bs12 (w w1 : World) (T : TypeId) (b : Nat) (s : L12) (u1 u2 : Value) : Prop where
  low : Below w.heap.size w w1
  box : w1.heap[b]? = some (.cells (l12C s.c u1 u2) T (0, 0))
  ge : w.heap.size ≤ b
  ty : T ≠ 28
  st : St12 w1 s u1 u2
section
variable {w w1 w2 : World} {T : TypeId} {b : Nat} {s : L12} {u1 u2 : Value}
theorem Bs12.step (h : Bs12 w w1 T b s u1 u2) (hb : Below w1.heap.size w1 w2) : Bs12 w w2 T b s u1 u2 := ⟨h.low.trans (hb.mono h.low.size), (hb.block b (head_row h.box).lt).trans h.box, h.ge, h.ty, h.st.below hb⟩
theorem Bs12.new {F1 : Option Addr} {n1 d1 : Nat} {F2 : Option Addr} {n2 d2 : Nat} (hT : T ≠ 28) (hb : Below w.heap.size w w1) (hs : St12 w1 s (.slice F1 n1 d1) (.slice F2 n2 d2)) : Bs12 w (w1.alloc (.cells (l12C s.c (.slice F1 n1 d1) (.slice F2 n2 d2)) T)) T w1.heap.size s (.slice F1 n1 d1) (.slice F2 n2 d2) := ⟨hb.alloc hb.size _, heap_alloc_new w1 _, hb.size, hT, hs.below (low_one w1 _)⟩
theorem Bs12.put {s' : L12} {F1 : Option Addr} {n1 d1 : Nat} {F2 : Option Addr} {n2 d2 : Nat} (h : Bs12 w w1 T b s u1 u2) (hs : St12 w1 s' (.slice F1 n1 d1) (.slice F2 n2 d2)) : Bs12 w (((w1.setCell ⟨b, 0, none⟩ (.int .i64 (s'.c : Nat))).setCell ⟨b, 1, none⟩ (.slice F1 n1 d1)).setCell ⟨b, 2, none⟩ (.slice F2 n2 d2)) T b s' (.slice F1 n1 d1) (.slice F2 n2 d2) := by
  obtain ⟨G1, m1, e1, rfl⟩ := h.st.form1
  obtain ⟨G2, m2, e2, rfl⟩ := h.st.form2
  obtain ⟨h1, h2⟩ := c3_set h.box (.int .i64 (s'.c : Nat)) (.slice F1 n1 d1) (.slice F2 n2 d2)
  have hbx : ∀ g ∈ [b], Bx w1 g := fun g hg => by
    rw [List.mem_singleton] at hg
    subst hg
    exact ⟨_, _, h.box, rfl, h.ty⟩
  exact ⟨h.low.trans (h2.below (by simp; exact h.ge) h.low.size), h1, h.ge, h.ty, hs.g1.only h2 hbx, hs.g2.only h2 hbx⟩
theorem Bs12.kv {v : Value} {ks : List Nat} {s' : L12} {v1 v2 : Value} (h : Bs12 w w1 T b s u1 u2) (hk : KV w1 v ks) : KV (((w1.setCell ⟨b, 0, none⟩ (.int .i64 (s'.c : Nat))).setCell ⟨b, 1, none⟩ v1).setCell ⟨b, 2, none⟩ v2) v ks := by
  obtain ⟨G1, m1, e1, rfl⟩ := h.st.form1
  obtain ⟨G2, m2, e2, rfl⟩ := h.st.form2
  have hbx : ∀ g ∈ [b], Bx w1 g := fun g hg => by
    rw [List.mem_singleton] at hg
    subst hg
    exact ⟨_, _, h.box, rfl, h.ty⟩
  exact hk.only ((((Only.refl [b] _).setCell (by simp) _).setCell (by simp) _).setCell (by simp) _) hbx
end
def PlcP (w : World) (xs : List It) (k : Nat) (e : Ending) (w' : World) : Prop := w = w' ∧ ((e = .returned (.int .i64 (-1)) ∧ k ∉ keysI xs) ∨ ∃ (i : Nat) (hi : i < xs.length), e = .returned (.int .i64 (i : Nat)) ∧ xs[i].key = k ∧ ∀ j (hj : j < xs.length), j < i → xs[j].key ≠ k)
def LowP (w : World) (xs : List It) (f : Nat) (e : Ending) (w' : World) : Prop := w = w' ∧ ((e = .returned (.int .i64 (-1)) ∧ ∀ j (hj : j < xs.length), xs[j].f ≠ f) ∨ ∃ (m : Nat) (hm : m < xs.length), e = .returned (.int .i64 (m : Nat)) ∧ xs[m].f = f ∧ ∀ j (hj : j < xs.length), m < j → xs[j].f ≠ f)
section
variable {w : World} {v : Value} {xs : List It}
end
set_option maxRecDepth 8000
def tailI (F : Option Addr) (n c i : Nat) : Value := .slice (if c = i then F else F.map (fun a => a.add (i * 2))) (n - i) (c - i)
theorem itL_drop : ∀ (xs : List It) (m : Nat), itL (xs.drop m) = (itL xs).drop (m * 2)
  | [], m => by simp [itL]
  | x :: xs, 0 => by simp
  | x :: xs, m + 1 => by
    rw [List.drop_succ_cons, itL_cons, itL_drop xs m]
    show _ = List.drop ((m + 1) * 2) (_ :: _ :: itL xs)
    rw [show (m + 1) * 2 = m * 2 + 1 + 1 by omega, List.drop_succ_cons, List.drop_succ_cons]
theorem IV.tail {w : World} {F : Option Addr} {c : Nat} {xs : List It} (h : IV w (.slice F xs.length c) xs) {i : Nat} (hi : i ≤ xs.length) : IV w (tailI F xs.length c i) (xs.drop i) := by
  obtain ⟨hl, ⟨F', c', e, h1, h2, h3⟩, hnp⟩ := h
  injection e with e1 e2 e3
  subst e1 e3
  refine ⟨itL_len _, ⟨(if c = i then F else F.map (fun a => a.add (i * 2))), c - i, by simp [tailI], by simp; omega, fun hn => ?_, fun j u hj => ?_⟩, fun m c2 ad e1 => ?_⟩
  rotate_left 2
  · injection e1 with e1 e2 e3
    obtain ⟨n', hn'⟩ : ∃ n', xs.length = n' + 1 := ⟨xs.length - 1, by omega⟩
    cases F with
    | none => split at e1 <;> cases e1
    | some a =>
      have hb : ad.block = a.block := by
        split at e1
        · injection e1 with e1
          rw [e1]
        · have e4 : a.add (i * 2) = ad := by injection e1
          rw [← e4, ad_block]
      rw [hb]
      exact hnp n' c a (by rw [hn'])
  · split at hn
    · omega
    · cases F with
      | none => have := h2 rfl; omega
      | some a => cases hn
  · have hd : (itL xs)[i * 2 + j]? = some u := by
      rw [itL_drop, List.getElem?_drop] at hj
      exact hj
    obtain ⟨ad, rfl, h4, h5⟩ := h3 _ _ hd
    have hlt : i * 2 + j < xs.length * 2 := by
      have := (List.getElem?_eq_some_iff.1 hd).1
      rw [itL_len] at this
      exact this
    rw [if_neg (by omega)]
    refine ⟨ad.add (i * 2), rfl, by rw [ad_block]; exact h4, ?_⟩
    rw [← h5]
    rw [Addr.add_add]
def Hold12 (cur : Array Value) (off : Nat) (xs : List It) : Prop := ∀ i (h : i < xs.length), cur[off + i * 2]? = some (.int .u64 (xs[i].key : Nat)) ∧ cur[off + i * 2 + 1]? = some (.int .i64 (xs[i].f : Nat))
theorem IV.of_hold12 {w : World} {g off c : Nat} {cur : Array Value} {t : TypeId} {xs : List It} (hg : w.heap[g]? = some (.cells cur t (0, 0))) (h : Hold12 cur off xs) (hc : xs.length ≤ c) (he : okT t = true := by decide) : IV w (.slice (some ⟨g, off, none⟩) xs.length c) xs := by
  refine ⟨itL_len xs, ⟨_, c, rfl, hc, (fun e => by cases e), fun j u hu => ⟨_, rfl, (Array.getElem?_eq_some_iff.1 hg).1, ?_⟩⟩, fun m c' ad e1 => by
    injection e1 with e1
    injection e1 with e1
    subst e1
    exact NP.cells hg he⟩
  have hj := (List.getElem?_eq_some_iff.1 hu).1
  rw [itL_len] at hj
  rw [Addr.add_lit, cell_of_row w g (off + j) cur t (0, 0) hg]
  obtain ⟨i, hi | hi⟩ : ∃ i, j = i * 2 ∨ j = i * 2 + 1 := ⟨j / 2, by omega⟩
  · subst hi
    have hi2 : i < xs.length := by omega
    rw [(h i hi2).1, ← (itL_at xs i hi2).1, hu]
  · subst hi
    have hi2 : i < xs.length := by omega
    rw [← Nat.add_assoc, (h i hi2).2, ← (itL_at xs i hi2).2, hu]
theorem arr_set_other12 {cur : Array Value} {j k : Nat} {x : Value} (h : k ≠ j) : (cur.setIfInBounds j x)[k]? = cur[k]? := by
  rw [Array.getElem?_setIfInBounds]
  split
  · omega
  · rfl
theorem arr_set_same12 {cur : Array Value} {j : Nat} {x : Value} (h : j < cur.size) : (cur.setIfInBounds j x)[j]? = some x := by
  rw [Array.getElem?_setIfInBounds]
  simp [h]
structure SetI (B : Nat) (w0 w : World) (g c i f : Nat) (xs : List It) : Prop where
  lt : g < w.heap.size
  cell : ∃ f0 : Nat, w.cell? ⟨g, i * 2 + 1, none⟩ = some (.int .i64 (f0 : Nat))
  free : w.frozen? ⟨g, i * 2 + 1, none⟩ = false
  low : Below B w0 (w.setCell ⟨g, i * 2 + 1, none⟩ (.int .i64 (f : Nat)))
  iv : IV (w.setCell ⟨g, i * 2 + 1, none⟩ (.int .i64 (f : Nat))) (.slice (some ⟨g, 0, none⟩) xs.length c) xs
theorem OwnI.set {e : TypeId} {B : Nat} {w0 w : World} {v : Value} {xs : List It} (h : OwnI e B w0 w v xs) (hB : B ≤ w.heap.size) {i : Nat} (hi : i < xs.length) (f : Nat) (he : okT e = true := by decide) :
    ∃ g c, v = .slice (some ⟨g, 0, none⟩) xs.length c ∧ xs.length ≤ c ∧ SetI B w0 w g c i f (xs.set i ⟨xs[i].key, f⟩) := by
  rcases h.own.2 with ⟨rfl, h0⟩ | ⟨g, c, cur, rfl, hBg, hg, hle, hc, hsz, htk⟩
  · omega
  · have hh : Hold12 cur 0 xs := fun p hp => by
      obtain ⟨a1, a2⟩ := itL_at xs p hp
      rw [← htk, List.getElem?_take] at a1 a2
      rw [if_pos (by omega)] at a1 a2
      rw [Nat.zero_add]
      exact ⟨by simpa using a1, by simpa using a2⟩
    have hro := head_row hg
    have h1 := (hh i hi).2
    rw [Nat.zero_add] at h1
    have hlt : i * 2 + 1 < cur.size := (Array.getElem?_eq_some_iff.1 h1).1
    refine ⟨g, c, rfl, hle, ⟨hro.lt, ⟨xs[i].f, (cell_of_row w g (i * 2 + 1) cur e (0, 0) hg).trans h1⟩, hro.frozen _, ((Only.refl [g] w).setCell (by simp) _).below (by simp; exact hBg) hB |> h.low.trans, ?_⟩⟩
    have hh2 : Hold12 (cur.setIfInBounds (i * 2 + 1) (.int .i64 (f : Nat))) 0 (xs.set i ⟨xs[i].key, f⟩) := fun p hp => by
      rw [List.length_set] at hp
      have h2 := hh p hp
      rw [List.getElem_set, Nat.zero_add] at *
      by_cases hpi : i = p
      · subst hpi
        rw [if_pos rfl]
        refine ⟨?_, arr_set_same12 hlt⟩
        rw [arr_set_other12 (by omega)]
        exact h2.1
      · rw [if_neg hpi]
        rw [arr_set_other12 (by omega), arr_set_other12 (by omega)]
        exact h2
    exact IV.of_hold12 (set_one hg) hh2 (by rw [List.length_set]; exact hle) he
def RetI12 (w : World) (xs : List It) (e : Ending) (w' : World) : Prop := ∃ v, e = .returned v ∧ Below w.heap.size w w' ∧ IV w' v xs ∧ ∀ u, Nw w.heap.size u v
set_option maxRecDepth 8000
section
variable {w : World} {v : Value} {xs : List It}
end
set_option maxRecDepth 8000
theorem count_len : ∀ (l q : List Nat), (∀ a, l.count a ≤ q.count a) → l.length ≤ q.length
  | [], q, _ => Nat.zero_le _
  | x :: l, q, h => by
    have hx : x ∈ q := List.count_pos_iff.1 (by have := h x; rw [List.count_cons_self] at this; omega)
    have h2 : ∀ a, l.count a ≤ (q.erase x).count a := fun a => by
      have := h a
      rw [List.count_cons] at this
      rw [List.count_erase]
      split at this <;> split <;> simp_all <;> omega
    have h3 := count_len l (q.erase x) h2
    rw [List.length_erase_of_mem hx] at h3
    have := List.length_pos_of_mem hx
    rw [List.length_cons]
    omega
theorem kindK_count {f a : Nat} (s : List It) : (keysI (s.filter (fun x => x.f == f))).count a = ct a f s := by
  induction s with
  | nil => rfl
  | cons x s ih =>
    unfold keysI at *
    rw [List.filter_cons, ct_cons]
    by_cases e : x.f = f
    · rw [if_pos (by simp [e]), List.map_cons, List.count_cons, ih]
      simp [e]
    · rw [if_neg (by simp [e]), ih]
      simp [e]
theorem kindK_len {f : Nat} (s : List It) : (keysI (s.filter (fun x => x.f == f))).length = nk f s := by
  unfold keysI nk
  rw [List.length_map, List.countP_eq_length_filter]
theorem nk_all {s : List It} (h : ∀ x ∈ s, x.f ≤ 2) : s.length = nk 0 s + nk 1 s + nk 2 s := by
  induction s with
  | nil => rfl
  | cons x s ih =>
    have h1 := ih (fun y hy => h y (by simp [hy]))
    have hx := h x (by simp)
    simp only [nk_cons, List.length_cons]
    rcases (by omega : x.f = 0 ∨ x.f = 1 ∨ x.f = 2) with e | e | e <;> simp [e] <;> omega
namespace L12
theorem Fine.slen {s : L12} (h : s.Fine) : s.s.length ≤ nk 0 s.s + nk 2 s.s + s.q.length := by
  have h1 := nk_all h.kinds
  have h2 : nk 1 s.s ≤ s.q.length := by
    rw [← kindK_len]
    refine count_len _ _ (fun a => ?_)
    rw [kindK_count]
    exact (h.at_ a).2.1
  omega
end L12
section
variable {w : World} {u1 u2 : Value} {s : L12}
end
set_option maxRecDepth 8000
theorem nk_append (f : Nat) (a b : List It) : nk f (a ++ b) = nk f a + nk f b := List.countP_append
theorem tot_append (k : Nat) (a b : List It) : tot k (a ++ b) = tot k a + tot k b := by
  unfold tot keysI
  rw [List.map_append, List.count_append]
theorem setI_append (k f : Nat) (a b : List It) : setI k f (a ++ b) = setI k f a ++ setI k f b := List.map_append
theorem wi_append (k : Nat) (a b : List It) : wi k (a ++ b) = wi k a ++ wi k b := List.filter_append _ _
theorem setI_no {k f : Nat} {l : List It} (h : tot k l = 0) : setI k f l = l := by
  unfold setI
  refine (List.map_congr_left (fun y hy => ?_)).trans (List.map_id l)
  rw [if_neg]
  · rfl
  · rintro rfl
    have h2 : 0 < tot y.key l := tot_in.1 (List.mem_map_of_mem hy)
    omega
theorem last_split {f : Nat} : ∀ {l : List It}, 0 < nk f l → ∃ a x b, l = a ++ x :: b ∧ x.f = f ∧ nk f b = 0 ∧ lastF f l = x.key
  | [], h => absurd h (Nat.lt_irrefl _)
  | x :: l, h => by
    by_cases hp : 0 < nk f l
    · obtain ⟨a, y, b, h1, h2, h3, h4⟩ := last_split hp
      refine ⟨x :: a, y, b, by rw [h1]; rfl, h2, h3, ?_⟩
      rw [lastF, if_pos hp, h4]
    · rw [nk_cons] at h
      have hx : x.f = f := by
        by_cases e : x.f = f
        · exact e
        · simp only [e, if_false] at h
          omega
      exact ⟨[], x, l, rfl, hx, by omega, by rw [lastF, if_neg hp, if_pos hx]⟩
theorem pr_append_none {a b : List It} (h : nk 2 b = 0) : pr (a ++ b) = pr a := by
  induction a with
  | nil => exact pr_none h
  | cons x a ih =>
    have h1 : nk 2 (x :: (a ++ b)) = nk 2 (x :: a) := by rw [nk_cons, nk_cons, nk_append, h, Nat.add_zero]
    show (if 0 < nk 2 (x :: (a ++ b)) then x :: pr (a ++ b) else []) = (if 0 < nk 2 (x :: a) then x :: pr a else [])
    rw [h1, ih]
theorem pr_split (l : List It) : ∃ t, l = pr l ++ t ∧ nk 2 t = 0 := by
  induction l with
  | nil => exact ⟨[], rfl, rfl⟩
  | cons x l ih =>
    obtain ⟨t, h1, h2⟩ := ih
    by_cases hp : 0 < nk 2 (x :: l)
    · refine ⟨t, ?_, h2⟩
      rw [pr, if_pos hp, List.cons_append, ← h1]
    · exact ⟨x :: l, by rw [pr, if_neg hp]; rfl, by omega⟩
def coolK : Nat → List It → List It
  | _, [] => []
  | r, x :: l => if x.f = 2 then (if r = 0 then ⟨x.key, 1⟩ else x) :: coolK (r - 1) l else x :: coolK r l
def coolO : Nat → List It → List Nat
  | _, [] => []
  | r, x :: l => if x.f = 2 then (if r = 0 then [x.key] else []) ++ coolO (r - 1) l else coolO r l
def dropK (f : Nat) : Nat → List It → List It
  | _, [] => []
  | m, x :: l => if x.f = f then (if m = 0 then [] else [x]) ++ dropK f (m - 1) l else x :: dropK f m l
def goneK (ks : List Nat) (l : List It) : List It := l.map (fun x => if x.key ∈ ks then ⟨x.key, 0⟩ else x)
theorem coolK_append : ∀ (a : List It) (r : Nat) (b : List It), coolK r (a ++ b) = coolK r a ++ coolK (r - nk 2 a) b
  | [], r, b => rfl
  | x :: a, r, b => by
    rw [List.cons_append, coolK, coolK, coolK_append a, coolK_append a, nk_cons]
    by_cases e : x.f = 2
    · rw [if_pos e, if_pos e, if_pos e, List.cons_append, show r - 1 - nk 2 a = r - (nk 2 a + 1) by omega]
    · rw [if_neg e, if_neg e, if_neg e, List.cons_append, Nat.add_zero]
theorem coolO_append : ∀ (a : List It) (r : Nat) (b : List It), coolO r (a ++ b) = coolO r a ++ coolO (r - nk 2 a) b
  | [], r, b => rfl
  | x :: a, r, b => by
    rw [List.cons_append, coolO, coolO, coolO_append a, coolO_append a, nk_cons]
    by_cases e : x.f = 2
    · rw [if_pos e, if_pos e, if_pos e, List.append_assoc, show r - 1 - nk 2 a = r - (nk 2 a + 1) by omega]
    · rw [if_neg e, if_neg e, if_neg e, Nat.add_zero]
theorem dropK_append (f : Nat) : ∀ (a : List It) (r : Nat) (b : List It), dropK f r (a ++ b) = dropK f r a ++ dropK f (r - nk f a) b
  | [], r, b => rfl
  | x :: a, r, b => by
    rw [List.cons_append, dropK, dropK, dropK_append f a, dropK_append f a, nk_cons]
    by_cases e : x.f = f
    · rw [if_pos e, if_pos e, if_pos e, List.append_assoc, show r - 1 - nk f a = r - (nk f a + 1) by omega]
    · rw [if_neg e, if_neg e, if_neg e, List.cons_append, Nat.add_zero]
theorem coolK_nk2 : ∀ (l : List It) (r : Nat), nk 2 (coolK r l) = min r (nk 2 l)
  | [], r => by simp [coolK, nk_nil]
  | x :: l, r => by
    rw [coolK, nk_cons]
    by_cases e : x.f = 2
    · rw [if_pos e, if_pos e, nk_cons, coolK_nk2 l]
      by_cases hr : r = 0
      · rw [if_pos hr]
        simp
        omega
      · rw [if_neg hr, if_pos e]
        omega
    · rw [if_neg e, if_neg e, nk_cons, coolK_nk2 l, if_neg e]
      omega
theorem coolK_all : ∀ (l : List It) (r : Nat), nk 2 l ≤ r → coolK r l = l ∧ coolO r l = []
  | [], r, _ => ⟨rfl, rfl⟩
  | x :: l, r, h => by
    rw [nk_cons] at h
    rw [coolK, coolO]
    by_cases e : x.f = 2
    · rw [if_pos e] at h
      obtain ⟨h1, h2⟩ := coolK_all l (r - 1) (by omega)
      rw [if_pos e, if_pos e, if_neg (by omega), if_neg (by omega), h1, h2]
      exact ⟨rfl, rfl⟩
    · rw [if_neg e] at h
      obtain ⟨h1, h2⟩ := coolK_all l r (by omega)
      rw [if_neg e, if_neg e, h1, h2]
      exact ⟨rfl, rfl⟩
theorem dropK_all (f : Nat) : ∀ (l : List It) (r : Nat), nk f l ≤ r → dropK f r l = l
  | [], r, _ => rfl
  | x :: l, r, h => by
    rw [nk_cons] at h
    rw [dropK]
    by_cases e : x.f = f
    · rw [if_pos e] at h
      rw [if_pos e, if_neg (by omega), dropK_all f l (r - 1) (by omega)]
      rfl
    · rw [if_neg e] at h
      rw [if_neg e, dropK_all f l r (by omega)]
theorem coolK_pr (r : Nat) (a : List It) : pr (coolK r (pr a)) = pr (coolK r a) ∧ coolO r (pr a) = coolO r a := by
  obtain ⟨t, h1, h2⟩ := pr_split a
  have e1 : coolK r a = coolK r (pr a) ++ coolK (r - nk 2 (pr a)) t := by
    have := coolK_append (pr a) r t
    rw [← h1] at this
    exact this
  have e2 : coolO r a = coolO r (pr a) ++ coolO (r - nk 2 (pr a)) t := by
    have := coolO_append (pr a) r t
    rw [← h1] at this
    exact this
  obtain ⟨e3, e4⟩ := coolK_all t (r - nk 2 (pr a)) (by omega)
  rw [e3] at e1
  rw [e4, List.append_nil] at e2
  exact ⟨by rw [e1, pr_append_none h2], e2.symm⟩
theorem goneK_pr {ks : List Nat} : ∀ {l : List It}, (∀ k ∈ ks, ct k 2 l = 0) → pr (goneK ks l) = goneK ks (pr l)
  | [], _ => rfl
  | x :: l, h => by
    have h2 : ∀ k ∈ ks, ct k 2 l = 0 := fun k hk => by have := h k hk; rw [ct_cons] at this; omega
    have hn : ∀ (l : List It), (∀ k ∈ ks, ct k 2 l = 0) → nk 2 (goneK ks l) = nk 2 l := by
      intro l
      induction l with
      | nil => intro _; rfl
      | cons y l ih =>
        intro hh
        have h3 : ∀ k ∈ ks, ct k 2 l = 0 := fun k hk => by have := hh k hk; rw [ct_cons] at this; omega
        show nk 2 ((if y.key ∈ ks then ⟨y.key, 0⟩ else y) :: goneK ks l) = _
        rw [nk_cons, nk_cons, ih h3]
        by_cases hy : y.key ∈ ks
        · rw [if_pos hy]
          have := hh y.key hy
          rw [ct_cons] at this
          by_cases e : y.f = 2
          · rw [if_pos ⟨rfl, e⟩] at this
            omega
          · simp [e]
        · rw [if_neg hy]
    have e1 := hn (x :: l) h
    show pr ((if x.key ∈ ks then ⟨x.key, 0⟩ else x) :: goneK ks l) = _
    rw [pr, pr]
    have e2 : nk 2 ((if x.key ∈ ks then (⟨x.key, 0⟩ : It) else x) :: goneK ks l) = nk 2 (x :: l) := e1
    rw [e2, goneK_pr h2]
    split
    · rfl
    · rfl
namespace L12
def coolP (s : L12) : L12 := ⟨s.c, coolK (roomH s.c) s.s, s.q ++ (coolO (roomH s.c) s.s).reverse⟩
def forgetP (s : L12) : L12 := ⟨s.c, dropK 0 s.c s.s, s.q⟩
def evP (s : L12) (m : Nat) : L12 := ⟨s.c, goneK (s.q.take m) s.s, s.q.drop m⟩
def useP (s : L12) (k : Nat) : Bool → L12
  | true => ((s.stack k 2).less k).coolP.prune
  | false => ((s.stack k 1).last k).prune
theorem coolN_plain : ∀ (m : Nat) (s : L12) (r : Nat), s.Fine → nk 2 s.s = r + m → pr (coolN m s).s = pr (coolK r s.s) ∧ (coolN m s).q = s.q ++ (coolO r s.s).reverse
  | 0, s, r, _, h => by
    obtain ⟨h1, h2⟩ := coolK_all s.s r (by omega)
    rw [h1, h2]
    exact ⟨rfl, by simp [coolN]⟩
  | m + 1, s, r, hf, h => by
    obtain ⟨h1, h2, -⟩ := hf.cool1 (by omega)
    obtain ⟨i1, i2⟩ := coolN_plain m s.cool1 r h1 (by omega)
    obtain ⟨a, x, b, e, hx, hb, hk⟩ := last_split (f := 2) (l := s.s) (by omega)
    have ht := hf.tot_le x.key
    rw [e, tot_append, tot_cons, if_pos rfl] at ht
    have hna : nk 2 a = r + m := by
      have h3 := h
      rw [e, nk_append, nk_cons, if_pos hx] at h3
      omega
    have hc1 : s.cool1.s = pr a := by
      show pr (setI (lastF 2 s.s) 1 s.s) = _
      rw [hk, e, setI_append, setI_no (k := x.key) (l := a) (by omega)]
      refine pr_append_none ?_
      show nk 2 ((if x.key = x.key then ⟨x.key, 1⟩ else x) :: setI x.key 1 b) = 0
      rw [if_pos rfl, nk_cons, setI_no (k := x.key) (l := b) (by omega), hb]
      simp
    have hq1 : s.cool1.q = s.q ++ [x.key] := by
      show s.q ++ [lastF 2 s.s] = _
      rw [hk]
    obtain ⟨c1, c2⟩ := coolK_pr r a
    have k1 : coolK r s.s = coolK r a ++ coolK 0 (x :: b) := by rw [e, coolK_append, show r - nk 2 a = 0 by omega]
    have k2 : coolO r s.s = coolO r a ++ [x.key] := by
      rw [e, coolO_append, show r - nk 2 a = 0 by omega, coolO, if_pos hx, if_pos rfl, (coolK_all b _ (by omega)).2]
      rfl
    have k3 : nk 2 (coolK 0 (x :: b)) = 0 := by rw [coolK_nk2]; omega
    show pr (coolN m s.cool1).s = _ ∧ (coolN m s.cool1).q = _
    rw [i1, i2, hc1, c1, c2, k1, pr_append_none k3, k2, hq1]
    exact ⟨rfl, by simp⟩
theorem cool_plain {s : L12} (h : s.Fine) : pr s.cool.s = pr s.coolP.s ∧ s.cool.q = s.coolP.q := by
  show pr (coolN (nk 2 s.s - roomH s.c) s).s = pr (coolK (roomH s.c) s.s) ∧ (coolN (nk 2 s.s - roomH s.c) s).q = s.q ++ (coolO (roomH s.c) s.s).reverse
  by_cases hl : nk 2 s.s ≤ roomH s.c
  · obtain ⟨h1, h2⟩ := coolK_all s.s (roomH s.c) hl
    rw [h1, h2, show nk 2 s.s - roomH s.c = 0 by omega]
    exact ⟨rfl, by simp [coolN]⟩
  · exact coolN_plain _ s (roomH s.c) h (by omega)
theorem coolN_cc : ∀ (m : Nat) (s : L12), (coolN m s).c = s.c
  | 0, _ => rfl
  | m + 1, s => coolN_cc m s.cool1
theorem cool_cc (s : L12) : s.cool.c = s.c := coolN_cc _ _
theorem coolP_prune {s : L12} (h : s.Fine) : s.coolP.prune = s.cool.prune := by
  obtain ⟨h1, h2⟩ := cool_plain h
  unfold L12.prune
  rw [h1, h2, cool_cc]
  rfl
theorem evN_plain : ∀ (m : Nat) (s : L12), m ≤ s.q.length → evN m s = s.evP m
  | 0, s, _ => by
    have : goneK [] s.s = s.s := by simp [goneK]
    show s = ⟨s.c, goneK (s.q.take 0) s.s, s.q.drop 0⟩
    rw [List.take_zero, List.drop_zero, this]
  | m + 1, s, h => by
    obtain ⟨c, l, q⟩ := s
    obtain ⟨k, q, rfl⟩ : ∃ k q', q = k :: q' := List.exists_cons_of_length_pos (by simp only at h; omega)
    show evN m ⟨c, setI k 0 l, q⟩ = _
    rw [evN_plain m ⟨c, setI k 0 l, q⟩ (by simpa using h)]
    show (⟨c, goneK (q.take m) (setI k 0 l), q.drop m⟩ : L12) = ⟨c, goneK ((k :: q).take (m + 1)) l, (k :: q).drop (m + 1)⟩
    rw [List.take_succ_cons, List.drop_succ_cons]
    congr 1
    unfold goneK setI
    rw [List.map_map]
    refine List.map_congr_left (fun x _ => ?_)
    simp only [Function.comp_apply, List.mem_cons]
    by_cases e : x.key = k
    · simp [e]
    · simp [e]
theorem fgN_plain : ∀ (m : Nat) (s : L12) (r : Nat), s.Fine → nk 0 s.s = r + m → (fgN m s).s = dropK 0 r s.s ∧ (fgN m s).q = s.q ∧ (fgN m s).c = s.c
  | 0, s, r, _, h => ⟨(dropK_all 0 s.s r (by omega)).symm, rfl, rfl⟩
  | m + 1, s, r, hf, h => by
    obtain ⟨h1, _, h2, -⟩ := hf.fg1 (by omega)
    obtain ⟨i1, i2, i3⟩ := fgN_plain m s.fg1 r h1 (by omega)
    obtain ⟨a, x, b, e, hx, hb, hk⟩ := last_split (f := 0) (l := s.s) (by omega)
    have ht := hf.tot_le x.key
    rw [e, tot_append, tot_cons, if_pos rfl] at ht
    have hna : nk 0 a = r + m := by
      have h3 := h
      rw [e, nk_append, nk_cons, if_pos hx] at h3
      omega
    have hw : s.fg1.s = a ++ b := by
      show wi (lastF 0 s.s) s.s = _
      rw [hk, e, wi_append, wi_none (k := x.key) (s := a) (by omega)]
      congr 1
      show List.filter _ (x :: b) = _
      rw [List.filter_cons, if_neg (by simp)]
      exact wi_none (k := x.key) (s := b) (by omega)
    refine ⟨?_, i2, i3⟩
    show (fgN m s.fg1).s = _
    rw [i1, hw, e, dropK_append, dropK_append, show r - nk 0 a = 0 by omega]
    congr 1
    rw [dropK, if_pos hx, if_pos rfl]
    rfl
theorem forget_plain {s : L12} (h : s.Fine) : s.forget = s.forgetP := by
  show fgN (nk 0 s.s - s.c) s = ⟨s.c, dropK 0 s.c s.s, s.q⟩
  by_cases hl : nk 0 s.s ≤ s.c
  · rw [dropK_all 0 s.s s.c hl, show nk 0 s.s - s.c = 0 by omega]
    rfl
  · obtain ⟨h1, h2, h3⟩ := fgN_plain (nk 0 s.s - s.c) s s.c h (by omega)
    generalize fgN (nk 0 s.s - s.c) s = t at h1 h2 h3 ⊢
    obtain ⟨c', s', q'⟩ := t
    simp only at h1 h2 h3
    rw [h1, h2, h3]
theorem stack_less (s : L12) (k : Nat) (h : k ∉ s.q) : (s.stack k 2).less k = s.stack k 2 := by
  show (⟨s.c, _, wo k s.q⟩ : L12) = ⟨s.c, _, s.q⟩
  rw [wo_none8 h]
  rfl
theorem touch_plain {s : L12} (h : s.Ok) (k : Nat) : s.touch k = if k ∈ s.keys then s.useP k (decide (0 < tot k s.s)) else s := by
  have hf := h.fine
  have h0 := hf.at_ k
  have ht := tot_ct (a := k) hf.kinds
  unfold okA at h0
  unfold L12.touch
  by_cases c2 : 0 < ct k 2 s.s
  · have hq : k ∉ s.q := fun hq => by have := q_in.1 hq; omega
    have hb : k < 18446744073709551616 := h0.2.2.2 (by omega)
    rw [if_pos c2, if_pos (keys_in.2 (by omega)), decide_eq_true (by omega)]
    show _ = ((s.stack k 2).less k).coolP.prune
    rw [coolP_prune (hf.warm hb), stack_less s k hq]
    have hn : nk 2 (s.stack k 2).s ≤ roomH s.c := by
      have e2 := nk_stack k 2 2 s.s
      rw [if_pos rfl] at e2
      have := h.hot
      show nk 2 (⟨k, 2⟩ :: wi k s.s) ≤ _
      omega
    have hc : (s.stack k 2).cool = s.stack k 2 := by
      show coolN (nk 2 (s.stack k 2).s - roomH s.c) _ = _
      rw [show nk 2 (s.stack k 2).s - roomH s.c = 0 by omega]
      rfl
    rw [hc]
  · rw [if_neg c2]
    by_cases hq : k ∈ s.q
    · have hqc := q_in.1 hq
      have hb : k < 18446744073709551616 := h0.2.2.2 (by omega)
      rw [if_neg (fun h => h hq), if_pos (keys_in.2 (by omega))]
      by_cases t0 : tot k s.s = 0
      · rw [if_pos t0, decide_eq_false (by omega)]
        rfl
      · rw [if_neg t0, decide_eq_true (by omega)]
        show _ = ((s.stack k 2).less k).coolP.prune
        rw [coolP_prune (hf.warm hb)]
    · rw [if_pos hq, if_neg]
      intro hk
      have h1 := keys_in.1 hk
      have := List.count_eq_zero_of_not_mem hq
      omega
theorem adm_plain {s : L12} (h : s.Ok) {k : Nat} (hk : k < 18446744073709551616) (hn : k ∉ s.keys) : s.adm k = ((s.evP (s.many (s.c - 1))).useP k (decide (0 < tot k (s.evP (s.many (s.c - 1))).s) || decide (nk 2 (s.evP (s.many (s.c - 1))).s < roomH s.c))).forgetP ∧ s.admitOut k = s.q.take (s.many (s.c - 1)) ∧ (s.evP (s.many (s.c - 1))).Fine ∧ s.many (s.c - 1) ≤ s.q.length := by
  have hp := h.pos
  have hh := h.hot
  have hr := roomH_lt hp
  have hm : s.many (s.c - 1) ≤ s.q.length := by unfold L12.many; omega
  obtain ⟨g1, g2, g3, g4, g5, g6, g7, g8, g9⟩ := h.fine.shrink (n := s.c - 1) (by omega)
  have e0 : s.shrink (s.c - 1) = s.evP (s.many (s.c - 1)) := evN_plain _ _ hm
  rw [e0] at g1 g8 g9
  unfold L12.adm L12.admitOut
  rw [if_neg hn, if_neg hn, e0]
  obtain ⟨σ, hσ⟩ : ∃ σ, s.evP (s.many (s.c - 1)) = σ := ⟨_, rfl⟩
  have hcσ : σ.c = s.c := by rw [← hσ]; rfl
  rw [hσ] at g1 g8 g9 ⊢
  have hq : k ∉ σ.q := fun hm => hn (keys_in.2 (by have := q_in.1 (g9 k hm); omega))
  refine ⟨?_, rfl, g1, hm⟩
  unfold L12.came
  rw [hcσ]
  by_cases hb : nk 2 σ.s < roomH s.c ∨ 0 < tot k σ.s
  · have he : (decide (0 < tot k σ.s) || decide (nk 2 σ.s < roomH s.c)) = true := by
      rcases hb with hb | hb <;> simp [hb]
    rw [if_pos hb, he]
    show _ = ((σ.stack k 2).less k).coolP.prune.forgetP
    have hw := g1.warm (k := k) hk
    rw [coolP_prune hw, stack_less σ k hq]
    rw [stack_less σ k hq] at hw
    exact forget_plain hw.cool.1.prune
  · have he : (decide (0 < tot k σ.s) || decide (nk 2 σ.s < roomH s.c)) = false := by
      rw [Bool.or_eq_false_iff, decide_eq_false_iff_not, decide_eq_false_iff_not]
      exact ⟨fun h => hb (.inr h), fun h => hb (.inl h)⟩
    rw [if_neg hb, he]
    exact forget_plain (g1.came1 hk).prune
end L12
abbrev PT12 : TypeId := 35
set_option maxRecDepth 8000
section
variable {w : World} {v : Value} {xs : List It} {u1 u2 : Value} {s : L12}
end
set_option maxRecDepth 8000
theorem Off.tail {F : Option Addr} {n c i : Nat} {v : Value} (h : Off (.slice F n c) v) : Off (tailV F n c i) v := fun m d ad e => by
  unfold tailV at e
  injection e with e1 e2 e3
  obtain ⟨n', rfl⟩ : ∃ n', n = n' + 1 := ⟨n - 1, by omega⟩
  split at e1
  · subst e1
    exact h n' c ad rfl
  · cases F with
    | none => cases e1
    | some a =>
      injection e1 with e1
      subst e1
      rw [ad_block]
      exact h n' c a rfl
theorem KV.head {w : World} {F : Option Addr} {m c k : Nat} {qs : List Nat} (h : KV w (.slice F m c) (k :: qs)) : ∃ g off, F = some ⟨g, off, none⟩ ∧ g < w.heap.size ∧ w.cell? ⟨g, off, none⟩ = some (.int .u64 (k : Nat)) := by
  obtain ⟨F', c', e, _, _, h3⟩ := h.mem
  injection e with e1 e2 e3
  subst e1
  obtain ⟨ad, rfl, h4, h5⟩ := h3 0 (by simp)
  obtain ⟨g, off, sp⟩ := ad
  cases sp with
  | none =>
    rw [Addr.add_lit] at h5
    exact ⟨g, off, rfl, h4, by simpa using h5⟩
  | some s =>
    unfold World.cell? at h5
    simp [Addr.add] at h5
    split at h5 <;> cases h5
section
variable {w : World} {u1 u2 : Value} {s : L12}
end
set_option maxRecDepth 8000
namespace L12
theorem Ok.bd {s : L12} (h : s.Ok) : nk 0 s.s + nk 2 s.s + s.q.length ≤ 2097152 := by
  have := h.len
  have := h.gone
  have := h.cap
  omega
theorem Ok.sl {s : L12} (h : s.Ok) : s.s.length ≤ 2097152 := by
  have := h.fine.slen
  have := h.bd
  omega
end L12
section
variable {w w1 : World} {u1 u2 : Value} {s t : L12} {T : TypeId} {b r : Nat} {cs : Array Value} {F1 F2 : Option Addr} {n1 d1 n2 d2 : Nat}
namespace L12
end L12
end
set_option maxRecDepth 8000
abbrev PTI12 : TypeId := 60
def RetP (w : World) (xs : List It) (e : Ending) (w' : World) : Prop := ∃ v, e = .returned v ∧ OwnI PTI12 w.heap.size w w' v xs
section
variable {w : World} {u : Value} {xs : List It} {ks : List Nat}
end
structure KeepT (T : TypeId) (w w' : World) : Prop where
  size : w.heap.size ≤ w'.heap.size
  same : ∀ (g : Nat) (cs : Array Value), w.heap[g]? = some (.cells cs T (0, 0)) → w'.heap[g]? = some (.cells cs T (0, 0))
theorem KeepT.of_below {T : TypeId} {w w' : World} (h : Below w.heap.size w w') : KeepT T w w' := ⟨h.size, fun g _ hg => (h.block g (Array.getElem?_eq_some_iff.1 hg).1).trans hg⟩
theorem KeepT.own {T : TypeId} {w w' : World} {B size n : Nat} {v : Value} {xs : List Value} (h : KeepT T w w') (ho : w.ownsRow B T size v n xs) : w'.ownsRow B T size v n xs := by
  refine ⟨ho.1, ho.2.imp id ?_⟩
  rintro ⟨g, cap, cur, e1, e2, e3, e4⟩
  exact ⟨g, cap, cur, e1, e2, h.same g cur e3, e4⟩
def res (g : Nat → It × Bool) : Nat → List It
  | 0 => []
  | i + 1 => res g i ++ (if (g i).2 then [(g i).1] else [])
section
variable {w : World} {u : Value} {xs : List It}
structure ItSteps (w : World) (u : Value) (xs : List It) (fn : Nat) (caps : Array Value) (g : Nat → It × Bool) (Inv : Nat → World → Prop) : Prop where
  size : ∀ i W, Inv i W → w.heap.size ≤ W.heap.size
  src : ∀ i W, Inv i W → IV W u xs
  stay : ∀ i W W', Inv i W → Below w.heap.size W W' → Kt PTI12 W W' → Inv i W'
  ent : ∀ (args : Array Value) (W : World), (callFunc fn args).run Try.prog W = .ok (.enter fn args) W
  step : ∀ i (hi : i < xs.length) W, Inv i W → Calls Try.prog fn (#[.agg #[.int .u64 (xs[i].key : Nat), .int .i64 (xs[i].f : Nat)]] ++ caps) W fun e W' => e = .returned (.tuple #[.agg #[.int .u64 ((g i).1.key : Nat), .int .i64 ((g i).1.f : Nat)], .bool (g i).2]) ∧ Inv (i + 1) W' ∧ KeepT PTI12 W W'
end
end Go.Proofs.Ytkhikpnlpcankaa
