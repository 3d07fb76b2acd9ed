/- Words and walks: LiB LiV LiR LiI LiS. -/
import Derived.Test.YtkhikpnlpcankaaGreatG1
import Derived.Test.YtkhikpnlpcankaaGreatG15
import Derived.Test.YtkhikpnlpcankaaGreatG19
import Derived.IntWalk
import Derived.Deep.LoopGhost
import Derived.Deep.QuietTactic
import Derived.BigQuiet
namespace Go.Proofs.YtkhikpnlpcankaaGreat
open Go Go.RowKit Go.Deep
abbrev l12C (c : Nat) (u_s : Value) (u_q : Value) : Array Value := #[(.int .i64 (c : Nat)), u_s, u_q]
abbrev z12 : Array Value := #[.int .i64 0, .slice none 0 0, .slice none 0 0]
abbrev T12 : TypeId := 29
structure St12 (w : World) (s : L12) (u1 u2 : Value) : Prop where
  g1 : IV w u1 s.s
  g2 : KV w u2 s.q
section
variable {w w' : World} {s : L12} {u1 u2 : Value}
theorem St12.form1 (h : St12 w s u1 u2) : ∃ F n c, u1 = .slice F n c := h.g1.form
theorem St12.form2 (h : St12 w s u1 u2) : ∃ F n c, u2 = .slice F n c := h.g2.form
theorem St12.below (h : St12 w s u1 u2) (hb : Below w.heap.size w w') : St12 w' s u1 u2 := ⟨h.g1.below hb, h.g2.below hb⟩
theorem Bo.st12 {w0 : World} {T : TypeId} {b r : Nat} {cs zs : Array Value} (hb : Bo w0 w T b r cs zs) (ho : Only [b, r] w w') (h : St12 w s u1 u2) : St12 w' s u1 u2 := ⟨hb.iv ho h.g1, hb.kv ho h.g2⟩
theorem Bp.st12 {w0 : World} {T U : TypeId} {b r : Nat} {cs zs : Array Value} (hb : Bp w0 w T U b r cs zs) (ho : Only [b, r] w w') (h : St12 w s u1 u2) : St12 w' s u1 u2 := ⟨hb.iv ho h.g1, hb.kv ho h.g2⟩
end
def P12 (w : World) (s : L12) (e : Ending) (w' : World) : Prop := ∃ u1 u2, e = .returned (.agg (l12C s.c u1 u2)) ∧ Below w.heap.size w w' ∧ St12 w' s u1 u2
def P12o (w : World) (s : L12) (out : List Nat) (e : Ending) (w' : World) : Prop := ∃ u1 u2 o, e = .returned (.tuple #[.agg (l12C s.c u1 u2), o]) ∧ Below w.heap.size w w' ∧ St12 w' s u1 u2 ∧ KV w' o out
theorem B12.start (w : World) (c : Nat) (F1 : Option Addr) (n1 d1 : Nat) (F2 : Option Addr) (n2 d2 : Nat) : Bo w ((w.alloc (.cells (l12C c (.slice F1 n1 d1) (.slice F2 n2 d2)) T12)).alloc (.cells z12 T12)) T12 w.heap.size (w.heap.size + 1) (l12C c (.slice F1 n1 d1) (.slice F2 n2 d2)) z12 :=
  Bo.start w T12 _ _ rfl rfl (by decide)
structure Bx12 (w w1 : World) (T : TypeId) (b r : Nat) (s : L12) (u1 u2 : Value) : Prop where
  bo : Bo w w1 T b r (l12C s.c u1 u2) z12
  st : St12 w1 s u1 u2
section
variable {w w1 w2 : World} {T : TypeId} {b r : Nat} {s : L12} {u1 u2 : Value}
theorem Bx12.start (w : World) (T : TypeId) (hT : T ≠ 32) {s : L12} {F1 : Option Addr} {n1 d1 : Nat} {F2 : Option Addr} {n2 d2 : Nat} (h : St12 w s (.slice F1 n1 d1) (.slice F2 n2 d2)) : Bx12 w ((w.alloc (.cells (l12C s.c (.slice F1 n1 d1) (.slice F2 n2 d2)) T)).alloc (.cells z12 T)) T w.heap.size (w.heap.size + 1) s (.slice F1 n1 d1) (.slice F2 n2 d2) :=
  ⟨Bo.start w T _ _ rfl rfl hT, h.below (low_two w _ _)⟩
theorem Bx12.step (h : Bx12 w w1 T b r s u1 u2) (hb : Below w1.heap.size w1 w2) : Bx12 w w2 T b r s u1 u2 := ⟨h.bo.step hb, h.st.below hb⟩
theorem Bx12.kv {v : Value} {ks : List Nat} {i : Nat} {x : Value} (h : Bx12 w w1 T b r s u1 u2) (hk : KV w1 v ks) : KV (w1.setCell ⟨b, i, none⟩ x) v ks := h.bo.kv ((Only.refl _ _).setCell (by simp) _) hk
theorem Bx12.set1 (h : Bx12 w w1 T b r s u1 u2) {F : Option Addr} {m d : Nat} {ks : List It} (hk : IV w1 (.slice F m d) ks) : Bx12 w (w1.setCell ⟨b, 1, none⟩ (.slice F m d)) T b r ⟨s.c, ks, s.q⟩ (.slice F m d) u2 := by
  obtain ⟨F1, n1, d1, rfl⟩ := h.st.form1
  obtain ⟨F2, n2, d2, rfl⟩ := h.st.form2
  obtain ⟨h1, h2⟩ := h.bo.set 1 (.slice F m d) rfl
  exact ⟨h1, h.bo.iv h2 hk, h.bo.kv h2 h.st.g2⟩
theorem Bx12.set2 (h : Bx12 w w1 T b r s u1 u2) {F : Option Addr} {m d : Nat} {ks : List Nat} (hk : KV w1 (.slice F m d) ks) : Bx12 w (w1.setCell ⟨b, 2, none⟩ (.slice F m d)) T b r ⟨s.c, s.s, ks⟩ u1 (.slice F m d) := by
  obtain ⟨F1, n1, d1, rfl⟩ := h.st.form1
  obtain ⟨F2, n2, d2, rfl⟩ := h.st.form2
  obtain ⟨h1, h2⟩ := h.bo.set 2 (.slice F m d) rfl
  exact ⟨h1, h.bo.iv h2 h.st.g1, h.bo.kv h2 hk⟩
theorem Bx12.set0 (h : Bx12 w w1 T b r s u1 u2) (c' : Nat) : Bx12 w (w1.setCell ⟨b, 0, none⟩ (.int .i64 (c' : Nat))) T b r ⟨c', s.s, s.q⟩ u1 u2 := by
  obtain ⟨F1, n1, d1, rfl⟩ := h.st.form1
  obtain ⟨F2, n2, d2, rfl⟩ := h.st.form2
  obtain ⟨h1, h2⟩ := h.bo.set 0 (.int .i64 (c' : Nat)) rfl
  exact ⟨h1, h.bo.iv h2 h.st.g1, h.bo.kv h2 h.st.g2⟩
theorem Bx12.only (_ : Bx12 w w1 T b r s u1 u2) : Only [b, r] w1 (((w1.setCell ⟨r, 0, none⟩ (.int .i64 (s.c : Nat))).setCell ⟨r, 1, none⟩ u1).setCell ⟨r, 2, none⟩ u2) := (((Only.refl _ _).setCell (by simp) _).setCell (by simp) _).setCell (by simp) _
theorem Bx12.done (h : Bx12 w w1 T b r s u1 u2) : P12 w s (.returned (.agg (l12C s.c u1 u2))) (((w1.setCell ⟨r, 0, none⟩ (.int .i64 (s.c : Nat))).setCell ⟨r, 1, none⟩ u1).setCell ⟨r, 2, none⟩ u2) := ⟨_, _, rfl, h.bo.fin h.only, h.bo.st12 h.only h.st⟩
theorem Bx12.doneo (h : Bx12 w w1 T b r s u1 u2) {o : Value} {out : List Nat} (ho : KV w1 o out) : P12o w s out (.returned (.tuple #[.agg (l12C s.c u1 u2), o])) (((w1.setCell ⟨r, 0, none⟩ (.int .i64 (s.c : Nat))).setCell ⟨r, 1, none⟩ u1).setCell ⟨r, 2, none⟩ u2) := ⟨_, _, _, rfl, h.bo.fin h.only, h.bo.st12 h.only h.st, h.bo.kv h.only ho⟩
theorem Bx12.put {s' : L12} {u1 u2 : Value} {F1 : Option Addr} {n1 d1 : Nat} {F2 : Option Addr} {n2 d2 : Nat} (h : Bx12 w w1 T b r s u1 u2) (hs : St12 w1 s' (.slice F1 n1 d1) (.slice F2 n2 d2)) : Bx12 w (((w1.setCell ⟨b, 0, none⟩ (.int .i64 (s'.c : Nat))).setCell ⟨b, 1, none⟩ (.slice F1 n1 d1)).setCell ⟨b, 2, none⟩ (.slice F2 n2 d2)) T b r s' (.slice F1 n1 d1) (.slice F2 n2 d2) := by
  obtain ⟨h1, h2⟩ := c3_set h.bo.box (.int .i64 (s'.c : Nat)) (.slice F1 n1 d1) (.slice F2 n2 d2)
  have ho : Only [b, r] w1 (((w1.setCell ⟨b, 0, none⟩ (.int .i64 (s'.c : Nat))).setCell ⟨b, 1, none⟩ (.slice F1 n1 d1)).setCell ⟨b, 2, none⟩ (.slice F2 n2 d2)) := (((Only.refl _ _).setCell (by simp) _).setCell (by simp) _).setCell (by simp) _
  exact ⟨⟨h.bo.fin ho, h1, (h2.block r (head_row h.bo.res).lt (by simpa using fun e => h.bo.ge.2.2 e.symm)).trans h.bo.res, h.bo.ge, ⟨rfl, h.bo.nu.2⟩, h.bo.ty⟩, h.bo.st12 ho hs⟩
theorem Bx12.alloc {s' : L12} {v1 v2 : Value} {F1 : Option Addr} {n1 d1 : Nat} {F2 : Option Addr} {n2 d2 : Nat} (h : Bx12 w w1 T b r s' v1 v2) (hs : St12 w1 s (.slice F1 n1 d1) (.slice F2 n2 d2)) : Bx12 w (w1.alloc (.cells (l12C s.c (.slice F1 n1 d1) (.slice F2 n2 d2)) T)) T w1.heap.size r s (.slice F1 n1 d1) (.slice F2 n2 d2) :=
  ⟨h.bo.alloc _ rfl, hs.below (low_one w1 _)⟩
end
structure Bs12 (w w1 : World) (T : TypeId) (b : Nat) (s : L12) (u1 u2 : Value) : Prop where
  low : Below w.heap.size w w1
  box : w1.heap[b]? = some (.cells (l12C s.c u1 u2) T (0, 0))
  ge : w.heap.size ≤ b
  ty : T ≠ 32
  st : St12 w1 s u1 u2
section
variable {w w1 w2 : World} {T : TypeId} {b : Nat} {s : L12} {u1 u2 : Value}
theorem Bs12.step (h : Bs12 w w1 T b s u1 u2) (hb : Below w1.heap.size w1 w2) : Bs12 w w2 T b s u1 u2 := ⟨h.low.trans (hb.mono h.low.size), (hb.block b (head_row h.box).lt).trans h.box, h.ge, h.ty, h.st.below hb⟩
theorem Bs12.new {F1 : Option Addr} {n1 d1 : Nat} {F2 : Option Addr} {n2 d2 : Nat} (hT : T ≠ 32) (hb : Below w.heap.size w w1) (hs : St12 w1 s (.slice F1 n1 d1) (.slice F2 n2 d2)) : Bs12 w (w1.alloc (.cells (l12C s.c (.slice F1 n1 d1) (.slice F2 n2 d2)) T)) T w1.heap.size s (.slice F1 n1 d1) (.slice F2 n2 d2) := ⟨hb.alloc hb.size _, heap_alloc_new w1 _, hb.size, hT, hs.below (low_one w1 _)⟩
theorem Bs12.put {s' : L12} {F1 : Option Addr} {n1 d1 : Nat} {F2 : Option Addr} {n2 d2 : Nat} (h : Bs12 w w1 T b s u1 u2) (hs : St12 w1 s' (.slice F1 n1 d1) (.slice F2 n2 d2)) : Bs12 w (((w1.setCell ⟨b, 0, none⟩ (.int .i64 (s'.c : Nat))).setCell ⟨b, 1, none⟩ (.slice F1 n1 d1)).setCell ⟨b, 2, none⟩ (.slice F2 n2 d2)) T b s' (.slice F1 n1 d1) (.slice F2 n2 d2) := by
  obtain ⟨G1, m1, e1, rfl⟩ := h.st.form1
  obtain ⟨G2, m2, e2, rfl⟩ := h.st.form2
  obtain ⟨h1, h2⟩ := c3_set h.box (.int .i64 (s'.c : Nat)) (.slice F1 n1 d1) (.slice F2 n2 d2)
  have hbx : ∀ g ∈ [b], Bx w1 g := fun g hg => by
    rw [List.mem_singleton] at hg
    subst hg
    exact ⟨_, _, h.box, rfl, h.ty⟩
  exact ⟨h.low.trans (h2.below (by simp; exact h.ge) h.low.size), h1, h.ge, h.ty, hs.g1.only h2 hbx, hs.g2.only h2 hbx⟩
theorem Bs12.kv {v : Value} {ks : List Nat} {s' : L12} {v1 v2 : Value} (h : Bs12 w w1 T b s u1 u2) (hk : KV w1 v ks) : KV (((w1.setCell ⟨b, 0, none⟩ (.int .i64 (s'.c : Nat))).setCell ⟨b, 1, none⟩ v1).setCell ⟨b, 2, none⟩ v2) v ks := by
  obtain ⟨G1, m1, e1, rfl⟩ := h.st.form1
  obtain ⟨G2, m2, e2, rfl⟩ := h.st.form2
  have hbx : ∀ g ∈ [b], Bx w1 g := fun g hg => by
    rw [List.mem_singleton] at hg
    subst hg
    exact ⟨_, _, h.box, rfl, h.ty⟩
  exact hk.only ((((Only.refl [b] _).setCell (by simp) _).setCell (by simp) _).setCell (by simp) _) hbx
end
def PlcP (w : World) (xs : List It) (k : Nat) (e : Ending) (w' : World) : Prop := w = w' ∧ ((e = .returned (.int .i64 (-1)) ∧ k ∉ keysI xs) ∨ ∃ (i : Nat) (hi : i < xs.length), e = .returned (.int .i64 (i : Nat)) ∧ xs[i].key = k ∧ ∀ j (hj : j < xs.length), j < i → xs[j].key ≠ k)
def LowP (w : World) (xs : List It) (f : Nat) (e : Ending) (w' : World) : Prop := w = w' ∧ ((e = .returned (.int .i64 (-1)) ∧ ∀ j (hj : j < xs.length), xs[j].f ≠ f) ∨ ∃ (m : Nat) (hm : m < xs.length), e = .returned (.int .i64 (m : Nat)) ∧ xs[m].f = f ∧ ∀ j (hj : j < xs.length), m < j → xs[j].f ≠ f)
section
variable {w : World} {v : Value} {xs : List It}
theorem nk_next (f : Nat) {i : Nat} (hi : i < xs.length) : nk f (xs.take (i + 1)) = nk f (xs.take i) + if xs[i].f = f then 1 else 0 := by
  rw [List.take_succ_eq_append_getElem hi, nk_snoc]
theorem r12many_walk (h : IV w v xs) (hl : xs.length ≤ 100000000) (f : Nat) : Calls Tryz.prog 48 #[v, .int .i64 (f : Nat)] w fun e w' => e = .returned (.int .i64 (nk f xs : Nat)) ∧ w = w' := by
  obtain ⟨F, c, rfl, h1, h2, h3⟩ := h.mem
  have HC := Lib.hid h3
  have HR : Hid (nk f (xs.take xs.length) = nk f xs) := Lib.hid (by rw [List.take_length])
  have HU : Hid (∀ i, nk f (xs.take i) ≤ i) := Lib.hid (fun i => by
    have h1 : nk f (xs.take i) ≤ (xs.take i).length := List.countP_le_length
    rw [List.length_take] at h1
    omega)
  obtain ⟨n, hn⟩ : ∃ n, xs.length = n := ⟨_, rfl⟩
  rw [hn] at hl HR ⊢
  have HN := Lib.hid hn
  clear h h3 h2 h1 hn
  go_enter Tryz.func48, Tryz.ntmps48
  go_wp2_with fail
  go_loopg [5, 6] n (fun gg s5 s6 wr => ∃ (i m : Nat), i + gg = n ∧ s5 = .int .i64 (m : Nat) ∧ s6 = .int .i64 (i : Nat) ∧ wr = w ∧ m ≤ i ∧ Hid (m = nk f (xs.take i)))
  case atStart => exact ⟨0, 0, by omega, rfl, rfl, rfl, Nat.le_refl _, Lib.hid rfl⟩
  case round =>
    obtain ⟨i, m, hi, rfl, rfl, rfl, hmi, HM⟩ := hrel
    by_cases hlt : i < n
    · have hltI : (i : Int) < (n : Int) := by omega
      have hil : i < xs.length := by rw [HN.out]; exact hlt
      obtain ⟨g, off, hF, hg, q0, q1⟩ := HC.out i hil
      have hnx := nk_next f hil
      obtain ⟨fx, hfe⟩ : ∃ fx, xs[i].f = fx := ⟨_, rfl⟩
      rw [hfe] at q1 hnx
      subst hF
      by_cases he : fx = f
      · subst he
        have HX : Hid (m + 1 = nk fx (xs.take (i + 1))) := Lib.hid (by rw [hnx, if_pos rfl, ← HM.out])
        clear hnx q0 hfe
        go_wp2
        go_roundg (gk - 1)
        case measure => omega
        case rel => exact ⟨i + 1, m + 1, by omega, by go_num, by go_num, rfl, by omega, HX⟩
      · have heI : ¬ (fx : Int) = (f : Int) := by omega
        have HX : Hid (m = nk f (xs.take (i + 1))) := Lib.hid (by rw [hnx, if_neg he, Nat.add_zero, ← HM.out])
        clear hnx q0 hfe
        go_wp2
        go_roundg (gk - 1)
        case measure => omega
        case rel => exact ⟨i + 1, m, by omega, rfl, by go_num, rfl, by omega, HX⟩
    · have hltI : ¬ (i : Int) < (n : Int) := by omega
      obtain rfl : i = n := by omega
      have HE : Hid (m = nk f xs) := Lib.hid (HM.out.trans HR.out)
      go_wp2
      go_ret
      exact ⟨congrArg (fun x : Nat => Ending.returned (Value.int .i64 (x : Int))) HE.out, rfl⟩
theorem r12place_walk (h : IV w v xs) (hl : xs.length ≤ 100000000) (k : Nat) : Calls Tryz.prog 73 #[v, .int .u64 (k : Nat)] w (PlcP w xs k) := by
  obtain ⟨F, c, rfl, h1, h2, h3⟩ := h.mem
  have HC := Lib.hid h3
  obtain ⟨n, hn⟩ : ∃ n, xs.length = n := ⟨_, rfl⟩
  rw [hn] at hl ⊢
  have HN := Lib.hid hn
  clear h h3 h2 h1 hn
  go_enter Tryz.func73, Tryz.ntmps73
  go_wp2_with fail
  go_loopg [5] n (fun gg s5 wr => ∃ (i : Nat), i + gg = n ∧ s5 = .int .i64 (i : Nat) ∧ wr = w ∧ Hid (∀ j (hj : j < xs.length), j < i → xs[j].key ≠ k))
  case atStart => exact ⟨0, by omega, rfl, rfl, Lib.hid (fun j _ hj => by omega)⟩
  case round =>
    obtain ⟨i, hi, rfl, rfl, HM⟩ := hrel
    by_cases hlt : i < n
    · have hltI : (i : Int) < (n : Int) := by omega
      have hil : i < xs.length := by rw [HN.out]; exact hlt
      obtain ⟨g, off, hF, hg, q0, q1⟩ := HC.out i hil
      obtain ⟨kx, hke⟩ : ∃ kx, xs[i].key = kx := ⟨_, rfl⟩
      rw [hke] at q0
      have HKE := Lib.hid hke
      subst hF
      clear hke q1
      by_cases he : kx = k
      · subst he
        go_wp2
        go_ret
        exact ⟨rfl, .inr ⟨i, hil, rfl, HKE.out, HM.out⟩⟩
      · have heI : ¬ (kx : Int) = (k : Int) := by omega
        have HX : Hid (∀ j (hj : j < xs.length), j < i + 1 → xs[j].key ≠ k) := Lib.hid (fun j hj hji => by
          rcases Nat.lt_or_ge j i with h | h
          · exact HM.out j hj h
          · obtain rfl : j = i := by omega
            rw [HKE.out]
            exact he)
        go_wp2
        go_roundg (gk - 1)
        case measure => omega
        case rel => exact ⟨i + 1, by omega, by go_num, rfl, HX⟩
    · have hltI : ¬ (i : Int) < (n : Int) := by omega
      have HX : Hid (k ∉ keysI xs) := Lib.hid (fun hm => by
        obtain ⟨x, hx, e⟩ := List.mem_map.1 hm
        obtain ⟨j, hj, rfl⟩ := List.getElem_of_mem hx
        exact HM.out j hj (by rw [HN.out] at hj; omega) e)
      go_wp2
      go_ret
      exact ⟨rfl, .inl ⟨rfl, HX.out⟩⟩
theorem r12lowest_walk (h : IV w v xs) (hl : xs.length ≤ 100000000) (f : Nat) : Calls Tryz.prog 113 #[v, .int .i64 (f : Nat)] w (LowP w xs f) := by
  obtain ⟨F, c, rfl, h1, h2, h3⟩ := h.mem
  have HC := Lib.hid h3
  obtain ⟨n, hn⟩ : ∃ n, xs.length = n := ⟨_, rfl⟩
  rw [hn] at hl ⊢
  have HN := Lib.hid hn
  clear h h3 h2 h1 hn
  go_enter Tryz.func113, Tryz.ntmps113
  go_wp2_with fail
  go_loopg [5, 6] n (fun gg s5 s6 wr => ∃ (i : Nat) (a : Int), i + gg = n ∧ s5 = .int .i64 a ∧ s6 = .int .i64 (i : Nat) ∧ wr = w ∧ Hid ((a = -1 ∧ ∀ j (hj : j < xs.length), j < i → xs[j].f ≠ f) ∨ ∃ (m : Nat) (hm : m < xs.length), a = (m : Nat) ∧ m < i ∧ xs[m].f = f ∧ ∀ j (hj : j < xs.length), m < j → j < i → xs[j].f ≠ f))
  case atStart => exact ⟨0, -1, by omega, rfl, rfl, rfl, Lib.hid (.inl ⟨rfl, fun j _ hj => by omega⟩)⟩
  case round =>
    obtain ⟨i, a, hi, rfl, rfl, rfl, HM⟩ := hrel
    by_cases hlt : i < n
    · have hltI : (i : Int) < (n : Int) := by omega
      have hil : i < xs.length := by rw [HN.out]; exact hlt
      obtain ⟨g, off, hF, hg, q0, q1⟩ := HC.out i hil
      obtain ⟨fx, hfe⟩ : ∃ fx, xs[i].f = fx := ⟨_, rfl⟩
      rw [hfe] at q1
      have HFE := Lib.hid hfe
      subst hF
      clear hfe q0
      by_cases he : fx = f
      · subst he
        go_wp2
        go_roundg (gk - 1)
        case measure => omega
        case rel => exact ⟨i + 1, (i : Nat), by omega, rfl, by go_num, rfl, Lib.hid (.inr ⟨i, hil, rfl, by omega, HFE.out, fun j _ h1 h2 => by omega⟩)⟩
      · have heI : ¬ (fx : Int) = (f : Int) := by omega
        have HX : Hid ((a = -1 ∧ ∀ j (hj : j < xs.length), j < i + 1 → xs[j].f ≠ f) ∨ ∃ (m : Nat) (hm : m < xs.length), a = (m : Nat) ∧ m < i + 1 ∧ xs[m].f = f ∧ ∀ j (hj : j < xs.length), m < j → j < i + 1 → xs[j].f ≠ f) := Lib.hid (by
          rcases HM.out with ⟨e1, h2⟩ | ⟨m, hm, e1, h1, h2, h3⟩
          · refine .inl ⟨e1, fun j hj hji => ?_⟩
            rcases Nat.lt_or_ge j i with h | h
            · exact h2 j hj h
            · obtain rfl : j = i := by omega
              rw [HFE.out]
              exact he
          · refine .inr ⟨m, hm, e1, by omega, h2, fun j hj hmj hji => ?_⟩
            rcases Nat.lt_or_ge j i with h | h
            · exact h3 j hj hmj h
            · obtain rfl : j = i := by omega
              rw [HFE.out]
              exact he)
        go_wp2
        go_roundg (gk - 1)
        case measure => omega
        case rel => exact ⟨i + 1, a, by omega, rfl, by go_num, rfl, HX⟩
    · have hltI : ¬ (i : Int) < (n : Int) := by omega
      obtain rfl : i = n := by omega
      go_wp2
      go_ret
      refine ⟨rfl, ?_⟩
      rcases HM.out with ⟨e1, h2⟩ | ⟨m, hm, e1, h1, h2, h3⟩
      · exact .inl ⟨by rw [e1]; rfl, fun j hj => h2 j hj (by rw [HN.out] at hj; exact hj)⟩
      · exact .inr ⟨m, hm, by rw [e1]; rfl, h2, fun j hj hmj => h3 j hj hmj (by rw [HN.out] at hj; exact hj)⟩
end
set_option maxRecDepth 8000
abbrev TI12 : TypeId := 75
def tailI (F : Option Addr) (n c i : Nat) : Value := .slice (if c = i then F else F.map (fun a => a.add (i * 2))) (n - i) (c - i)
theorem itL_drop : ∀ (xs : List It) (m : Nat), itL (xs.drop m) = (itL xs).drop (m * 2)
  | [], m => by simp [itL]
  | x :: xs, 0 => by simp
  | x :: xs, m + 1 => by
    rw [List.drop_succ_cons, itL_cons, itL_drop xs m]
    show _ = List.drop ((m + 1) * 2) (_ :: _ :: itL xs)
    rw [show (m + 1) * 2 = m * 2 + 1 + 1 by omega, List.drop_succ_cons, List.drop_succ_cons]
theorem IV.tail {w : World} {F : Option Addr} {c : Nat} {xs : List It} (h : IV w (.slice F xs.length c) xs) {i : Nat} (hi : i ≤ xs.length) : IV w (tailI F xs.length c i) (xs.drop i) := by
  obtain ⟨hl, ⟨F', c', e, h1, h2, h3⟩, hnp⟩ := h
  injection e with e1 e2 e3
  subst e1 e3
  refine ⟨itL_len _, ⟨(if c = i then F else F.map (fun a => a.add (i * 2))), c - i, by simp [tailI], by simp; omega, fun hn => ?_, fun j u hj => ?_⟩, fun m c2 ad e1 => ?_⟩
  rotate_left 2
  · injection e1 with e1 e2 e3
    obtain ⟨n', hn'⟩ : ∃ n', xs.length = n' + 1 := ⟨xs.length - 1, by omega⟩
    cases F with
    | none => split at e1 <;> cases e1
    | some a =>
      have hb : ad.block = a.block := by
        split at e1
        · injection e1 with e1
          rw [e1]
        · have e4 : a.add (i * 2) = ad := by injection e1
          rw [← e4, ad_block]
      rw [hb]
      exact hnp n' c a (by rw [hn'])
  · split at hn
    · omega
    · cases F with
      | none => have := h2 rfl; omega
      | some a => cases hn
  · have hd : (itL xs)[i * 2 + j]? = some u := by
      rw [itL_drop, List.getElem?_drop] at hj
      exact hj
    obtain ⟨ad, rfl, h4, h5⟩ := h3 _ _ hd
    have hlt : i * 2 + j < xs.length * 2 := by
      have := (List.getElem?_eq_some_iff.1 hd).1
      rw [itL_len] at this
      exact this
    rw [if_neg (by omega)]
    refine ⟨ad.add (i * 2), rfl, by rw [ad_block]; exact h4, ?_⟩
    rw [← h5]
    rw [Addr.add_add]
def Hold12 (cur : Array Value) (off : Nat) (xs : List It) : Prop := ∀ i (h : i < xs.length), cur[off + i * 2]? = some (.int .u64 (xs[i].key : Nat)) ∧ cur[off + i * 2 + 1]? = some (.int .i64 (xs[i].f : Nat))
theorem IV.of_hold12 {w : World} {g off c : Nat} {cur : Array Value} {t : TypeId} {xs : List It} (hg : w.heap[g]? = some (.cells cur t (0, 0))) (h : Hold12 cur off xs) (hc : xs.length ≤ c) (he : okT t = true := by decide) : IV w (.slice (some ⟨g, off, none⟩) xs.length c) xs := by
  refine ⟨itL_len xs, ⟨_, c, rfl, hc, (fun e => by cases e), fun j u hu => ⟨_, rfl, (Array.getElem?_eq_some_iff.1 hg).1, ?_⟩⟩, fun m c' ad e1 => by
    injection e1 with e1
    injection e1 with e1
    subst e1
    exact NP.cells hg he⟩
  have hj := (List.getElem?_eq_some_iff.1 hu).1
  rw [itL_len] at hj
  rw [Addr.add_lit, cell_of_row w g (off + j) cur t (0, 0) hg]
  obtain ⟨i, hi | hi⟩ : ∃ i, j = i * 2 ∨ j = i * 2 + 1 := ⟨j / 2, by omega⟩
  · subst hi
    have hi2 : i < xs.length := by omega
    rw [(h i hi2).1, ← (itL_at xs i hi2).1, hu]
  · subst hi
    have hi2 : i < xs.length := by omega
    rw [← Nat.add_assoc, (h i hi2).2, ← (itL_at xs i hi2).2, hu]
theorem arr_set_other12 {cur : Array Value} {j k : Nat} {x : Value} (h : k ≠ j) : (cur.setIfInBounds j x)[k]? = cur[k]? := by
  rw [Array.getElem?_setIfInBounds]
  split
  · omega
  · rfl
theorem arr_set_same12 {cur : Array Value} {j : Nat} {x : Value} (h : j < cur.size) : (cur.setIfInBounds j x)[j]? = some x := by
  rw [Array.getElem?_setIfInBounds]
  simp [h]
structure SetI (B : Nat) (w0 w : World) (g c i f : Nat) (xs : List It) : Prop where
  lt : g < w.heap.size
  cell : ∃ f0 : Nat, w.cell? ⟨g, i * 2 + 1, none⟩ = some (.int .i64 (f0 : Nat))
  free : w.frozen? ⟨g, i * 2 + 1, none⟩ = false
  low : Below B w0 (w.setCell ⟨g, i * 2 + 1, none⟩ (.int .i64 (f : Nat)))
  iv : IV (w.setCell ⟨g, i * 2 + 1, none⟩ (.int .i64 (f : Nat))) (.slice (some ⟨g, 0, none⟩) xs.length c) xs
theorem OwnI.set {e : TypeId} {B : Nat} {w0 w : World} {v : Value} {xs : List It} (h : OwnI e B w0 w v xs) (hB : B ≤ w.heap.size) {i : Nat} (hi : i < xs.length) (f : Nat) (he : okT e = true := by decide) :
    ∃ g c, v = .slice (some ⟨g, 0, none⟩) xs.length c ∧ xs.length ≤ c ∧ SetI B w0 w g c i f (xs.set i ⟨xs[i].key, f⟩) := by
  rcases h.own.2 with ⟨rfl, h0⟩ | ⟨g, c, cur, rfl, hBg, hg, hle, hc, hsz, htk⟩
  · omega
  · have hh : Hold12 cur 0 xs := fun p hp => by
      obtain ⟨a1, a2⟩ := itL_at xs p hp
      rw [← htk, List.getElem?_take] at a1 a2
      rw [if_pos (by omega)] at a1 a2
      rw [Nat.zero_add]
      exact ⟨by simpa using a1, by simpa using a2⟩
    have hro := head_row hg
    have h1 := (hh i hi).2
    rw [Nat.zero_add] at h1
    have hlt : i * 2 + 1 < cur.size := (Array.getElem?_eq_some_iff.1 h1).1
    refine ⟨g, c, rfl, hle, ⟨hro.lt, ⟨xs[i].f, (cell_of_row w g (i * 2 + 1) cur e (0, 0) hg).trans h1⟩, hro.frozen _, ((Only.refl [g] w).setCell (by simp) _).below (by simp; exact hBg) hB |> h.low.trans, ?_⟩⟩
    have hh2 : Hold12 (cur.setIfInBounds (i * 2 + 1) (.int .i64 (f : Nat))) 0 (xs.set i ⟨xs[i].key, f⟩) := fun p hp => by
      rw [List.length_set] at hp
      have h2 := hh p hp
      rw [List.getElem_set, Nat.zero_add] at *
      by_cases hpi : i = p
      · subst hpi
        rw [if_pos rfl]
        refine ⟨?_, arr_set_same12 hlt⟩
        rw [arr_set_other12 (by omega)]
        exact h2.1
      · rw [if_neg hpi]
        rw [arr_set_other12 (by omega), arr_set_other12 (by omega)]
        exact h2
    exact IV.of_hold12 (set_one hg) hh2 (by rw [List.length_set]; exact hle) he
def RetI12 (w : World) (xs : List It) (e : Ending) (w' : World) : Prop := ∃ v, e = .returned v ∧ Below w.heap.size w w' ∧ IV w' v xs ∧ ∀ u, Nw w.heap.size u v
theorem cut_is {xs : List It} (hnd : ∀ a, tot a xs ≤ 1) {i : Nat} (hi : i < xs.length) : xs.take i ++ xs.drop (i + 1) = wi xs[i].key xs := by
  induction xs generalizing i with
  | nil => simp at hi
  | cons x xs ih =>
    have hnd2 : ∀ a, tot a xs ≤ 1 := fun a => by have := hnd a; rw [tot_cons] at this; omega
    cases i with
    | zero =>
      have h0 := hnd x.key
      rw [tot_cons, if_pos rfl] at h0
      have hw : wi x.key xs = xs := wi_none (by omega)
      show xs = _
      unfold wi at *
      rw [List.getElem_cons_zero, List.filter_cons, if_neg (by simp), hw]
    | succ i =>
      have hi2 : i < xs.length := by simpa using hi
      rw [List.take_succ_cons, List.drop_succ_cons, List.cons_append, ih hnd2 hi2, List.getElem_cons_succ]
      unfold wi
      rw [List.filter_cons, if_pos]
      have h1 := hnd x.key
      rw [tot_cons, if_pos rfl] at h1
      have h2 : 0 < tot xs[i].key xs := tot_in.1 (List.mem_map_of_mem (List.getElem_mem hi2))
      simp only [bne_iff_ne, ne_eq]
      intro e
      rw [e] at h1
      omega
theorem set_is {xs : List It} (hnd : ∀ a, tot a xs ≤ 1) {i : Nat} (hi : i < xs.length) (f : Nat) : xs.set i ⟨xs[i].key, f⟩ = setI xs[i].key f xs := by
  induction xs generalizing i with
  | nil => simp at hi
  | cons x xs ih =>
    have hnd2 : ∀ a, tot a xs ≤ 1 := fun a => by have := hnd a; rw [tot_cons] at this; omega
    have hno : ∀ {k : Nat} {l : List It}, tot k l = 0 → setI k f l = l := by
      intro k l h
      unfold setI
      refine (List.map_congr_left (fun y hy => ?_)).trans (List.map_id l)
      rw [if_neg]
      · rfl
      · rintro rfl
        have h2 : 0 < tot y.key l := tot_in.1 (List.mem_map_of_mem hy)
        omega
    cases i with
    | zero =>
      have h0 := hnd x.key
      rw [tot_cons, if_pos rfl] at h0
      have h1 : setI x.key f xs = xs := hno (by omega)
      rw [List.set_cons_zero, List.getElem_cons_zero]
      unfold setI at *
      rw [List.map_cons, if_pos rfl, h1]
    | succ i =>
      have hi2 : i < xs.length := by simpa using hi
      rw [List.set_cons_succ, List.getElem_cons_succ, ih hnd2 hi2]
      unfold setI
      rw [List.map_cons, if_neg]
      have h1 := hnd x.key
      rw [tot_cons, if_pos rfl] at h1
      have h2 : 0 < tot xs[i].key xs := tot_in.1 (List.mem_map_of_mem (List.getElem_mem hi2))
      intro e
      rw [e] at h1
      omega
theorem lastK_at {f : Nat} : ∀ {xs : List It} {m : Nat} (hm : m < xs.length), xs[m].f = f → (∀ j (hj : j < xs.length), m < j → xs[j].f ≠ f) → lastF f xs = xs[m].key
  | x :: xs, 0, _, h1, h2 => by
    have h3 : nk f xs = 0 := List.countP_eq_zero.2 (fun y hy => by
      obtain ⟨j, hj, rfl⟩ := List.getElem_of_mem hy
      have := h2 (j + 1) (by simpa using hj) (by omega)
      simpa using this)
    rw [lastF, if_neg (by omega), List.getElem_cons_zero, if_pos (show x.f = f from h1)]
  | x :: xs, m + 1, hm, h1, h2 => by
    have hm2 : m < xs.length := by simpa using hm
    have h3 : 0 < nk f xs := List.countP_pos_iff.2 ⟨xs[m], List.getElem_mem hm2, beq_iff_eq.2 h1⟩
    rw [lastF, if_pos h3, List.getElem_cons_succ]
    exact lastK_at hm2 h1 (fun j hj hmj => h2 (j + 1) (by simpa using hj) (by omega))
theorem low_none {f : Nat} {xs : List It} (h : ∀ j (hj : j < xs.length), xs[j].f ≠ f) : nk f xs = 0 := List.countP_eq_zero.2 (fun y hy => by
  obtain ⟨j, hj, rfl⟩ := List.getElem_of_mem hy
  simpa using h j hj)
set_option maxRecDepth 8000
section
variable {w : World} {v : Value} {xs : List It}
theorem r12room_walk (c : Nat) (hc : c ≤ 1048576) (h1 : 1 ≤ c) : Calls Tryz.prog 80 #[.int .i64 (c : Nat)] w fun e w' => e = .returned (.int .i64 (roomH c : Nat)) ∧ w = w' := by
  have hi := roomH_is c
  go_enter Tryz.func80, Tryz.ntmps80
  by_cases h : c < 200
  · rw [if_pos h] at hi
    rw [← hi]
    clear hi
    have hI : (c : Int) < 200 := by omega
    go_wp2
    go_ret
    exact ⟨congrArg (fun x : Int => Ending.returned (Value.int .i64 x)) (by omega), rfl⟩
  · rw [if_neg h] at hi
    rw [← hi]
    clear hi
    have hI : ¬ (c : Int) < 200 := by omega
    go_wp2
    go_ret
    exact ⟨congrArg (fun x : Int => Ending.returned (Value.int .i64 x)) (by omega), rfl⟩
set_option maxHeartbeats 1000000 in
theorem r12cut_walk (h : IV w v xs) (hl : xs.length ≤ 100000000) {i : Nat} (hi : i < xs.length) : Calls Tryz.prog 82 #[v, .int .i64 (i : Nat)] w (RetI12 w (xs.take i ++ xs.drop (i + 1))) := by
  obtain ⟨F, c, rfl, hcap, _, h3⟩ := h.mem
  obtain ⟨g, off, hF, hg, -⟩ := h3 i hi
  subst hF
  have HT : Hid (∀ W, Below w.heap.size w W → IV W (.slice (some ⟨g, off, none⟩) i c) (xs.take i)) := Lib.hid (fun W hb => by
    obtain ⟨F', d', e, hk⟩ := (h.below hb).take i (by omega)
    injection e with e1 e2 e3
    subst e1 e3
    exact hk)
  have HD : Hid (∀ W, Below w.heap.size w W → IV W (tailI (some ⟨g, off, none⟩) xs.length c (i + 1)) (xs.drop (i + 1))) := Lib.hid (fun W hb => (h.below hb).tail (by omega))
  obtain ⟨n, hn⟩ : ∃ n, xs.length = n := ⟨_, rfl⟩
  have HN := Lib.hid hn
  rw [hn] at hi hl hcap HD ⊢
  have hiI : (i : Int) ≤ (c : Int) := by omega
  have hi2 : i ≤ c := by omega
  have hi3 : i + 1 ≤ n := by omega
  have hi3I : (i : Int) + 1 ≤ (n : Int) := by omega
  have hcI : (n : Int) ≤ (c : Int) := by omega
  have hnI : (n : Int) ≤ 100000000 := by omega
  have HO0 : Hid (OwnI TI12 w.heap.size w (w.alloc (.cells #[] TI12)) (.slice (some ⟨w.heap.size, 0, none⟩) 0 0) []) := Lib.hid (OwnI.empty (Nat.le_refl _) (Below.refl _ _))
  have HT0 := Lib.hid (HT.out _ (low_one w (.cells #[] TI12)))
  clear h h3 hn HT
  go_enter Tryz.func82, Tryz.ntmps82
  go_wp2_with (at_builtin; refine wpList_append_iv (e := TI12) rfl (.tmp 6) (.tmp 9) rfl w.heap.size (by kernel_rfl) (by kernel_rfl) _ [] rfl HO0.out _ (xs.take i) rfl HT0.out (by rw [List.length_take]; simp; omega) (by simp) ?_)
  intro v1 w1 hown1 _ _
  have HO1 := Lib.hid hown1
  have HD1 := Lib.hid (HD.out _ hown1.low)
  have hsz := hown1.low.size
  clear hown1 HO0 HT0 HD
  by_cases hd : c = i + 1
  · obtain rfl : n = i + 1 := by omega
    subst hd
    rw [show tailI (some ⟨g, off, none⟩) (i + 1) (i + 1) (i + 1) = .slice (some ⟨g, off, none⟩) 0 0 by simp [tailI]] at HD1
    go_wp2_with (at_builtin; refine wpList_append_iv (e := TI12) rfl (.tmp 11) (.tmp 15) rfl w.heap.size (by kernel_rfl) (by kernel_rfl) _ ([] ++ xs.take i) rfl HO1.out _ (xs.drop (i + 1)) rfl HD1.out (by rw [List.nil_append, List.length_take, List.length_drop, HN.out]; omega) hsz ?_)
    intro v2 w2 hown2 _ _
    have HO2 := Lib.hid hown2
    clear hown2 HO1 HD1
    go_wp2
    go_ret
    exact ⟨_, rfl, HO2.out.low, HO2.out.iv, fun u => Nw.of_iown u HO2.out (Nat.le_refl _)⟩
  · have hdI : ¬ (c : Int) = (i : Int) + 1 := by omega
    rw [show tailI (some ⟨g, off, none⟩) n c (i + 1) = .slice (some ⟨g, off + (i + 1) * 2, none⟩) (n - (i + 1)) (c - (i + 1)) by simp [tailI, hd, Addr.add_lit]] at HD1
    go_wp2_with (at_builtin; refine wpList_append_iv (e := TI12) rfl (.tmp 11) (.tmp 15) rfl w.heap.size (by kernel_rfl) (by kernel_rfl) _ ([] ++ xs.take i) rfl HO1.out _ (xs.drop (i + 1)) rfl HD1.out (by rw [List.nil_append, List.length_take, List.length_drop, HN.out]; omega) hsz ?_)
    intro v2 w2 hown2 _ _
    have HO2 := Lib.hid hown2
    clear hown2 HO1 HD1
    go_wp2
    go_ret
    exact ⟨_, rfl, HO2.out.low, HO2.out.iv, fun u => Nw.of_iown u HO2.out (Nat.le_refl _)⟩
set_option maxHeartbeats 1000000 in
theorem r12set_walk (h : IV w v xs) (hl : xs.length ≤ 100000000) {i : Nat} (hi : i < xs.length) (f : Nat) : Calls Tryz.prog 114 #[v, .int .i64 (i : Nat), .int .i64 (f : Nat)] w (RetI12 w (xs.set i ⟨xs[i].key, f⟩)) := by
  obtain ⟨F, c, rfl, -⟩ := h.mem
  have HO0 : Hid (OwnI TI12 w.heap.size w (w.alloc (.cells #[] TI12)) (.slice (some ⟨w.heap.size, 0, none⟩) 0 0) []) := Lib.hid (OwnI.empty (Nat.le_refl _) (Below.refl _ _))
  have HS := Lib.hid (h.below (low_one w (.cells #[] TI12)))
  have HI := Lib.hid hi
  obtain ⟨n, hn⟩ : ∃ n, xs.length = n := ⟨_, rfl⟩
  have hl2 : n ≤ 100000000 := by omega
  have hin : i < n := by omega
  rw [hn] at HS ⊢
  clear h hl
  go_enter Tryz.func114, Tryz.ntmps114
  go_wp2_with (at_builtin; refine wpList_append_iv (e := TI12) rfl (.tmp 8) (.tmp 9) rfl w.heap.size (by kernel_rfl) (by kernel_rfl) _ [] rfl HO0.out _ xs rfl HS.out (by rw [hn]; simp; omega) (by simp) ?_)
  intro v1 w1 hown1 _ _
  obtain ⟨g, d, rfl, hd, hset⟩ := hown1.set hown1.low.size hi f
  have HNW := Lib.hid (fun u => Nw.of_iown u hown1 (Nat.le_refl _))
  rw [hn] at hd HNW ⊢
  obtain ⟨f0, hc0⟩ := hset.cell
  have hfr := hset.free
  have hlt := hset.lt
  have HE := Lib.hid (And.intro hset.low hset.iv)
  have hdI : (n : Int) ≤ (d : Int) := by omega
  have hinI : (i : Int) < (n : Int) := by omega
  have HN := Lib.hid hn
  clear hown1 hset HO0 HS hn
  go_wp2
  go_ret
  refine ⟨_, rfl, HE.out.1, ?_, HNW.out⟩
  have h9 := HE.out.2
  rw [List.length_set, HN.out] at h9
  exact h9
end
end Go.Proofs.YtkhikpnlpcankaaGreat
