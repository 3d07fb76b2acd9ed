/- Package ilist: join, push, PushFront, PushBack. -/
import Derived.Test.YtlmcodmglcmmoaaLsJ
namespace Go.Proofs.Ytlmcodmglcmmoaa
open Go Go.RowKit Go.Deep

def LSt.setAfter (x : LSt) (t i : Nat) (v : Int) : LSt := if i = 0 then x.setEn t { x.en t with front := v } else x.setNd i { x.st.node i with next := v }
def LSt.setBefore (x : LSt) (t i : Nat) (v : Int) : LSt := if i = 0 then x.setEn t { x.en t with back := v } else x.setNd i { x.st.node i with prev := v }
def LSt.join (x : LSt) (t a c : Nat) : LSt := (x.setAfter t a c).setBefore t c a
def LSt.tk (x : LSt) (i : Nat) : Bool := x.st.tk i

section
variable (x : LSt) (t i u : Nat) (v : Int)
theorem setEn_tk (E : En) : (x.setEn t E).st.tk i = x.st.tk i := rfl
theorem setNd_tk (y : Nd) : (x.setNd u y).st.tk i = x.st.tk i := rfl
theorem setAfter_tk : (x.setAfter t u v).st.tk i = x.st.tk i := by unfold LSt.setAfter; split <;> rfl
theorem setBefore_tk : (x.setBefore t u v).st.tk i = x.st.tk i := by unfold LSt.setBefore; split <;> rfl
theorem setAfter_n : (x.setAfter t i v).n = x.n := by unfold LSt.setAfter; split <;> rfl
theorem setBefore_n : (x.setBefore t i v).n = x.n := by unfold LSt.setBefore; split <;> rfl
theorem setAfter_count : ((x.setAfter t i v).en u).count = (x.en u).count := by
  unfold LSt.setAfter
  split
  · show (upd x.en t _ u).count = _
    unfold upd; split
    · rename_i e; subst e; rfl
    · rfl
  · rfl
theorem setBefore_count : ((x.setBefore t i v).en u).count = (x.en u).count := by
  unfold LSt.setBefore
  split
  · show (upd x.en t _ u).count = _
    unfold upd; split
    · rename_i e; subst e; rfl
    · rfl
  · rfl
theorem join_tk (a c : Nat) : (x.join t a c).st.tk i = x.st.tk i := by unfold LSt.join; rw [setBefore_tk, setAfter_tk]
theorem join_n (a c : Nat) : (x.join t a c).n = x.n := by unfold LSt.join; rw [setBefore_n, setAfter_n]
theorem join_count (a c : Nat) : ((x.join t a c).en u).count = (x.en u).count := by unfold LSt.join; rw [setBefore_count, setAfter_count]
end

section
variable {w0 w w1 w2 w' : World} {p b e : Nat} {x : LSt} {K : List Nat}
theorem setAfter_walk (h : HeldL w0 w p b x K) (t : Nat) (ht : t < x.n) (i : Nat) (hi : i = 0 ∨ x.st.tk i = true) (v : Int) :
    Calls Try.prog 56 #[.pointer (some ⟨p, 0, none⟩), .int .i64 t, .int .i32 i, .int .i32 v] w fun e w' => e = .returned (.tuple #[]) ∧ HeldL w0 w' p b (x.setAfter t i v) K ∧ Kept K w w' := by
  unfold LSt.setAfter
  by_cases h0 : i = 0
  · subst h0; rw [if_pos rfl]; exact setAfter_end h t ht v
  · rw [if_neg h0]; exact setAfter_some h t i (hi.resolve_left h0) v
theorem setBefore_walk (h : HeldL w0 w p b x K) (t : Nat) (ht : t < x.n) (i : Nat) (hi : i = 0 ∨ x.st.tk i = true) (v : Int) :
    Calls Try.prog 57 #[.pointer (some ⟨p, 0, none⟩), .int .i64 t, .int .i32 i, .int .i32 v] w fun e w' => e = .returned (.tuple #[]) ∧ HeldL w0 w' p b (x.setBefore t i v) K ∧ Kept K w w' := by
  unfold LSt.setBefore
  by_cases h0 : i = 0
  · subst h0; rw [if_pos rfl]; exact setBefore_end h t ht v
  · rw [if_neg h0]; exact setBefore_some h t i (hi.resolve_left h0) v
theorem join_walk (h : HeldL w0 w p b x K) (t : Nat) (ht : t < x.n) (a c : Nat) (ha : a = 0 ∨ x.st.tk a = true) (hc : c = 0 ∨ x.st.tk c = true) :
    Calls Try.prog 51 #[.pointer (some ⟨p, 0, none⟩), .int .i64 t, .int .i32 a, .int .i32 c] w fun e w' => e = .returned (.tuple #[]) ∧ HeldL w0 w' p b (x.join t a c) K ∧ Kept K w w' := by
  have H := Lib.hid h
  have HA := Lib.hid ha
  have HC := Lib.hid hc
  have HT := Lib.hid ht
  clear h ha hc ht
  go_enter Try.func51, Try.ntmps51
  go_wp2_with fail
  refine (setAfter_walk H.out t HT.out a HA.out c).mono ?_
  rintro e w1 ⟨rfl, h1, h2⟩
  have H1 := Lib.hid h1
  have K1 := Lib.hid h2
  clear h1 h2
  go_wp2_with fail
  refine (setBefore_walk H1.out t (by rw [setAfter_n]; exact HT.out) c (by rw [setAfter_tk]; exact HC.out) a).mono ?_
  rintro e w2 ⟨rfl, h1, h2⟩
  have H2 := Lib.hid h1
  have K2 := Lib.hid h2
  clear h1 h2
  go_wp2
  go_end0
  exact ⟨rfl, H2.out, K1.out.trans K2.out⟩

/- A slot between two neighbours. -/
def LSt.push3 (x : LSt) (t i a c : Nat) : LSt := ((x.setNd i { x.st.node i with tag := t + 1 }).join t a i).join t i c
def LSt.push (x : LSt) (t i a c : Nat) : LSt := (x.push3 t i a c).setEn t { (x.push3 t i a c).en t with count := (x.en t).count + 1 }
theorem push3_count (x : LSt) (t i a c u : Nat) : ((x.push3 t i a c).en u).count = (x.en u).count := by
  unfold LSt.push3
  rw [join_count, join_count]; rfl
theorem push3_n (x : LSt) (t i a c : Nat) : (x.push3 t i a c).n = x.n := by
  unfold LSt.push3
  rw [join_n, join_n]; rfl

theorem pushFront_not (h : HeldL w0 w p b x K) (tag i : Int) (h32 : i ≤ 2147483647) (hT : 0 ≤ (x.st.at_ i).tag ∧ (x.st.at_ i).tag ≤ 8) (hno : (x.has tag && x.st.is i && decide ((x.st.at_ i).tag = 0)) = false) (B0 B1 : Nat) :
    Calls Try.prog 47 #[.pointer (some ⟨p, 0, none⟩), .int .i64 tag, .int .i32 i, .func (.func 48) #[] #[.pointer (some ⟨B0, 0, none⟩), .pointer (some ⟨B1, 0, none⟩)]] w fun e w' => e = .returned (.bool false) ∧ Below w.heap.size w w' := by
  have H := Lib.hid h
  have c0 := h.c0
  cases ht : x.has tag
  · have HT := Lib.hid ht
    clear h ht hno hT
    go_enter Try.func47, Try.ntmps47
    go_wp2_with fail
    refine (lhas_walk H.out tag).mono ?_
    rintro e w1 ⟨rfl, rfl⟩
    rw [HT.out]
    go_wp2
    go_ret
    exact ⟨rfl, Below.refl _ _⟩
  · have HT := Lib.hid ht
    cases hi : x.st.is i
    · have HI := Lib.hid hi
      clear h ht hno hi hT
      go_enter Try.func47, Try.ntmps47
      go_wp2_with fail
      refine (lhas_walk H.out tag).mono ?_
      rintro e w1 ⟨rfl, rfl⟩
      rw [HT.out]
      go_wp2_with fail
      refine (heldl_is H.out i h32).mono ?_
      rintro e w1 ⟨rfl, rfl⟩
      rw [HI.out]
      go_wp2
      go_ret
      exact ⟨rfl, Below.refl _ _⟩
    · have HI := Lib.hid hi
      have HTG := Lib.hid (tag_walk H.out i h32 hT)
      rw [ht, hi] at hno
      simp only [Bool.and_self, Bool.true_and, decide_eq_false_iff_not] at hno
      obtain ⟨g, hg⟩ : ∃ g, (x.st.at_ i).tag = g := ⟨_, rfl⟩
      rw [hg] at HTG hT hno
      have hge : (0 : Int) ≤ g - 1 := by omega
      have hle : g ≤ 8 := hT.2
      clear h ht hno hi hT hg
      go_enter Try.func47, Try.ntmps47
      go_wp2_with fail
      refine (lhas_walk H.out tag).mono ?_
      rintro e w1 ⟨rfl, rfl⟩
      rw [HT.out]
      go_wp2_with fail
      refine (heldl_is H.out i h32).mono ?_
      rintro e w1 ⟨rfl, rfl⟩
      rw [HI.out]
      go_wp2_with fail
      refine HTG.out.mono ?_
      rintro e w1 ⟨rfl, hb⟩
      go_wp2
      go_ret
      exact ⟨rfl, hb⟩

set_option maxHeartbeats 400000 in
theorem pushFront_yes (h : HeldL w0 w p b x K) (t i : Nat) (ht : t < x.n) (hi : x.st.tk i = true) (hT : (x.st.node i).tag = 0) (hn : 0 ≤ (x.en t).count ∧ (x.en t).count ≤ 1000000) (a c : Nat) (ha : a = 0 ∨ x.st.tk a = true) (hc : c = 0 ∨ x.st.tk c = true) (B0 B1 : Nat)
    (hcl : ∀ w1, Below w.heap.size w w1 → Calls Try.prog 48 #[.pointer (some ⟨B0, 0, none⟩), .pointer (some ⟨B1, 0, none⟩)] w1 fun e w' => e = .returned (.tuple #[.int .i32 a, .int .i32 c]) ∧ w1 = w') :
    Calls Try.prog 47 #[.pointer (some ⟨p, 0, none⟩), .int .i64 t, .int .i32 i, .func (.func 48) #[] #[.pointer (some ⟨B0, 0, none⟩), .pointer (some ⟨B1, 0, none⟩)]] w fun e w' => e = .returned (.bool true) ∧ HeldL w0 w' p b (x.push t i a c) K ∧ Kept K w w' := by
  obtain ⟨hi0, hlt, his, e0⟩ := h.taken hi
  have HTG : Hid (Calls Try.prog 21 #[.pointer (some ⟨p, 0, none⟩), .int .i32 i] w fun e w' => e = .returned (.int .i64 (-1)) ∧ Below w.heap.size w w') := by
    have hh := tag_walk h i (by omega) (by rw [e0, hT]; omega)
    rw [e0, hT] at hh
    exact Lib.hid hh
  have HHS : Hid (Calls Try.prog 45 #[.pointer (some ⟨p, 0, none⟩), .int .i64 t] w fun e w' => e = .returned (.bool true) ∧ w = w') := by
    have hh := lhas_walk h t
    rw [LSt.has_of ht] at hh
    exact Lib.hid hh
  have HIS : Hid (Calls Try.prog 49 #[.pointer (some ⟨b, 0, none⟩), .int .i32 i] w fun e w' => e = .returned (.bool true) ∧ w = w') := by
    have hh := heldl_is h i (by omega)
    rw [his] at hh
    exact Lib.hid hh
  have HAT : Hid (∀ w1, Below w.heap.size w w1 → Calls Try.prog 25 #[.pointer (some ⟨b, 0, none⟩), .int .i32 i] w1 fun e w' => e = .returned (x.st.node i).v ∧ Below w1.heap.size w1 w') := Lib.hid (fun w1 hb => by
    have hh := heldl_at (h.still hb).1 i (by omega)
    rw [e0] at hh
    exact hh)
  have H := Lib.hid h
  have c0 := h.c0
  have hp : p < w.heap.size := by obtain ⟨e, hs⟩ := h.seen; exact hs.lp
  have HCL := Lib.hid hcl
  have HI := Lib.hid hi
  have HA := Lib.hid ha
  have HC := Lib.hid hc
  have HT := Lib.hid ht
  have h8 := h.eight
  have ht8 : t < 8 := by omega
  have hPU := (rfl : x.push t i a c = x.push t i a c)
  have hp3 : x.push3 t i a c = ((x.setNd i { x.st.node i with tag := t + 1 }).join t a i).join t i c := rfl
  revert HAT
  intro HAT
  obtain ⟨y, hy⟩ : ∃ y, x.st.node i = y := ⟨_, rfl⟩
  rw [hy] at HAT hp3
  obtain ⟨y', hy'⟩ : ∃ y' : Nd, y' = { y with tag := t + 1 } := ⟨_, rfl⟩
  have HY := Lib.hid hy'
  have hp3' : x.push3 t i a c = ((x.setNd i y').join t a i).join t i c := by rw [hy', hp3]
  have HP3 := Lib.hid hp3'
  have hcnt : ((((x.setNd i y').join t a i).join t i c).en t).count = (x.en t).count := by rw [join_count, join_count]; rfl
  have HCN := Lib.hid hcnt
  obtain ⟨n1, n2⟩ := hn
  clear h ht hi hT ha hc hcl hy hy' hp3 hp3' his e0 hPU hcnt
  go_enter Try.func47, Try.ntmps47
  go_wp2_with fail
  refine HHS.out.mono ?_
  rintro e w1 ⟨rfl, rfl⟩
  go_wp2_with fail
  refine HIS.out.mono ?_
  rintro e w1 ⟨rfl, rfl⟩
  go_wp2_with fail
  refine HTG.out.mono ?_
  rintro e w1 ⟨rfl, hb⟩
  have c1 := (hb.cell hp).trans c0
  have hp1 : p < w1.heap.size := Nat.lt_of_lt_of_le hp hb.size
  go_wp2_with fail
  refine (HCL.out w1 hb).mono ?_
  rintro e w2 ⟨rfl, rfl⟩
  go_wp2_with fail
  refine (HAT.out w1 hb).mono ?_
  rintro e w2 ⟨rfl, hb2⟩
  have hb3 := hb.trans (hb2.mono hb.size)
  have c2 := (hb3.cell hp).trans c0
  clear c0 c1 hb hb2
  go_wp2_with fail
  have hx := H.out.boxed hb3 #[.int .u64 y.key, .int .u64 y.val, .int .i64 y.flag, .int .i64 (t + 1), .int .i32 y.prev, .int .i32 y.next] 56
  have hyc : (#[.int .u64 y.key, .int .u64 y.val, .int .i64 y.flag, .int .i64 (t + 1), .int .i32 y.prev, .int .i32 y.next] : Array Value) = y'.cells := by rw [HY.out]
  rw [hyc] at hx ⊢
  obtain ⟨q, hq⟩ : ∃ q, w2.heap.size = q := ⟨_, rfl⟩
  rw [hq] at hx ⊢
  obtain ⟨W, hW⟩ : ∃ W, w2.alloc (.cells y'.cells 56) = W := ⟨_, rfl⟩
  rw [hW] at hx ⊢
  clear hW hyc hq c2 hb3
  obtain ⟨hx1, hx2, hx3, _⟩ := hx
  have HX := Lib.hid hx1
  have HK := Lib.hid hx2
  have HS := Lib.hid hx3
  have cc0 := hx1.c0
  obtain ⟨d0, d1, d2, d3, d4, d5⟩ := six_cells hx3
  clear hx1 hx2 hx3
  go_region_held3 (fun w' => w'.cell? ⟨p, 0, none⟩ = some (.pointer (some ⟨b, 0, none⟩)) ∧ w'.cell? ⟨q, 0, none⟩ = some (.int .u64 y'.key) ∧ w'.cell? ⟨q, 1, none⟩ = some (.int .u64 y'.val) ∧ w'.cell? ⟨q, 2, none⟩ = some (.int .i64 y'.flag) ∧ w'.cell? ⟨q, 3, none⟩ = some (.int .i64 y'.tag) ∧ w'.cell? ⟨q, 4, none⟩ = some (.int .i32 y'.prev) ∧ w'.cell? ⟨q, 5, none⟩ = some (.int .i32 y'.next))
    (first | go_keep | exact kk0)
    (first | (go_at_call 30; refine (heldl_set (HX.out.still (Below.refl _ _).drew).1 i HI.out y').mono ?_; rintro e w3 ⟨rfl, h1, h2⟩; have kk0 := And.intro h1.c0 (six_cells ((h2 q (by simp)).trans HS.out))))
  have H1 := Lib.hid h1.unbox
  have H2 := Lib.hid (HK.out.trans (Kept.tail h2))
  clear h1 h2 kk0 cc0 d0 d1 d2 d3 d4 d5 HX HK HS
  go_wp2_with fail
  refine (join_walk H1.out t HT.out a i HA.out (.inr HI.out)).mono ?_
  rintro e w4 ⟨rfl, h1, h2⟩
  have H3 := Lib.hid h1
  have K3 := Lib.hid (H2.out.trans h2)
  clear h1 h2
  go_wp2_with fail
  refine (join_walk H3.out t (by rw [join_n]; exact HT.out) i c (by rw [join_tk]; exact .inr HI.out) (by rw [join_tk]; exact HC.out)).mono ?_
  rintro e w5 ⟨rfl, h1, h2⟩
  rw [← HP3.out] at h1
  have hcn := HCN.out
  rw [← HP3.out] at hcn
  have ht' : t < (x.push3 t i a c).n := by rw [push3_n]; exact HT.out
  have hn' : (x.push3 t i a c).n ≤ 8 := h1.eight
  obtain ⟨e, hs⟩ := h1.seen
  have g1 := hs.c1
  have g2 := hs.en2 ht'
  rw [hcn] at g2
  have gz := hs.row.frozen (t * 3 + 2)
  have HE := Lib.hid (h1.store hs t 2 (by decide) { (x.push3 t i a c).en t with count := (x.en t).count + 1 } (.int .i64 ((x.en t).count + 1)) rfl (fun k hk hne => by
    match k, hk with
    | 0, _ => rfl
    | 1, _ => rfl
    | 2, _ => exact absurd rfl hne))
  have K5 := Lib.hid (K3.out.trans h2)
  have e1 : IntKind.i64.wrap ((x.en t).count + 1) = (x.en t).count + 1 := IntWalk.i64_in _ (by omega)
  obtain ⟨m, hm⟩ : ∃ m, (x.push3 t i a c).n = m := ⟨_, rfl⟩
  rw [hm] at g1 ht' hn'
  obtain ⟨k, hk⟩ : ∃ k, (x.en t).count = k := ⟨_, rfl⟩
  have hfin : x.push t i a c = (x.push3 t i a c).setEn t { (x.push3 t i a c).en t with count := (x.en t).count + 1 } := rfl
  have HF := Lib.hid hfin
  rw [hk] at g2 e1 n1 n2 HE HF
  clear h1 h2 hs hcn hm hk hfin
  go_wp2
  go_ret
  exact ⟨rfl, by rw [HF.out]; exact HE.out.1, K5.out.trans HE.out.2⟩

theorem pushBack_not (h : HeldL w0 w p b x K) (tag i : Int) (h32 : i ≤ 2147483647) (hT : 0 ≤ (x.st.at_ i).tag ∧ (x.st.at_ i).tag ≤ 8) (hno : (x.has tag && x.st.is i && decide ((x.st.at_ i).tag = 0)) = false) (B0 B1 : Nat) :
    Calls Try.prog 47 #[.pointer (some ⟨p, 0, none⟩), .int .i64 tag, .int .i32 i, .func (.func 50) #[] #[.pointer (some ⟨B0, 0, none⟩), .pointer (some ⟨B1, 0, none⟩)]] w fun e w' => e = .returned (.bool false) ∧ Below w.heap.size w w' := by
  have H := Lib.hid h
  have c0 := h.c0
  cases ht : x.has tag
  · have HT := Lib.hid ht
    clear h ht hno hT
    go_enter Try.func47, Try.ntmps47
    go_wp2_with fail
    refine (lhas_walk H.out tag).mono ?_
    rintro e w1 ⟨rfl, rfl⟩
    rw [HT.out]
    go_wp2
    go_ret
    exact ⟨rfl, Below.refl _ _⟩
  · have HT := Lib.hid ht
    cases hi : x.st.is i
    · have HI := Lib.hid hi
      clear h ht hno hi hT
      go_enter Try.func47, Try.ntmps47
      go_wp2_with fail
      refine (lhas_walk H.out tag).mono ?_
      rintro e w1 ⟨rfl, rfl⟩
      rw [HT.out]
      go_wp2_with fail
      refine (heldl_is H.out i h32).mono ?_
      rintro e w1 ⟨rfl, rfl⟩
      rw [HI.out]
      go_wp2
      go_ret
      exact ⟨rfl, Below.refl _ _⟩
    · have HI := Lib.hid hi
      have HTG := Lib.hid (tag_walk H.out i h32 hT)
      rw [ht, hi] at hno
      simp only [Bool.and_self, Bool.true_and, decide_eq_false_iff_not] at hno
      obtain ⟨g, hg⟩ : ∃ g, (x.st.at_ i).tag = g := ⟨_, rfl⟩
      rw [hg] at HTG hT hno
      have hge : (0 : Int) ≤ g - 1 := by omega
      have hle : g ≤ 8 := hT.2
      clear h ht hno hi hT hg
      go_enter Try.func47, Try.ntmps47
      go_wp2_with fail
      refine (lhas_walk H.out tag).mono ?_
      rintro e w1 ⟨rfl, rfl⟩
      rw [HT.out]
      go_wp2_with fail
      refine (heldl_is H.out i h32).mono ?_
      rintro e w1 ⟨rfl, rfl⟩
      rw [HI.out]
      go_wp2_with fail
      refine HTG.out.mono ?_
      rintro e w1 ⟨rfl, hb⟩
      go_wp2
      go_ret
      exact ⟨rfl, hb⟩

set_option maxHeartbeats 400000 in
theorem pushBack_yes (h : HeldL w0 w p b x K) (t i : Nat) (ht : t < x.n) (hi : x.st.tk i = true) (hT : (x.st.node i).tag = 0) (hn : 0 ≤ (x.en t).count ∧ (x.en t).count ≤ 1000000) (a c : Nat) (ha : a = 0 ∨ x.st.tk a = true) (hc : c = 0 ∨ x.st.tk c = true) (B0 B1 : Nat)
    (hcl : ∀ w1, Below w.heap.size w w1 → Calls Try.prog 50 #[.pointer (some ⟨B0, 0, none⟩), .pointer (some ⟨B1, 0, none⟩)] w1 fun e w' => e = .returned (.tuple #[.int .i32 a, .int .i32 c]) ∧ w1 = w') :
    Calls Try.prog 47 #[.pointer (some ⟨p, 0, none⟩), .int .i64 t, .int .i32 i, .func (.func 50) #[] #[.pointer (some ⟨B0, 0, none⟩), .pointer (some ⟨B1, 0, none⟩)]] w fun e w' => e = .returned (.bool true) ∧ HeldL w0 w' p b (x.push t i a c) K ∧ Kept K w w' := by
  obtain ⟨hi0, hlt, his, e0⟩ := h.taken hi
  have HTG : Hid (Calls Try.prog 21 #[.pointer (some ⟨p, 0, none⟩), .int .i32 i] w fun e w' => e = .returned (.int .i64 (-1)) ∧ Below w.heap.size w w') := by
    have hh := tag_walk h i (by omega) (by rw [e0, hT]; omega)
    rw [e0, hT] at hh
    exact Lib.hid hh
  have HHS : Hid (Calls Try.prog 45 #[.pointer (some ⟨p, 0, none⟩), .int .i64 t] w fun e w' => e = .returned (.bool true) ∧ w = w') := by
    have hh := lhas_walk h t
    rw [LSt.has_of ht] at hh
    exact Lib.hid hh
  have HIS : Hid (Calls Try.prog 49 #[.pointer (some ⟨b, 0, none⟩), .int .i32 i] w fun e w' => e = .returned (.bool true) ∧ w = w') := by
    have hh := heldl_is h i (by omega)
    rw [his] at hh
    exact Lib.hid hh
  have HAT : Hid (∀ w1, Below w.heap.size w w1 → Calls Try.prog 25 #[.pointer (some ⟨b, 0, none⟩), .int .i32 i] w1 fun e w' => e = .returned (x.st.node i).v ∧ Below w1.heap.size w1 w') := Lib.hid (fun w1 hb => by
    have hh := heldl_at (h.still hb).1 i (by omega)
    rw [e0] at hh
    exact hh)
  have H := Lib.hid h
  have c0 := h.c0
  have hp : p < w.heap.size := by obtain ⟨e, hs⟩ := h.seen; exact hs.lp
  have HCL := Lib.hid hcl
  have HI := Lib.hid hi
  have HA := Lib.hid ha
  have HC := Lib.hid hc
  have HT := Lib.hid ht
  have h8 := h.eight
  have ht8 : t < 8 := by omega
  have hPU := (rfl : x.push t i a c = x.push t i a c)
  have hp3 : x.push3 t i a c = ((x.setNd i { x.st.node i with tag := t + 1 }).join t a i).join t i c := rfl
  revert HAT
  intro HAT
  obtain ⟨y, hy⟩ : ∃ y, x.st.node i = y := ⟨_, rfl⟩
  rw [hy] at HAT hp3
  obtain ⟨y', hy'⟩ : ∃ y' : Nd, y' = { y with tag := t + 1 } := ⟨_, rfl⟩
  have HY := Lib.hid hy'
  have hp3' : x.push3 t i a c = ((x.setNd i y').join t a i).join t i c := by rw [hy', hp3]
  have HP3 := Lib.hid hp3'
  have hcnt : ((((x.setNd i y').join t a i).join t i c).en t).count = (x.en t).count := by rw [join_count, join_count]; rfl
  have HCN := Lib.hid hcnt
  obtain ⟨n1, n2⟩ := hn
  clear h ht hi hT ha hc hcl hy hy' hp3 hp3' his e0 hPU hcnt
  go_enter Try.func47, Try.ntmps47
  go_wp2_with fail
  refine HHS.out.mono ?_
  rintro e w1 ⟨rfl, rfl⟩
  go_wp2_with fail
  refine HIS.out.mono ?_
  rintro e w1 ⟨rfl, rfl⟩
  go_wp2_with fail
  refine HTG.out.mono ?_
  rintro e w1 ⟨rfl, hb⟩
  have c1 := (hb.cell hp).trans c0
  have hp1 : p < w1.heap.size := Nat.lt_of_lt_of_le hp hb.size
  go_wp2_with fail
  refine (HCL.out w1 hb).mono ?_
  rintro e w2 ⟨rfl, rfl⟩
  go_wp2_with fail
  refine (HAT.out w1 hb).mono ?_
  rintro e w2 ⟨rfl, hb2⟩
  have hb3 := hb.trans (hb2.mono hb.size)
  have c2 := (hb3.cell hp).trans c0
  clear c0 c1 hb hb2
  go_wp2_with fail
  have hx := H.out.boxed hb3 #[.int .u64 y.key, .int .u64 y.val, .int .i64 y.flag, .int .i64 (t + 1), .int .i32 y.prev, .int .i32 y.next] 56
  have hyc : (#[.int .u64 y.key, .int .u64 y.val, .int .i64 y.flag, .int .i64 (t + 1), .int .i32 y.prev, .int .i32 y.next] : Array Value) = y'.cells := by rw [HY.out]
  rw [hyc] at hx ⊢
  obtain ⟨q, hq⟩ : ∃ q, w2.heap.size = q := ⟨_, rfl⟩
  rw [hq] at hx ⊢
  obtain ⟨W, hW⟩ : ∃ W, w2.alloc (.cells y'.cells 56) = W := ⟨_, rfl⟩
  rw [hW] at hx ⊢
  clear hW hyc hq c2 hb3
  obtain ⟨hx1, hx2, hx3, _⟩ := hx
  have HX := Lib.hid hx1
  have HK := Lib.hid hx2
  have HS := Lib.hid hx3
  have cc0 := hx1.c0
  obtain ⟨d0, d1, d2, d3, d4, d5⟩ := six_cells hx3
  clear hx1 hx2 hx3
  go_region_held3 (fun w' => w'.cell? ⟨p, 0, none⟩ = some (.pointer (some ⟨b, 0, none⟩)) ∧ w'.cell? ⟨q, 0, none⟩ = some (.int .u64 y'.key) ∧ w'.cell? ⟨q, 1, none⟩ = some (.int .u64 y'.val) ∧ w'.cell? ⟨q, 2, none⟩ = some (.int .i64 y'.flag) ∧ w'.cell? ⟨q, 3, none⟩ = some (.int .i64 y'.tag) ∧ w'.cell? ⟨q, 4, none⟩ = some (.int .i32 y'.prev) ∧ w'.cell? ⟨q, 5, none⟩ = some (.int .i32 y'.next))
    (first | go_keep | exact kk0)
    (first | (go_at_call 30; refine (heldl_set (HX.out.still (Below.refl _ _).drew).1 i HI.out y').mono ?_; rintro e w3 ⟨rfl, h1, h2⟩; have kk0 := And.intro h1.c0 (six_cells ((h2 q (by simp)).trans HS.out))))
  have H1 := Lib.hid h1.unbox
  have H2 := Lib.hid (HK.out.trans (Kept.tail h2))
  clear h1 h2 kk0 cc0 d0 d1 d2 d3 d4 d5 HX HK HS
  go_wp2_with fail
  refine (join_walk H1.out t HT.out a i HA.out (.inr HI.out)).mono ?_
  rintro e w4 ⟨rfl, h1, h2⟩
  have H3 := Lib.hid h1
  have K3 := Lib.hid (H2.out.trans h2)
  clear h1 h2
  go_wp2_with fail
  refine (join_walk H3.out t (by rw [join_n]; exact HT.out) i c (by rw [join_tk]; exact .inr HI.out) (by rw [join_tk]; exact HC.out)).mono ?_
  rintro e w5 ⟨rfl, h1, h2⟩
  rw [← HP3.out] at h1
  have hcn := HCN.out
  rw [← HP3.out] at hcn
  have ht' : t < (x.push3 t i a c).n := by rw [push3_n]; exact HT.out
  have hn' : (x.push3 t i a c).n ≤ 8 := h1.eight
  obtain ⟨e, hs⟩ := h1.seen
  have g1 := hs.c1
  have g2 := hs.en2 ht'
  rw [hcn] at g2
  have gz := hs.row.frozen (t * 3 + 2)
  have HE := Lib.hid (h1.store hs t 2 (by decide) { (x.push3 t i a c).en t with count := (x.en t).count + 1 } (.int .i64 ((x.en t).count + 1)) rfl (fun k hk hne => by
    match k, hk with
    | 0, _ => rfl
    | 1, _ => rfl
    | 2, _ => exact absurd rfl hne))
  have K5 := Lib.hid (K3.out.trans h2)
  have e1 : IntKind.i64.wrap ((x.en t).count + 1) = (x.en t).count + 1 := IntWalk.i64_in _ (by omega)
  obtain ⟨m, hm⟩ : ∃ m, (x.push3 t i a c).n = m := ⟨_, rfl⟩
  rw [hm] at g1 ht' hn'
  obtain ⟨k, hk⟩ : ∃ k, (x.en t).count = k := ⟨_, rfl⟩
  have hfin : x.push t i a c = (x.push3 t i a c).setEn t { (x.push3 t i a c).en t with count := (x.en t).count + 1 } := rfl
  have HF := Lib.hid hfin
  rw [hk] at g2 e1 n1 n2 HE HF
  clear h1 h2 hs hcn hm hk hfin
  go_wp2
  go_ret
  exact ⟨rfl, by rw [HF.out]; exact HE.out.1, K5.out.trans HE.out.2⟩
end
end Go.Proofs.Ytlmcodmglcmmoaa
