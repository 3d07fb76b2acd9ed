/- The document's own lists: what only looks: place, Tag, All, Near. -/
import Derived.Test.YtlmcodmglcmmoaaBeg
namespace Go.Proofs.Ytlmcodmglcmmoaa
open Go Go.RowKit Go.Deep

/- Lists as they may be: no slot twice, none below 1. -/
structure Gd (n : Nat) (l : Nat → List Nat) : Prop where
  pos : ∀ t, t < n → ∀ i ∈ l t, 0 < i
  nodup : ∀ t, t < n → (l t).Nodup
  apart : ∀ t u i, t < n → u < n → i ∈ l t → i ∈ l u → t = u
  len : ∀ t, t < n → (l t).length ≤ 1000000
  n8 : n ≤ 8
theorem HL.gd {w0 w : World} {p b n : Nat} {l : Nat → List Nat} {A : St} {K : List Nat} (h : HL w0 w p b n l A K) : Gd n l :=
  ⟨fun t ht i hi => by have := tk_bounds (h.taken ht hi); omega, fun t ht => h.nodup ht, fun t u i ht hu hi hi' => h.apart ht hu hi hi', fun t ht => h.len ht, h.num.2⟩
theorem Gd.tag_in {n : Nat} {l : Nat → List Nat} (g : Gd n l) {t i : Nat} (ht : t < n) (hi : i ∈ l t) : tagI n l i = t :=
  tagI_in ht (by have := g.pos t ht i hi; omega) (by simpa using hi) (fun u hu hm => g.apart u t i hu ht (by simpa using hm) hi)
theorem Gd.cases {n : Nat} {l : Nat → List Nat} (g : Gd n l) (i : Int) : (∃ t k, ∃ hk : k < (l t).length, t < n ∧ i = ((l t)[k] : Nat) ∧ tagI n l i = t) ∨ ((∀ t, t < n → ∀ x ∈ l t, (x : Int) ≠ i) ∧ tagI n l i = -1) := by
  by_cases h : ∃ t, t < n ∧ ∃ x ∈ l t, (x : Int) = i
  · obtain ⟨t, ht, x, hx, rfl⟩ := h
    obtain ⟨k, hk, rfl⟩ := List.getElem_of_mem hx
    exact .inl ⟨t, k, hk, ht, rfl, g.tag_in ht hx⟩
  · refine .inr ⟨fun t ht x hx e => h ⟨t, ht, x, hx, e⟩, tagI_out (fun t ht ⟨h0, hm⟩ => h ⟨t, ht, _, hm, by omega⟩)⟩

theorem place_in {w : World} {F : Option Addr} {xs : List Nat} {c : Nat} {K : List Nat} (h : FreedAt w F xs c K) (hl : xs.length ≤ 1000000) (hn : xs.Nodup) (j : Nat) (hj : j < xs.length) :
    Calls Try.prog 54 #[.slice F xs.length c, .int .i32 (xs[j] : Nat)] w fun e w' => e = .returned (.int .i64 j) ∧ w = w' := by
  have H := Lib.hid h
  have HN := Lib.hid hn
  clear h hn
  go_enter Try.func54, Try.ntmps54
  go_wp2
  go_loop [5] (fun i => ∃ k : Nat, k ≤ j ∧ i = .int .i64 k) (fun i => xs.length - (intOf i).toNat)
  case atStart => exact ⟨0, by omega, rfl⟩
  case round =>
    obtain ⟨k, hk, rfl⟩ := hrel
    have hlt : k < xs.length := by omega
    rcases H.out.mem with ⟨_, e, _⟩ | ⟨fb, e, _, hc⟩
    · rw [e] at hlt; simp at hlt
    · have c := hc k hlt
      clear hc
      by_cases heq : k = j
      · subst heq
        go_wp2
        go_ret
        exact ⟨rfl, rfl⟩
      · have hkj : k + 1 ≤ j := by omega
        have hne : ((xs[k] : Int) == (xs[j] : Int)) = false := by
          have : xs[k] ≠ xs[j] := List.pairwise_iff_getElem.1 HN.out k j hlt hj (by omega)
          simp; omega
        clear heq
        go_wp2
        go_round
        case rel => exact ⟨k + 1, hkj, by go_num⟩
        case measure => simp only [intOf]; omega
theorem place_out {w : World} {F : Option Addr} {xs : List Nat} {c : Nat} {K : List Nat} (h : FreedAt w F xs c K) (hl : xs.length ≤ 1000000) (i : Int) (hx : ∀ x ∈ xs, (x : Int) ≠ i) :
    Calls Try.prog 54 #[.slice F xs.length c, .int .i32 i] w fun e w' => e = .returned (.int .i64 (-1)) ∧ w = w' := by
  have H := Lib.hid h
  have HX := Lib.hid hx
  clear h hx
  go_enter Try.func54, Try.ntmps54
  go_wp2
  go_loop [5] (fun i => ∃ k : Nat, k ≤ xs.length ∧ i = .int .i64 k) (fun i => xs.length - (intOf i).toNat)
  case atStart => exact ⟨0, by omega, rfl⟩
  case round =>
    obtain ⟨k, hk, rfl⟩ := hrel
    by_cases hlt : k < xs.length
    · rcases H.out.mem with ⟨_, e, _⟩ | ⟨fb, e, _, hc⟩
      · rw [e] at hlt; simp at hlt
      · have c := hc k hlt
        have hne : ((xs[k] : Int) == i) = false := by
          have := HX.out _ (List.getElem_mem hlt)
          simpa using this
        clear hc
        go_wp2
        go_round
        case rel => exact ⟨k + 1, by omega, by go_num⟩
        case measure => simp only [intOf]; omega
    · go_wp2
      go_ret
      exact ⟨rfl, rfl⟩

theorem RowsAt.below {w w' : World} {o n : Nat} {l : Nat → List Nat} {K : List Nat} (h : RowsAt w o n l K) (h0 : ∀ k ∈ K, k < w.heap.size) (hb : Below w.heap.size w w') : RowsAt w' o n l K :=
  ⟨h.kin, fun t ht => by
    obtain ⟨F, c, h1, h2⟩ := h.row t ht
    exact ⟨F, c, (hb.cell (p := ⟨o, t, none⟩) (h0 o h.kin)).trans h1, h2.later h0 hb⟩⟩
theorem RefL.below {w w' : World} {v : Value} {n : Nat} {l : Nat → List Nat} {st : St} {K : List Nat} (h : RefL w v n l st K) (hb : Below w.heap.size w w') : RefL w' v n l st K := by
  obtain ⟨Fo, fc, nb, nc, o, oc, e, h1, h2, h3⟩ := h
  exact ⟨Fo, fc, nb, nc, o, oc, e, h1, h2.below hb, h3.below h2.1 hb⟩
theorem RefL.old {w : World} {v : Value} {n : Nat} {l : Nat → List Nat} {st : St} {K : List Nat} (h : RefL w v n l st K) : ∀ k ∈ K, k < w.heap.size := by
  obtain ⟨_, _, _, _, _, _, _, _, h2, _⟩ := h
  exact h2.1

section
variable {w : World} {v : Value} {n : Nat} {l : Nat → List Nat} {st : St} {K : List Nat}
theorem rltag_walk (h : RefL w v n l st K) (g : Gd n l) (i : Int) :
    Calls Try.prog 41 #[v, .int .i32 i] w fun e w' => e = .returned (.int .i64 (tagI n l i)) ∧ Below w.heap.size w w' := by
  obtain ⟨Fo, fc, nb, nc, o, oc, rfl, hoc, href, hrows⟩ := h
  have hb : Below w.heap.size w (w.alloc (.cells #[.int .i64 st.n, .int .i64 st.used, .slice Fo st.freed.length fc, .slice (some ⟨nb, 0, none⟩) (st.used + 1) nc, .slice (some ⟨o, 0, none⟩) n oc] 32)) := (Below.refl _ _).alloc (Nat.le_refl _) _
  have hr := hrows.below href.1 hb
  have HR := Lib.hid hr
  have h8 := g.n8
  have ho : o < w.heap.size := href.1 o hrows.kin
  rcases g.cases i with ⟨t0, k, hk, ht0, rfl, e⟩ | ⟨hno, e⟩
  · rw [e]
    have HPI := Lib.hid (fun t (ht : t < n) (hne : t ≠ t0) x (hx : x ∈ l t) (e' : (x : Int) = ((l t0)[k] : Nat)) => hne (g.apart t t0 x ht ht0 hx (by
      have : x = (l t0)[k] := by omega
      rw [this]; exact List.getElem_mem hk)))
    have HG := Lib.hid g
    clear hr hrows href e g hb
    go_enter Try.func41, Try.ntmps41
    go_wp2
    go_loop [5] (fun i => ∃ t : Nat, t ≤ t0 ∧ i = .int .i64 t) (fun i => n - (intOf i).toNat)
    case atStart => exact ⟨0, by omega, rfl⟩
    case round =>
      obtain ⟨t, ht, rfl⟩ := hrel
      have htn : t < n := by omega
      have htI : (t : Int) < (n : Int) := by omega
      obtain ⟨F, c, hc, hf⟩ := HR.out.row t htn
      have HF := Lib.hid hf
      clear hf
      by_cases he : t = t0
      · subst he
        go_wp2_with fail
        refine (place_in HF.out (HG.out.len t htn) (HG.out.nodup t htn) k hk).mono ?_
        rintro e w' ⟨rfl, rfl⟩
        go_wp2
        go_ret
        exact ⟨rfl, (Below.refl _ _).alloc (Nat.le_refl _) _⟩
      · have HNE := Lib.hid he
        have hlt : t + 1 ≤ t0 := by omega
        clear he
        go_wp2_with fail
        refine (place_out HF.out (HG.out.len t htn) _ (fun x hx => HPI.out t htn HNE.out x hx)).mono ?_
        rintro e w' ⟨rfl, rfl⟩
        go_wp2
        go_round
        case rel => exact ⟨t + 1, hlt, by go_num⟩
        case measure => simp only [intOf]; omega
  · rw [e]
    have HNO := Lib.hid hno
    have HG := Lib.hid g
    clear hr hrows href e g hb hno
    go_enter Try.func41, Try.ntmps41
    go_wp2
    go_loop [5] (fun i => ∃ t : Nat, t ≤ n ∧ i = .int .i64 t) (fun i => n - (intOf i).toNat)
    case atStart => exact ⟨0, by omega, rfl⟩
    case round =>
      obtain ⟨t, ht, rfl⟩ := hrel
      by_cases htn : t < n
      · have htI : (t : Int) < (n : Int) := by omega
        obtain ⟨F, c, hc, hf⟩ := HR.out.row t htn
        have HF := Lib.hid hf
        clear hf
        go_wp2_with fail
        refine (place_out HF.out (HG.out.len t htn) i (HNO.out t htn)).mono ?_
        rintro e w' ⟨rfl, rfl⟩
        go_wp2
        go_round
        case rel => exact ⟨t + 1, by omega, by go_num⟩
        case measure => simp only [intOf]; omega
      · go_wp2
        go_ret
        exact ⟨rfl, (Below.refl _ _).alloc (Nat.le_refl _) _⟩

theorem rlall_walk (h : RefL w v n l st K) (g : Gd n l) (tag : Int) :
    Calls Try.prog 38 #[v, .int .i64 tag] w fun e w' => ∃ F c, e = .returned (.slice F (allL n l tag).length c) ∧ Below w.heap.size w w' ∧ FreedAt w' F (allL n l tag) c K := by
  obtain ⟨Fo, fc, nb, nc, o, oc, rfl, hoc, href, hrows⟩ := h
  have hb : Below w.heap.size w (w.alloc (.cells #[.int .i64 st.n, .int .i64 st.used, .slice Fo st.freed.length fc, .slice (some ⟨nb, 0, none⟩) (st.used + 1) nc, .slice (some ⟨o, 0, none⟩) n oc] 32)) := (Below.refl _ _).alloc (Nat.le_refl _) _
  have HR := Lib.hid (hrows.below href.1 hb)
  have h8 := g.n8
  have ho : o < w.heap.size := href.1 o hrows.kin
  clear hb hrows href g
  unfold allL
  by_cases h0 : 0 ≤ tag
  · by_cases h1 : tag < n
    · obtain ⟨t, rfl⟩ : ∃ t : Nat, tag = t := ⟨tag.toNat, by omega⟩
      have htn : t < n := by omega
      rw [hasT_of htn, if_pos rfl]
      have e : ((t : Int)).toNat = t := by omega
      rw [e]
      obtain ⟨F, c, hc, hf⟩ := HR.out.row t htn
      have HF := Lib.hid hf
      clear hf e
      go_enter Try.func38, Try.ntmps38
      go_wp2
      go_ret
      exact ⟨F, c, rfl, (Below.refl _ _).alloc (Nat.le_refl _) _, HF.out⟩
    · have e : hasT n tag = false := by unfold hasT; rw [decide_eq_true h0, decide_eq_false h1]; rfl
      rw [e, if_neg (by simp)]
      clear e
      go_enter Try.func38, Try.ntmps38
      go_wp2
      go_ret
      exact ⟨none, 0, rfl, (Below.refl _ _).alloc (Nat.le_refl _) _, ⟨Nat.le_refl _, .inl ⟨rfl, rfl, rfl⟩⟩⟩
  · have e : hasT n tag = false := by unfold hasT; rw [decide_eq_false h0]; rfl
    rw [e, if_neg (by simp)]
    clear e
    go_enter Try.func38, Try.ntmps38
    go_wp2
    go_ret
    exact ⟨none, 0, rfl, (Below.refl _ _).alloc (Nat.le_refl _) _, ⟨Nat.le_refl _, .inl ⟨rfl, rfl, rfl⟩⟩⟩
end
end Go.Proofs.Ytlmcodmglcmmoaa
