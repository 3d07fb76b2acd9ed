/- Words and walks: EtP EtB. -/
import Derived.Test.YtcjcddlflincdaaG16
import Derived.Test.YtcjcddlflincdaaG17
import Derived.Test.YtcjcddlflincdaaG18
import Derived.Deep.RegionHeld3
namespace Go.Proofs.Ytcjcddlflincdaa
open Go Go.RowKit Go.Deep
def tri (a b c : List Nat) : Nat → List Nat := fun t => if t = 0 then a else if t = 1 then b else c
section
variable {a b c : List Nat} {k : Nat}
theorem three {t : Nat} (h : t < 3) : t = 0 ∨ t = 1 ∨ t = 2 := by omega
theorem tri_mov01 {t : Nat} (ht : t < 3) : mvQ (tri a b c) 0 1 k t = tri (wo k a) (k :: b) c t := by
  rcases three ht with rfl | rfl | rfl <;> rfl
theorem tri_mov22 {t : Nat} (ht : t < 3) : mvQ (tri a b c) 2 2 k t = tri a b (fr k c) t := by
  rcases three ht with rfl | rfl | rfl <;> rfl
theorem tri_rem0 {t : Nat} (ht : t < 3) : rmQ (tri a b c) 0 k t = tri (wo k a) b c t := by
  rcases three ht with rfl | rfl | rfl <;> rfl
theorem tri_rem1 {t : Nat} (ht : t < 3) : rmQ (tri a b c) 1 k t = tri a (wo k b) c t := by
  rcases three ht with rfl | rfl | rfl <;> rfl
theorem tri_rem2 {t : Nat} (ht : t < 3) : rmQ (tri a b c) 2 k t = tri a b (wo k c) t := by
  rcases three ht with rfl | rfl | rfl <;> rfl
theorem tri_pus0 {t : Nat} (ht : t < 3) : puQ (tri a b c) 0 k t = tri (k :: a) b c t := by
  rcases three ht with rfl | rfl | rfl <;> rfl
theorem tri_pus2 {t : Nat} (ht : t < 3) : puQ (tri a b c) 2 k t = tri a b (k :: c) t := by
  rcases three ht with rfl | rfl | rfl <;> rfl
theorem tri_sum : sumE (Qm (tri a b c)) 3 = a.length + b.length + c.length := by
  simp [sumE, qm_len, tri]
theorem tri_not : (∀ t, t < 3 → k ∉ tri a b c t) ↔ k ∉ a ∧ k ∉ b ∧ k ∉ c := by
  constructor
  · intro h
    exact ⟨h 0 (by decide), h 1 (by decide), h 2 (by decide)⟩
  · rintro ⟨h1, h2, h3⟩ t ht
    rcases three ht with rfl | rfl | rfl
    · exact h1
    · exact h2
    · exact h3
end
def q9 (s : L9) : Nat → List Nat := tri s.inn s.out s.main
namespace L9
variable {s : L9} {k : Nat}
theorem touch_c (s : L9) (k : Nat) : (s.touch k).c = s.c := by unfold L9.touch; split <;> rfl
theorem adm_c (s : L9) (k : Nat) : (s.adm k).c = s.c := by
  unfold L9.adm
  split
  · rfl
  · rw [come_c]; rfl
theorem drop_c (s : L9) (k : Nat) : (s.drop k).c = s.c := rfl
theorem resize_c (s : L9) (n : Int) : (s.resize n).c = capI n := rfl
theorem new_c0 (n : Int) : (L9.new n).c = capI n := rfl
theorem Fine.parts (h : s.Fine) : (k ∈ s.inn → k ∉ s.out ∧ k ∉ s.main) ∧ (k ∈ s.out → k ∉ s.inn ∧ k ∉ s.main) ∧ (k ∈ s.main → k ∉ s.inn ∧ k ∉ s.out) := by
  obtain ⟨h1, h2, h3⟩ := List.nodup_append.1 h.nd
  obtain ⟨h4, h5, h6⟩ := List.nodup_append.1 h1
  refine ⟨fun q => ⟨fun p => h6 k q k p rfl, fun p => h3 k (by simp [q]) k p rfl⟩, fun q => ⟨fun p => h6 k p k q rfl, fun p => h3 k (by simp [q]) k p rfl⟩, fun q => ⟨fun p => h3 k (by simp [p]) k q rfl, fun p => h3 k (by simp [p]) k q rfl⟩⟩
theorem touch_q (s : L9) (k : Nat) : q9 (s.touch k) = if k ∈ s.main then tri s.inn s.out (fr k s.main) else q9 s := by
  unfold L9.touch
  split <;> rfl
def outX (s : L9) (i : Nat) : List Nat := if i = s.inn.length then s.out else (s.inn.drop i ++ s.out).take (s.c / 2)
theorem cons_take (k h : Nat) (xs : List Nat) : (k :: xs.take h).take h = (k :: xs).take h := by
  cases h with
  | zero => rfl
  | succ h => simp [List.take_take]
theorem outX_all (s : L9) : s.outX s.inn.length = s.out := by unfold outX; rw [if_pos rfl]
theorem outX_next {i : Nat} (h0 : 0 < i) (hi : i ≤ s.inn.length) : (s.inn[i - 1] :: s.outX i).take (s.c / 2) = s.outX (i - 1) := by
  have e : s.inn.drop (i - 1) = s.inn[i - 1] :: s.inn.drop i := by
    have := List.drop_eq_getElem_cons (l := s.inn) (i := i - 1) (by omega)
    rw [this, Nat.sub_add_cancel h0]
  unfold outX
  rw [if_neg (show ¬ i - 1 = s.inn.length by omega), e]
  split
  · rename_i q
    subst q
    rw [List.drop_length]
    rfl
  · rw [cons_take]
    rfl
theorem outX_take (s : L9) (i : Nat) (hi : i ≤ s.inn.length) : (s.outX i).take (s.c / 2) = (s.inn.drop i ++ s.out).take (s.c / 2) := by
  unfold outX
  split
  · rename_i q
    subst q
    rw [List.drop_length]
    rfl
  · rw [List.take_take, Nat.min_self]
theorem shr_q (s : L9) (N : Nat) : q9 (s.shr N) = tri (s.inn.take (s.li N)) ((s.outX (s.li N)).take (s.c / 2)) (s.main.take (s.lm N)) := by
  rw [outX_take s _ (li_le s N)]
  rfl
end L9
abbrev CaT : TypeId := 60
abbrev cacheC (sp c : Nat) : Array Value := #[ptr sp, .int .i64 (c : Nat)]
abbrev nilC : Array Value := #[.pointer none, .int .i64 0]
structure CX (w0 w : World) (xp sp c : Nat) (l : Nat → List Nat) (top : Nat) : Prop where
  box : w.heap[xp]? = some (.cells (cacheC sp c) CaT (0, 0))
  sk : SK w0 w sp 3 l top [xp]
section
variable {w0 w w' : World} {xp sp c top : Nat} {l l' : Nat → List Nat} {s : L9}
theorem CX.lt (h : CX w0 w xp sp c l top) : xp < w.heap.size := (head_row h.box).lt
theorem CX.styB (h : CX w0 w xp sp c l top) : StyB w xp := ⟨_, _, _, h.box, by decide⟩
theorem CX.sty (h : CX w0 w xp sp c l top) (hb : Below w0.heap.size w0 w') (hs : Sty w w') (hz : w.heap.size ≤ w'.heap.size) : CX w0 w' xp sp c l top :=
  ⟨(hs xp h.styB).trans h.box, h.sk.sty hb hs hz⟩
theorem CX.still (h : CX w0 w xp sp c l top) (hb : Below w.heap.size w w') : CX w0 w' xp sp c l top :=
  ⟨(hb.block xp h.lt).trans h.box, h.sk.still hb⟩
theorem CX.congr (h : CX w0 w xp sp c l top) (hl : ∀ t, t < 3 → l t = l' t) : CX w0 w xp sp c l' top := ⟨h.box, h.sk.congr hl⟩
theorem CX.kept (h : CX w0 w xp sp c l top) (hk : Kept [xp] w w') (hs : SK w0 w' sp 3 l' top [xp]) : CX w0 w' xp sp c l' top := ⟨(hk xp (by simp)).trans h.box, hs⟩
theorem CX.cells (h : CX w0 w xp sp c l top) : w.cell? ⟨xp, 0, none⟩ = some (ptr sp) ∧ w.cell? ⟨xp, 1, none⟩ = some (.int .i64 (c : Nat)) := (c2_at h.box).1
def CP (w0 w : World) (xp sp c : Nat) (l : Nat → List Nat) (top : Nat) (w' : World) : Prop := CX w0 w' xp sp c l top ∧ Kn w w'
theorem x_move {a o b : List Nat} {k : Nat} (h : CX w0 w xp sp c (tri a o b) top) (hm : top ≤ 10000) (hk : k ∈ a) :
    Calls Try.prog 43 #[ptr sp, .int .i64 1, .int .u64 (k : Nat)] w fun e w' => e = .returned (.bool true) ∧ CP w0 w xp sp c (tri (wo k a) (k :: o) b) top w' := by
  refine (m_move h.sk hm (t := 0) (u := 1) (by decide) (show k ∈ tri a o b 0 from hk) (by decide)).mono ?_
  rintro e w' ⟨rfl, g1, g2, g3⟩
  exact ⟨rfl, h.kept g2 (g1.congr (fun t ht => tri_mov01 ht)), g3⟩
theorem x_front {a o b : List Nat} {k : Nat} (h : CX w0 w xp sp c (tri a o b) top) (hm : top ≤ 10000) (hk : k ∈ b) :
    Calls Try.prog 43 #[ptr sp, .int .i64 2, .int .u64 (k : Nat)] w fun e w' => e = .returned (.bool true) ∧ CP w0 w xp sp c (tri a o (fr k b)) top w' := by
  refine (m_move h.sk hm (t := 2) (u := 2) (by decide) (show k ∈ tri a o b 2 from hk) (by decide)).mono ?_
  rintro e w' ⟨rfl, g1, g2, g3⟩
  exact ⟨rfl, h.kept g2 (g1.congr (fun t ht => tri_mov22 ht)), g3⟩
theorem x_rem0 {a o b : List Nat} {k : Nat} (h : CX w0 w xp sp c (tri a o b) top) (hm : top ≤ 10000) (hk : k ∈ a) :
    Calls Try.prog 44 #[ptr sp, .int .u64 (k : Nat)] w fun e w' => e = .returned (.bool true) ∧ CP w0 w xp sp c (tri (wo k a) o b) top w' := by
  refine (m_rem h.sk hm (t := 0) (by decide) (show k ∈ tri a o b 0 from hk)).mono ?_
  rintro e w' ⟨rfl, g1, g2, g3⟩
  exact ⟨rfl, h.kept g2 (g1.congr (fun t ht => tri_rem0 ht)), g3⟩
theorem x_rem1 {a o b : List Nat} {k : Nat} (h : CX w0 w xp sp c (tri a o b) top) (hm : top ≤ 10000) (hk : k ∈ o) :
    Calls Try.prog 44 #[ptr sp, .int .u64 (k : Nat)] w fun e w' => e = .returned (.bool true) ∧ CP w0 w xp sp c (tri a (wo k o) b) top w' := by
  refine (m_rem h.sk hm (t := 1) (by decide) (show k ∈ tri a o b 1 from hk)).mono ?_
  rintro e w' ⟨rfl, g1, g2, g3⟩
  exact ⟨rfl, h.kept g2 (g1.congr (fun t ht => tri_rem1 ht)), g3⟩
theorem x_rem2 {a o b : List Nat} {k : Nat} (h : CX w0 w xp sp c (tri a o b) top) (hm : top ≤ 10000) (hk : k ∈ b) :
    Calls Try.prog 44 #[ptr sp, .int .u64 (k : Nat)] w fun e w' => e = .returned (.bool true) ∧ CP w0 w xp sp c (tri a o (wo k b)) top w' := by
  refine (m_rem h.sk hm (t := 2) (by decide) (show k ∈ tri a o b 2 from hk)).mono ?_
  rintro e w' ⟨rfl, g1, g2, g3⟩
  exact ⟨rfl, h.kept g2 (g1.congr (fun t ht => tri_rem2 ht)), g3⟩
theorem x_rem_no {a o b : List Nat} {k : Nat} (h : CX w0 w xp sp c (tri a o b) top) (hm : top ≤ 10000) (h64 : k < 18446744073709551616) (h1 : k ∉ a) (h2 : k ∉ o) (h3 : k ∉ b) :
    Calls Try.prog 44 #[ptr sp, .int .u64 (k : Nat)] w fun e w' => e = .returned (.bool false) ∧ CP w0 w xp sp c (tri a o b) top w' := by
  refine (m_rem_no h.sk hm h64 (tri_not.2 ⟨h1, h2, h3⟩)).mono ?_
  rintro e w' ⟨rfl, g1, g2, g3⟩
  exact ⟨rfl, h.kept g2 g1, g3⟩
theorem x_push0 {a o b : List Nat} {k : Nat} (h : CX w0 w xp sp c (tri a o b) top) (hm : top ≤ 10000) (h64 : k < 18446744073709551616) (h1 : k ∉ a) (h2 : k ∉ o) (h3 : k ∉ b) (hl : a.length + o.length + b.length + 1 ≤ top) :
    Calls Try.prog 46 #[ptr sp, .int .i64 0, .int .u64 (k : Nat)] w fun e w' => e = .returned (.bool true) ∧ CP w0 w xp sp c (tri (k :: a) o b) top w' := by
  refine (m_push h.sk hm (u := 0) h64 (tri_not.2 ⟨h1, h2, h3⟩) (by decide) (Nat.le_refl top) (by rw [tri_sum]; exact hl)).mono ?_
  rintro e w' ⟨rfl, g1, g2, g3⟩
  exact ⟨rfl, h.kept g2 (g1.congr (fun t ht => tri_pus0 ht)), g3⟩
theorem x_push2 {a o b : List Nat} {k : Nat} (h : CX w0 w xp sp c (tri a o b) top) (hm : top ≤ 10000) (h64 : k < 18446744073709551616) (h1 : k ∉ a) (h2 : k ∉ o) (h3 : k ∉ b) (hl : a.length + o.length + b.length + 1 ≤ top) :
    Calls Try.prog 46 #[ptr sp, .int .i64 2, .int .u64 (k : Nat)] w fun e w' => e = .returned (.bool true) ∧ CP w0 w xp sp c (tri a o (k :: b)) top w' := by
  refine (m_push h.sk hm (u := 2) h64 (tri_not.2 ⟨h1, h2, h3⟩) (by decide) (Nat.le_refl top) (by rw [tri_sum]; exact hl)).mono ?_
  rintro e w' ⟨rfl, g1, g2, g3⟩
  exact ⟨rfl, h.kept g2 (g1.congr (fun t ht => tri_pus2 ht)), g3⟩
structure EC (w0 w : World) (xp : Nat) (s : L9) (top : Nat) : Prop where
  ok : s.Ok
  small : top ≤ 5000
  ge : w0.heap.size ≤ xp
  mem : ∃ sp, CX w0 w xp sp s.c (q9 s) (top + top / 2)
theorem EC.below (h : EC w0 w xp s top) : Below w0.heap.size w0 w := by
  obtain ⟨sp, h1⟩ := h.mem
  exact h1.sk.below
theorem EC.lt (h : EC w0 w xp s top) : xp < w.heap.size := by
  obtain ⟨sp, h1⟩ := h.mem
  exact h1.lt
theorem EC.styB (h : EC w0 w xp s top) : StyB w xp := by
  obtain ⟨sp, h1⟩ := h.mem
  exact h1.styB
theorem EC.sty (h : EC w0 w xp s top) (hb : Below w0.heap.size w0 w') (hs : Sty w w') (hz : w.heap.size ≤ w'.heap.size) : EC w0 w' xp s top := by
  obtain ⟨sp, h1⟩ := h.mem
  exact ⟨h.ok, h.small, h.ge, sp, h1.sty hb hs hz⟩
theorem EC.still (h : EC w0 w xp s top) (hb : Below w.heap.size w w') : EC w0 w' xp s top := h.sty (h.below.trans (hb.mono h.below.size)) (Sty.below hb) hb.size
theorem EC.only {S : List Nat} (h : EC w0 w xp s top) (ho : Only S w w') (hS : ∀ g ∈ S, w0.heap.size ≤ g ∧ ¬ StyB w g) : EC w0 w' xp s top :=
  h.sty (h.below.trans (ho.below (fun g hg => (hS g hg).1) h.below.size)) (fun g hg => ho.block g hg.lt (fun q => (hS g q).2 hg)) ho.size
theorem EC.more (h : EC w0 w xp s top) {top' : Nat} (ht : top ≤ top') (h2 : top' ≤ 5000) : EC w0 w xp s top' := by
  obtain ⟨sp, h1, m, U, h3, h8⟩ := h.mem
  exact ⟨h.ok, h2, h.ge, sp, h1, m, U, h3.more (by omega), h8⟩
def EP (w0 w : World) (xp : Nat) (s : L9) (top : Nat) (w' : World) : Prop := EC w0 w' xp s top ∧ Kn w w'
def EPo (w0 w : World) (xp : Nat) (s : L9) (top : Nat) (out : List Nat) (e : Ending) (w' : World) : Prop := ∃ o, e = .returned o ∧ EP w0 w xp s top w' ∧ KV w' o out
end
section
variable {w : World}
theorem ebounded_walk (n : Int) (hn1 : -9223372036854775808 ≤ n) (hn2 : n ≤ 9223372036854775807) :
    Calls Try.prog 30 #[.int .i64 n] w fun e w' => e = .returned (.int .i64 (capI n : Nat)) ∧ w = w' := by
  obtain ⟨c, hc⟩ : ∃ c, capI n = c := ⟨_, rfl⟩
  have HC := Lib.hid hc
  rw [hc]
  clear hc
  by_cases h1 : n < 1
  · have H : Hid ((1 : Int) = (c : Int)) := Lib.hid (by rw [← HC.out, capI, if_pos h1]; rfl)
    go_enter Try.func30, Try.ntmps30
    go_wp2
    go_ret
    exact ⟨by rw [H.out]; rfl, rfl⟩
  · by_cases h1e : n = 1
    · subst h1e
      have H : Hid ((1 : Int) = (c : Int)) := Lib.hid (by rw [← HC.out]; rfl)
      go_enter Try.func30, Try.ntmps30
      go_wp2
      go_ret
      exact ⟨by rw [H.out]; rfl, rfl⟩
    · have h1g : 1 < n := by omega
      by_cases h2 : 1048576 < n
      · have H : Hid ((1048576 : Int) = (c : Int)) := Lib.hid (by rw [← HC.out, capI, if_neg h1, if_pos h2]; rfl)
        clear h1 h1e
        go_enter Try.func30, Try.ntmps30
        go_wp2
        go_ret
        exact ⟨by rw [H.out]; rfl, rfl⟩
      · have H : Hid (n = (c : Int)) := Lib.hid (by rw [← HC.out, capI, if_neg h1, if_neg h2]; omega)
        clear h1 h1e
        by_cases h2e : n = 1048576
        · subst h2e
          go_enter Try.func30, Try.ntmps30
          go_wp2
          go_ret
          exact ⟨by rw [← H.out]; rfl, rfl⟩
        · have h2l : n < 1048576 := by omega
          clear h2e h2
          go_enter Try.func30, Try.ntmps30
          go_wp2
          go_ret
          exact ⟨by rw [← H.out]; rfl, rfl⟩
end
section
variable {w : World}
theorem kin_walk (c : Nat) (hc : c ≤ 1048576) : Calls Try.prog 69 #[.int .i64 (c : Nat)] w fun e w' => e = .returned (.int .i64 (kin9 c : Nat)) ∧ w = w' := by
  obtain ⟨q, hq⟩ : ∃ q, c / 4 = q := ⟨_, rfl⟩
  have e4 : ((c : Nat) : Int).tdiv 4 = (q : Int) := by rw [Int.tdiv_eq_ediv_of_nonneg (by omega)]; omega
  have HK : Hid (kin9 c = max q 1) := Lib.hid (by rw [← hq]; rfl)
  have hqI : (q : Int) ≤ 1048576 := by omega
  clear hq hc
  rcases (by omega : q = 0 ∨ q = 1 ∨ 1 < q) with rfl | rfl | hq
  · go_enter Try.func69, Try.ntmps69
    go_wp2
    go_ret
    exact ⟨by rw [HK.out]; rfl, rfl⟩
  · go_enter Try.func69, Try.ntmps69
    go_wp2
    go_ret
    exact ⟨by rw [HK.out]; rfl, rfl⟩
  · have hq1 : (1 : Int) < (q : Int) := by omega
    go_enter Try.func69, Try.ntmps69
    go_wp2
    go_ret
    exact ⟨by rw [HK.out, Nat.max_eq_left (by omega)]; rfl, rfl⟩
theorem kout_walk (c : Nat) (hc : c ≤ 1048576) : Calls Try.prog 73 #[.int .i64 (c : Nat)] w fun e w' => e = .returned (.int .i64 (c / 2 : Nat)) ∧ w = w' := by
  obtain ⟨q, hq⟩ : ∃ q, c / 2 = q := ⟨_, rfl⟩
  have e4 : ((c : Nat) : Int).tdiv 2 = (q : Int) := by rw [Int.tdiv_eq_ediv_of_nonneg (by omega)]; omega
  have hqI : (q : Int) ≤ 1048576 := by omega
  rw [hq]
  clear hq hc
  go_enter Try.func73, Try.ntmps73
  go_wp2
  go_ret
  exact ⟨rfl, rfl⟩
theorem eopen_walk (xp : Nat) :
    Calls Try.prog 37 #[ptr xp] w fun e w' => e = .returned (ptr xp) ∧ w = w' := by
  go_enter Try.func37, Try.ntmps37
  go_wp2
  go_ret
  exact ⟨rfl, rfl⟩
theorem eopen_nil (w : World) :
    Calls Try.prog 37 #[.pointer none] w fun e w' => e = .returned (ptr w.heap.size) ∧ w' = w.alloc (.cells nilC CaT) := by
  go_enter Try.func37, Try.ntmps37
  go_wp2
  go_ret
  exact ⟨rfl, rfl⟩
end
section
variable {w0 w : World} {xp sp c top : Nat} {a o b : List Nat}
set_option maxHeartbeats 4000000 in
theorem forget_walk (h : CX w0 w xp sp c (tri a o b) top) (hm : top ≤ 10000) (hc : c ≤ 1048576) :
    Calls Try.prog 47 #[ptr xp] w fun e w' => e = .returned (.tuple #[]) ∧ CP w0 w xp sp c (tri a (o.take (c / 2)) b) top w' := by
  have hnd : o.Nodup := h.sk.nodup (t := 1) (by decide)
  have hsum := h.sk.sum
  rw [tri_sum] at hsum
  have HH := Lib.hid h
  obtain ⟨m, hml⟩ : ∃ m, o.length = m := ⟨_, rfl⟩
  have HM := Lib.hid hml
  have HND := Lib.hid hnd
  have HL : Hid (∀ W, Below w.heap.size w W → Calls Try.prog 41 #[ptr sp, .int .i64 1] W fun e w' => e = .returned (.int .i64 (m : Nat)) ∧ Below w.heap.size w w') := Lib.hid (fun W hb => (m_len (t := 1) (h.still hb).sk (by decide)).mono (fun e w' ⟨he, hb'⟩ => ⟨by rw [he, ← hml]; rfl, hb.trans (hb'.mono hb.size)⟩))
  have HK := Lib.hid (fun (W : World) => kout_walk (w := W) c hc)
  have HKC : Hid (∀ W, Below w.heap.size w W → W.cell? ⟨xp, 0, none⟩ = some (ptr sp) ∧ W.cell? ⟨xp, 1, none⟩ = some (.int .i64 (c : Nat))) := Lib.hid (fun W hb => (h.still hb).cells)
  obtain ⟨x0, x1⟩ := h.cells
  obtain ⟨n, hn⟩ : ∃ n, c / 2 = n := ⟨_, rfl⟩
  rw [hn] at HK ⊢
  have hmI : (m : Int) ≤ 10000 := by omega
  have hnI : (n : Int) ≤ 1048576 := by omega
  have hn0 : (0 : Int) ≤ (n : Int) := by omega
  have hm0 : (0 : Int) ≤ (m : Int) := by omega
  clear h hnd hsum hml hn
  go_enter Try.func47, Try.ntmps47
  go_upto_region 0 with fail
  go_region_held3 (fun w' => w'.cell? ⟨xp, 0, none⟩ = some (ptr sp) ∧ w'.cell? ⟨xp, 1, none⟩ = some (.int .i64 (c : Nat))) (first | with_reducible exact kk5 | go_keep)
    (first
      | (go_at_call 41; refine (HL.out _ (below_drewn (Below.refl _ _) _)).mono ?_; rintro e w5 ⟨rfl, hb5⟩; have kk5 := HKC.out w5 hb5)
      | (go_at_call 73; refine (HK.out _).mono ?_; rintro e w6 ⟨rfl, rfl⟩))
  have HI0 : Hid (CP w0 w xp sp c (tri a (o.take (o.length - 0)) b) top w5) := Lib.hid ⟨by rw [Nat.sub_zero, List.take_length]; exact HH.out.still hb5, Kn.below hb5⟩
  clear hb5 kk5 x0 x1 HL HK HKC HH
  go_wp2_with fail
  go_loopg [15] (m - n) (fun gg s15 wr => ∃ (i : Nat), i + gg = m - n ∧ s15 = .int .i64 (i : Nat) ∧ Hid (CP w0 w xp sp c (tri a (o.take (o.length - i)) b) top wr))
  case atStart => exact ⟨0, by omega, rfl, HI0⟩
  case round =>
    obtain ⟨i, hi, rfl, HI⟩ := hrel
    obtain ⟨x0, x1⟩ := HI.out.1.cells
    by_cases hlt : (i : Int) < (m : Int) - n
    · have hml := HM.out
      have h0 : 0 < m - i := by omega
      have hle : m - i ≤ o.length := by omega
      obtain ⟨kx, hkx⟩ : ∃ kx, o[m - i - 1] = kx := ⟨_, rfl⟩
      have hLA := take_last o (m - i) h0 hle
      have hLE := take_less o HND.out (m - i) h0 hle
      rw [hkx] at hLA hLE
      have hcx := HI.out.1
      rw [hml] at hcx
      have hkin : kx ∈ o.take (m - i) := by
        rw [← hkx]
        exact List.mem_iff_getElem.2 ⟨m - i - 1, by rw [List.length_take]; omega, by rw [List.getElem_take]⟩
      have HBK : Hid (Calls Try.prog 70 #[ptr sp, .int .i64 1] wr fun e w' => ∃ b', e = .returned (.tuple #[.int .u64 (kx : Nat), .bool b']) ∧ CP w0 w xp sp c (tri a (o.take (m - i)) b) top w') := Lib.hid (by
        refine (m_back (t := 1) hcx.sk hm (by decide)).mono ?_
        rintro e w' ⟨rfl, hb⟩
        have e : (tri a (o.take (m - i)) b) 1 = o.take (m - i) := rfl
        rw [e, hLA.1]
        exact ⟨_, rfl, hcx.still hb, HI.out.2.trans (Kn.below hb)⟩)
      have HRM : Hid (∀ W, CP w0 w xp sp c (tri a (o.take (m - i)) b) top W → Calls Try.prog 44 #[ptr sp, .int .u64 (kx : Nat)] W fun e w' => e = .returned (.bool true) ∧ CP w0 w xp sp c (tri a (o.take (o.length - (i + 1))) b) top w') := Lib.hid (fun W hW => by
        refine (x_rem1 hW.1 hm hkin).mono ?_
        rintro e w' ⟨rfl, g1, g2⟩
        rw [hLE] at g1
        rw [hml, Nat.sub_add_eq]
        exact ⟨rfl, g1, hW.2.trans g2⟩)
      clear HI hkx hLA hLE hcx hkin hle h0
      go_wp2_with fail
      refine HBK.out.mono ?_
      rintro e w4 ⟨b4, rfl, h4⟩
      obtain ⟨x0, x1⟩ := h4.1.cells
      have H4 := Lib.hid h4
      clear h4 HBK
      go_wp2_with fail
      refine (HRM.out w4 H4.out).mono ?_
      rintro e w5 ⟨rfl, h5⟩
      have HN := Lib.hid h5
      clear h5 HRM H4
      go_wp2
      go_roundg (m - n - i - 1)
      case measure => omega
      case rel => exact ⟨i + 1, by omega, by go_num, HN⟩
    · have hltI : ¬ (i : Int) < (m : Int) - n := hlt
      have hF : Hid (CP w0 w xp sp c (tri a (o.take n) b) top wr) := Lib.hid (by
        have hml := HM.out
        have h1 := HI.out
        have e1 : o.take (o.length - i) = o.take n := by
          by_cases q : n ≤ m
          · rw [show o.length - i = n by omega]
          · rw [List.take_of_length_le (by omega), List.take_of_length_le (by omega)]
        rw [e1] at h1
        exact h1)
      clear HI x0 x1
      go_wp2
      exact bodyPost_end (v := .tuple #[]) (by simp [results, Try.results47, go_sem]) rfl ⟨rfl, hF.out⟩
end
end Go.Proofs.Ytcjcddlflincdaa
