/- Words and walks: LiXA. -/
import Derived.Test.YtkhikpnlpcankaaGreatG29
import Derived.Deep.RegionHeld3
import Derived.Deep.RegionWith
import Derived.Deep.RegionLaw
import Derived.Deep.DeepCutAuto
namespace Go.Proofs.YtkhikpnlpcankaaGreat
open Go Go.RowKit Go.Deep
set_option maxRecDepth 8000
theorem own_kt {w w' : World} {B size n : Nat} {e t : TypeId} {v : Value} {xs : List Value} (h : w.ownsRow B e size v n xs) (hk : Kt t w w') (ht : e ≠ t) : w'.ownsRow B e size v n xs := by
  refine ⟨h.1, h.2.imp id ?_⟩
  rintro ⟨g, cap, cur, e1, e2, e3, e4⟩
  exact ⟨g, cap, cur, e1, e2, hk _ _ _ _ e3 ht, e4⟩
theorem step_append_kg {P : Program} {w : World} {ops : Array Oper} {o : Oper} {a : Act} {K : Act → World → Prop} {Q : Exit → Act → World → Prop} {E : Prop} (hgd : o.guard = none) (s x : Operand)
    (ho : o.op = .call { callee := .builtin .append, args := #[s, x], argTypes := #[27, 27] }) (base : Nat) (ht : P.underlying 27 = some (.slice 32))
    (hinfo : (P.info? 32).map (fun i => (i.zero, i.size, i.bytes)) = some (some (.int .u64 0), 1, 8))
    (v : Value) (ks : List Nat) (hs : a.eval s = v) {w0 : World} (hown : KO base w0 w v ks) (y : Value) (js : List Nat) (hx : a.eval x = y)
    (hsrc : KV w y js) (h63 : ks.length + js.length ≤ 1000000000) (hbase : base ≤ w.heap.size)
    (h : ∀ v' w', KO base w0 w' v' (ks ++ js) → Kt 32 w w' → w.grownBy w' v.ownBlock → K (a.put o.dst v') w') : if Region.wanted o (yielded ops a.tmps) = true then Oper.wp P o a w K Q else E := by
  obtain ⟨hl, ⟨F, c, rfl, h3, h4, h5⟩⟩ := hsrc
  refine step_append_src hgd s x 27 ho base 32 (.int .u64 0) 1 8 ht hinfo rfl (by decide) v ks.length (u64L ks) hs hown.own F js.length c (u64L js) hx ?_ (u64L_one js) (by omega) h63 hbase
    (fun v' w' h1 h2 => h v' w' ⟨below_grown hown.low hown.own h2 hbase, by rw [List.length_append, ← u64L_append]; exact h1⟩ (Kt.grown hown.own h2) h2)
  cases F with
  | none =>
    have hc := h4 rfl
    refine .inl ⟨rfl, by omega, hc, List.length_eq_zero_iff.1 (by omega)⟩
  | some ad =>
    refine .inr ⟨ad, rfl, hl, fun j u hu => ?_⟩
    obtain ⟨ad', e2, _, h6⟩ := h5 j u hu
    injection e2 with e2
    subst e2
    exact h6
section
variable {w w1 : World} {b r : Nat} {s : L12} {u1 u2 : Value}
set_option maxHeartbeats 1000000 in
theorem pprune_walk (hX : Bx12 w w1 PT12 b r s u1 u2) (hl : s.s.length ≤ 10000000) : Calls Tryz.prog 61 #[.pointer (some ⟨b, 0, none⟩)] w1 fun e w2 => e = .returned (.tuple #[]) ∧ Only [b] w1 w2 ∧ ∃ v1, Bx12 w w2 PT12 b r s.prune v1 u2 := by
  obtain ⟨F1, d1, rfl, hcap, _⟩ := hX.st.g1.mem
  obtain ⟨F2, n2, d2, rfl⟩ := hX.st.form2
  have HX := Lib.hid hX
  unfold L12.prune
  obtain ⟨c, xs, q⟩ := s
  simp only at *
  obtain ⟨⟨x0, x1, x2⟩, xf0, xf1, xf2⟩ := c3_at hX.bo.box
  have hbb := (head_row hX.bo.box).lt
  obtain ⟨n, hn⟩ : ∃ n, xs.length = n := ⟨_, rfl⟩
  have HN := Lib.hid hn
  rw [hn] at HX hcap hl x1
  have hnI : (n : Int) ≤ 10000000 := by omega
  clear hX
  have HI0 : Hid (pr (xs.take n) = pr xs) := Lib.hid (by rw [← hn, List.take_length])
  clear hn
  go_enter Tryz.func61, Tryz.ntmps61
  go_wp2_with fail
  go_loopg [2] n (fun gg s2 wr => ∃ (m : Nat) (a : Int), gg = m ∧ m ≤ n ∧ s2 = .int .i64 a ∧ a + 1 = (m : Int) ∧ wr = w1 ∧ Hid (pr (xs.take m) = pr xs))
  case atStart => exact ⟨n, _, rfl, Nat.le_refl _, rfl, by omega, rfl, HI0⟩
  case round =>
    clear HI0
    obtain ⟨m, a, rfl, hmn, rfl, ham, rfl, HI⟩ := hrel
    have hIVm : Hid (IV wr (.slice F1 gk d1) (xs.take gk)) := Lib.hid (by
      obtain ⟨F', d', e, hk⟩ := HX.out.st.g1.take gk (by show gk ≤ xs.length; rw [HN.out]; exact hmn)
      injection e with e1 e2 e3
      subst e1 e3
      exact hk)
    have hgd : gk ≤ d1 := by omega
    have hgdI : (gk : Int) ≤ (d1 : Int) := by omega
    rcases Nat.eq_zero_or_pos gk with rfl | hp
    · obtain rfl : a = -1 := by omega
      have HF := Lib.hid (HX.out.set1 hIVm.out)
      have HE : Hid (xs.take 0 = pr xs) := Lib.hid (by rw [← HI.out]; rfl)
      clear HI hIVm
      go_wp2
      go_end0
      exact ⟨rfl, (Only.refl _ _).setCell (by simp) _, _, by rw [← HE.out]; exact HF.out⟩
    · obtain ⟨j, rfl⟩ : ∃ j, gk = j + 1 := ⟨gk - 1, by omega⟩
      obtain rfl : a = (j : Nat) := by omega
      have hjx : j < xs.length := by rw [HN.out]; omega
      have hpt := pr_take hjx
      obtain ⟨F', d', e, _, _, h3⟩ := HX.out.st.g1.mem
      obtain ⟨g, off, hF, hg, -, q1⟩ := h3 j hjx
      injection e with e1 e2 e3
      subst e1 e3
      subst hF
      obtain ⟨fx, hfx⟩ : ∃ fx, xs[j].f = fx := ⟨_, rfl⟩
      dsimp only at q1
      rw [hfx] at q1 hpt
      have hjn : (j : Int) < (n : Int) := by omega
      have hj0 : (0 : Int) ≤ (j : Int) := by omega
      clear h3 hfx e2 ham
      by_cases h2 : fx = 2
      · subst h2
        have HF := Lib.hid (HX.out.set1 hIVm.out)
        have HE : Hid (xs.take (j + 1) = pr xs) := Lib.hid (by rw [← HI.out, hpt, if_pos rfl])
        clear HI hpt hIVm
        go_wp2
        go_end0
        exact ⟨rfl, (Only.refl _ _).setCell (by simp) _, _, by rw [← HE.out]; exact HF.out⟩
      · have h2I : ¬ (fx : Int) = 2 := by omega
        have HPT : Hid (pr (xs.take j) = pr xs) := Lib.hid (by rw [← HI.out, hpt, if_neg h2])
        clear HI hpt hIVm
        go_wp2
        go_roundg j
        case measure => omega
        case rel => exact ⟨j, _, rfl, by omega, rfl, by omega, rfl, HPT⟩
end
end Go.Proofs.YtkhikpnlpcankaaGreat
namespace Go.Proofs.YtkhikpnlpcankaaGreat
open Go Go.RowKit Go.Deep
section
variable {w w1 : World} {b r : Nat} {s : L12} {u1 u2 : Value}
set_option maxHeartbeats 1000000 in
theorem pstack_walk {B : Nat} (hX : Bx12 w w1 PT12 b r s u1 u2) (hQ : w1.ownsRow B 32 1 u2 s.q.length (u64L s.q)) (hl : s.s.length ≤ 9000000) (k f : Nat) : Calls Tryz.prog 97 #[.pointer (some ⟨b, 0, none⟩), .int .u64 (k : Nat), .int .i64 (f : Nat)] w1 fun e w2 => e = .returned (.tuple #[]) ∧ Only [b] w1 w2 ∧ ∃ v1, Bx12 w w2 PT12 b r (s.stack k f) v1 u2 ∧ w2.ownsRow B 32 1 u2 s.q.length (u64L s.q) ∧ w2.ownsRow w.heap.size PTI12 2 v1 (s.stack k f).s.length (itL (s.stack k f).s) := by
  obtain ⟨F1, n1, d1, rfl⟩ := hX.st.form1
  obtain ⟨F2, n2, d2, rfl⟩ := hX.st.form2
  have hb1 := low_one w1 (.cells #[.int .u64 (k : Nat), .int .i64 (f : Nat)] PTI12)
  have hx1 := hX.step hb1
  have ho1 : OwnI PTI12 w1.heap.size w1 (w1.alloc (.cells #[.int .u64 (k : Nat), .int .i64 (f : Nat)] PTI12)) (.slice (some ⟨w1.heap.size, 0, none⟩) 1 1) [⟨k, f⟩] := OwnI.one (Nat.le_refl _) (Below.refl _ _) ⟨k, f⟩
  have KW := Lib.hid (pwithout_walk hx1.st.g1 (by omega) k)
  have HX0 := Lib.hid hX
  have HQ0 := Lib.hid hQ
  have HX1 := Lib.hid hx1
  have HO1 := Lib.hid ho1
  have HSZ := Lib.hid hX.bo.low.size
  have HL : Hid ((wi k s.s).length ≤ 9000000) := Lib.hid (by have := wi_len (k := k) (s := s.s); omega)
  obtain ⟨⟨x0, x1, x2⟩, xf0, xf1, xf2⟩ := c3_at hX.bo.box
  have hbb := (head_row hX.bo.box).lt
  have hne : b ≠ w1.heap.size := by omega
  unfold L12.stack
  obtain ⟨c, xs, q⟩ := s
  simp only at *
  clear hX hQ hb1 hx1 ho1
  go_enter Tryz.func97, Tryz.ntmps97
  go_wp2_with fail
  refine KW.out.mono ?_
  rintro e w3 ⟨v3, rfl, ho3⟩
  have hx3 := HX1.out.step ho3.low
  have HX3 := Lib.hid hx3
  have HO3 := Lib.hid (HO1.out.below (by simp) ho3.low)
  have HS3 := Lib.hid ho3.iv
  clear x0 x1 x2 xf0 xf1 xf2 hbb hx3 ho3 KW HO1 hne
  have hsz3 : w1.heap.size ≤ w3.heap.size := HO3.out.low.size
  obtain ⟨⟨x0, x1, x2⟩, xf0, xf1, xf2⟩ := c3_at HX3.out.bo.box
  have hbb := (head_row HX3.out.bo.box).lt
  go_wp2_with (at_builtin; refine wpList_append_iv (e := PTI12) rfl (.tmp 10) (.tmp 16) rfl w1.heap.size (by kernel_rfl) (by kernel_rfl) _ [⟨k, f⟩] rfl HO3.out _ (wi k xs) rfl HS3.out (by have := HL.out; simp; omega) hsz3 ?_)
  intro v5 w5 hown5 hkp5 hkt5
  obtain ⟨F5, n5, d5, rfl⟩ := hown5.iv.form
  have hx5 := HX0.out.step hown5.low
  have hq5 := own_below HQ0.out hown5.low
  clear x0 x1 x2 xf0 xf1 xf2 hbb
  obtain ⟨⟨x0, x1, x2⟩, xf0, xf1, xf2⟩ := c3_at hx5.bo.box
  have hbb := (head_row hx5.bo.box).lt
  have ho : Only [b, r] w5 (w5.setCell ⟨b, 1, none⟩ (.slice F5 n5 d5)) := (Only.refl _ _).setCell (by simp) _
  have HF : Hid (Bx12 w (w5.setCell ⟨b, 1, none⟩ (.slice F5 n5 d5)) PT12 b r ⟨c, ⟨k, f⟩ :: wi k xs, q⟩ (.slice F5 n5 d5) (.slice F2 n2 d2) ∧ (w5.setCell ⟨b, 1, none⟩ (.slice F5 n5 d5)).ownsRow B 32 1 (.slice F2 n2 d2) q.length (u64L q) ∧ (w5.setCell ⟨b, 1, none⟩ (.slice F5 n5 d5)).ownsRow w.heap.size PTI12 2 (.slice F5 n5 d5) (⟨k, f⟩ :: wi k xs).length (itL (⟨k, f⟩ :: wi k xs))) := Lib.hid ⟨hx5.set1 hown5.iv, hx5.bo.own ho (by decide) hq5, hx5.bo.own ho (by decide) (own_low hown5.own HSZ.out)⟩
  have HON := Lib.hid ((Only.of_below (S := [b]) hown5.low).setCell (p := ⟨b, 1, none⟩) (by simp) (.slice F5 n5 d5))
  clear hown5 hkp5 hkt5 hx5 hq5 ho HX0 HX1 HX3 HQ0 HO3 HS3
  go_wp2
  go_end0
  exact ⟨rfl, HON.out, _, HF.out⟩
set_option maxHeartbeats 2000000 in
theorem pforget_walk (hX : Bx12 w w1 PT12 b r s u1 u2) (hl : s.s.length ≤ 10000000) (hc : s.c ≤ 1048576) : Calls Tryz.prog 58 #[.pointer (some ⟨b, 0, none⟩)] w1 fun e w2 => e = .returned (.tuple #[]) ∧ Only [b] w1 w2 ∧ ∃ v1, Bx12 w w2 PT12 b r s.forgetP v1 u2 := by
  obtain ⟨F1, n1, d1, rfl⟩ := hX.st.form1
  obtain ⟨F2, n2, d2, rfl⟩ := hX.st.form2
  have HX := Lib.hid hX
  unfold L12.forgetP
  obtain ⟨c, xs, q⟩ := s
  simp only at *
  obtain ⟨⟨x0, x1, x2⟩, xf0, xf1, xf2⟩ := c3_at hX.bo.box
  have hbb := (head_row hX.bo.box).lt
  have HLD : Hid (∀ W, Below w1.heap.size w1 W → Bx12 w W PT12 b r ⟨c, xs, q⟩ (.slice F1 n1 d1) (.slice F2 n2 d2) ∧ (W.cell? ⟨b, 0, none⟩ = some (.int .i64 (c : Nat)) ∧ W.cell? ⟨b, 1, none⟩ = some (.slice F1 n1 d1))) := Lib.hid (fun W hb => by
    obtain ⟨⟨x0, x1, x2⟩, _⟩ := c3_at (HX.out.step hb).bo.box
    exact ⟨HX.out.step hb, x0, x1⟩)
  have KB : Hid (∀ W, Calls Tryz.prog 102 #[.int .i64 0, .int .i64 (c : Nat), .func (.func 103) #[] #[]] W fun e w' => e = .returned (.func (.func 122) #[] (capsB W.heap.size)) ∧ Below W.heap.size W w' ∧ W.heap.size + 1 + 1 + 1 < w'.heap.size ∧ Bh w' W.heap.size 0 0 c (.func (.func 103) #[] #[])) := Lib.hid (fun W => libehind_walk 0 c _ _)
  clear hX
  go_enter Tryz.func58, Tryz.ntmps58
  go_wp2_with fail
  go_region_law
    (first
      | (go_simp; go_at_call 102; refine (KB.out _).mono ?_; rintro e wa ⟨rfl, hb0, hsz, hbh⟩; have hba := (below_drewn (Below.refl w1.heap.size w1) 1).trans hb0; obtain ⟨hxa, xa0, xa1⟩ := HLD.out wa hba)
      | (go_simp; go_at_call 100; refine (chg_forget hxa.st.g1 hl (by omega) hbh).mono ?_; rintro e wb ⟨vb, rfl, hob, hrb⟩; have hbF := hba.trans (hob.below (B := w1.heap.size) (by simp; omega) hba.size); obtain ⟨F3, n3, d3, rfl⟩ := (IV.of_own hrb).form; have hxb := (HLD.out wb hbF).1; obtain ⟨⟨z0, z1, z2⟩, zf0, zf1, zf2⟩ := c3_at hxb.bo.box; have hzb := (head_row hxb.bo.box).lt))
  all_goals
    have HF := Lib.hid (hxb.set1 (IV.of_own hrb))
    have HON := Lib.hid ((Only.of_below (S := [b]) hbF).setCell (p := ⟨b, 1, none⟩) (by simp) (.slice F3 n3 d3))
    clear hxb hrb hob hbF hbh hxa xa0 xa1 hba hb0 HLD KB HX x0 x1 x2 xf0 xf1 xf2
    go_wp2
    go_end0
    exact ⟨rfl, HON.out, _, HF.out⟩
end
end Go.Proofs.YtkhikpnlpcankaaGreat
namespace Go.Proofs.YtkhikpnlpcankaaGreat
open Go Go.RowKit Go.Deep
theorem KO.stayB {B B' : Nat} {w0 w w' : World} {v : Value} {ks : List Nat} (h : KO B w0 w v ks) (hlt : ∀ g, v.ownBlock = some g → g < B') (hb : Below B' w w') (hB : B ≤ B') : KO B w0 w' v ks := by
  refine ⟨h.low.trans (hb.mono hB), h.own.1, h.own.2.imp id ?_⟩
  rintro ⟨g, cap, cur, e1, e2, e3, e4⟩
  exact ⟨g, cap, cur, e1, e2, (hb.block g (hlt g (by rw [e1]; rfl))).trans e3, e4⟩
theorem CB.other {W W' : World} {B gc n : Nat} {cs : List Nat} {c0 : Array Value} {t : TypeId} (h : CB W B gc cs) (ho : Only [n] W W') (hn : W.heap[n]? = some (.cells c0 t (0, 0))) (h1 : t ≠ KT) (h2 : t ≠ 32) : CB W' B gc cs := by
  have hne := h.ne hn h1
  obtain ⟨v, h3, h4⟩ := h.row
  refine ⟨h.ge, v, (ho.block _ (Array.getElem?_eq_some_iff.1 h3).1 (by simpa using fun e : gc = n => hne e.symm)).trans h3, own_other h4 ho (fun g hg cs' he => ?_)⟩
  rw [List.mem_singleton] at hg
  subst hg
  rw [hn] at he
  injection he with he
  injection he with _ he
  exact h2 he
def obl (v : Value) : List Nat := v.ownBlock.toList
theorem only_grown {w w' : World} {v : Value} (h : w.grownBy w' v.ownBlock) : Only (obl v) w w' := ⟨h.os, h.tape, h.output, h.size, fun k hk hS => h.block k hk (fun e => hS (by unfold obl; rw [← e]; simp))⟩
section
variable {w w1 : World} {b r : Nat} {s : L12} {u1 u2 : Value}
structure Cd (w W : World) (b r B gc : Nat) (c : Nat) (xs : List It) (q cs : List Nat) (u1 u2 : Value) : Prop where
  bx : Bx12 w W PT12 b r ⟨c, xs, q⟩ u1 u2
  qo : KO w.heap.size w W u2 q
  so : W.ownsRow w.heap.size PTI12 2 u1 xs.length (itL xs)
  cb : CB W B gc cs
  sz : B ≤ W.heap.size
set_option maxHeartbeats 800000 in
set_option maxRecDepth 8000 in
theorem pcool_walk (hX : Bx12 w w1 PT12 b r s u1 u2) (hQ : KO w.heap.size w w1 u2 s.q) (hl : s.s.length ≤ 10000000) (hq : s.q.length ≤ 10000000) (hc1 : 1 ≤ s.c) (hc : s.c ≤ 1048576) : Calls Tryz.prog 62 #[.pointer (some ⟨b, 0, none⟩)] w1 fun e w2 => e = .returned (.tuple #[]) ∧ Only (b :: obl u2) w1 w2 ∧ ∃ v1 v2, Bx12 w w2 PT12 b r s.coolP v1 v2 := by
  obtain ⟨F1, n1, d1, rfl⟩ := hX.st.form1
  obtain ⟨F2, n2, d2, rfl⟩ := hX.st.form2
  have HX := Lib.hid hX
  have HQ := Lib.hid hQ
  have hrm := roomH_lt hc1
  have HKR := Lib.hid (fun W : World => hotroom_walk (w := W) s.c hc1 hc)
  unfold L12.coolP
  obtain ⟨c, xs, q⟩ := s
  simp only at *
  obtain ⟨rm, hr⟩ : ∃ r, roomH c = r := ⟨_, rfl⟩
  rw [hr] at HKR hrm ⊢
  have hlb := (head_row hX.bo.box).lt
  have hlr := (head_row hX.bo.res).lt
  have HQLT : Hid (∀ g, (Value.slice F2 n2 d2).ownBlock = some g → g < w1.heap.size) := Lib.hid hQ.lt
  have HSZ := Lib.hid hX.bo.low.size
  have HBR := Lib.hid (And.intro hlb hlr)
  have HLD : Hid (∀ W, Below w1.heap.size w1 W → Bx12 w W PT12 b r ⟨c, xs, q⟩ (.slice F1 n1 d1) (.slice F2 n2 d2) ∧ KO w.heap.size w W (.slice F2 n2 d2) q ∧ (W.cell? ⟨b, 0, none⟩ = some (.int .i64 (c : Nat)) ∧ W.cell? ⟨b, 1, none⟩ = some (.slice F1 n1 d1)) ∧ b < W.heap.size) := Lib.hid (fun W hb => by
    obtain ⟨⟨x0, x1, x2⟩, _⟩ := c3_at (HX.out.step hb).bo.box
    exact ⟨HX.out.step hb, HQ.out.below HX.out.bo.low.size hb, ⟨x0, x1⟩, (head_row (HX.out.step hb).bo.box).lt⟩)
  have hb0 := low_one w1 (.cells #[.slice none 0 0] KT)
  have HP0 := Lib.hid (heap_alloc_new w1 (.cells #[.slice none 0 0] KT))
  obtain ⟨hx0, hq0, ⟨x0, x1⟩, hbb⟩ := HLD.out _ hb0
  obtain ⟨-, xf0, xf1, xf2⟩ := c3_at hx0.bo.box
  have KB : Hid (∀ W n, W.heap.size = n → Calls Tryz.prog 102 #[.int .i64 2, .int .i64 (rm : Nat), .func (.func 106) #[] #[.pointer (some ⟨w1.heap.size, 0, none⟩)]] W fun e w' => e = .returned (.func (.func 122) #[] (capsB n)) ∧ Below W.heap.size W w' ∧ Bh w' n 2 0 rm (.func (.func 106) #[] #[.pointer (some ⟨w1.heap.size, 0, none⟩)])) := Lib.hid (fun W n hn => by
    subst hn
    exact (libehind_walk 2 rm _ _).mono (fun e w' h => ⟨h.1, h.2.1, h.2.2.2⟩))
  have HB0 := Lib.hid hb0
  have hne : b ≠ w1.heap.size := by omega
  have hrml : rm ≤ 100000000 := by omega
  clear hX hQ hx0 hq0 hb0 hr hrm
  go_enter Tryz.func62, Tryz.ntmps62
  go_upto_region 1 with fail
  go_cut [] (fun wx => ∃ F3 n3 d3, Cd w wx b r w1.heap.size w1.heap.size c (coolK rm xs) q (coolO rm xs) (.slice F3 n3 d3) (.slice F2 n2 d2) ∧ Only [b] w1 wx)
  case first =>
    go_region_law
      (first
        | (go_simp; go_at_call 57; refine (HKR.out _).mono ?_; rintro e wk ⟨rfl, rfl⟩)
        | (go_simp; go_at_call 102; refine (KB.out _ (w1.heap.size + 1) (by simp)).mono ?_; rintro e wa ⟨rfl, hbq, hbh⟩; have hba := (below_drewn HB0.out 1).trans (hbq.mono (by simp)); obtain ⟨hxa, hqa, ⟨xa0, xa1⟩, hbba⟩ := HLD.out wa hba; have hPa := (hbq.block w1.heap.size (by simp)).trans HP0.out)
        | (go_simp; go_at_call 100; refine (chg_cool (B := w1.heap.size) (fun W hW => (HLD.out W (hba.trans hW)).1.st.g1) hl hrml hba.size (by simp) hbh ⟨Nat.le_refl _, _, hPa, World.ownsRow_nil _ _ _ _⟩).mono ?_; rintro e wb ⟨vb, rfl, hbb2, hcb, hrb⟩; have hbF := hba.trans hbb2; obtain ⟨F3, n3, d3, rfl⟩ := (IV.of_own hrb).form; obtain ⟨hxb, hqb, -, hbbb⟩ := HLD.out wb hbF; obtain ⟨⟨zz0, zz1, zz2⟩, zzf0, zzf1, zzf2⟩ := c3_at hxb.bo.box))
    all_goals
      go_wp2_with fail
      go_meet
      have ho : Only [b] wb (wb.setCell ⟨b, 1, none⟩ (.slice F3 n3 d3)) := (Only.refl _ _).setCell (by simp) _
      have ho2 : Only [b, r] wb (wb.setCell ⟨b, 1, none⟩ (.slice F3 n3 d3)) := (Only.refl _ _).setCell (by simp) _
      exact ⟨F3, n3, d3, ⟨hxb.set1 (IV.of_own hrb), hxb.bo.ko ho2 hqb, hxb.bo.own ho2 (by decide) (own_low hrb (Nat.le_trans HSZ.out hba.size)), hcb.other ho hxb.bo.box (by decide) (by decide), Nat.le_trans hbF.size ho.size⟩, (Only.of_below (S := [b]) hbF).trans ho (by simp)⟩
  case rest =>
    obtain ⟨F3, n3, d3, hcd, hon⟩ := hcut
    have HON := Lib.hid hon
    clear hon
    clear x0 x1 xf0 xf1 xf2 hbb KB HKR HB0 HP0 HLD
    obtain ⟨vc, hgc, hoc⟩ := hcd.cb.row
    obtain ⟨Fc, cc, rfl, -⟩ : ∃ F c, vc = .slice F (coolO rm xs).length c ∧ True := by
      obtain ⟨F, c, e, _⟩ := (KV.of_own hoc).mem
      exact ⟨F, c, e, trivial⟩
    have hol : (coolO rm xs).length ≤ 10000000 := Nat.le_trans (coolO_len xs rm) hl
    have KRV := Lib.hid (revK12_walk (B := w1.heap.size) (w0 := wc) ⟨Below.refl _ _, hoc⟩ hcd.sz (by omega))
    have hg0 := (head_row hgc).cell (i := 0) (by simp)
    have hglt := (head_row hgc).lt
    have HCD := Lib.hid hcd
    have HOC := Lib.hid hoc
    have HGC := Lib.hid hgc
    obtain ⟨m, hm⟩ : ∃ m, (coolO rm xs).length = m := ⟨_, rfl⟩
    have HM := Lib.hid hm
    rw [hm] at hg0 KRV hol HOC HGC
    clear hcd hoc hgc hm
    go_wp2_with fail
    refine KRV.out.mono ?_
    rintro e w5 ⟨rfl, hk5, hgr5⟩
    have hkt5 := Kt.grown HOC.out hgr5
    have hlow5 := hk5.low
    have HO5 := Lib.hid (only_then HON.out hlow5)
    have hbx5 : Bx12 w w5 PT12 b r ⟨c, coolK rm xs, q⟩ (.slice F3 n3 d3) (.slice F2 n2 d2) := ⟨⟨HCD.out.bx.bo.low.trans (hlow5.mono HSZ.out), (hlow5.block b HBR.out.1).trans HCD.out.bx.bo.box, (hlow5.block r HBR.out.2).trans HCD.out.bx.bo.res, HCD.out.bx.bo.ge, HCD.out.bx.bo.nu, HCD.out.bx.bo.ty⟩, ⟨IV.of_own (own_kt HCD.out.so hkt5 (by decide)), (HCD.out.qo.stayB HQLT.out hlow5 HSZ.out).kv⟩⟩
    have hso5 := own_kt HCD.out.so hkt5 (by decide)
    have hqo5 := HCD.out.qo.stayB HQLT.out hlow5 HSZ.out
    have hgc5 := hkt5 _ _ _ _ HGC.out (by decide)
    have HBX5 := Lib.hid hbx5
    have HSO5 := Lib.hid hso5
    have HQD := Lib.hid (hqo5.drewn 1)
    have HKD := Lib.hid (hk5.kv.drewn 1)
    obtain ⟨⟨x0, x1, x2⟩, xf0, xf1, xf2⟩ := c3_at hbx5.bo.box
    have hbb := (head_row hbx5.bo.box).lt
    have hg5 := (head_row hgc5).cell (i := 0) (by simp)
    have hglt5 := (head_row hgc5).lt
    have hrl : (coolO rm xs).reverse.length = m := by rw [List.length_reverse]; exact HM.out
    have HRL := Lib.hid hrl
    have hszq : w.heap.size ≤ w5.drew.heap.size := hqo5.low.size
    clear hkt5 hlow5 hbx5 hso5 hqo5 hgc5 hk5 hgr5 KRV hg0 hglt HCD HOC HGC hrl
    go_wp2_with fail
    go_region_law
      (refine step_append_kg (by rfl) (.tmp 24) (.tmp 25) (by rfl) w.heap.size (by kernel_rfl) (by kernel_rfl) _ q (by rfl) (w0 := w) HQD.out _ (coolO rm xs).reverse (by rfl) HKD.out (by rw [HRL.out]; omega) hszq ?_; intro v6 w6 hown6 hkt6 hgr6; obtain ⟨F6, n6, d6, rfl⟩ := hown6.kv.form; have hbx6 := HBX5.out.bo.step (below_drewn (Below.refl _ _) 1) |>.kt hkt6 hown6.low; obtain ⟨⟨zz0, zz1, zz2⟩, zzf0, zzf1, zzf2⟩ := c3_at hbx6.box; have hzzb := (head_row hbx6.box).lt)
    all_goals
      have hst6 : Bx12 w w6 PT12 b r ⟨c, coolK rm xs, q ++ (coolO rm xs).reverse⟩ (.slice F3 n3 d3) (.slice F6 n6 d6) → True := fun _ => trivial
      have hx6 : Bx12 w (w6.setCell ⟨b, 2, none⟩ (.slice F6 n6 d6)) PT12 b r ⟨c, coolK rm xs, q ++ (coolO rm xs).reverse⟩ (.slice F3 n3 d3) (.slice F6 n6 d6) := by
        obtain ⟨h1, h2⟩ := hbx6.set 2 (.slice F6 n6 d6) rfl
        exact ⟨h1, ⟨IV.of_own (hbx6.own h2 (by decide) (own_kt HSO5.out.drew hkt6 (by decide))), hbx6.kv h2 hown6.kv⟩⟩
      have HF := Lib.hid hx6
      have HOF : Hid (Only (b :: obl (.slice F2 n2 d2)) w1 (w6.setCell ⟨b, 2, none⟩ (.slice F6 n6 d6))) := Lib.hid (((HO5.out.drew.mono (T := b :: obl (.slice F2 n2 d2)) (by simp)).trans (only_grown hgr6) (fun g hg => .inl (List.mem_cons_of_mem _ hg))).setCell (by simp) _)
      clear hst6 hx6 hbx6 hown6 hkt6 hgr6 HBX5 HSO5 HQD HKD x0 x1 x2 xf0 xf1 xf2 hbb
      go_wp2
      go_end0
      exact ⟨rfl, HOF.out, _, _, HF.out⟩
end
end Go.Proofs.YtkhikpnlpcankaaGreat
