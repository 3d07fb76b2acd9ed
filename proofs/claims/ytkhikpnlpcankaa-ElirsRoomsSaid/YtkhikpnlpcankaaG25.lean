/- Words and walks: ElV ElF ElC ElE. -/
import Derived.Test.YtkhikpnlpcankaaG16
import Derived.Test.YtkhikpnlpcankaaG24
import Derived.IntWalk
namespace Go.Proofs.Ytkhikpnlpcankaa
open Go Go.RowKit Go.Deep Go.Shelf
attribute [local go_sem] Oper.semAt_some
section
variable {w0 w w' W : World} {xp : Nat} {o1 o2 : Option Addr} {tp : Nat} {s : L12}
theorem tail_in (m : Nat) (W : World) (xp : Nat) :
    CallsIn Fence.wide m Try.prog 56 #[ptr xp] W fun e w' => e = .returned (.func (.func 69) #[] #[.pointer (some ⟨W.heap.size, 0, none⟩)]) ∧ w' = W.alloc (.cells #[ptr xp] PxT) := by
  refine callsIn_of_wp Try.func56 rfl trivial ?_ rfl
  simp only [Try.ntmps56, List.size_toArray, List.length_cons, List.length_nil, Nat.reduceAdd, Nat.reduceSub, Array.replicate_succ, Array.replicate_zero, List.push_toArray, List.append_toArray, List.nil_append, List.cons_append]
  gi_wp2
  go_ret
  exact ⟨rfl, rfl⟩
theorem TlI.keeper (b1 b2 : Nat) (hb : Below w0.heap.size w0 w) {w2 : World} (hz : w.heap.size ≤ w2.heap.size) : Keeper w2 (TlI w0 w xp o1 o2 s tp b1 b2) := by
  have hw := hb.size
  refine ⟨?_, ?_⟩
  · rintro pre W j o o' ⟨t, h⟩ hj ho hc
    exact ⟨t, h.is, h.cold, h.fine, h.cs.putObj o' (by omega) ho hc, h.kn.putObj o' (by omega), (putObj_other ho hc h.bx1).trans h.bx1, (putObj_other ho hc h.bx2).trans h.bx2⟩
  · rintro pre W W' ⟨t, h⟩ hb
    exact ⟨t, h.still hb⟩
def TlA (w0 w : World) (xp : Nat) (o1 o2 : Option Addr) (s : L12) (tp b1 b2 : Nat) (pre : List It) (x : It) (a : Act) (W : World) : Prop :=
  TlI w0 w xp o1 o2 s tp b1 b2 pre W ∧ ∃ B, W.heap[B]? = some (.cells (itC x) ItT (0, 0)) ∧
    a = { tmps := #[ptr xp, .pointer (some ⟨b1, 0, none⟩), .pointer (some ⟨B, 0, none⟩), ptr xp, .func (.func 69) #[] #[.pointer (some ⟨b2, 0, none⟩)], .agg (itC x), undef, undef, undef, undef, undef, undef, undef, undef, undef, undef, undef, undef, undef, undef, undef, undef, undef], defers := [] }
theorem Tl.last_is {b1 b2 : Nat} {t pre : List It} {x : It} (h : Tl w0 w W xp o1 o2 s tp b1 b2 t pre) (hv : TlV s pre x) : ∃ t', t = t' ++ [x] := by
  obtain ⟨_, t', e⟩ := hv
  have h1 := h.is
  rw [e] at h1
  exact ⟨t', (List.append_cancel_right h1).symm⟩
set_option maxHeartbeats 8000000 in
set_option maxRecDepth 100000 in
theorem prune_in (h : CS w0 w xp o1 o2 s tp) (hf : s.Fine) :
    CallsIn Fence.wide 5 Try.prog 34 #[ptr xp] w fun e w' => e = .returned (.tuple #[]) ∧ CSP w0 w xp o1 o2 s.prune tp w' := by
  have H := Lib.hid h
  have HF := Lib.hid hf
  clear h hf
  refine callsIn_of_wp_marks Try.func34 rfl trivial ?_ rfl
  simp only [Try.ntmps34, List.size_toArray, List.length_cons, List.length_nil, Nat.reduceAdd, Nat.reduceSub, Array.replicate_succ, Array.replicate_zero, List.push_toArray, List.append_toArray, List.nil_append, List.cons_append]
  gi_wp2_with (refine ⟨trivial, ?_⟩; gi_at_call 56; refine (tail_in _ _ _).mono ?_; rintro e w' ⟨rfl, rfl⟩)
  have hbw := H.out.below
  have hsz := hbw.size
  obtain ⟨w1, hw1⟩ : ∃ w1, w.alloc (.cells #[ptr xp] PxT) = w1 := ⟨_, rfl⟩
  obtain ⟨w2, hw2⟩ : ∃ w2, w1.alloc (.cells #[ptr xp] PxT) = w2 := ⟨_, rfl⟩
  have hz1 : w1.heap.size = w.heap.size + 1 := by rw [← hw1, World.size_alloc]
  have hb1 : Below w.heap.size w w1 := by rw [← hw1]; exact low_one w _
  have hb2 : Below w1.heap.size w1 w2 := by rw [← hw2]; exact low_one w1 _
  have hx1 : w2.heap[w.heap.size]? = some (.cells #[ptr xp] PxT (0, 0)) := (hb2.block _ (by omega)).trans (by rw [← hw1]; exact heap_alloc_new w _)
  have hx2 : w2.heap[w.heap.size + 1]? = some (.cells #[ptr xp] PxT (0, 0)) := by rw [← hz1, ← hw2]; exact heap_alloc_new w1 _
  have hbb : Below w.heap.size w w2 := hb1.trans (hb2.mono hb1.size)
  have hT0 : TlI w0 w xp o1 o2 s tp w.heap.size (w.heap.size + 1) [] w2 := ⟨s.s, by simp, by simp, HF.out, (H.out : CS w0 w xp o1 o2 (s.upTo s.s) tp).still hbb, Kn.below hbb, hx1, hx2⟩
  have hW : (w.alloc (.cells #[ptr xp] PxT)).alloc (.cells #[ptr xp] PxT) = w2 := by rw [hw1, hw2]
  rw [hW]
  clear hw1 hw2 hW hb1 hb2 hx1 hx2 hz1
  refine range_walk rfl (by decide) (gf := 69) (lb := #[.pointer (some ⟨w.heap.size + 1, 0, none⟩)]) rfl trivial (enters_of Try.func69 (by kernel_rfl) rfl)
    (encs := fun x : It => #[Value.agg (itC x)]) (fun _ => rfl) (Kp := fun _ _ => True) (fun _ _ _ _ _ => trivial) (fun _ _ _ _ _ _ => trivial) (TlI.keeper _ _ hbw hbb.size) hT0 (tail_visits 4 (by decide) _ _)
    (TlA w0 w xp o1 o2 s tp w.heap.size (w.heap.size + 1)) ?keep ?assign ?body ?done
  case keep =>
    rintro pre x a' W j o o' ⟨hi, B, hB, ha⟩ hj ho hc
    exact ⟨(TlI.keeper _ _ hbw hbb.size).put _ _ _ _ _ hi hj ho hc, B, (putObj_other ho hc hB).trans hB, ha⟩
  case assign =>
    intro l pre x W K hi hv hk
    gi_wp2
    have hl := low_one W (.cells (itC x) ItT)
    exact hk _ _ (StaysFrom.of_kn (Kn.below hl)) trivial ⟨(TlI.keeper _ _ hbw hbb.size).still _ _ _ hi hl, _, heap_alloc_new W _, rfl⟩
  case body =>
    rintro l pre x a' W ⟨⟨t, hT⟩, B, hB, rfl⟩ hv
    obtain ⟨t', rfl⟩ := hT.last_is hv
    have HT := Lib.hid hT
    have HV := Lib.hid hv
    have hxs : x ∈ (s.upTo (t' ++ [x])).s := by show x ∈ t' ++ [x]; simp
    obtain ⟨hx3, hxq⟩ := L12.in_qK hT.fine hxs
    have h64 := hT.cs.t2.key64 hx3 hxq
    obtain ⟨p1, p2, p3, p4⟩ := L12.pop_is hT.fine (t := t') (x := x) rfl
    have HP := Lib.hid (And.intro p1 (And.intro p2 (And.intro p3 p4)))
    have hN : Hid (∀ w', CS w0 w' xp o1 o2 (s.upTo t') tp → Kn W w' → StaysFrom w2.heap.size W w' ∧ True ∧ TlI w0 w xp o1 o2 s tp w.heap.size (w.heap.size + 1) (pre ++ [x]) w') := Lib.hid (fun w' hc hk => by
      refine ⟨StaysFrom.of_kn hk, trivial, t', ?_, ?_, HP.out.1, hc, HT.out.kn.trans hk, (hk _ (NP.cells HT.out.bx1 (by decide))).trans HT.out.bx1, (hk _ (NP.cells HT.out.bx2 (by decide))).trans HT.out.bx2⟩
      · have := HT.out.is
        rw [this]
        simp
      · intro y hy
        rcases List.mem_append.1 hy with hy | hy
        · exact HT.out.cold y hy
        · simp only [List.mem_singleton] at hy
          subst hy
          exact HV.out.1)
    have HR : Hid (∀ W', Below W.heap.size W W' → Calls Try.prog 55 #[.pointer o1, .int .u64 (x.key : Nat)] W' fun e w' => ∃ b, e = .returned (.bool b) ∧ CX w0 w' xp o1 o2 s.c (keysI t') (qK (s.upTo (t' ++ [x]))) tp ∧ Kn W w') := Lib.hid (fun W' hb => by
      have hc := hT.cs.still hb
      refine (t_rem1 hc.t2 hc.small x.key h64).mono ?_
      intro e w' hp
      obtain ⟨rfl, g1, g2⟩ := hc.put hp
      exact ⟨_, rfl, g1.congr (fun _ _ => rfl) p2, (Kn.below hb).trans g2⟩)
    have HQ : Hid (∀ W', CX w0 W' xp o1 o2 s.c (keysI t') (qK (s.upTo (t' ++ [x]))) tp → Calls Try.prog 55 #[.pointer o2, .int .u64 (x.key : Nat)] W' fun e w' => ∃ b, e = .returned (.bool b) ∧ CX w0 w' xp o1 o2 s.c (keysI t') (rmA (qK (s.upTo (t' ++ [x]))) x.key) tp ∧ Kn W' w') := Lib.hid (fun W' hc => by
      refine (t_rem2 hc.t2 hc.small x.key h64).mono ?_
      rintro e w' ⟨b, hp⟩
      obtain ⟨rfl, g1, g2⟩ := hc.put hp
      exact ⟨_, rfl, g1, g2⟩)
    obtain ⟨x0, x1, x2⟩ := hT.cs.cells
    have y0 := Boxed.cell hT.bx1
    obtain ⟨⟨z0, z1⟩, _⟩ := c2_at hB
    have HK : Hid (∀ w', CX w0 w' xp o1 o2 s.c (keysI t') (qK (s.upTo (t' ++ [x]))) tp → Kn W w' → C3 xp o1 o2 s.c w' ∧ w'.cell? ⟨w.heap.size, 0, none⟩ = some (ptr xp) ∧ w'.cell? ⟨B, 0, none⟩ = some (.int .u64 (x.key : Nat)) ∧ w'.cell? ⟨B, 1, none⟩ = some (.int .i64 (x.f : Nat))) := Lib.hid (fun w' hc hk => ⟨hc.cells, (World.cell?_of_block (a := ⟨w.heap.size, 0, none⟩) (hk _ (NP.cells HT.out.bx1 (by decide)))).trans y0, (World.cell?_of_block (a := ⟨B, 0, none⟩) (hk _ (NP.cells hB (by decide)))).trans z0, (World.cell?_of_block (a := ⟨B, 1, none⟩) (hk _ (NP.cells hB (by decide)))).trans z1⟩)
    have hx2 := HV.out.1
    clear hT hv hxs hxq p1 p2 p3 p4 hB hT0
    have hmo : Try.prog.follows .mixedOrders = true := by kernel_rfl
    clear h64
    gi_wp2
    refine wpIn_mono (Q := fun e a w3 => e = .normal ∧ ∃ b3, a = { tmps := #[ptr xp, .pointer (some ⟨w.heap.size, 0, none⟩), .pointer (some ⟨B, 0, none⟩), ptr xp, .func (.func 69) #[] #[.pointer (some ⟨w.heap.size + 1, 0, none⟩)], .agg (itC x), ptr xp, ptr xp, ptr xp, .pointer o1, .pointer (some ⟨B, 0, none⟩), .int .u64 (x.key : Nat), .bool b3, undef, undef, undef, undef, undef, undef, undef, undef, undef, undef], defers := [] } ∧ CX w0 w3 xp o1 o2 s.c (keysI t') (qK (s.upTo (t' ++ [x]))) tp ∧ Kn W w3) ?first ?rest
    case first =>
      gi_region_with_o (refine ⟨trivial, ?_⟩; gi_at_call 55; refine (CallsIn.inRound l (callsIn_wide.2 (HR.out _ (below_drewn (Below.refl _ _) _)))).mono ?_; rintro e w3 ⟨b3, rfl, h3, k3⟩)
      all_goals exact ⟨rfl, b3, rfl, h3, k3⟩
    case rest =>
      rintro e a w3 ⟨rfl, b3, rfl, h3, k3⟩
      obtain ⟨⟨x0, x1, x2⟩, y0, z0, z1⟩ := HK.out w3 h3 k3
      have H3 := Lib.hid h3
      have K3 := Lib.hid k3
      clear HR HK h3 k3
      rcases (by omega : x.f = 0 ∨ x.f = 1) with hx | hx
      · rw [hx] at z1
        gi_wp2
        refine wpIn_mono (Q := fun e a w4 => e = .normal ∧ ∃ b4, a = { tmps := #[ptr xp, .pointer (some ⟨w.heap.size, 0, none⟩), .pointer (some ⟨B, 0, none⟩), ptr xp, .func (.func 69) #[] #[.pointer (some ⟨w.heap.size + 1, 0, none⟩)], .agg (itC x), ptr xp, ptr xp, ptr xp, .pointer o1, .pointer (some ⟨B, 0, none⟩), .int .u64 (x.key : Nat), .bool b3, .pointer (some ⟨B, 1, none⟩), .int .i64 0, .bool true, ptr xp, ptr xp, .pointer (some ⟨xp, 1, none⟩), .pointer o2, .pointer (some ⟨B, 0, none⟩), .int .u64 (x.key : Nat), .bool b4], defers := [] } ∧ CX w0 w4 xp o1 o2 s.c (keysI t') (rmA (qK (s.upTo (t' ++ [x]))) x.key) tp ∧ Kn w3 w4) ?first ?rest
        case first =>
          gi_region_with_o (refine ⟨trivial, ?_⟩; gi_at_call 55; refine (CallsIn.inRound l (callsIn_wide.2 (HQ.out _ (H3.out.still (below_drewn (Below.refl _ _) _))))).mono ?_; rintro e w4 ⟨b4, rfl, h4, k4⟩)
          all_goals exact ⟨rfl, b4, rfl, h4, (Kn.below (below_drewn (Below.refl _ _) _)).trans k4⟩
        case rest =>
          rintro e a w4 ⟨rfl, b4, rfl, h4, k4⟩
          have hfin := hN.out w4 (h4.congr (HP.out.2.2.1 hx) rfl) (K3.out.trans k4)
          gi_wp2
          exact hfin
      · rw [hx] at z1
        have hfin := hN.out w3 (H3.out.congr (HP.out.2.2.2 hx) rfl) K3.out
        gi_wp2
        exact hfin
  case done =>
    rintro D pre W hD he ⟨t, hT⟩ hK
    have ht : t = pr s.s := by
      have h1 := hT.is
      unfold TlE at he
      rw [he] at h1
      exact (List.append_cancel_right h1).symm
    have hP : CSP w0 w xp o1 o2 s.prune tp W := ⟨by subst ht; exact hT.cs, hT.kn⟩
    have hP2 : CSP w0 w xp o1 o2 s.prune tp (W.putObj D (.deferred none)) := ⟨hP.1.putObj _ (by have := hbb.size; omega) hK rfl, hP.2.putObj _ (by have := hbb.size; omega)⟩
    gi_wp2
    refine ⟨by simp, .inl ⟨_, _, rfl, run_takeDeferred hK, ?_⟩⟩
    exact ⟨_, results_none rfl _ _ _, rfl, hP2⟩
theorem prune_walk (h : CS w0 w xp o1 o2 s tp) (hf : s.Fine) :
    Calls Try.prog 34 #[ptr xp] w fun e w' => e = .returned (.tuple #[]) ∧ CSP w0 w xp o1 o2 s.prune tp w' := callsIn_wide.1 (prune_in h hf)
end
end Go.Proofs.Ytkhikpnlpcankaa
namespace Go.Proofs.Ytkhikpnlpcankaa
open Go Go.RowKit Go.Deep
namespace L12
theorem fgN_snoc : ∀ (m : Nat) (s : L12), fgN (m + 1) s = (fgN m s).fg1
  | 0, _ => rfl
  | m + 1, s => fgN_snoc m s.fg1
theorem coolN_snoc : ∀ (m : Nat) (s : L12), coolN (m + 1) s = (coolN m s).cool1
  | 0, _ => rfl
  | m + 1, s => coolN_snoc m s.cool1
end L12
section
variable {w0 w w' W : World} {xp : Nat} {o1 o2 : Option Addr} {tp : Nat} {s : L12}
theorem fg_step (h : CS w0 w xp o1 o2 s tp) (hf : s.Fine) (hm : 0 < nk 0 s.s) : ∃ k : Nat,
    (∀ W, Below w.heap.size w W → Calls Try.prog 57 #[.pointer o2, .int .i64 0] W fun e w' => ∃ b, e = .returned (.tuple #[.int .u64 (k : Nat), .bool b]) ∧ Below w.heap.size w w') ∧
    (∀ W, Below w.heap.size w W → Calls Try.prog 33 #[ptr xp, .int .u64 (k : Nat)] W fun e w' => ∃ b, e = .returned (.bool b) ∧ CSP w0 w xp o1 o2 s.fg1 tp w') := by
  have hk : (qK s 0).getLastD 0 = lastF 0 s.s := kk_last hm
  have h64 := h.t2.key64 (t := 0) (k := lastF 0 s.s) (by decide) (kk_in.2 (lastF_in hm))
  refine ⟨lastF 0 s.s, fun W hb => ?_, fun W hb => ?_⟩
  · refine (t_back2 (h.still hb).t2 h.small (t := 0) (by decide)).mono ?_
    rintro e w' ⟨b, rfl, hb'⟩
    exact ⟨b, by rw [hk], hb.trans (hb'.mono hb.size)⟩
  · rw [L12.fg1_is hf hm]
    refine (gone_walk (h.still hb) h64).mono ?_
    rintro e w' ⟨rfl, g1, g2⟩
    exact ⟨_, rfl, g1, (Kn.below hb).trans g2⟩
theorem cs_len (h : CS w0 w xp o1 o2 s tp) {t n : Nat} (ht : t < 3) (hn : (qK s t).length = n) : ∀ W, Below w.heap.size w W → Calls Try.prog 36 #[.pointer o2, .int .i64 (t : Nat)] W fun e w' => e = .returned (.int .i64 (n : Nat)) ∧ Below w.heap.size w w' :=
  fun _ hb => (t_len2 (h.still hb).t2 ht hn).mono (fun _ _ ⟨he, hb'⟩ => ⟨he, hb.trans (hb'.mono hb.size)⟩)
set_option maxHeartbeats 4000000 in
theorem forget_walk (h : CS w0 w xp o1 o2 s tp) (hf : s.Fine) (hc : s.c ≤ 1048576) :
    Calls Try.prog 39 #[ptr xp] w fun e w' => e = .returned (.tuple #[]) ∧ CSP w0 w xp o1 o2 s.forget tp w' := by
  obtain ⟨n0, hn0⟩ : ∃ n0, nk 0 s.s = n0 := ⟨_, rfl⟩
  obtain ⟨c, hcc⟩ : ∃ c, s.c = c := ⟨_, rfl⟩
  have HNC := Lib.hid (And.intro hn0 hcc)
  have HF := Lib.hid hf
  have hs1 := h.sums.2.1
  have hs2 := h.small
  have HL : Hid (∀ W, Below w.heap.size w W → Calls Try.prog 36 #[.pointer o2, .int .i64 0] W fun e w' => e = .returned (.int .i64 (n0 : Nat)) ∧ Below w.heap.size w w') := Lib.hid (cs_len h (t := 0) (by decide) (by rw [← hn0]; exact kk_len))
  have HKC : Hid (∀ W, Below w.heap.size w W → C3 xp o1 o2 c W) := Lib.hid (fun W hb => by rw [← hcc]; exact (h.still hb).cells)
  have HI0 : Hid (∀ W, Below w.heap.size w W → CSP w0 w xp o1 o2 (L12.fgN 0 s) tp W) := Lib.hid (fun W hb => ⟨h.still hb, Kn.below hb⟩)
  obtain ⟨x0, x1, x2⟩ := HKC.out w (Below.refl _ _)
  have hn0I : (n0 : Int) ≤ 10000 := by omega
  have hn00 : (0 : Int) ≤ (n0 : Int) := by omega
  have hcI : (c : Int) ≤ 1048576 := by omega
  have hc0 : (0 : Int) ≤ (c : Int) := by omega
  have hwr : IntKind.i64.wrap ((n0 : Int) - (c : Int)) = (n0 : Int) - (c : Int) := IntWalk.i64_in _ (by omega)
  clear h hf hn0 hs1 hs2 hcc hc
  go_enter Try.func39, Try.ntmps39
  go_upto_region 0 with fail
  go_region_held3 (fun w' => w'.cell? ⟨xp, 0, none⟩ = some (.pointer o1) ∧ w'.cell? ⟨xp, 1, none⟩ = some (.pointer o2) ∧ w'.cell? ⟨xp, 2, none⟩ = some (.int .i64 (c : Nat))) (first | with_reducible exact kk5 | go_keep)
    (first | (go_at_call 36; refine (HL.out _ (below_drewn (Below.refl _ _) _)).mono ?_; rintro e w5 ⟨rfl, hb5⟩; have kk5 := HKC.out w5 hb5))
  have HI := Lib.hid (HI0.out w5 hb5)
  clear hb5 kk5 HI0 HL HKC x0 x1 x2
  go_wp2_with fail
  go_loopg [14] (n0 - c) (fun gg s14 wr => ∃ j : Nat, j + gg = n0 - c ∧ s14 = .int .i64 (j : Nat) ∧ Hid (CSP w0 w xp o1 o2 (L12.fgN j s) tp wr))
  case atStart => exact ⟨0, by omega, rfl, HI⟩
  case round =>
    obtain ⟨j, hj, rfl, HI⟩ := hrel
    by_cases hlt : j < n0 - c
    · have hltI : (j : Int) < (n0 : Int) - (c : Int) := by omega
      obtain ⟨f, rfl⟩ : ∃ f, gk = f + 1 := ⟨gk - 1, by omega⟩
      obtain ⟨g1, g2, g3, g4, g5, g6, g7⟩ := L12.Fine.fgN j s HF.out (by have := HNC.out.1; omega)
      obtain ⟨k, hB, hT⟩ := fg_step HI.out.1 g1 (by have := HNC.out.1; omega)
      have HB := Lib.hid hB
      have HT := Lib.hid hT
      have HS := Lib.hid (L12.fgN_snoc j s)
      have HKN := Lib.hid HI.out.2
      obtain ⟨x0, x1, x2⟩ := HI.out.1.cells
      have HKC : Hid (∀ W, Below wr.heap.size wr W → C3 xp o1 o2 (L12.fgN j s).c W) := Lib.hid (fun W hb => (HI.out.1.still hb).cells)
      clear g1 g2 g3 g4 g5 g6 g7 hB hT
      go_wp2_with fail
      refine (HB.out wr (Below.refl _ _)).mono ?_
      rintro e w7 ⟨b7, rfl, hb7⟩
      obtain ⟨y0, y1, y2⟩ := HKC.out w7 hb7
      have HTT := Lib.hid (HT.out w7 hb7)
      clear hb7 HT HB HKC x0 x1 x2
      go_wp2_with fail
      refine HTT.out.mono ?_
      rintro e w9 ⟨b9, rfl, h9⟩
      have HN : Hid (CSP w0 w xp o1 o2 (L12.fgN (j + 1) s) tp w9) := Lib.hid (by rw [HS.out]; exact ⟨h9.1, HKN.out.trans h9.2⟩)
      clear h9 HTT y0 y1 y2
      go_wp2
      go_roundg f
      case measure => omega
      case rel => exact ⟨j + 1, by omega, by go_num, HN⟩
    · have hltI : ¬ ((j : Int) < (n0 : Int) - (c : Int)) := by omega
      have HE : Hid (CSP w0 w xp o1 o2 s.forget tp wr) := Lib.hid (by
        have h1 := HI.out
        have e : L12.fgN j s = s.forget := by
          unfold L12.forget
          rw [HNC.out.1, HNC.out.2]
          congr 1
          omega
        rw [e] at h1
        exact h1)
      clear HI
      go_wp2
      exact bodyPost_end (v := .tuple #[]) (by simp [results, Try.results39, go_sem]) rfl ⟨rfl, HE.out⟩
end
section
variable {w0 w w' W : World} {xp : Nat} {o1 o2 : Option Addr} {tp : Nat} {s : L12}
theorem cool_step (h : CS w0 w xp o1 o2 s tp) (hf : s.Fine) (hm : 0 < nk 2 s.s) : ∃ k : Nat,
    (∀ W, Below w.heap.size w W → Calls Try.prog 57 #[.pointer o2, .int .i64 2] W fun e w' => ∃ b, e = .returned (.tuple #[.int .u64 (k : Nat), .bool b]) ∧ Below w.heap.size w w') ∧
    (∀ W, Below w.heap.size w W → Calls Try.prog 58 #[.pointer o2, .int .i64 1, .int .u64 (k : Nat)] W fun e w' => ∃ b, e = .returned (.bool b) ∧ CSP w0 w xp o1 o2 s.chill tp w') ∧
    (∀ W, CSP w0 w xp o1 o2 s.chill tp W → Calls Try.prog 34 #[ptr xp] W fun e w' => e = .returned (.tuple #[]) ∧ CSP w0 w xp o1 o2 s.cool1 tp w') := by
  obtain ⟨c1, c2, c3, c4, c5⟩ := L12.chill_is hf hm
  have hk : (qK s 2).getLastD 0 = lastF 2 s.s := kk_last hm
  refine ⟨lastF 2 s.s, fun W hb => ?_, fun W hb => ?_, fun W hp => ?_⟩
  · refine (t_back2 (h.still hb).t2 h.small (t := 2) (by decide)).mono ?_
    rintro e w' ⟨b, rfl, hb'⟩
    exact ⟨b, by rw [hk], hb.trans (hb'.mono hb.size)⟩
  · have hX := h.still hb
    refine (t_move2 hX.t2 h.small (t := 2) (u := 1) (by decide) c5 (by decide)).mono ?_
    intro e w' hp
    obtain ⟨rfl, g1, g2⟩ := hX.put hp
    exact ⟨_, rfl, g1.congr c4 c3.symm, (Kn.below hb).trans g2⟩
  · rw [← c2]
    refine (prune_walk hp.1 c1).mono ?_
    rintro e w' ⟨rfl, g1, g2⟩
    exact ⟨rfl, g1, hp.2.trans g2⟩
set_option maxHeartbeats 4000000 in
theorem cool_walk (h : CS w0 w xp o1 o2 s tp) (hf : s.Fine) (hc1 : 1 ≤ s.c) (hc : s.c ≤ 1048576) :
    Calls Try.prog 38 #[ptr xp] w fun e w' => e = .returned (.tuple #[]) ∧ CSP w0 w xp o1 o2 s.cool tp w' := by
  obtain ⟨n0, hn0⟩ : ∃ n0, nk 2 s.s = n0 := ⟨_, rfl⟩
  obtain ⟨c, hcc⟩ : ∃ c, s.c = c := ⟨_, rfl⟩
  have HNC := Lib.hid (And.intro hn0 hcc)
  have HF := Lib.hid hf
  have hs1 := h.sums.2.2.1
  have hs2 := h.small
  have HL : Hid (∀ W, Below w.heap.size w W → Calls Try.prog 36 #[.pointer o2, .int .i64 2] W fun e w' => e = .returned (.int .i64 (n0 : Nat)) ∧ Below w.heap.size w w') := Lib.hid (cs_len h (t := 2) (by decide) (by rw [← hn0]; exact kk_len))
  have HKC : Hid (∀ W, Below w.heap.size w W → C3 xp o1 o2 c W) := Lib.hid (fun W hb => by rw [← hcc]; exact (h.still hb).cells)
  have HI0 : Hid (∀ W, Below w.heap.size w W → CSP w0 w xp o1 o2 (L12.coolN 0 s) tp W) := Lib.hid (fun W hb => ⟨h.still hb, Kn.below hb⟩)
  obtain ⟨x0, x1, x2⟩ := HKC.out w (Below.refl _ _)
  obtain ⟨r, hr⟩ : ∃ r, roomH c = r := ⟨_, rfl⟩
  have HRM := Lib.hid hr
  have hrc : r ≤ c := by rw [← hr]; unfold roomH; omega
  have HH : Hid (∀ W, Calls Try.prog 37 #[.int .i64 (c : Nat)] W fun e w' => e = .returned (.int .i64 (r : Nat)) ∧ W = w') := Lib.hid (fun W => by rw [← hr]; exact ehot_walk c (by omega) (by omega))
  have hn0I : (n0 : Int) ≤ 10000 := by omega
  have hn00 : (0 : Int) ≤ (n0 : Int) := by omega
  have hrI : (r : Int) ≤ 1048576 := by omega
  have hr0 : (0 : Int) ≤ (r : Int) := by omega
  have hwr : IntKind.i64.wrap ((n0 : Int) - (r : Int)) = (n0 : Int) - (r : Int) := IntWalk.i64_in _ (by omega)
  clear h hf hn0 hs1 hs2 hcc hc hc1 hr hrc
  go_enter Try.func38, Try.ntmps38
  go_upto_region 0 with fail
  go_region_held3 (fun w' => w'.cell? ⟨xp, 0, none⟩ = some (.pointer o1) ∧ w'.cell? ⟨xp, 1, none⟩ = some (.pointer o2) ∧ w'.cell? ⟨xp, 2, none⟩ = some (.int .i64 (c : Nat))) (first | with_reducible exact kk5 | go_keep)
    (first
      | (go_at_call 36; refine (HL.out _ (below_drewn (Below.refl _ _) _)).mono ?_; rintro e w5 ⟨rfl, hb5⟩; have kk5 := HKC.out w5 hb5)
      | (go_at_call 37; refine (HH.out _).mono ?_; rintro e w6 ⟨rfl, rfl⟩))
  have HI := Lib.hid (HI0.out w5 hb5)
  clear hb5 kk5 HI0 HL HKC HH x0 x1 x2
  go_wp2_with fail
  go_loopg [15] (n0 - r) (fun gg s15 wr => ∃ j : Nat, j + gg = n0 - r ∧ s15 = .int .i64 (j : Nat) ∧ Hid (CSP w0 w xp o1 o2 (L12.coolN j s) tp wr))
  case atStart => exact ⟨0, by omega, rfl, HI⟩
  case round =>
    obtain ⟨j, hj, rfl, HI⟩ := hrel
    by_cases hlt : j < n0 - r
    · have hltI : (j : Int) < (n0 : Int) - (r : Int) := by omega
      obtain ⟨f, rfl⟩ : ∃ f, gk = f + 1 := ⟨gk - 1, by omega⟩
      obtain ⟨g1, g2, g3, g4, g5, g6⟩ := L12.Fine.coolN j s HF.out (by have := HNC.out.1; omega)
      obtain ⟨k, hB, hT, hP⟩ := cool_step HI.out.1 g1 (by have := HNC.out.1; omega)
      have HB := Lib.hid hB
      have HT := Lib.hid hT
      have HP := Lib.hid hP
      have HS := Lib.hid (L12.coolN_snoc j s)
      have HKN := Lib.hid HI.out.2
      obtain ⟨x0, x1, x2⟩ := HI.out.1.cells
      have HKC : Hid (∀ W, Below wr.heap.size wr W → C3 xp o1 o2 (L12.coolN j s).c W) := Lib.hid (fun W hb => (HI.out.1.still hb).cells)
      clear g1 g2 g3 g4 g5 g6 hB hT hP
      go_wp2_with fail
      refine (HB.out wr (Below.refl _ _)).mono ?_
      rintro e w7 ⟨b7, rfl, hb7⟩
      obtain ⟨y0, y1, y2⟩ := HKC.out w7 hb7
      have HTT := Lib.hid (HT.out w7 hb7)
      clear hb7 HT HB HKC x0 x1 x2
      go_wp2_with fail
      refine HTT.out.mono ?_
      rintro e w8 ⟨b8, rfl, h8⟩
      have HPP := Lib.hid (HP.out w8 h8)
      clear h8 HTT HP y0 y1 y2
      go_wp2_with fail
      refine HPP.out.mono ?_
      rintro e w9 ⟨rfl, h9⟩
      have HN : Hid (CSP w0 w xp o1 o2 (L12.coolN (j + 1) s) tp w9) := Lib.hid (by rw [HS.out]; exact ⟨h9.1, HKN.out.trans h9.2⟩)
      clear h9 HPP
      go_wp2
      go_roundg f
      case measure => omega
      case rel => exact ⟨j + 1, by omega, by go_num, HN⟩
    · have hltI : ¬ ((j : Int) < (n0 : Int) - (r : Int)) := by omega
      have HE : Hid (CSP w0 w xp o1 o2 s.cool tp wr) := Lib.hid (by
        have h1 := HI.out
        have e : L12.coolN j s = s.cool := by
          unfold L12.cool
          rw [HNC.out.1, HNC.out.2, HRM.out]
          congr 1
          omega
        rw [e] at h1
        exact h1)
      clear HI
      go_wp2
      exact bodyPost_end (v := .tuple #[]) (by simp [results, Try.results38, go_sem]) rfl ⟨rfl, HE.out⟩
end
section
variable {w0 w w' W : World} {xp : Nat} {o1 o2 : Option Addr} {tp : Nat} {s : L12}
theorem ev_step (h : CS w0 w xp o1 o2 s tp) (hf : s.Fine) (ho : s.Ord) (hc : s.c ≤ 1048576) {k : Nat} {q : List Nat} (hq : s.q = k :: q) :
    (∀ W, Below w.heap.size w W → Calls Try.prog 57 #[.pointer o2, .int .i64 1] W fun e w' => ∃ b, e = .returned (.tuple #[.int .u64 (k : Nat), .bool b]) ∧ Below w.heap.size w w') ∧
    (∀ W, Below w.heap.size w W → Calls Try.prog 31 #[.pointer o1, .int .u64 (k : Nat)] W fun e w' => e = .returned (.tuple #[.int .i64 0, .bool (decide (0 < tot k s.s))]) ∧ Below w.heap.size w w') ∧
    (0 < tot k s.s → (∀ W, Below w.heap.size w W → Calls Try.prog 58 #[.pointer o2, .int .i64 0, .int .u64 (k : Nat)] W fun e w' => ∃ b, e = .returned (.bool b) ∧ CSP w0 w xp o1 o2 s.ev1 tp w') ∧
      (∀ W, CSP w0 w xp o1 o2 s.ev1 tp W → Calls Try.prog 39 #[ptr xp] W fun e w' => e = .returned (.tuple #[]) ∧ CSP w0 w xp o1 o2 s.pev1 tp w')) ∧
    (tot k s.s = 0 → ∀ W, Below w.heap.size w W → Calls Try.prog 55 #[.pointer o2, .int .u64 (k : Nat)] W fun e w' => ∃ b, e = .returned (.bool b) ∧ CSP w0 w xp o1 o2 s.pev1 tp w') := by
  obtain ⟨m1, m2, m3, m4, m5⟩ := L12.ev_move hf ho hq
  obtain ⟨p1, p2, p3, p4, p5, p6, p7, p8⟩ := L12.pev1_is hf ho hq
  have h64 := h.t2.key64 (t := 1) (by decide) m4
  have e1 : s.ev1 = ⟨s.c, setI k 0 s.s, q⟩ := (L12.ev1_is hf ho hq).2.2.2.2.1
  refine ⟨fun W hb => ?_, fun W hb => ?_, fun ht => ⟨fun W hb => ?_, fun W hp => ?_⟩, fun ht W hb => ?_⟩
  · refine (t_back2 (h.still hb).t2 h.small (t := 1) (by decide)).mono ?_
    rintro e w' ⟨b, rfl, hb'⟩
    exact ⟨b, by rw [m5]; simp, hb.trans (hb'.mono hb.size)⟩
  · refine (t_find1 (h.still hb).t2 h.small k h64).mono ?_
    rintro e w' ⟨rfl, hb'⟩
    exact ⟨by rw [show decide (k ∈ keysI s.s) = decide (0 < tot k s.s) from decide_eq_decide.2 tot_in], hb.trans (hb'.mono hb.size)⟩
  · have hX := h.still hb
    refine (t_move2 hX.t2 h.small (t := 1) (u := 0) (by decide) m4 (by decide)).mono ?_
    intro e w' hp
    obtain ⟨rfl, g1, g2⟩ := hX.put hp
    have g3 := g1.congr (m1 ht) m3.symm
    refine ⟨_, rfl, ?_, (Kn.below hb).trans g2⟩
    have ec : s.ev1.c = s.c := by rw [e1]
    show CX w0 w' xp o1 o2 s.ev1.c (keysI s.ev1.s) (qK s.ev1) tp
    rw [ec]
    exact g3
  · rw [p7 ht]
    refine (forget_walk hp.1 (hf.ev1 (by rw [hq]; simp)).1 (by rw [e1]; exact hc)).mono ?_
    rintro e w' ⟨rfl, g1, g2⟩
    exact ⟨rfl, g1, hp.2.trans g2⟩
  · have hX := h.still hb
    refine (t_rem2 hX.t2 h.small k h64).mono ?_
    rintro e w' ⟨b, hp⟩
    obtain ⟨rfl, g1, g2⟩ := hX.put hp
    rw [p8 ht]
    exact ⟨_, rfl, g1.congr (m2 ht) rfl, (Kn.below hb).trans g2⟩
structure EvL (w0 w wr : World) (xp : Nat) (o1 o2 : Option Addr) (s : L12) (tp j : Nat) (v : Value) : Prop where
  st : CSP w0 w xp o1 o2 (L12.pevN j s) tp wr
  own : KF w0.heap.size w wr v (s.q.take j)
theorem EvL.next {j k B : Nat} {v6 : Value} {w6 : World} (hjk : ∃ h : j < s.q.length, s.q[j] = k) (ht : CSP w0 w xp o1 o2 (L12.pevN (j + 1) s) tp W)
    (hB : w0.heap.size ≤ B) (hBw : ∀ g, NP w g → g < B) (hBz : B ≤ W.heap.size) (hkt : Kt 28 W w6) (hown : KO B W w6 v6 (s.q.take j ++ [k])) : EvL w0 w w6 xp o1 o2 s tp (j + 1) v6 := by
  obtain ⟨hj, hk⟩ := hjk
  have hl := hown.low
  have hkn : Kn w w6 := fun g hg => (hl.block g (hBw g hg)).trans (ht.2 g hg)
  refine ⟨⟨ht.1.sty (ht.1.below.trans (hl.mono hB)) hkt.sty hl.size, hkn⟩, B, ⟨Below.refl _ _, ?_⟩, hB, Nat.le_trans hBz hl.size, hBw⟩
  rw [List.take_succ_eq_append_getElem hj, hk]
  exact hown.own
set_option maxHeartbeats 8000000 in
set_option maxRecDepth 4000 in
theorem elevict_walk (h : CS w0 w xp o1 o2 s tp) (hf : s.Fine) (ho : s.Ord) (hc : s.c ≤ 1048576) (n : Nat) (hn : n ≤ 1048576) (hm : s.many n ≤ s.q.length) :
    Calls Try.prog 35 #[ptr xp, .int .i64 (n : Nat)] w fun e w' => ∃ o, e = .returned o ∧ CSP w0 w xp o1 o2 (L12.pevN (s.many n) s) tp w' ∧ KF w0.heap.size w w' o (s.q.take (s.many n)) := by
  obtain ⟨n2, hn2⟩ : ∃ n2, nk 2 s.s = n2 := ⟨_, rfl⟩
  obtain ⟨n1, hn1⟩ : ∃ n1, s.q.length = n1 := ⟨_, rfl⟩
  obtain ⟨M, hM⟩ : ∃ M, s.many n = M := ⟨_, rfl⟩
  have hMe : M = n2 + n1 - n := by rw [← hM, ← hn2, ← hn1]; rfl
  rw [hM] at hm ⊢
  have hsz := h.below.size
  have hs0 := h.sums
  have hs2 := h.small
  have hs1 : nk 2 s.s + s.q.length ≤ 10000 := by omega
  have HC := Lib.hid (And.intro hf (And.intro ho (And.intro hc hm)))
  have HL2 : Hid (∀ W, Below w.heap.size w W → Calls Try.prog 36 #[.pointer o2, .int .i64 2] W fun e w' => e = .returned (.int .i64 (n2 : Nat)) ∧ Below w.heap.size w w') := Lib.hid (cs_len h (t := 2) (by decide) (by rw [← hn2]; exact kk_len))
  have HL1 : Hid (∀ W, Below w.heap.size w W → Calls Try.prog 36 #[.pointer o2, .int .i64 1] W fun e w' => e = .returned (.int .i64 (n1 : Nat)) ∧ Below w.heap.size w w') := Lib.hid (cs_len h (t := 1) (by decide) (by rw [← hn1]; exact List.length_reverse))
  have HKC : Hid (∀ W, Below w.heap.size w W → C3 xp o1 o2 s.c W) := Lib.hid (fun W hb => (h.still hb).cells)
  have HI0 : Hid (∀ W, Below w.heap.size w W → EvL w0 w W xp o1 o2 s tp 0 (.slice none 0 0)) := Lib.hid (fun W hb => ⟨⟨h.still hb, Kn.below hb⟩, KF.nil (Kn.below hb) (Nat.le_trans hsz hb.size)⟩)
  obtain ⟨x0, x1, x2⟩ := HKC.out w (Below.refl _ _)
  have hn2I : (n2 : Int) + (n1 : Int) ≤ 10000 := by omega
  have hn20 : (0 : Int) ≤ (n2 : Int) := by omega
  have hn10 : (0 : Int) ≤ (n1 : Int) := by omega
  have hnI : (n : Int) ≤ 1048576 := by omega
  have hnn : (0 : Int) ≤ (n : Int) := by omega
  have hw1 : IntKind.i64.wrap ((n2 : Int) + (n1 : Int)) = (n2 : Int) + (n1 : Int) := IntWalk.i64_in _ (by omega)
  have hw2 : IntKind.i64.wrap ((n2 : Int) + (n1 : Int) - (n : Int)) = (n2 : Int) + (n1 : Int) - (n : Int) := IntWalk.i64_in _ (by omega)
  clear h hf ho hc hn2 hn1 hM hm hs0 hs1 hs2 hsz
  go_enter Try.func35, Try.ntmps35
  go_upto_region 2 with fail
  go_region_held3 (fun w' => w'.cell? ⟨xp, 0, none⟩ = some (.pointer o1) ∧ w'.cell? ⟨xp, 1, none⟩ = some (.pointer o2) ∧ w'.cell? ⟨xp, 2, none⟩ = some (.int .i64 (s.c : Nat))) (first | with_reducible exact kk5 | with_reducible exact kk6 | go_keep)
    (first
      | (go_at_call 36; refine (HL1.out _ hb5).mono ?_; rintro e w6 ⟨rfl, hb6⟩; have kk6 := HKC.out w6 hb6)
      | (go_at_call 36; refine (HL2.out _ (below_drewn (Below.refl _ _) _)).mono ?_; rintro e w5 ⟨rfl, hb5⟩; have kk5 := HKC.out w5 hb5))
  have HI := Lib.hid (HI0.out w6 hb6)
  clear hb5 hb6 kk5 kk6 HI0 HL1 HL2 HKC x0 x1 x2
  go_wp2_with fail
  go_loopg [5, 23] M (fun gg s5 s23 wr => ∃ (j : Nat) (v5 : Value), j + gg = M ∧ v5 = s5 ∧ s23 = .int .i64 (j : Nat) ∧ Hid (EvL w0 w wr xp o1 o2 s tp j v5))
  case atStart => exact ⟨0, _, by omega, rfl, rfl, HI⟩
  case round =>
    obtain ⟨j, v5, hj, rfl, rfl, HI⟩ := hrel
    by_cases hlt : j < M
    · have hltI : (j : Int) < (n2 : Int) + (n1 : Int) - (n : Int) := by omega
      obtain ⟨f, rfl⟩ : ∃ f, gk = f + 1 := ⟨gk - 1, by omega⟩
      have hjq : j < s.q.length := by have := HC.out.2.2.2; omega
      obtain ⟨p1, p2, p3, p4, p5, p6⟩ := L12.pevN_is j s HC.out.1 HC.out.2.1 (by omega)
      obtain ⟨k, hk⟩ : ∃ k, s.q[j] = k := ⟨_, rfl⟩
      have hqk : (L12.pevN j s).q = k :: s.q.drop (j + 1) := by rw [p5, List.drop_eq_getElem_cons hjq, hk]
      obtain ⟨e1, e2, e3, e4⟩ := ev_step HI.out.st.1 p1 p2 (by rw [p4]; exact HC.out.2.2.1) hqk
      have HS := Lib.hid (L12.pevN_snoc j s)
      have HQ : Hid (∃ h : j < s.q.length, s.q[j] = k) := Lib.hid ⟨hjq, hk⟩
      have HKN := Lib.hid HI.out.st.2
      have HOW := Lib.hid HI.out.own
      have HX := Lib.hid HI.out.st.1
      have hkn0 : ∀ W, CSP w0 wr xp o1 o2 (L12.pevN j s).pev1 tp W → CSP w0 w xp o1 o2 (L12.pevN (j + 1) s) tp W ∧ Kn wr W := fun W hp => ⟨by rw [HS.out]; exact ⟨hp.1, HKN.out.trans hp.2⟩, hp.2⟩
      have HN := Lib.hid hkn0
      have HE1 := Lib.hid e1
      have HE2 := Lib.hid e2
      have HE3 := Lib.hid e3
      have HE4 := Lib.hid e4
      have HOL : Hid ((s.q.take j).length ≤ 10000) := Lib.hid (by rw [List.length_take]; have := HC.out.2.2.2; omega)
      have hc0 := p4
      obtain ⟨x0, x1, x2⟩ := HX.out.cells
      have HKC : Hid (∀ W, Below wr.heap.size wr W → C3 xp o1 o2 (L12.pevN j s).c W) := Lib.hid (fun W hb => (HX.out.still hb).cells)
      obtain ⟨st, hst⟩ : ∃ st, L12.pevN j s = st := ⟨_, rfl⟩
      rw [hst] at HKC HE2 HE3 HE4 HN x2 HX
      clear p1 p2 p3 p4 p5 p6 hqk e1 e2 e3 e4 hkn0 hk hjq hst HI HS hc0
      by_cases ht : 0 < tot k st.s
      · have HF : Hid (∀ W, Below wr.heap.size wr W → Calls Try.prog 31 #[.pointer o1, .int .u64 (k : Nat)] W fun e w' => e = .returned (.tuple #[.int .i64 0, .bool true]) ∧ Below wr.heap.size wr w') := Lib.hid (fun W hb => by have := HE2.out W hb; rw [decide_eq_true ht] at this; exact this)
        have HM := Lib.hid (HE3.out ht)
        clear HE2 HE3 HE4 ht
        go_wp2_with fail
        refine (HE1.out wr (Below.refl _ _)).mono ?_
        rintro e w7 ⟨b7, rfl, hb7⟩
        obtain ⟨y0, y1, y2⟩ := HKC.out w7 hb7
        have H7 := Lib.hid (HF.out w7 hb7)
        clear hb7 HE1 HF x0 x1 x2
        go_wp2_with fail
        refine H7.out.mono ?_
        rintro e w8 ⟨rfl, hb8⟩
        obtain ⟨x0, x1, x2⟩ := HKC.out w8 hb8
        have H8 := Lib.hid (HM.out.1 w8 hb8)
        clear hb8 H7 HKC y0 y1 y2
        go_wp2_with fail
        refine H8.out.mono ?_
        rintro e w9 ⟨b9, rfl, h9⟩
        have H9 := Lib.hid (HM.out.2 w9 h9)
        clear h9 H8 HM x0 x1 x2
        go_wp2_with fail
        refine H9.out.mono ?_
        rintro e w10 ⟨rfl, h10⟩
        obtain ⟨h11, k11⟩ := HN.out w10 h10
        have hlow := low_one w10 (.cells #[.int .u64 (k : Nat)] 28)
        have HTA : Hid (CSP w0 w xp o1 o2 (L12.pevN (j + 1) s) tp (w10.alloc (.cells #[.int .u64 (k : Nat)] 28))) := Lib.hid (CP.still h11 hlow)
        have HKF : Hid (KF w0.heap.size w (w10.alloc (.cells #[.int .u64 (k : Nat)] 28)) v5 (s.q.take j)) := Lib.hid (HOW.out.kn HKN.out (k11.trans (Kn.below hlow)) HTA.out.1.below.size)
        have HKV := Lib.hid (KV.one w10 k)
        obtain ⟨B, hB1, hB2, hB3, hB4⟩ := HKF.out
        have HO9 := Lib.hid hB1
        have HB4 := Lib.hid hB4
        clear hlow hB1 hB4 HKF HOW HN HKN h10 h11 k11 HX
        go_wp2_with (at_builtin; refine wpList_append_kv rfl (.tmp 57) (.tmp 59) rfl B (by kernel_rfl) (by kernel_rfl) _ _ rfl HO9.out _ [k] rfl HKV.out (by have := HOL.out; simp only [List.length_cons, List.length_nil]; omega) hB3 ?_)
        intro v6 wa hown6 hkp6 hkt6
        have HNX : Hid (EvL w0 w wa xp o1 o2 s tp (j + 1) v6) := Lib.hid (EvL.next HQ.out HTA.out hB2 HB4.out hB3 hkt6 hown6)
        clear hown6 hkp6 hkt6 HTA HO9 HKV HB4 HQ HOL
        go_wp2
        go_roundg f
        case measure => omega
        case rel => exact ⟨j + 1, _, by omega, rfl, by go_num, HNX⟩
      · have HF : Hid (∀ W, Below wr.heap.size wr W → Calls Try.prog 31 #[.pointer o1, .int .u64 (k : Nat)] W fun e w' => e = .returned (.tuple #[.int .i64 0, .bool false]) ∧ Below wr.heap.size wr w') := Lib.hid (fun W hb => by have := HE2.out W hb; rw [decide_eq_false ht] at this; exact this)
        have HM := Lib.hid (HE4.out (by omega))
        clear HE2 HE3 HE4 ht
        go_wp2_with fail
        refine (HE1.out wr (Below.refl _ _)).mono ?_
        rintro e w7 ⟨b7, rfl, hb7⟩
        obtain ⟨y0, y1, y2⟩ := HKC.out w7 hb7
        have H7 := Lib.hid (HF.out w7 hb7)
        clear hb7 HE1 HF x0 x1 x2
        go_wp2_with fail
        refine H7.out.mono ?_
        rintro e w8 ⟨rfl, hb8⟩
        obtain ⟨x0, x1, x2⟩ := HKC.out w8 hb8
        have H8 := Lib.hid (HM.out w8 hb8)
        clear hb8 H7 HKC y0 y1 y2
        go_wp2_with fail
        refine H8.out.mono ?_
        rintro e w10 ⟨b9, rfl, h10⟩
        clear H8 HM x0 x1 x2
        obtain ⟨h11, k11⟩ := HN.out w10 h10
        have hlow := low_one w10 (.cells #[.int .u64 (k : Nat)] 28)
        have HTA : Hid (CSP w0 w xp o1 o2 (L12.pevN (j + 1) s) tp (w10.alloc (.cells #[.int .u64 (k : Nat)] 28))) := Lib.hid (CP.still h11 hlow)
        have HKF : Hid (KF w0.heap.size w (w10.alloc (.cells #[.int .u64 (k : Nat)] 28)) v5 (s.q.take j)) := Lib.hid (HOW.out.kn HKN.out (k11.trans (Kn.below hlow)) HTA.out.1.below.size)
        have HKV := Lib.hid (KV.one w10 k)
        obtain ⟨B, hB1, hB2, hB3, hB4⟩ := HKF.out
        have HO9 := Lib.hid hB1
        have HB4 := Lib.hid hB4
        clear hlow hB1 hB4 HKF HOW HN HKN h10 h11 k11 HX
        go_wp2_with (at_builtin; refine wpList_append_kv rfl (.tmp 57) (.tmp 59) rfl B (by kernel_rfl) (by kernel_rfl) _ _ rfl HO9.out _ [k] rfl HKV.out (by have := HOL.out; simp only [List.length_cons, List.length_nil]; omega) hB3 ?_)
        intro v6 wa hown6 hkp6 hkt6
        have HNX : Hid (EvL w0 w wa xp o1 o2 s tp (j + 1) v6) := Lib.hid (EvL.next HQ.out HTA.out hB2 HB4.out hB3 hkt6 hown6)
        clear hown6 hkp6 hkt6 HTA HO9 HKV HB4 HQ HOL
        go_wp2
        go_roundg f
        case measure => omega
        case rel => exact ⟨j + 1, _, by omega, rfl, by go_num, HNX⟩
    · have hltI : ¬ ((j : Int) < (n2 : Int) + (n1 : Int) - (n : Int)) := by omega
      have hjM : j = M := by omega
      have HE : Hid (EvL w0 w wr xp o1 o2 s tp M v5) := Lib.hid (hjM ▸ HI.out)
      clear HI hMe hjM hlt hj
      go_wp2
      go_ret
      exact ⟨_, rfl, HE.out.st, HE.out.own⟩
end
end Go.Proofs.Ytkhikpnlpcankaa
