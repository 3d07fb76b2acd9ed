/- Words and walks: ElY. -/
import Derived.Test.YtkhikpnlpcankaaGreatG21
import Derived.Test.YtkhikpnlpcankaaGreatG38
namespace Go.Proofs.YtkhikpnlpcankaaGreat
open Go Go.RowKit Go.Deep Go.Shelf
attribute [local go_sem] Oper.semAt_some
theorem IV.kn {w w' : World} {v : Value} {xs : List It} (h : IV w v xs) (hk : Kn w w') : IV w' v xs := RV.kn h hk
def endsN (K : Act → World → Prop) : Exit → Act → World → Prop
  | .normal, a, W => K a W
  | _, _, _ => False
theorem endsN.imp {K : Act → World → Prop} {Q : Exit → Act → World → Prop} (h : ∀ a W, K a W → Q .normal a W) : ∀ e a W, endsN K e a W → Q e a W := fun e a W hp => by
  cases e with
  | normal => exact h a W hp
  | ret => exact hp.elim
  | exit id => exact hp.elim
  | goto t => exact hp.elim
  | panic ch => exact hp.elim
  | outgrown => exact hp.elim
theorem keysI_len {l : List It} : (keysI l).length = l.length := List.length_map _
def Kq (W W' : World) : Prop := ∀ (g : Nat) (cs : Array Value) (f : Nat × Nat), W.heap[g]? = some (Obj.cells cs 32 f) → W'.heap[g]? = W.heap[g]?
theorem Kq.trans {A B C : World} (h : Kq A B) (h2 : Kq B C) : Kq A C := fun g cs f hg => (h2 g cs f ((h g cs f hg).trans hg)).trans (h g cs f hg)
theorem KO.kq {B : Nat} {w0 w w' : World} {u : Value} {ks : List Nat} (h : KO B w0 w u ks) (hk : Kq w w') : KO B w' w' u ks := by
  refine ⟨Below.refl _ _, h.own.1, ?_⟩
  rcases h.own.2 with q | ⟨g, cap, cur, e1, e2, e3, e4⟩
  · exact .inl q
  · exact .inr ⟨g, cap, cur, e1, e2, (hk g _ _ e3).trans e3, e4⟩
section
variable {w0 w w1 w' W wB : World} {xp : Nat} {o1 o2 v : Option Addr} {tp top : Nat} {s : L12} {b2 sb rb : Nat} {q : Value}
structure StI (wB W : World) (xp : Nat) (c : Nat) (ks : List Nat) (b2 sb rb : Nat) (q : Value) (pre : List It) : Prop where
  low : Below wB.heap.size wB W
  bx2 : W.heap[b2]? = some (.cells #[ptr xp] PxT (0, 0))
  st : ∃ u, W.heap[sb]? = some (.cells (l12C c u q) PT12 (0, 0)) ∧ W.ownsRow wB.heap.size ItT 2 u pre.length (itL pre)
  res : W.heap[rb]? = some (.cells z12 PT12 (0, 0))
  kq : KO wB.heap.size W W q ks
  ne : sb ≠ rb ∧ wB.heap.size ≤ sb
theorem StI.still {c : Nat} {ks : List Nat} {pre : List It} (h : StI wB W xp c ks b2 sb rb q pre) (hb : Below W.heap.size W w') : StI wB w' xp c ks b2 sb rb q pre := by
  obtain ⟨u, h1, h2⟩ := h.st
  exact ⟨h.low.trans (hb.mono h.low.size), (hb.block _ (head_row h.bx2).lt).trans h.bx2, ⟨u, (hb.block _ (head_row h1).lt).trans h1, own_below h2 hb⟩, (hb.block _ (head_row h.res).lt).trans h.res, h.kq.kq (fun g cs f hg => hb.block g (Array.getElem?_eq_some_iff.1 hg).1), h.ne⟩
theorem items_in (m : Nat) (W : World) (xp : Nat) :
    CallsIn Fence.wide m Tryz.prog 43 #[ptr xp] W fun e w' => e = .returned (.func (.func 84) #[] #[.pointer (some ⟨W.heap.size, 0, none⟩)]) ∧ w' = W.alloc (.cells #[ptr xp] PxT) := by
  refine callsIn_of_wp Tryz.func43 rfl trivial ?_ rfl
  simp only [Tryz.ntmps43, List.size_toArray, List.length_cons, List.length_nil, Nat.reduceAdd, Nat.reduceSub, Array.replicate_succ, Array.replicate_zero, List.push_toArray, List.append_toArray, List.nil_append, List.cons_append]
  gi_wp2
  go_ret
  exact ⟨rfl, rfl⟩
set_option maxHeartbeats 4000000 in
set_option maxRecDepth 100000 in
theorem items_visits (h : CS w0 wB xp o1 o2 s tp) (hf : s.Fine) (m : Nat) (hm : 1 ≤ m) :
    Visits Fence.wide m Tryz.prog 84 #[.pointer (some ⟨b2, 0, none⟩)] (fun x : It => #[Value.agg (itC x)]) Kq (fun pre W => StI wB W xp s.c s.q b2 sb rb q pre) (fun pre _ => pre.length < s.s.length) (fun pre => pre = s.s) := by
  intro r J W hJI hJB hY h0
  have HJI := Lib.hid hJI
  have HJB := Lib.hid hJB
  have HY := Lib.hid hY
  have H := Lib.hid (And.intro h hf)
  have h00 := hJI _ _ h0
  have H0 := Lib.hid h0
  obtain ⟨N, hN⟩ : ∃ N, s.s.length = N := ⟨_, rfl⟩
  have HN := Lib.hid hN
  have hcs := h.still h00.low
  have HKY : Hid (Calls Tryz.prog 45 #[.pointer o1, .int .i64 0] W fun e w' => ∃ F d, e = .returned (.slice F N d) ∧ Below W.heap.size W w' ∧ KO W.heap.size W w' (.slice F N d) (keysI s.s)) := Lib.hid (by
    refine (t_keys1 hcs.t2 hcs.small).mono ?_
    rintro e w' ⟨u, rfl, g1, g2⟩
    obtain ⟨F, d, rfl⟩ := g2.slice
    have e1 : (keysI s.s).length = N := by rw [← hN]; exact List.length_map _
    rw [e1] at g2 ⊢
    exact ⟨F, d, rfl, g1, g2⟩)
  have hsm := hcs.sums.1
  have hsm2 := hcs.small
  have hNs : N ≤ 10000 := by rw [← hN]; exact Nat.le_trans hsm hsm2
  have hNI : (N : Int) ≤ 10000 := by omega
  obtain ⟨x0, x1, x2⟩ := hcs.cells
  have y0 := Boxed.cell h00.bx2
  clear hJI hJB hY h00 h0 hN hsm hsm2 h hf hcs
  refine callsIn_of_wp Tryz.func84 rfl trivial ?_ rfl
  simp only [Tryz.ntmps84, List.size_toArray, List.length_cons, List.length_nil, Nat.reduceAdd, Nat.reduceSub, Array.replicate_succ, Array.replicate_zero, List.push_toArray, List.append_toArray, List.nil_append, List.cons_append]
  gi_wp2_with (refine ⟨trivial, ?_⟩; gi_at_call 45; refine (callsIn_wide.2 HKY.out).mono ?_; rintro e w1 ⟨F, d, rfl, hb1, ho1⟩)
  have H1 : Hid (J (s.s.take 0) w1 ∧ KO W.heap.size w1 w1 (.slice F N d) (keysI s.s)) := Lib.hid ⟨HJB.out _ _ _ H0.out hb1, ho1.kq (fun _ _ _ _ => rfl)⟩
  clear hb1 ho1 x0 x1 x2 y0 HKY H0
  gi_loopw [11] (fun s11 wr => ∃ i : Nat, s11 = .int .i64 (i : Nat) ∧ i ≤ N ∧ Hid (J (s.s.take i) wr ∧ KO W.heap.size wr wr (.slice F N d) (keysI s.s)))
    (fun s11 wr => N - (intOf s11).toNat)
  case atStart => exact ⟨0, rfl, Nat.zero_le _, H1⟩
  case round =>
    obtain ⟨i, rfl, hle, HI⟩ := hrel
    by_cases hlt : i < N
    · have hltI : (i : Int) < (N : Int) := by omega
      have hil : i < s.s.length := by have := HN.out; omega
      have hcs := H.out.1.still (HJI.out _ _ HI.out.1).low
      obtain ⟨hx3, hxq⟩ := L12.in_qK H.out.2 (List.getElem_mem hil)
      have HIT : Hid (∀ W, Below wr.heap.size wr W → Calls Tryz.prog 85 #[ptr xp, .int .u64 (s.s[i].key : Nat)] W fun e w' => e = .returned (.agg #[.int .u64 (s.s[i].key : Nat), .int .i64 (s.s[i].f : Nat)]) ∧ Below W.heap.size W w') := Lib.hid (fun W hb => item_walk hcs hb hx3 hxq)
      obtain ⟨F', d', e1, _, _, h3⟩ := HI.out.2.kv.mem
      obtain ⟨ad, hF, hadl, q0⟩ := h3 i (by rw [keysI_len]; exact hil)
      have e4 : F = F' := by injection e1
      have hF2 : F = some ad := e4.trans hF
      clear e1 e4 hF h3
      subst hF2
      have hkey : (keysI s.s)[i]'(by rw [keysI_len]; exact hil) = s.s[i].key := by simp [keysI]
      rw [hkey] at q0
      have HTK : Hid (s.s.take (i + 1) = s.s.take i ++ [s.s[i]]) := Lib.hid (List.take_succ_eq_append_getElem hil)
      have HV : Hid ((s.s.take i).length < s.s.length) := Lib.hid (by rw [List.length_take]; omega)
      obtain ⟨x0, x1, x2⟩ := hcs.cells
      have y0 := Boxed.cell (HJI.out _ _ HI.out.1).bx2
      generalize s.s[i] = x at q0 HIT HTK
      clear hcs hx3 hxq hkey
      gi_wp2_with (refine ⟨trivial, ?_⟩; gi_at_call 85; refine (callsIn_wide.2 (HIT.out _ (Below.refl _ _))).mono ?_; rintro e w3 ⟨rfl, hb3⟩)
      have hJ4 := HJB.out _ _ _ HI.out.1 hb3
      have HK4 := Lib.hid (HI.out.2.kq (fun g _ _ hg => hb3.block g (Array.getElem?_eq_some_iff.1 hg).1))
      obtain ⟨fn, tmps, assign, body, hy, hR⟩ := HY.out _ x _ hJ4 HV.out
      dsimp only [itC] at hy hR
      clear HIT hb3 x0 x1 x2 y0 hJ4 q0
      rw [hy]
      gi_wp2
      refine hR.mono ?_
      rintro e W5 ⟨rfl, hJ5, hk5⟩
      have H5 : Hid (J (s.s.take (i + 1)) W5 ∧ KO W.heap.size W5 W5 (.slice (some ad) N d) (keysI s.s)) := Lib.hid ⟨by rw [HTK.out]; exact hJ5, HK4.out.kq hk5⟩
      clear hJ5 hk5 hR hy HK4
      gi_wp2
      go_roundw
      case rel => exact ⟨i + 1, by go_num, by omega, H5⟩
      case measure => simp only [intOf]; omega
    · have hltI : ¬ (i : Int) < (N : Int) := by omega
      gi_wp2
      go_end0
      refine ⟨⟨_, rfl⟩, ?_⟩
      have h1 := HI.out.1
      rw [List.take_of_length_le (by have := HN.out; omega)] at h1
      exact h1
theorem wpListIn_append_it {F : Fence} {n : Nat} {P : Program} {w : World} {ops : Array Oper} {rest : List Oper} {o : Oper} {a : Act} {Q : Exit → Act → World → Prop} {e t : TypeId} (hg : o.guard = none) (s x : Operand)
    (ho : o.op = .call { callee := .builtin .append, args := #[s, x], argTypes := #[t, t] }) (base : Nat) (ht : P.underlying t = some (.slice e))
    (hinfo : (P.info? e).map (fun i => (i.zero, i.size, i.bytes)) = some (some (.agg #[.int .u64 0, .int .i64 0]), 2, 16))
    (u : Value) (xs : List It) (hs : a.eval s = u) (hown : w.ownsRow base e 2 u xs.length (itL xs)) (g : Nat) (y : It) (hx : a.eval x = .slice (some ⟨g, 0, none⟩) 1 1) (hsrc : w.heap[g]? = some (.cells (itC y) e (0, 0)))
    (h63 : xs.length ≤ 100000) (hbase : base ≤ w.heap.size)
    (hK : ∀ g' c' w', w'.ownsRow base e 2 (.slice (some ⟨g', 0, none⟩) (xs.length + 1) c') (xs ++ [y]).length (itL (xs ++ [y])) → w.grownBy w' u.ownBlock → Kt e w w' → wpListIn F n P ops Q rest (a.put o.dst (.slice (some ⟨g', 0, none⟩) (xs.length + 1) c')) w') : wpListIn F n P ops Q (o :: rest) a w := by
  obtain ⟨i, hi, hz, hsize, hby⟩ := info_parts hinfo
  obtain ⟨⟨c0, c1⟩, _⟩ := c2_at hsrc
  refine wpListIn_append_own w hg s x t ho base e i (.agg #[.int .u64 0, .int .i64 0]) 2 16 ht hi hz hsize hby rfl (by decide) u xs.length (itL xs) hs hown ⟨g, 0, none⟩ 1 1 (itV y) hx rfl (fun j z hj => ?_) (by simp [itV, Value.oneCell']) (by unfold maxLen; omega) (by omega) hbase (fun v' w' h1 h2 _ => ?_)
  · match j, hj with
    | 0, hj => simp [itV] at hj; subst hj; exact c0
    | 1, hj => simp [itV] at hj; subst hj; exact c1
    | j + 2, hj => simp [itV] at hj
  · obtain ⟨g', c', rfl⟩ := ownsRow_succ h1
    refine hK g' c' w' ?_ h2 (Kt.grown hown h2)
    rw [← itL_append, List.length_append]
    simpa [itL] using h1
theorem StI.put {c : Nat} {ks : List Nat} {pre : List It} (h : StI wB W xp c ks b2 sb rb q pre) {j : Nat} {o : Obj} (o' : Obj) (hj : wB.heap.size ≤ j) (ho : W.heap[j]? = some o) (hc : o.isCells = false) : StI wB (W.putObj j o') xp c ks b2 sb rb q pre := by
  obtain ⟨u, h1, h2⟩ := h.st
  exact ⟨h.low.grown (grownBy_putObj' W j o') h.low.size (fun k e => by cases e; exact hj), (putObj_other ho hc h.bx2).trans h.bx2, ⟨u, (putObj_other ho hc h1).trans h1, ownsRow_putObj h2 o' ho hc⟩, (putObj_other ho hc h.res).trans h.res, h.kq.kq (fun g cs f hg => putObj_other ho hc hg), h.ne⟩
set_option maxHeartbeats 8000000 in
set_option maxRecDepth 100000 in
theorem state_in (HO : CallsIn Fence.wide 4 Tryz.prog 41 #[.pointer v] (w.alloc (.cells z12 PT12)) fun e w' => e = .returned (ptr xp) ∧ w' = wB) (hrb : w.heap.size < wB.heap.size) (hres : wB.heap[w.heap.size]? = some (.cells z12 PT12 (0, 0))) (hlow : Below w.heap.size w wB) (h : CS w0 wB xp o1 o2 s tp) (hf : s.Fine) :
    CallsIn Fence.wide 5 Tryz.prog 13 #[.pointer v] w (P12 w s) := by
  have HE := Lib.hid HO
  have H := Lib.hid (And.intro h hf)
  have HQ : Hid (∀ W, Below wB.heap.size wB W → Calls Tryz.prog 42 #[ptr xp] W fun e w' => ∃ F d, e = .returned (.slice F s.q.length d) ∧ Below wB.heap.size wB w' ∧ Below W.heap.size W w' ∧ KO wB.heap.size w' w' (.slice F s.q.length d) s.q) := Lib.hid (fun W hb => by
    refine (queue_walk h hb (ks := s.q) (List.reverse_reverse _)).mono ?_
    rintro e w' ⟨F, d, rfl, g1, g2⟩
    refine ⟨F, d, rfl, hb.trans (g1.mono hb.size), g1, Below.refl _ _, g2.own.1, ?_⟩
    rcases g2.own.2 with z | ⟨g, cap, cur, e1, e2, e3, e4⟩
    · exact .inl z
    · exact .inr ⟨g, cap, cur, e1, Nat.le_trans hb.size e2, e3, e4⟩)
  obtain ⟨x0, x1, x2⟩ := h.cells
  obtain ⟨⟨r0, r1, r2⟩, rf0, rf1, rf2⟩ := c3_at hres
  have hmo : Tryz.prog.follows .mixedOrders = true := by kernel_rfl
  have HRS := Lib.hid (And.intro hrb (And.intro hres hlow))
  clear h hf HO hrb hres hlow
  refine callsIn_of_wp_marks Tryz.func13 rfl trivial ?_ rfl
  simp only [Tryz.ntmps13, List.size_toArray, List.length_cons, List.length_nil, Nat.reduceAdd, Nat.reduceSub, Array.replicate_succ, Array.replicate_zero, List.push_toArray, List.append_toArray, List.nil_append, List.cons_append]
  gi_wp2_with (refine ⟨trivial, ?_⟩; gi_at_call 41; refine HE.out.mono ?_; rintro e wC ⟨rfl, rfl⟩)
  refine wpIn_mono (Q := endsN (fun a W => ∃ sb F d, a = { tmps := #[ptr xp, undef, .pointer (some ⟨w.heap.size, 0, none⟩), .pointer (some ⟨sb, 0, none⟩), undef, .pointer v, ptr xp, ptr xp, ptr xp, .pointer (some ⟨xp, 2, none⟩), .int .i64 (s.c : Nat), ptr xp, .slice F s.q.length d, .agg (l12C s.c (.slice none 0 0) (.slice F s.q.length d)), undef, undef, undef, undef, undef, undef, undef, undef, undef, undef], defers := [] } ∧ W.heap[sb]? = some (.cells (l12C s.c (.slice none 0 0) (.slice F s.q.length d)) PT12 (0, 0)) ∧ Below wC.heap.size wC W ∧ wC.heap.size ≤ sb ∧ KO wC.heap.size W W (.slice F s.q.length d) s.q)) ?first (endsN.imp ?rest)
  case first =>
    have HAD : Hid (Below wC.heap.size wC (wC.alloc (.cells z12 PT12)).drew ∧ (wC.alloc (.cells z12 PT12)).drew.heap[wC.heap.size]? = some (.cells z12 PT12 (0, 0))) := Lib.hid ⟨(low_one wC _).trans ((Below.refl _ _).drew), heap_alloc_new wC _⟩
    have HKC : Hid (∀ W, Below wC.heap.size wC W → C3 xp o1 o2 s.c W) := Lib.hid (fun W hb => (H.out.1.still hb).cells)
    have HQ1 : Hid (Calls Tryz.prog 42 #[ptr xp] wC.drew fun e w' => ∃ F d, e = .returned (.slice F s.q.length d) ∧ C3 xp o1 o2 s.c w' ∧ C3 xp o1 o2 s.c (w'.alloc (.cells #[.int .i64 0, .slice none 0 0, .slice none 0 0] 42)) ∧ Below wC.heap.size wC w' ∧ KO wC.heap.size w' w' (.slice F s.q.length d) s.q) := Lib.hid (by
      refine (HQ.out _ ((Below.refl _ _).drew)).mono ?_
      rintro e w5 ⟨F, d, rfl, hb5, hc5, ho5⟩
      exact ⟨F, d, rfl, HKC.out _ hb5, HKC.out _ (hb5.trans ((low_one w5 _).mono hb5.size)), hb5, ho5⟩)
    have HQ2 : Hid (Calls Tryz.prog 42 #[ptr xp] (wC.alloc (.cells #[.int .i64 0, .slice none 0 0, .slice none 0 0] PT12)).drew fun e w' => ∃ F d, e = .returned (.slice F s.q.length d) ∧ C3 xp o1 o2 s.c w' ∧ Below wC.heap.size wC w' ∧ KO wC.heap.size w' w' (.slice F s.q.length d) s.q ∧ w'.heap[wC.heap.size]? = some (.cells z12 PT12 (0, 0)) ∧
        (w'.cell? ⟨wC.heap.size, 0, none⟩ = some (.int .i64 0) ∧ w'.cell? ⟨wC.heap.size, 1, none⟩ = some (.slice none 0 0) ∧ w'.cell? ⟨wC.heap.size, 2, none⟩ = some (.slice none 0 0)) ∧ w'.frozen? ⟨wC.heap.size, 0, none⟩ = false ∧ w'.frozen? ⟨wC.heap.size, 1, none⟩ = false ∧ w'.frozen? ⟨wC.heap.size, 2, none⟩ = false) := Lib.hid (by
      refine (HQ.out _ HAD.out.1).mono ?_
      rintro e w5 ⟨F, d, rfl, hb5, hc5, ho5⟩
      have hsb5 := (hc5.block _ (head_row HAD.out.2).lt).trans HAD.out.2
      obtain ⟨hy, hyf⟩ := c3_at hsb5
      exact ⟨F, d, rfl, HKC.out _ hb5, hb5, ho5, hsb5, hy, hyf⟩)
    obtain ⟨a0, a1, a2⟩ : C3 xp o1 o2 s.c (wC.alloc (.cells #[.int .i64 0, .slice none 0 0, .slice none 0 0] 42)) := HKC.out _ (low_one wC _)
    clear HQ HAD HKC H HE HRS
    gi_region_with_o (first
      | (refine ⟨trivial, ?_⟩; gi_at_call 42; refine (callsIn_wide.2 HQ1.out).mono ?_; rintro e w5 ⟨F, d, rfl, ⟨z0, z1, z2⟩, ⟨b0, b1, b2⟩, hb5, ho5⟩)
      | (refine ⟨trivial, ?_⟩; gi_at_call 42; refine (callsIn_wide.2 HQ2.out).mono ?_; rintro e w5 ⟨F, d, rfl, ⟨z0, z1, z2⟩, hb5, ho5, hsb5, ⟨y0, y1, y2⟩, yf0, yf1, yf2⟩))
    all_goals first
      | exact ⟨_, F, d, rfl, heap_alloc_new w5 _, hb5.trans ((low_one w5 _).mono hb5.size), hb5.size, ho5.kq (fun g _ _ hg => (low_one w5 _).block g (Array.getElem?_eq_some_iff.1 hg).1)⟩
      | exact ⟨_, F, d, rfl, (c3_set hsb5 _ _ _).1, hb5.trans ((c3_set hsb5 _ _ _).2.below (by simp) hb5.size), Nat.le_refl _, ho5.kq (fun g cs f hg => (c3_set hsb5 _ _ _).2.block g (Array.getElem?_eq_some_iff.1 hg).1 (fun q => by
          simp only [List.mem_singleton] at q
          subst q
          rw [hsb5] at hg
          injection hg with hg
          injection hg with _ hg
          exact absurd hg (by decide)))⟩
  case rest =>
    rintro a W ⟨sb, F, d, rfl, hsb, hbW, hsz, hko⟩
    gi_wp2_with (refine ⟨trivial, ?_⟩; gi_at_call 43; refine (items_in _ _ _).mono ?_; rintro e w' ⟨rfl, rfl⟩)
    have hl2 := low_one W (.cells #[ptr xp] PxT)
    have hx2 := heap_alloc_new W (.cells #[ptr xp] PxT)
    have hI0 : StI wC (W.alloc (.cells #[ptr xp] PxT)) xp s.c s.q W.heap.size sb w.heap.size (.slice F s.q.length d) [] :=
      ⟨hbW.trans (hl2.mono hbW.size), hx2, ⟨_, (hl2.block _ (head_row hsb).lt).trans hsb, World.ownsRow_nil _ _ _ _⟩, (hl2.block _ (Nat.lt_of_lt_of_le HRS.out.1 hbW.size)).trans ((hbW.block _ HRS.out.1).trans HRS.out.2.1), hko.kq (fun g _ _ hg => hl2.block g (Array.getElem?_eq_some_iff.1 hg).1), by have := HRS.out.1; omega, hsz⟩
    have hsm := H.out.1.sums.1
    have hsm2 := H.out.1.small
    obtain ⟨W2, hW2⟩ : ∃ W2, W.alloc (.cells #[ptr xp] PxT) = W2 := ⟨_, rfl⟩
    rw [hW2] at hI0 hl2 ⊢
    have hz2 : wC.heap.size ≤ W2.heap.size := hI0.low.size
    clear hsb hbW hx2 hko hW2 x0 x1 x2 r0 r1 r2 rf0 rf1 rf2
    refine range_walk rfl (by decide) (gf := 84) (lb := #[.pointer (some ⟨W.heap.size, 0, none⟩)]) rfl trivial (enters_of Tryz.func84 (by kernel_rfl) rfl)
      (encs := fun x : It => #[Value.agg (itC x)]) (fun _ => rfl) (Kp := Kq) (fun _ _ _ p q => p.trans q) (fun W j o o' ho hc g cs f hg => putObj_other ho hc hg) ⟨fun pre W' j o o' hi hj ho hc => hi.put o' (by omega) ho hc, fun pre W' W'' hi hb => hi.still hb⟩ hI0 (items_visits H.out.1 H.out.2 4 (by decide))
      (fun pre x a W' => StI wC W' xp s.c s.q W.heap.size sb w.heap.size (.slice F s.q.length d) pre ∧ ∃ B, W'.heap[B]? = some (.cells (itC x) ItT (0, 0)) ∧ a = { tmps := #[ptr xp, undef, .pointer (some ⟨w.heap.size, 0, none⟩), .pointer (some ⟨sb, 0, none⟩), .pointer (some ⟨B, 0, none⟩), .pointer v, ptr xp, ptr xp, ptr xp, .pointer (some ⟨xp, 2, none⟩), .int .i64 (s.c : Nat), ptr xp, .slice F s.q.length d, .agg (l12C s.c (.slice none 0 0) (.slice F s.q.length d)), ptr xp, .func (.func 84) #[] #[.pointer (some ⟨W.heap.size, 0, none⟩)], .agg (itC x), undef, undef, undef, undef, undef, undef, undef], defers := [] }) ?keep ?assign ?body ?done
    case keep =>
      rintro pre x a' W' j o o' ⟨hi, B, hB, ha⟩ hj ho hc
      exact ⟨hi.put o' (by omega) ho hc, B, (putObj_other ho hc hB).trans hB, ha⟩
    case assign =>
      intro l pre x W' K hi hv hk
      gi_wp2
      have hl := low_one W' (.cells (itC x) ItT)
      exact hk _ _ (StaysFrom.of_kn (Kn.below hl)) (fun g _ _ hg => hl.block g (Array.getElem?_eq_some_iff.1 hg).1) ⟨hi.still hl, _, heap_alloc_new W' _, rfl⟩
    case body =>
      rintro l pre x a' W' ⟨hI, B, hB, rfl⟩ hv
      obtain ⟨u, hu, hrow⟩ := hI.st
      have hlow := low_one W' (.cells (itC x) ItT)
      obtain ⟨⟨y0, y1, y2⟩, yf0, yf1, yf2⟩ := c3_at hu
      obtain ⟨⟨z0, z1⟩, _⟩ := c2_at hB
      have HFIN : Hid (∀ g' c' w', w'.ownsRow wC.heap.size ItT 2 (.slice (some ⟨g', 0, none⟩) (pre.length + 1) c') (pre ++ [x]).length (itL (pre ++ [x])) → (W'.alloc (.cells (itC x) ItT)).grownBy w' u.ownBlock → Kt ItT (W'.alloc (.cells (itC x) ItT)) w' →
          (w'.heap[sb]? = some (.cells (l12C s.c u (.slice F s.q.length d)) PT12 (0, 0))) ∧ StaysFrom W2.heap.size W' (w'.setCell ⟨sb, 1, none⟩ (.slice (some ⟨g', 0, none⟩) (pre.length + 1) c')) ∧ Kq W' (w'.setCell ⟨sb, 1, none⟩ (.slice (some ⟨g', 0, none⟩) (pre.length + 1) c')) ∧ StI wC (w'.setCell ⟨sb, 1, none⟩ (.slice (some ⟨g', 0, none⟩) (pre.length + 1) c')) xp s.c s.q W.heap.size sb w.heap.size (.slice F s.q.length d) (pre ++ [x])) := Lib.hid (by
        intro g' c' w' h1 h2 h3
        have hrow2 := own_below hrow hlow
        have hcl : ∀ g cs t f, W'.heap[g]? = some (Obj.cells cs t f) → t ≠ ItT → w'.heap[g]? = some (Obj.cells cs t f) := fun g cs t f hg ht => h3 g cs t f ((hlow.block g (Array.getElem?_eq_some_iff.1 hg).1).trans hg) ht
        have hsb' := hcl _ _ _ _ hu (by decide)
        have ho : Only [sb] w' (w'.setCell ⟨sb, 1, none⟩ (.slice (some ⟨g', 0, none⟩) (pre.length + 1) c')) := (Only.refl _ _).setCell (by simp) _
        have hoc : ∀ g o, w'.heap[g]? = some o → g ≠ sb → (w'.setCell ⟨sb, 1, none⟩ (.slice (some ⟨g', 0, none⟩) (pre.length + 1) c')).heap[g]? = some o := fun g o hg hne => (ho.block g (Array.getElem?_eq_some_iff.1 hg).1 (by simpa using hne)).trans hg
        have hkq : Kq W' (w'.setCell ⟨sb, 1, none⟩ (.slice (some ⟨g', 0, none⟩) (pre.length + 1) c')) := fun g cs f hg => by
          rw [hg]
          refine hoc g _ (hcl g cs _ f hg (by decide)) (fun e => ?_)
          subst e
          rw [hu] at hg
          injection hg with hg
          injection hg with _ hg
          exact absurd hg (by decide)
        refine ⟨hsb', fun g o hge hg hc => ?_, hkq, ?_, ?_, ⟨_, set_one hsb', ?_⟩, ?_, hI.kq.kq hkq, hI.ne⟩
        · have hne : g ≠ sb := fun e => by
            subst e
            rw [hu] at hg
            injection hg with hg
            subst hg
            cases hc
          refine hoc g o ((h2.block g (by rw [World.size_alloc]; have := (Array.getElem?_eq_some_iff.1 hg).1; omega) (fun e => ?_)).trans ((hlow.block g (Array.getElem?_eq_some_iff.1 hg).1).trans hg)) hne
          rcases hrow2.2 with ⟨e1, _⟩ | ⟨g1, cap, cur, e1, _, e3, _⟩
          · rw [e1] at e
            simp [Value.ownBlock] at e
          · rw [e1] at e
            simp only [Value.ownBlock] at e
            injection e with e
            subst e
            have := (hlow.block g (Array.getElem?_eq_some_iff.1 hg).1).trans hg
            rw [this] at e3
            injection e3 with e3
            subst e3
            cases hc
        · have hb1 : Below wC.heap.size wC (W'.alloc (.cells (itC x) ItT)) := hI.low.trans (hlow.mono hI.low.size)
          have hb2 := hb1.grown h2 hb1.size (fun k e => (hrow2.lt _ e).1)
          exact hb2.trans (ho.below (by simp; exact hI.ne.2) hb2.size)
        · refine hoc _ _ (hcl _ _ _ _ hI.bx2 (by decide)) (fun e => ?_)
          have h4 := hI.bx2
          rw [e, hu] at h4
          injection h4 with h4
          injection h4 with _ h4
          exact absurd h4 (by decide)
        · exact own_other h1 ho (fun g hg cs => by
            simp only [List.mem_singleton] at hg
            subst hg
            rw [hsb']
            intro e
            injection e with e
            injection e with _ e
            exact absurd e (by decide))
        · exact hoc _ _ (hcl _ _ _ _ hI.res (by decide)) (fun e => hI.ne.1 e.symm))
      have hz := hI.low.size
      have hrow2 := own_below hrow hlow
      have hbs : wC.heap.size ≤ (W'.alloc (.cells (itC x) ItT)).heap.size := Nat.le_trans hz hlow.size
      clear hI hrow hu hB hlow
      gi_wp2_with (gi_at_builtin; refine wpListIn_append_it rfl (.tmp 18) (.tmp 20) rfl wC.heap.size (by kernel_rfl) (by kernel_rfl) u pre rfl hrow2 W'.heap.size x rfl (heap_alloc_new W' _) (by omega) hbs ?_; intro g' c' w' h1 h2 h3; obtain ⟨g1, g2, g3, g4⟩ := HFIN.out g' c' w' h1 h2 h3; obtain ⟨⟨q0, q1, q2⟩, qf0, qf1, qf2⟩ := c3_at g1)
      exact ⟨g2, g3, g4⟩
    case done =>
      rintro D pre W' hD rfl hI hK
      obtain ⟨u, hu, hrow⟩ := hI.st
      obtain ⟨F1, n1, d1, rfl⟩ := (IV.of_own hrow).form
      obtain ⟨⟨y0, y1, y2⟩, yf0, yf1, yf2⟩ := c3_at hu
      obtain ⟨⟨r0, r1, r2⟩, rf0, rf1, rf2⟩ := c3_at hI.res
      obtain ⟨c1, c2⟩ := c3_set hI.res (.int .i64 (s.c : Nat)) (.slice F1 n1 d1) (.slice F s.q.length d)
      have hrb0 : ∀ cs f (e : TypeId), e ≠ PT12 → W'.heap[w.heap.size]? ≠ some (Obj.cells cs e f) := fun cs f e he q => by
        rw [hI.res] at q
        injection q with q
        injection q with _ q
        exact he q.symm
      have HR : Hid (∀ Wf, Wf.heap[w.heap.size]? = some (.cells (l12C s.c (.slice F1 n1 d1) (.slice F s.q.length d)) PT12 (0, 0)) → Only [w.heap.size] W' Wf →
          Wf.heap[D]? = some (.deferred (some [])) ∧ (Wf.putObj D (.deferred none)).heap[w.heap.size]? = some (.cells (l12C s.c (.slice F1 n1 d1) (.slice F s.q.length d)) PT12 (0, 0)) ∧ P12 w s (.returned (.agg (l12C s.c (.slice F1 n1 d1) (.slice F s.q.length d)))) (Wf.putObj D (.deferred none))) := Lib.hid (fun Wf e1 e2 => by
        have hDw : D ∉ [w.heap.size] := fun q => by
          simp only [List.mem_singleton] at q
          subst q
          rw [hI.res] at hK
          cases hK
        have hKf := (e2.block D (Array.getElem?_eq_some_iff.1 hK).1 hDw).trans hK
        have hkq : Kq W' (Wf.putObj D (.deferred none)) := fun g cs f hg => by
          have h1 : Wf.heap[g]? = W'.heap[g]? := e2.block g (Array.getElem?_eq_some_iff.1 hg).1 (fun q => by
            simp only [List.mem_singleton] at q
            subst q
            exact hrb0 _ _ _ (by decide) hg)
          exact (putObj_other hKf rfl (h1.trans hg)).trans h1
        have hl : Below w.heap.size w Wf := (HRS.out.2.2.trans (hI.low.mono (Nat.le_of_lt HRS.out.1))).trans (e2.below (by simp) (Nat.le_trans (Nat.le_of_lt HRS.out.1) hI.low.size))
        refine ⟨hKf, (putObj_other hKf rfl e1).trans e1, _, _, rfl, hl.grown (grownBy_putObj' Wf D _) hl.size (fun k e => by cases e; have := HRS.out.1; omega), ⟨?_, (hI.kq.kq hkq).kv⟩⟩
        exact IV.of_own (ownsRow_putObj (own_other hrow e2 (fun g hg cs => by
          simp only [List.mem_singleton] at hg
          subst hg
          exact hrb0 _ _ _ (by decide))) _ hKf rfl))
      obtain ⟨k1, k2, k3⟩ := HR.out _ c1 c2
      obtain ⟨⟨q0, q1, q2⟩, _⟩ := c3_at k2
      gi_wp2
      refine ⟨by simp, .inl ⟨_, _, rfl, run_takeDeferred k1, ?_⟩⟩
      exact ⟨_, by simp [results, Tryz.results13, go_sem, q0, q1, q2], k3⟩
theorem estate_walk (h : EC w0 w xp s top) :
    Calls Tryz.prog 13 #[ptr xp] w (P12 w s) := by
  obtain ⟨sp, kp, hx⟩ := h.mem
  have hl := low_one w (.cells z12 PT12)
  exact callsIn_wide.1 (state_in (v := some ⟨xp, 0, none⟩) (wB := w.alloc (.cells z12 PT12)) (callsIn_wide.2 (opens_is xp _)) (by rw [World.size_alloc]; omega) (heap_alloc_new w _) hl (hx.still hl) h.ok.fine)
end
end Go.Proofs.YtkhikpnlpcankaaGreat
