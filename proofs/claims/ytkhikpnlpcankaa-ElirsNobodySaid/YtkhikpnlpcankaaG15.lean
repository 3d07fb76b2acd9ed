/- Words and walks: ErT SsKo PoP ItA PoS SqJ SqP1. -/
import Derived.Test.YtkhikpnlpcankaaG0
import Derived.Test.YtkhikpnlpcankaaG1
import Derived.Test.YtkhikpnlpcankaaG12
import Derived.Test.YtkhikpnlpcankaaG14
import Derived.Lib.AppendZerosOnto
namespace Go.Proofs.Ytkhikpnlpcankaa
open Go Go.RowKit Go.Deep
def StyB (w : World) (g : Nat) : Prop := ∃ cs t f, w.heap[g]? = some (.cells cs t f) ∧ okT t = false
def Sty (w w' : World) : Prop := ∀ g, StyB w g → w'.heap[g]? = w.heap[g]?
theorem StyB.lt {w : World} {g : Nat} (h : StyB w g) : g < w.heap.size := by
  obtain ⟨cs, t, f, h, _⟩ := h
  exact (Array.getElem?_eq_some_iff.1 h).1
theorem StyB.not {w : World} {g : Nat} (h : StyB w g) (hn : NP w g) : False := by
  obtain ⟨cs, t, f, h, ht⟩ := h
  exact hn.not h ht
theorem StyB.row {w : World} {g n : Nat} {t : TypeId} {f : Nat → Value} (hr : w.rowIs g t n f) (ht : okT t = false) : StyB w g := by
  obtain ⟨c, hc, _⟩ := hr
  exact ⟨c, t, _, hc, ht⟩
theorem Sty.refl (w : World) : Sty w w := fun _ _ => rfl
theorem Sty.below {w w' : World} (h : Below w.heap.size w w') : Sty w w' := fun g hg => h.block g hg.lt
theorem Kt.sty {e : TypeId} {w w' : World} (h : Kt e w w') (he : okT e = true := by decide) : Sty w w' := fun g hg => by
  obtain ⟨cs, t, f, hg, ht⟩ := hg
  exact (h g cs t f hg (fun q => by rw [q, he] at ht; cases ht)).trans hg.symm
section
variable {w0 w w' : World} {K K' : List Nat}
theorem HeldL.footT {p b : Nat} {x : LSt} (h : HeldL w0 w p b x K) : ∃ F, FootH w0 w p b x F ∧ (∀ k ∈ F, k ∉ K) ∧ ∀ k ∈ F, StyB w k := by
  obtain ⟨e, h1, h2, h3, h4, h5, h6, h7, h8⟩ := h.mem
  obtain ⟨s, f, m1, m2, m3, kb, ks, kf, ha⟩ := h1.mem
  have q1 := ha.ltb
  have q2 := ha.lts
  have q3 := ha.ltf
  have q4 := h1.old p (by simp)
  have q5 := h1.old e (by simp)
  simp only [List.mem_cons, not_or] at kb ks kf
  refine ⟨[p, e, b, s, f], ⟨fun k hk => ?_, fun w' hb hk K' hK => ?_⟩, fun k hk => ?_, fun k hk => ?_⟩
  · simp only [List.mem_cons, List.not_mem_nil, or_false] at hk
    rcases hk with rfl | rfl | rfl | rfl | rfl <;> omega
  · have g0 := hk p (by simp)
    have g1 := hk e (by simp)
    have g2 := hk b (by simp)
    have g3 := hk s (by simp)
    have g4 := hk f (by simp)
    have hn := fun k hkK => (hK k hkK).2
    refine ⟨h.small, h.one, h.eight, e, ⟨hb, h1.ok, fun k hk' => ?_, s, f, m1, m2, m3, ?_, ?_, ?_, ha.blocks g2.1 g3.1 g4.1⟩, h2, h3, h4, fun q => hn p q (by simp), fun q => hn e q (by simp), g0.1.trans h7, h8.of_block g1.1⟩
    · rcases List.mem_cons.1 hk' with rfl | hk'
      · exact g0.2
      · rcases List.mem_cons.1 hk' with rfl | hk'
        · exact g1.2
        · exact (hK k hk').1
    · simp only [List.mem_cons, not_or]
      exact ⟨kb.1, kb.2.1, fun q => hn b q (by simp)⟩
    · simp only [List.mem_cons, not_or]
      exact ⟨ks.1, ks.2.1, fun q => hn s q (by simp)⟩
    · simp only [List.mem_cons, not_or]
      exact ⟨kf.1, kf.2.1, fun q => hn f q (by simp)⟩
  · simp only [List.mem_cons, List.not_mem_nil, or_false] at hk
    rcases hk with rfl | rfl | rfl | rfl | rfl
    · exact h5
    · exact h6
    · exact kb.2.2
    · exact ks.2.2
    · exact kf.2.2
  · simp only [List.mem_cons, List.not_mem_nil, or_false] at hk
    rcases hk with rfl | rfl | rfl | rfl | rfl
    · exact ⟨_, _, _, h7, by decide⟩
    · exact StyB.row h8 (by decide)
    · exact ⟨_, _, _, ha.head, by decide⟩
    · exact StyB.row ha.slots (by decide)
    · obtain ⟨F, hF, _⟩ := ha.freed
      exact StyB.row hF (by decide)
theorem HX.footT {ix : Nat} {T : Tb} (h : HX w0 w ix T K) : ∃ G, FootX w0 w ix T G ∧ (∀ k ∈ G, k ∉ K) ∧ ∀ k ∈ G, StyB w k := by
  obtain ⟨g, h1, h2, h3, h4, h5⟩ := h.mem
  have q1 := h5.plt
  have q2 := h5.lt
  refine ⟨[ix, g], ⟨fun k hk => ?_, fun w' hb hk K' hK => ?_⟩, fun k hk => ?_, fun k hk => ?_⟩
  · simp only [List.mem_cons, List.not_mem_nil, or_false] at hk
    rcases hk with rfl | rfl <;> omega
  · have g0 := hk ix (by simp)
    have g1 := hk g (by simp)
    refine ⟨hb, h.good, h.keys, fun k hk' => (hK k hk').1, g, h1, h2, fun q => (hK ix q).2 (by simp), fun q => (hK g q).2 (by simp), ⟨g0.1.trans h5.tab, ?_⟩⟩
    obtain ⟨N, F, hF, hN, hv⟩ := h5.row
    exact ⟨N, F, hF.of_block g1.1, hN, hv⟩
  · simp only [List.mem_cons, List.not_mem_nil, or_false] at hk
    rcases hk with rfl | rfl
    · exact h3
    · exact h4
  · simp only [List.mem_cons, List.not_mem_nil, or_false] at hk
    rcases hk with rfl | rfl
    · exact ⟨_, _, _, h5.tab, by decide⟩
    · obtain ⟨N, F, hF, hN, hv⟩ := h5.row
      exact StyB.row hF (by decide)
def StyK (K : List Nat) (w w' : World) : Prop := ∀ g, StyB w g → g ∉ K → w'.heap[g]? = w.heap[g]?
theorem Sty.k (h : Sty w w') (K : List Nat) : StyK K w w' := fun g hg _ => h g hg
theorem SQ.sty {p b ix n : Nat} {l : Nat → List Nat} {A : St} {T : Tb} (h : SQ w0 w p b ix n l A T K) (hb : Below w0.heap.size w0 w') (hs : StyK K w w') (hz : w.heap.size ≤ w'.heap.size) (hK : ∀ k ∈ K', k < w'.heap.size ∧ (k ∈ K ∨ ¬ StyB w k)) : SQ w0 w' p b ix n l A T K' := by
  obtain ⟨x, F, G, h⟩ := h
  obtain ⟨F1, f1, f2, f3⟩ := h.heldl.footT
  have h2 : HX w0 w ix T (F1 ++ K) := h.fx.held w h.below (fun k hk => ⟨rfl, (h.fx.old k hk).2⟩) _ (fun k hk => by
    rcases List.mem_append.1 hk with q | q
    · exact ⟨(f1.old k q).2, fun q2 => f2 k q (by simp [q2])⟩
    · exact ⟨h.dK k q, fun q2 => h.dG k q2 q⟩)
  obtain ⟨G1, g1, g2, g3⟩ := h2.footT
  refine ⟨x, F1, G1, hb, f1.keep (fun k hk => ⟨hs k (f3 k hk) (fun q => f2 k hk (by simp [q])), Nat.lt_of_lt_of_le (f1.old k hk).2 hz⟩), h.lok, h.xn, h.al, g1.keep (fun k hk => ⟨hs k (g3 k hk) (fun q => g2 k hk (by simp [q])), Nat.lt_of_lt_of_le (g1.old k hk).2 hz⟩), fun k hk => ⟨fun q => g2 k q (by simp [hk]), fun q => ?_⟩, fun k hk q => ?_, fun k hk => (hK k hk).1⟩
  · rcases (hK k q).2 with q | q
    · exact f2 k hk (by simp [q])
    · exact q (f3 k hk)
  · rcases (hK k q).2 with q | q
    · exact g2 k hk (by simp [q])
    · exact q (g3 k hk)
theorem SM.sty {sp n : Nat} {l : Nat → List Nat} {A : St} {T : Tb} (h : SM w0 w sp n l A T K) (hb : Below w0.heap.size w0 w') (hs : StyK K w w') (hz : w.heap.size ≤ w'.heap.size) (hK : ∀ k ∈ K', k < w'.heap.size ∧ (k ∈ K ∨ ¬ StyB w k)) : SM w0 w' sp n l A T K' := by
  obtain ⟨p, b, ix, h1, h2, h3, h4⟩ := h
  have hsp : StyB w sp := ⟨_, _, _, h1, by decide⟩
  refine ⟨p, b, ix, (hs sp hsp h4).trans h1, h2.sty hb (fun g hg hn => hs g hg (fun q => hn (by simp [q]))) hz (fun k hk => ?_), h3, fun q => ?_⟩
  · rcases List.mem_cons.1 hk with rfl | hk
    · exact ⟨Nat.lt_of_lt_of_le hsp.lt hz, .inl (by simp)⟩
    · exact ⟨(hK k hk).1, (hK k hk).2.imp (fun q => by simp [q]) id⟩
  · exact (hK sp q).2.elim h4 (fun q => q hsp)
theorem SI.styK {sp n : Nat} {Q : Nat → List Ent} {m : Nat} {U : Tb} {most : Nat} (h : SI w0 w sp n Q m U most K) (hb : Below w0.heap.size w0 w') (hs : StyK K w w') (hz : w.heap.size ≤ w'.heap.size) (hK : ∀ k ∈ K', k < w'.heap.size ∧ (k ∈ K ∨ ¬ StyB w k)) : SI w0 w' sp n Q m U most K' := by
  obtain ⟨l, A, T, E, h1, h2⟩ := h
  exact ⟨l, A, T, E, h1.sty hb hs hz hK, h2⟩
theorem SI.sty {sp n : Nat} {Q : Nat → List Ent} {m : Nat} {U : Tb} {most : Nat} (h : SI w0 w sp n Q m U most K) (hb : Below w0.heap.size w0 w') (hs : Sty w w') (hz : w.heap.size ≤ w'.heap.size) (hK : ∀ k ∈ K', k < w'.heap.size ∧ (k ∈ K ∨ ¬ StyB w k)) : SI w0 w' sp n Q m U most K' := h.styK hb (hs.k K) hz hK
theorem SI.room {sp n : Nat} {Q : Nat → List Ent} {m : Nat} {U : Tb} {most : Nat} (h : SI w0 w sp n Q m U most K) : sumE Q n < m ∧ sumE Q n ≤ U.n := by
  obtain ⟨l, A, T, E, h1, h2⟩ := h
  have e1 := h2.live
  have e2 := h2.ok.room
  have e3 := h2.room
  have e4 := h2.cnt
  have e5 := h2.good.room
  have e6 := h2.sim.n
  omega
end
theorem ownsRow_low {w : World} {base base' size n : Nat} {e : TypeId} {v : Value} {xs : List Value} (h : w.ownsRow base e size v n xs) (hb : base' ≤ base) : w.ownsRow base' e size v n xs :=
  ⟨h.1, h.2.imp id (fun ⟨g, cap, cur, e1, e2, rest⟩ => ⟨g, cap, cur, e1, Nat.le_trans hb e2, rest⟩)⟩
section
variable {w0 w : World} {sp n m most : Nat} {l : Nat → List Nat} {A : St} {T U : Tb} {Q : Nat → List Ent} {K : List Nat}
def KeysOwn (w : World) (ks : List Nat) (e : Ending) (w' : World) : Prop := ∃ v, e = .returned v ∧ Below w.heap.size w w' ∧ w'.ownsRow w.heap.size 28 1 v ks.length (k64 ks)
set_option maxHeartbeats 1000000 in
theorem pkeys_own (h : SM w0 w sp n l A T K) (ft : Fit A T) (tag : Int) (E : Nat → Ent) (hE : ∀ i, (A.node i).key = (E i).key) :
    Calls Try.prog 30 #[ptr sp, .int .i64 tag] w (KeysOwn w ((allL n l tag).map (fun i => (E i).key))) := by
  obtain ⟨p, b, ix, hc, hq, _, _⟩ := h
  have HO := Lib.hid (open_walk hc)
  have HAL := Lib.hid (fun (W : World) (hb : Below w.heap.size w W) => sq_all (hq.still hb).1 tag)
  have HXI : Hid (∀ x ∈ allL n l tag, (x : Int) ≤ 2147483647 ∧ (A.at_ x).key = (E x).key) := Lib.hid (fun x hx => by
    unfold allL at hx
    cases hh : hasT n tag
    · rw [hh] at hx; simp at hx
    · rw [hh, if_pos rfl] at hx
      obtain ⟨t, rfl, ht⟩ := hasT_nat hh
      have q := hq.in32 ft.an ht (by simpa using hx)
      exact ⟨q.1, by rw [q.2.2]; exact hE x⟩)
  have HAT := Lib.hid (fun (W : World) (hb : Below w.heap.size w W) (i : Int) (h32 : i ≤ 2147483647) => sq_at (hq.still hb).1 i h32)
  have hxl := hq.allLen tag
  obtain ⟨xs, hxs⟩ : ∃ xs, allL n l tag = xs := ⟨_, rfl⟩
  rw [hxs] at HAL HXI hxl ⊢
  obtain ⟨ks, hks⟩ : ∃ ks, xs.map (fun i => (E i).key) = ks := ⟨_, rfl⟩
  have HKS : Hid (ks.length = xs.length ∧ ∀ i (hi : i < xs.length) (hi' : i < ks.length), ks[i] = (E xs[i]).key) := Lib.hid (by subst hks; exact ⟨by simp, fun i hi _ => by simp⟩)
  rw [hks]
  clear hc hq ft hxs hks hE
  go_enter Try.func30, Try.ntmps30
  go_wp2_with fail
  refine HO.out.mono ?_
  rintro e w1 ⟨rfl, hb⟩
  have HB2 := Lib.hid (hb.alloc hb.size (.cells (partsC p n b ix) 72))
  have hbx := heap_alloc_new w1 (.cells (partsC p n b ix) 72)
  have HBX := Lib.hid hbx
  clear hb hbx
  go_wp2_with fail
  refine (HAL.out _ HB2.out).mono ?_
  rintro e w2 ⟨v, rfl, hrow, hb2⟩
  obtain ⟨F, c, rfl, hcells⟩ := rows32 hrow
  have HCE := Lib.hid hcells
  have HB3 := Lib.hid (HB2.out.trans (hb2.mono HB2.out.size))
  have HBX2 := Lib.hid ((hb2.block w1.heap.size (by simp)).trans HBX.out)
  have hw12 : w1.heap.size < w2.heap.size := by have := hb2.size; simp at this; omega
  clear hrow hcells hb2
  go_wp2_with fail
  go_loopg [6, 16] xs.length (fun gg s6 s16 wr => ∃ (i : Nat) (v5 : Value), i + gg = xs.length ∧ v5 = s6 ∧ s16 = .int .i64 (i : Nat) ∧ Hid (Below w2.heap.size w2 wr ∧ wr.ownsRow w2.heap.size 28 1 v5 i (k64 (ks.take i))))
  case atStart => exact ⟨0, _, by omega, rfl, rfl, Lib.hid ⟨Below.refl _ _, World.ownsRow_nil _ _ _ _⟩⟩
  case round =>
    obtain ⟨i, v5, hi, rfl, rfl, HI⟩ := hrel
    have hsz := HI.out.1.size
    obtain ⟨⟨c0, c1, c2, c3⟩, _⟩ := q4_at ((HI.out.1.block w1.heap.size hw12).trans HBX2.out)
    by_cases hlt : i < xs.length
    · have hltI : (i : Int) < (xs.length : Int) := by omega
      obtain ⟨g, hF, q0⟩ := HCE.out wr HI.out.1 i hlt
      subst hF
      obtain ⟨x, hx⟩ : ∃ x, xs[i] = x := ⟨_, rfl⟩
      have hxi := HXI.out _ (List.getElem_mem hlt)
      have hik : i < ks.length := by rw [HKS.out.1]; exact hlt
      have hkx := HKS.out.2 i hlt hik
      rw [hx] at q0 hxi hkx
      obtain ⟨kx, hkk⟩ : ∃ kx, ks[i] = kx := ⟨_, rfl⟩
      have HAP : Hid (k64 (ks.take i) ++ [.int .u64 (kx : Nat)] = k64 (ks.take (i + 1))) := Lib.hid (by
        rw [List.take_succ_eq_append_getElem hik, hkk]
        simp [k64])
      have HKX : Hid ((A.at_ (x : Nat)).key = ((kx : Nat) : Int)) := Lib.hid (by rw [hxi.2, ← hkk, hkx])
      have hx32 := hxi.1
      have HAX := Lib.hid (HAT.out wr (HB3.out.trans (HI.out.1.mono HB3.out.size)) x hx32)
      have HOW0 := Lib.hid HI.out.2
      have HBW := Lib.hid HI.out.1
      clear hx hxi hkx hkk HI
      go_wp2_with fail
      refine HAX.out.mono ?_
      rintro e w4 ⟨y, rfl, hy, hb4⟩
      have hyk : y.key = (kx : Nat) := by rw [hy.node.1]; exact HKX.out
      have hfld : ∀ w : World, (Instr.field 84 y.v 0).run Try.prog w = .ok (.int .u64 (kx : Nat)) w := fun w => by
        have e : (Instr.field 84 y.v 0).run Try.prog w = .ok (.int .u64 y.key) w := by kernel_rfl
        rw [e, hyk]
      have HOW4 := Lib.hid (ownsRow_block HOW0.out (fun k _ hk => hb4.block k hk))
      have HB4 := Lib.hid (HBW.out.trans (hb4.mono hsz))
      have hsz4 : w2.heap.size ≤ w4.heap.size := by have := hb4.size; omega
      have HOW := Lib.hid (HOW4.out.alloc (.cells #[.int .u64 (kx : Nat)] 28))
      have HALL := Lib.hid ((Below.refl w2.heap.size w4).alloc hsz4 (.cells #[.int .u64 (kx : Nat)] 28))
      have hnew : (w4.alloc (.cells #[.int .u64 (kx : Nat)] 28)).cell? ⟨w4.heap.size, 0, none⟩ = some (.int .u64 (kx : Nat)) := (head_row (heap_alloc_new w4 (.cells #[.int .u64 (kx : Nat)] 28))).cell (i := 0) (by simp)
      have HSRC : Hid ((some (⟨w4.heap.size, 0, none⟩ : Addr) = none ∧ 1 = 0 ∧ 1 = 0 ∧ [Value.int .u64 (kx : Nat)] = []) ∨ ∃ ad, some (⟨w4.heap.size, 0, none⟩ : Addr) = some ad ∧ [Value.int .u64 (kx : Nat)].length = 1 * 1 ∧ ∀ j u, [Value.int .u64 (kx : Nat)][j]? = some u → (w4.alloc (.cells #[.int .u64 (kx : Nat)] 28)).cell? (ad.add j) = some u) := Lib.hid (.inr ⟨_, rfl, rfl, fun j u hu => by
        match j with
        | 0 => rw [Addr.add_lit, Nat.zero_add, hnew]; simpa using hu
        | j + 1 => simp at hu⟩)
      have H1C : Hid (∀ u ∈ [Value.int .u64 (kx : Nat)], u.oneCell' = true) := Lib.hid (by simp [Value.oneCell'])
      have hszA : w2.heap.size ≤ (w4.alloc (.cells #[.int .u64 (kx : Nat)] 28)).heap.size := by simp; omega
      clear hnew hyk hy hb4 c0 c1 c2 c3 q0
      go_wp2_with (at_builtin; refine wpList_append_src rfl (.tmp 20) (.tmp 26) 26 rfl w2.heap.size 28 (.int .u64 0) 1 8 (by kernel_rfl) (by kernel_rfl) rfl (by decide) v5 i _ rfl HOW.out (some ⟨w4.heap.size, 0, none⟩) 1 1 [.int .u64 (kx : Nat)] rfl HSRC.out H1C.out (by omega) (by omega) hszA ?_)
      intro v6 w6 hown6 hgrow6
      have hb6 := below_grown HALL.out HOW.out hgrow6 hszA
      rw [HAP.out] at hown6
      have HN := Lib.hid (And.intro (HB4.out.trans hb6) hown6)
      clear hown6 hgrow6 hb6 hfld
      go_wp2
      go_roundg (gk - 1)
      case measure => omega
      case rel => exact ⟨i + 1, v6, by omega, rfl, by go_num, HN⟩
    · have hltI : ¬ (i : Int) < (xs.length : Int) := by omega
      obtain rfl : i = xs.length := by omega
      have hfin := HI.out.2
      have hlm : xs.length = ks.length := HKS.out.1.symm
      rw [hlm, List.take_length] at hfin
      have HK := Lib.hid (ownsRow_low (base' := w.heap.size) hfin HB3.out.size)
      have HB := Lib.hid (HB3.out.trans (HI.out.1.mono HB3.out.size))
      clear hfin hlm c0 c1 c2 c3
      go_wp2
      go_ret
      exact ⟨_, rfl, HB.out, HK.out⟩
theorem si_keys_own (h : SI w0 w sp n Q m U most K) (hm : most ≤ 10000) (q : Int) :
    Calls Try.prog 30 #[ptr sp, .int .i64 q] w (KeysOwn w ((qI n Q q).map Ent.key)) := by
  obtain ⟨l, A, T, E, h1, h2⟩ := h
  obtain ⟨a, _⟩ := h1.ap
  rw [(qI_len h2 q).2, List.map_map]
  exact pkeys_own h1 (h2.fit a hm) q E (fun i => (h2.node i).1)
end
def Nw (B : Nat) (u v : Value) : Prop := ∀ n c ad, v = .slice (some ad) (n + 1) c → (∃ n' c', u = .slice (some ad) (n' + 1) c') ∨ B ≤ ad.block
theorem Nw.refl (B : Nat) (u : Value) : Nw B u u := fun n c _ h => .inl ⟨n, c, h⟩
theorem Nw.take (B : Nat) (F : Option Addr) {n k : Nat} (d : Nat) (hk : k ≤ n) : Nw B (.slice F n d) (.slice F k d) := fun m c ad h => by
  injection h with h1 h2 h3
  subst h1 h2 h3
  obtain ⟨j, rfl⟩ : ∃ j, n = j + 1 := ⟨n - 1, by omega⟩
  exact .inl ⟨j, _, rfl⟩
theorem Nw.trans {B B' : Nat} {u v x : Value} (h : Nw B u v) (h2 : Nw B' v x) (hB : B ≤ B') : Nw B u x := fun n c ad e => by
  rcases h2 n c ad e with ⟨n', c', e2⟩ | h3
  · exact h n' c' ad e2
  · exact .inr (Nat.le_trans hB h3)
theorem Nw.of_own {B B' : Nat} {w0 w : World} {v : Value} {ks : List Nat} (u : Value) (h : KO B' w0 w v ks) (hB : B ≤ B') : Nw B u v := fun n c ad e => by
  subst e
  have := (h.own.lt _ rfl).1
  exact .inr (by omega)
theorem Nw.off {B : Nat} {u v a : Value} (h : Nw B u v) (ho : Off u a) (ha : ∀ g, a.ownBlock = some g → g < B) : Off v a := fun n c ad e => by
  rcases h n c ad e with ⟨n', c', e2⟩ | h3
  · exact ho n' c' ad e2
  · intro e2
    have := ha _ e2
    omega
theorem KO.lt {B : Nat} {w0 w : World} {v : Value} {ks : List Nat} (h : KO B w0 w v ks) : ∀ g, v.ownBlock = some g → g < w.heap.size := fun _ hg => (h.own.lt _ hg).2
structure It where
  key : Nat
  f : Nat
deriving DecidableEq
def itV (x : It) : List Value := [.int .u64 (x.key : Nat), .int .i64 (x.f : Nat)]
def itL (xs : List It) : List Value := xs.flatMap itV
theorem itL_cons (x : It) (xs : List It) : itL (x :: xs) = itV x ++ itL xs := rfl
theorem itL_append (a b : List It) : itL a ++ itL b = itL (a ++ b) := by simp [itL]
theorem itL_len : ∀ (xs : List It), (itL xs).length = xs.length * 2
  | [] => rfl
  | x :: xs => by rw [itL_cons, List.length_append, itL_len xs, List.length_cons]; simp [itV]; omega
theorem itL_at : ∀ (xs : List It) (i : Nat) (h : i < xs.length), (itL xs)[i * 2]? = some (.int .u64 (xs[i].key : Nat)) ∧ (itL xs)[i * 2 + 1]? = some (.int .i64 (xs[i].f : Nat))
  | x :: xs, 0, _ => ⟨rfl, rfl⟩
  | x :: xs, i + 1, h => by
    have := itL_at xs i (by simpa using h)
    rw [itL_cons]
    refine ⟨?_, ?_⟩
    · rw [List.getElem?_append_right (by simp [itV]; omega)]
      simpa [itV, show (i + 1) * 2 - 2 = i * 2 by omega] using this.1
    · rw [List.getElem?_append_right (by simp [itV]; omega)]
      simpa [itV, show (i + 1) * 2 + 1 - 2 = i * 2 + 1 by omega] using this.2
theorem itL_take : ∀ (xs : List It) (m : Nat), itL (xs.take m) = (itL xs).take (m * 2)
  | [], m => by simp [itL]
  | x :: xs, 0 => by simp [itL]
  | x :: xs, m + 1 => by
    rw [List.take_succ_cons, itL_cons, itL_cons, itL_take xs m]
    show _ = List.take ((m + 1) * 2) (_ :: _ :: itL xs)
    rw [show (m + 1) * 2 = m * 2 + 1 + 1 by omega, List.take_succ_cons, List.take_succ_cons]
    rfl
def keysI (xs : List It) : List Nat := xs.map It.key
def IV (w : World) (v : Value) (xs : List It) : Prop := RV w 2 v xs.length (itL xs)
section
variable {w w' : World} {v : Value} {xs : List It} {S : List Nat}
theorem IV.form (h : IV w v xs) : ∃ F n c, v = .slice F n c := by
  obtain ⟨_, ⟨F, c, e, _⟩, _⟩ := h
  exact ⟨F, _, c, e⟩
theorem IV.mem (h : IV w v xs) : ∃ F c, v = .slice F xs.length c ∧ xs.length ≤ c ∧ (F = none → c = 0) ∧ ∀ i (h : i < xs.length), ∃ g off, F = some ⟨g, off, none⟩ ∧ g < w.heap.size ∧ w.cell? ⟨g, off + i * 2, none⟩ = some (.int .u64 (xs[i].key : Nat)) ∧ w.cell? ⟨g, off + i * 2 + 1, none⟩ = some (.int .i64 (xs[i].f : Nat)) := by
  obtain ⟨_, ⟨F, c, e, h1, h2, h3⟩, _⟩ := h
  refine ⟨F, c, e, h1, h2, fun i hi => ?_⟩
  obtain ⟨a1, a2⟩ := itL_at xs i hi
  obtain ⟨ad, rfl, h4, h5⟩ := h3 _ _ a1
  obtain ⟨ad2, e2, _, h6⟩ := h3 _ _ a2
  injection e2 with e2
  subst e2
  obtain ⟨g, off, sp⟩ := ad
  cases sp with
  | none =>
    rw [Addr.add_lit] at h5 h6
    exact ⟨g, off, rfl, h4, h5, h6⟩
  | some s =>
    obtain ⟨ad, e3, _, h7⟩ := h3 0 _ (itL_at xs 0 (by omega)).1
    injection e3 with e3
    subst e3
    unfold World.cell? at h7
    simp [Addr.add] at h7
    split at h7 <;> cases h7
theorem IV.below (h : IV w v xs) (hb : Below w.heap.size w w') : IV w' v xs := RV.below h hb
theorem IV.nil (w : World) : IV w (.slice none 0 0) [] := RV.nil w 2
theorem IV.of_own {B : Nat} {e : TypeId} (h : w.ownsRow B e 2 v xs.length (itL xs)) (he : okT e = true := by decide) : IV w v xs := RV.of_own h he
theorem IV.take (h : IV w v xs) (n : Nat) (hn : n ≤ xs.length) : ∃ F c, v = .slice F xs.length c ∧ IV w (.slice F n c) (xs.take n) := by
  obtain ⟨F, c, e, h1⟩ := RV.take h n hn
  refine ⟨F, c, e, ?_⟩
  have e1 : (xs.take n).length = n := by rw [List.length_take]; omega
  rw [IV, e1, itL_take]
  exact h1
theorem IV.only (h : IV w v xs) (ho : Only S w w') (hS : ∀ g ∈ S, Bx w g) : IV w' v xs := by
  have hm := h.mem
  obtain ⟨hl, ⟨F, c, e, h1, h2, h3⟩, hnp⟩ := h
  have hout : ∀ ad : Addr, F = some ad → 0 < xs.length → ad.block ∉ S := fun ad e2 hj hm2 => by
    obtain ⟨cs, t, hg, hn, _⟩ := hS _ hm2
    obtain ⟨F', c', e', _, _, h6⟩ := hm
    obtain ⟨g, off, e3, _, h7, _⟩ := h6 0 hj
    rw [e] at e'
    injection e' with e4 _ _
    rw [← e4, e2] at e3
    injection e3 with e3
    subst e3
    unfold World.cell? at h7
    rw [hg] at h7
    exact hn.at_ (by simpa using h7)
  refine ⟨hl, ⟨F, c, e, h1, h2, fun j u hu => ?_⟩, fun m c' ad e1 => ?_⟩
  · obtain ⟨ad, e2, h4, h5⟩ := h3 j u hu
    refine ⟨ad, e2, Nat.lt_of_lt_of_le h4 ho.size, ?_⟩
    have hb : (ad.add j).block = ad.block := ad_block ad j
    refine Eq.trans (World.cell?_of_block (w := w) ?_) h5
    rw [hb]
    have hj := (List.getElem?_eq_some_iff.1 hu).1
    rw [itL_len] at hj
    exact ho.block _ h4 (hout ad e2 (by omega))
  · have hp := hnp m c' ad e1
    rw [e] at e1
    injection e1 with e1 e2 e3
    exact hp.keep (ho.block _ hp.lt (hout ad e1 (by omega)))
end
structure OwnI (e : TypeId) (B : Nat) (w0 w : World) (v : Value) (xs : List It) : Prop where
  low : Below B w0 w
  own : w.ownsRow B e 2 v xs.length (itL xs)
section
variable {e : TypeId} {B : Nat} {w0 w w' : World} {v : Value} {xs : List It}
theorem OwnI.iv (h : OwnI e B w0 w v xs) (he : okT e = true := by decide) : IV w v xs := IV.of_own h.own he
theorem OwnI.nil (h : Below B w0 w) : OwnI e B w0 w (.slice none 0 0) [] := ⟨h, World.ownsRow_nil _ _ _ _⟩
theorem OwnI.alloc (h : OwnI e B w0 w v xs) (hB : B ≤ w.heap.size) (o : Obj) : OwnI e B w0 (w.alloc o) v xs := ⟨h.low.alloc hB o, h.own.alloc o⟩
theorem OwnI.below (h : OwnI e B w0 w v xs) (hB : B ≤ w.heap.size) (hb : Below w.heap.size w w') : OwnI e B w0 w' v xs := ⟨h.low.trans (hb.mono hB), own_below h.own hb⟩
theorem OwnI.one (hB : B ≤ w.heap.size) (h : Below B w0 w) (x : It) : OwnI e B w0 (w.alloc (.cells #[.int .u64 (x.key : Nat), .int .i64 (x.f : Nat)] e)) (.slice (some ⟨w.heap.size, 0, none⟩) 1 1) [x] :=
  ⟨h.alloc hB _, World.ownsRow_lit (size := 2) w #[.int .u64 (x.key : Nat), .int .i64 (x.f : Nat)] 1 hB (by unfold maxLen; omega) rfl⟩
theorem IV.one (w : World) (e : TypeId) (x : It) (he : okT e = true := by decide) : IV (w.alloc (.cells #[.int .u64 (x.key : Nat), .int .i64 (x.f : Nat)] e)) (.slice (some ⟨w.heap.size, 0, none⟩) 1 1) [x] := (OwnI.one (e := e) (Nat.le_refl _) (Below.refl _ _) x).iv he
theorem OwnI.lt (h : OwnI e B w0 w v xs) : ∀ g, v.ownBlock = some g → g < w.heap.size := fun _ hg => (h.own.lt _ hg).2
theorem Kp.iv {v' : Value} {u : Value} {ys : List It} (h : Kp w v w' v') (hu : IV w u ys) (ho : Off u v) : IV w' u ys ∧ Off u v' := h _ _ _ _ (by decide) hu ho
end
section
variable {w w1 w2 : World} {T U : TypeId} {b r : Nat} {cs zs : Array Value} {v : Value} {xs : List It}
theorem Bo.iv (h : Bo w w1 T b r cs zs) (ho : Only [b, r] w1 w2) (hk : IV w1 v xs) : IV w2 v xs := hk.only ho (fun g hg => (h.bx g hg).1)
theorem Bp.iv (h : Bp w w1 T U b r cs zs) (ho : Only [b, r] w1 w2) (hk : IV w1 v xs) : IV w2 v xs := hk.only ho (fun g hg => (h.bx g hg).1)
end
theorem IV.box {w : World} {g c : Nat} {x : It} (h : IV w (.slice (some ⟨g, 0, none⟩) 1 c) [x]) : g < w.heap.size ∧ w.cell? ⟨g, 0, none⟩ = some (.int .u64 (x.key : Nat)) ∧ w.cell? ⟨g, 1, none⟩ = some (.int .i64 (x.f : Nat)) := by
  obtain ⟨F, c', e, _, _, h3⟩ := h.mem
  obtain ⟨g', off, e2, hg, q0, q1⟩ := h3 0 (by simp)
  injection e with e3 e4 e5
  rw [← e3] at e2
  injection e2 with e2
  injection e2 with e6 e7 e8
  subst e6 e7
  simpa using ⟨hg, q0, q1⟩


theorem grow_room (base : Option Addr) (l c n : Nat) (w : World) (hlc : l ≤ c) (hc : c ≤ maxLen) (hn : n ≤ 1000000000) (hroom : l + n ≤ c) :
    Calls Try.prog 49 #[.slice base l c, .int .i64 n] w fun e w' => e = .returned (.slice base l c) ∧ w' = w := by
  unfold maxLen at hc
  have h1 : ¬ ((n : Int) < 0) := by omega
  have h2 : wrap64 ((c : Int) - (l : Int)) = (c : Int) - (l : Int) := by unfold wrap64; omega
  have h3 : wrap64 ((n : Int) - ((c : Int) - (l : Int))) = (n : Int) - ((c : Int) - (l : Int)) := by unfold wrap64; omega
  have h4 : ¬ ((n : Int) - ((c : Int) - (l : Int)) > 0) := by omega
  go_enter Try.func49, Try.ntmps49
  go_wp2
  go_ret
  exact ⟨rfl, rfl⟩
set_option maxHeartbeats 2000000 in
set_option maxRecDepth 4000 in
theorem grow_new (base : Option Addr) (l c n : Nat) (cs : List Value) (w : World) (hlc : l ≤ c) (hroom : c < l + n) (hbig : l + n ≤ 1000000000) (hcl : cs.length = c) (hnil : base = none → c = 0)
    (hcs : ∀ a, base = some a → ∀ j v, cs[j]? = some v → w.cell? (a.add j) = some v) :
    Calls Try.prog 49 #[.slice base l c, .int .i64 n] w fun e w' =>
      e = .returned (.slice (some ⟨w.heap.size, 0, none⟩) l (grownCap w (l + n) c 28)) ∧
      w' = w.drew.alloc (.cells (cs.toArray ++ Builtin.zeroCells (Value.int .u64 0).cells (l + n - c) ++ Builtin.zeroCells (Value.int .u64 0).cells (grownCap w (l + n) c 28 - (l + n))) 28) := by
  have hinfo : (Try.prog.info? 28).map (fun i => (i.zero, i.size, i.bytes)) = some (some (.int .u64 0), 1, 8) := by kernel_rfl
  obtain ⟨i0, hi0, hz0, hs0, hby⟩ := info_parts hinfo
  have ht : Try.prog.underlying 26 = some (.slice 28) := by kernel_rfl
  have htn : Try.prog.underlying 3 = some (.int .i64) := by kernel_rfl
  have hck : c + (l + n - c) = l + n := by omega
  have hold : (Builtin.firstCells i0.size c (.slice base c c)).run Try.prog w.drew = .ok cs.toArray w.drew := by
    rw [hs0]
    cases base with
    | none =>
      have h0 := hnil rfl
      subst h0
      obtain rfl : cs = [] := List.length_eq_zero_iff.1 hcl
      exact run_firstCells_none w.drew 1 0 0 0
    | some a => exact run_firstCells_some w.drew 1 c a c c cs (by omega) (fun j v hj => hcs a rfl j v hj)
  have hrz : ∀ ty, (Builtin.append_ #[26, 3] ty #[.slice base c c, .int .i64 ((n : Int) - ((c : Int) - (l : Int)))]).run Try.prog w =
      .ok (.slice (some ⟨w.heap.size, 0, none⟩) (l + n) (grownCap w (l + n) c 28)) (w.drew.alloc (.cells (cs.toArray ++ Builtin.zeroCells (Value.int .u64 0).cells (l + n - c) ++ Builtin.zeroCells (Value.int .u64 0).cells (grownCap w (l + n) c 28 - (l + n))) 28)) := fun ty => by
    have h := Lib.run_append_grow_zeros w 26 3 ty 28 i0 (.int .u64 0) .i64 .i64 ht htn hi0 hz0 base c c cs hold (l + n - c) (by omega) (by omega) (by omega) (by omega)
      (by rw [hby]; omega) (by rw [hck, hby]; exact growslice_fits hroom (by omega))
    rw [hck] at h
    rw [show (n : Int) - ((c : Int) - (l : Int)) = ((l + n - c : Nat) : Int) by omega]
    exact h
  have hGn : l + n ≤ grownCap w (l + n) c 28 := grownCap_ge w _ _ _
  have hG63 : grownCap w (l + n) c 28 ≤ maxLen := grownCap_le_maxLen w (l + n) c 28 (by unfold maxLen; omega)
  unfold maxLen at hG63
  have h1 : ¬ ((n : Int) < 0) := by omega
  have h2 : wrap64 ((c : Int) - (l : Int)) = (c : Int) - (l : Int) := by unfold wrap64; omega
  have h3 : wrap64 ((n : Int) - ((c : Int) - (l : Int))) = (n : Int) - ((c : Int) - (l : Int)) := by unfold wrap64; omega
  have h4 : (n : Int) - ((c : Int) - (l : Int)) > 0 := by omega
  generalize grownCap w (l + n) c 28 = G at hrz hGn hG63 ⊢
  clear hold hck hcs hcl hi0 hz0 hs0 hby hinfo i0
  go_enter Try.func49, Try.ntmps49
  cases base with
  | none =>
    obtain rfl : c = 0 := hnil rfl
    obtain rfl : l = 0 := by omega
    go_wp2_with (at_builtin; refine Lib.wpList_append_run _ rfl _ _ _ _ rfl _ _ rfl rfl _ _ (hrz _) ?_)
    all_goals (go_ret; exact ⟨rfl, rfl⟩)
  | some a =>
    obtain ⟨ab, ao, asp⟩ := a
    go_wp2_with (at_builtin; refine Lib.wpList_append_run _ rfl _ _ _ _ rfl _ _ rfl rfl _ _ (hrz _) ?_)
    all_goals (go_ret; exact ⟨rfl, rfl⟩)
theorem grown_own {B n G m : Nat} {w0 w : World} {xs cs : List Value} (hlow : Below B w0 w) (hB : B ≤ w.heap.size) (hx : xs.length = n) (hn : n ≤ G) (hG : G ≤ maxLen) (hm : cs.length + m ≤ G) (ht : cs.take n = xs) :
    Below B w0 (w.drew.alloc (.cells (cs.toArray ++ Builtin.zeroCells (Value.int .u64 0).cells m ++ Builtin.zeroCells (Value.int .u64 0).cells (G - (cs.length + m))) 28)) ∧
    (w.drew.alloc (.cells (cs.toArray ++ Builtin.zeroCells (Value.int .u64 0).cells m ++ Builtin.zeroCells (Value.int .u64 0).cells (G - (cs.length + m))) 28)).ownsRow B 28 1 (.slice (some ⟨w.heap.size, 0, none⟩) n G) n xs := by
  refine ⟨(below_drewn hlow 1).alloc hB _, by omega, .inr ⟨w.heap.size, G, _, rfl, hB, heap_alloc_new w.drew _, hn, hG, ?_, ?_⟩⟩
  · simp [size_zeroCells, Value.cells]
    omega
  · have h2 : n ≤ cs.length := by
      rw [← hx, ← ht, List.length_take]
      omega
    simp only [Array.toList_append, Nat.mul_one]
    rw [List.append_assoc, List.take_append_of_le_length (by simpa using h2)]
    exact ht
theorem grow_walk {B : Nat} {w0 w : World} {v : Value} {ks : List Nat} (h : KO B w0 w v ks) (hB : B ≤ w.heap.size) (n : Nat) (hn : n ≤ 100000000) (hl : ks.length ≤ 100000000) :
    Calls Try.prog 49 #[v, .int .i64 n] w fun e w' => ∃ v', e = .returned v' ∧ KO B w0 w' v' ks := by
  obtain ⟨hlow, hx, h2⟩ := h
  rcases h2 with ⟨rfl, h0⟩ | ⟨g, c, cur, rfl, hBg, hg, hle, hc, hsz, htk⟩
  · obtain rfl : ks = [] := List.length_eq_zero_iff.1 h0
    rcases Nat.eq_zero_or_pos n with rfl | hp
    · refine (grow_room none 0 0 0 w (by omega) (by unfold maxLen; omega) (by omega) (by omega)).mono ?_
      rintro e w' ⟨rfl, rfl⟩
      exact ⟨_, rfl, KO.nil hlow⟩
    · refine (grow_new none 0 0 n [] w (by omega) (by omega) (by omega) rfl (fun _ => rfl) (fun a e => by cases e)).mono ?_
      rintro e w' ⟨rfl, rfl⟩
      have hG := grownCap_ge w (0 + n) 0 28
      have hG2 := grownCap_le_maxLen w (0 + n) 0 28 (by unfold maxLen; omega)
      obtain ⟨h3, h4⟩ := grown_own (n := 0) (m := 0 + n - 0) (xs := []) (cs := []) hlow hB rfl (Nat.zero_le _) hG2 (by simpa using hG) rfl
      refine ⟨_, rfl, ⟨?_, ?_⟩⟩
      · simpa using h3
      · simpa [u64L] using h4
  · by_cases hr : ks.length + n ≤ c
    · refine (grow_room (some ⟨g, 0, none⟩) ks.length c n w hle hc (by omega) hr).mono ?_
      rintro e w' ⟨rfl, rfl⟩
      exact ⟨_, rfl, ⟨hlow, hx, .inr ⟨g, c, cur, rfl, hBg, hg, hle, hc, hsz, htk⟩⟩⟩
    · have hcl : cur.toList.length = c := by simpa using hsz
      refine (grow_new (some ⟨g, 0, none⟩) ks.length c n cur.toList w hle (by omega) (by omega) hcl (fun e => by cases e) (fun a e j u hj => ?_)).mono ?_
      · injection e with e
        subst e
        have := (head_row hg).cell (i := j) (by have := (List.getElem?_eq_some_iff.1 hj).1; simpa using this)
        rw [Addr.add_lit, Nat.zero_add, this]
        rw [Array.getElem?_toList] at hj
        simp [Array.getD_eq_getD_getElem?, hj]
      rintro e w' ⟨rfl, rfl⟩
      have hG := grownCap_ge w (ks.length + n) c 28
      have hG2 := grownCap_le_maxLen w (ks.length + n) c 28 (by unfold maxLen; omega)
      obtain ⟨h3, h4⟩ := grown_own (n := ks.length) (m := ks.length + n - c) (xs := u64L ks) (cs := cur.toList) hlow hB (by simp [u64L]) (Nat.le_trans (by omega) hG) hG2 (by rw [hcl]; omega) (by simpa using htk)
      rw [hcl, show c + (ks.length + n - c) = ks.length + n by omega] at h3 h4
      exact ⟨_, rfl, ⟨h3, h4⟩⟩
section
variable {w0 w : World} {u v : Value} {ks js : List Nat}
def OthP (w0 : World) (ks : List Nat) (e : Ending) (w' : World) : Prop := ∃ v', e = .returned v' ∧ KO w0.heap.size w0 w' v' ks
set_option maxHeartbeats 100000000 in
end
end Go.Proofs.Ytkhikpnlpcankaa
