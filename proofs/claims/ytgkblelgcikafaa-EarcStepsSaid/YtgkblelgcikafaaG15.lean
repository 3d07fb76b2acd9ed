/- Words and walks: ErT SsKo SqJ SqP1 PoC PoP PoS. -/
import Derived.Test.YtgkblelgcikafaaG0
import Derived.Test.YtgkblelgcikafaaG1
import Derived.Test.YtgkblelgcikafaaG12
import Derived.Test.YtgkblelgcikafaaG14
import Derived.Lib.AppendZerosOnto
namespace Go.Proofs.Ytgkblelgcikafaa
open Go Go.RowKit Go.Deep
def StyB (w : World) (g : Nat) : Prop := ∃ cs t f, w.heap[g]? = some (.cells cs t f) ∧ okT t = false
def Sty (w w' : World) : Prop := ∀ g, StyB w g → w'.heap[g]? = w.heap[g]?
theorem StyB.lt {w : World} {g : Nat} (h : StyB w g) : g < w.heap.size := by
  obtain ⟨cs, t, f, h, _⟩ := h
  exact (Array.getElem?_eq_some_iff.1 h).1
theorem StyB.not {w : World} {g : Nat} (h : StyB w g) (hn : NP w g) : False := by
  obtain ⟨cs, t, f, h, ht⟩ := h
  exact hn.not h ht
theorem StyB.row {w : World} {g n : Nat} {t : TypeId} {f : Nat → Value} (hr : w.rowIs g t n f) (ht : okT t = false) : StyB w g := by
  obtain ⟨c, hc, _⟩ := hr
  exact ⟨c, t, _, hc, ht⟩
theorem Sty.refl (w : World) : Sty w w := fun _ _ => rfl
theorem Sty.below {w w' : World} (h : Below w.heap.size w w') : Sty w w' := fun g hg => h.block g hg.lt
theorem Kt.sty {e : TypeId} {w w' : World} (h : Kt e w w') (he : okT e = true := by decide) : Sty w w' := fun g hg => by
  obtain ⟨cs, t, f, hg, ht⟩ := hg
  exact (h g cs t f hg (fun q => by rw [q, he] at ht; cases ht)).trans hg.symm
section
variable {w0 w w' : World} {K K' : List Nat}
theorem HeldL.footT {p b : Nat} {x : LSt} (h : HeldL w0 w p b x K) : ∃ F, FootH w0 w p b x F ∧ (∀ k ∈ F, k ∉ K) ∧ ∀ k ∈ F, StyB w k := by
  obtain ⟨e, h1, h2, h3, h4, h5, h6, h7, h8⟩ := h.mem
  obtain ⟨s, f, m1, m2, m3, kb, ks, kf, ha⟩ := h1.mem
  have q1 := ha.ltb
  have q2 := ha.lts
  have q3 := ha.ltf
  have q4 := h1.old p (by simp)
  have q5 := h1.old e (by simp)
  simp only [List.mem_cons, not_or] at kb ks kf
  refine ⟨[p, e, b, s, f], ⟨fun k hk => ?_, fun w' hb hk K' hK => ?_⟩, fun k hk => ?_, fun k hk => ?_⟩
  · simp only [List.mem_cons, List.not_mem_nil, or_false] at hk
    rcases hk with rfl | rfl | rfl | rfl | rfl <;> omega
  · have g0 := hk p (by simp)
    have g1 := hk e (by simp)
    have g2 := hk b (by simp)
    have g3 := hk s (by simp)
    have g4 := hk f (by simp)
    have hn := fun k hkK => (hK k hkK).2
    refine ⟨h.small, h.one, h.eight, e, ⟨hb, h1.ok, fun k hk' => ?_, s, f, m1, m2, m3, ?_, ?_, ?_, ha.blocks g2.1 g3.1 g4.1⟩, h2, h3, h4, fun q => hn p q (by simp), fun q => hn e q (by simp), g0.1.trans h7, h8.of_block g1.1⟩
    · rcases List.mem_cons.1 hk' with rfl | hk'
      · exact g0.2
      · rcases List.mem_cons.1 hk' with rfl | hk'
        · exact g1.2
        · exact (hK k hk').1
    · simp only [List.mem_cons, not_or]
      exact ⟨kb.1, kb.2.1, fun q => hn b q (by simp)⟩
    · simp only [List.mem_cons, not_or]
      exact ⟨ks.1, ks.2.1, fun q => hn s q (by simp)⟩
    · simp only [List.mem_cons, not_or]
      exact ⟨kf.1, kf.2.1, fun q => hn f q (by simp)⟩
  · simp only [List.mem_cons, List.not_mem_nil, or_false] at hk
    rcases hk with rfl | rfl | rfl | rfl | rfl
    · exact h5
    · exact h6
    · exact kb.2.2
    · exact ks.2.2
    · exact kf.2.2
  · simp only [List.mem_cons, List.not_mem_nil, or_false] at hk
    rcases hk with rfl | rfl | rfl | rfl | rfl
    · exact ⟨_, _, _, h7, by decide⟩
    · exact StyB.row h8 (by decide)
    · exact ⟨_, _, _, ha.head, by decide⟩
    · exact StyB.row ha.slots (by decide)
    · obtain ⟨F, hF, _⟩ := ha.freed
      exact StyB.row hF (by decide)
theorem HX.footT {ix : Nat} {T : Tb} (h : HX w0 w ix T K) : ∃ G, FootX w0 w ix T G ∧ (∀ k ∈ G, k ∉ K) ∧ ∀ k ∈ G, StyB w k := by
  obtain ⟨g, h1, h2, h3, h4, h5⟩ := h.mem
  have q1 := h5.plt
  have q2 := h5.lt
  refine ⟨[ix, g], ⟨fun k hk => ?_, fun w' hb hk K' hK => ?_⟩, fun k hk => ?_, fun k hk => ?_⟩
  · simp only [List.mem_cons, List.not_mem_nil, or_false] at hk
    rcases hk with rfl | rfl <;> omega
  · have g0 := hk ix (by simp)
    have g1 := hk g (by simp)
    refine ⟨hb, h.good, h.keys, fun k hk' => (hK k hk').1, g, h1, h2, fun q => (hK ix q).2 (by simp), fun q => (hK g q).2 (by simp), ⟨g0.1.trans h5.tab, ?_⟩⟩
    obtain ⟨N, F, hF, hN, hv⟩ := h5.row
    exact ⟨N, F, hF.of_block g1.1, hN, hv⟩
  · simp only [List.mem_cons, List.not_mem_nil, or_false] at hk
    rcases hk with rfl | rfl
    · exact h3
    · exact h4
  · simp only [List.mem_cons, List.not_mem_nil, or_false] at hk
    rcases hk with rfl | rfl
    · exact ⟨_, _, _, h5.tab, by decide⟩
    · obtain ⟨N, F, hF, hN, hv⟩ := h5.row
      exact StyB.row hF (by decide)
def StyK (K : List Nat) (w w' : World) : Prop := ∀ g, StyB w g → g ∉ K → w'.heap[g]? = w.heap[g]?
theorem Sty.k (h : Sty w w') (K : List Nat) : StyK K w w' := fun g hg _ => h g hg
theorem SQ.sty {p b ix n : Nat} {l : Nat → List Nat} {A : St} {T : Tb} (h : SQ w0 w p b ix n l A T K) (hb : Below w0.heap.size w0 w') (hs : StyK K w w') (hz : w.heap.size ≤ w'.heap.size) (hK : ∀ k ∈ K', k < w'.heap.size ∧ (k ∈ K ∨ ¬ StyB w k)) : SQ w0 w' p b ix n l A T K' := by
  obtain ⟨x, F, G, h⟩ := h
  obtain ⟨F1, f1, f2, f3⟩ := h.heldl.footT
  have h2 : HX w0 w ix T (F1 ++ K) := h.fx.held w h.below (fun k hk => ⟨rfl, (h.fx.old k hk).2⟩) _ (fun k hk => by
    rcases List.mem_append.1 hk with q | q
    · exact ⟨(f1.old k q).2, fun q2 => f2 k q (by simp [q2])⟩
    · exact ⟨h.dK k q, fun q2 => h.dG k q2 q⟩)
  obtain ⟨G1, g1, g2, g3⟩ := h2.footT
  refine ⟨x, F1, G1, hb, f1.keep (fun k hk => ⟨hs k (f3 k hk) (fun q => f2 k hk (by simp [q])), Nat.lt_of_lt_of_le (f1.old k hk).2 hz⟩), h.lok, h.xn, h.al, g1.keep (fun k hk => ⟨hs k (g3 k hk) (fun q => g2 k hk (by simp [q])), Nat.lt_of_lt_of_le (g1.old k hk).2 hz⟩), fun k hk => ⟨fun q => g2 k q (by simp [hk]), fun q => ?_⟩, fun k hk q => ?_, fun k hk => (hK k hk).1⟩
  · rcases (hK k q).2 with q | q
    · exact f2 k hk (by simp [q])
    · exact q (f3 k hk)
  · rcases (hK k q).2 with q | q
    · exact g2 k hk (by simp [q])
    · exact q (g3 k hk)
theorem SM.sty {sp n : Nat} {l : Nat → List Nat} {A : St} {T : Tb} (h : SM w0 w sp n l A T K) (hb : Below w0.heap.size w0 w') (hs : StyK K w w') (hz : w.heap.size ≤ w'.heap.size) (hK : ∀ k ∈ K', k < w'.heap.size ∧ (k ∈ K ∨ ¬ StyB w k)) : SM w0 w' sp n l A T K' := by
  obtain ⟨p, b, ix, h1, h2, h3, h4⟩ := h
  have hsp : StyB w sp := ⟨_, _, _, h1, by decide⟩
  refine ⟨p, b, ix, (hs sp hsp h4).trans h1, h2.sty hb (fun g hg hn => hs g hg (fun q => hn (by simp [q]))) hz (fun k hk => ?_), h3, fun q => ?_⟩
  · rcases List.mem_cons.1 hk with rfl | hk
    · exact ⟨Nat.lt_of_lt_of_le hsp.lt hz, .inl (by simp)⟩
    · exact ⟨(hK k hk).1, (hK k hk).2.imp (fun q => by simp [q]) id⟩
  · exact (hK sp q).2.elim h4 (fun q => q hsp)
theorem SI.styK {sp n : Nat} {Q : Nat → List Ent} {m : Nat} {U : Tb} {most : Nat} (h : SI w0 w sp n Q m U most K) (hb : Below w0.heap.size w0 w') (hs : StyK K w w') (hz : w.heap.size ≤ w'.heap.size) (hK : ∀ k ∈ K', k < w'.heap.size ∧ (k ∈ K ∨ ¬ StyB w k)) : SI w0 w' sp n Q m U most K' := by
  obtain ⟨l, A, T, E, h1, h2⟩ := h
  exact ⟨l, A, T, E, h1.sty hb hs hz hK, h2⟩
theorem SI.sty {sp n : Nat} {Q : Nat → List Ent} {m : Nat} {U : Tb} {most : Nat} (h : SI w0 w sp n Q m U most K) (hb : Below w0.heap.size w0 w') (hs : Sty w w') (hz : w.heap.size ≤ w'.heap.size) (hK : ∀ k ∈ K', k < w'.heap.size ∧ (k ∈ K ∨ ¬ StyB w k)) : SI w0 w' sp n Q m U most K' := h.styK hb (hs.k K) hz hK
theorem SI.room {sp n : Nat} {Q : Nat → List Ent} {m : Nat} {U : Tb} {most : Nat} (h : SI w0 w sp n Q m U most K) : sumE Q n < m ∧ sumE Q n ≤ U.n := by
  obtain ⟨l, A, T, E, h1, h2⟩ := h
  have e1 := h2.live
  have e2 := h2.ok.room
  have e3 := h2.room
  have e4 := h2.cnt
  have e5 := h2.good.room
  have e6 := h2.sim.n
  omega
end
theorem ownsRow_low {w : World} {base base' size n : Nat} {e : TypeId} {v : Value} {xs : List Value} (h : w.ownsRow base e size v n xs) (hb : base' ≤ base) : w.ownsRow base' e size v n xs :=
  ⟨h.1, h.2.imp id (fun ⟨g, cap, cur, e1, e2, rest⟩ => ⟨g, cap, cur, e1, Nat.le_trans hb e2, rest⟩)⟩
section
variable {w0 w : World} {sp n m most : Nat} {l : Nat → List Nat} {A : St} {T U : Tb} {Q : Nat → List Ent} {K : List Nat}
def KeysOwn (w : World) (ks : List Nat) (e : Ending) (w' : World) : Prop := ∃ v, e = .returned v ∧ Below w.heap.size w w' ∧ w'.ownsRow w.heap.size 31 1 v ks.length (k64 ks)
set_option maxHeartbeats 1000000 in
theorem pkeys_own (h : SM w0 w sp n l A T K) (ft : Fit A T) (tag : Int) (E : Nat → Ent) (hE : ∀ i, (A.node i).key = (E i).key) :
    Calls Try.prog 38 #[ptr sp, .int .i64 tag] w (KeysOwn w ((allL n l tag).map (fun i => (E i).key))) := by
  obtain ⟨p, b, ix, hc, hq, _, _⟩ := h
  have HO := Lib.hid (open_walk hc)
  have HAL := Lib.hid (fun (W : World) (hb : Below w.heap.size w W) => sq_all (hq.still hb).1 tag)
  have HXI : Hid (∀ x ∈ allL n l tag, (x : Int) ≤ 2147483647 ∧ (A.at_ x).key = (E x).key) := Lib.hid (fun x hx => by
    unfold allL at hx
    cases hh : hasT n tag
    · rw [hh] at hx; simp at hx
    · rw [hh, if_pos rfl] at hx
      obtain ⟨t, rfl, ht⟩ := hasT_nat hh
      have q := hq.in32 ft.an ht (by simpa using hx)
      exact ⟨q.1, by rw [q.2.2]; exact hE x⟩)
  have HAT := Lib.hid (fun (W : World) (hb : Below w.heap.size w W) (i : Int) (h32 : i ≤ 2147483647) => sq_at (hq.still hb).1 i h32)
  have hxl := hq.allLen tag
  obtain ⟨xs, hxs⟩ : ∃ xs, allL n l tag = xs := ⟨_, rfl⟩
  rw [hxs] at HAL HXI hxl ⊢
  obtain ⟨ks, hks⟩ : ∃ ks, xs.map (fun i => (E i).key) = ks := ⟨_, rfl⟩
  have HKS : Hid (ks.length = xs.length ∧ ∀ i (hi : i < xs.length) (hi' : i < ks.length), ks[i] = (E xs[i]).key) := Lib.hid (by subst hks; exact ⟨by simp, fun i hi _ => by simp⟩)
  rw [hks]
  clear hc hq ft hxs hks hE
  go_enter Try.func38, Try.ntmps38
  go_wp2_with fail
  refine HO.out.mono ?_
  rintro e w1 ⟨rfl, hb⟩
  have HB2 := Lib.hid (hb.alloc hb.size (.cells (partsC p n b ix) 80))
  have hbx := heap_alloc_new w1 (.cells (partsC p n b ix) 80)
  have HBX := Lib.hid hbx
  clear hb hbx
  go_wp2_with fail
  refine (HAL.out _ HB2.out).mono ?_
  rintro e w2 ⟨v, rfl, hrow, hb2⟩
  obtain ⟨F, c, rfl, hcells⟩ := rows32 hrow
  have HCE := Lib.hid hcells
  have HB3 := Lib.hid (HB2.out.trans (hb2.mono HB2.out.size))
  have HBX2 := Lib.hid ((hb2.block w1.heap.size (by simp)).trans HBX.out)
  have hw12 : w1.heap.size < w2.heap.size := by have := hb2.size; simp at this; omega
  clear hrow hcells hb2
  go_wp2_with fail
  go_loopg [6, 16] xs.length (fun gg s6 s16 wr => ∃ (i : Nat) (v5 : Value), i + gg = xs.length ∧ v5 = s6 ∧ s16 = .int .i64 (i : Nat) ∧ Hid (Below w2.heap.size w2 wr ∧ wr.ownsRow w2.heap.size 31 1 v5 i (k64 (ks.take i))))
  case atStart => exact ⟨0, _, by omega, rfl, rfl, Lib.hid ⟨Below.refl _ _, World.ownsRow_nil _ _ _ _⟩⟩
  case round =>
    obtain ⟨i, v5, hi, rfl, rfl, HI⟩ := hrel
    have hsz := HI.out.1.size
    obtain ⟨⟨c0, c1, c2, c3⟩, _⟩ := q4_at ((HI.out.1.block w1.heap.size hw12).trans HBX2.out)
    by_cases hlt : i < xs.length
    · have hltI : (i : Int) < (xs.length : Int) := by omega
      obtain ⟨g, hF, q0⟩ := HCE.out wr HI.out.1 i hlt
      subst hF
      obtain ⟨x, hx⟩ : ∃ x, xs[i] = x := ⟨_, rfl⟩
      have hxi := HXI.out _ (List.getElem_mem hlt)
      have hik : i < ks.length := by rw [HKS.out.1]; exact hlt
      have hkx := HKS.out.2 i hlt hik
      rw [hx] at q0 hxi hkx
      obtain ⟨kx, hkk⟩ : ∃ kx, ks[i] = kx := ⟨_, rfl⟩
      have HAP : Hid (k64 (ks.take i) ++ [.int .u64 (kx : Nat)] = k64 (ks.take (i + 1))) := Lib.hid (by
        rw [List.take_succ_eq_append_getElem hik, hkk]
        simp [k64])
      have HKX : Hid ((A.at_ (x : Nat)).key = ((kx : Nat) : Int)) := Lib.hid (by rw [hxi.2, ← hkk, hkx])
      have hx32 := hxi.1
      have HAX := Lib.hid (HAT.out wr (HB3.out.trans (HI.out.1.mono HB3.out.size)) x hx32)
      have HOW0 := Lib.hid HI.out.2
      have HBW := Lib.hid HI.out.1
      clear hx hxi hkx hkk HI
      go_wp2_with fail
      refine HAX.out.mono ?_
      rintro e w4 ⟨y, rfl, hy, hb4⟩
      have hyk : y.key = (kx : Nat) := by rw [hy.node.1]; exact HKX.out
      have hfld : ∀ w : World, (Instr.field 91 y.v 0).run Try.prog w = .ok (.int .u64 (kx : Nat)) w := fun w => by
        have e : (Instr.field 91 y.v 0).run Try.prog w = .ok (.int .u64 y.key) w := by kernel_rfl
        rw [e, hyk]
      have HOW4 := Lib.hid (ownsRow_block HOW0.out (fun k _ hk => hb4.block k hk))
      have HB4 := Lib.hid (HBW.out.trans (hb4.mono hsz))
      have hsz4 : w2.heap.size ≤ w4.heap.size := by have := hb4.size; omega
      have HOW := Lib.hid (HOW4.out.alloc (.cells #[.int .u64 (kx : Nat)] 31))
      have HALL := Lib.hid ((Below.refl w2.heap.size w4).alloc hsz4 (.cells #[.int .u64 (kx : Nat)] 31))
      have hnew : (w4.alloc (.cells #[.int .u64 (kx : Nat)] 31)).cell? ⟨w4.heap.size, 0, none⟩ = some (.int .u64 (kx : Nat)) := (head_row (heap_alloc_new w4 (.cells #[.int .u64 (kx : Nat)] 31))).cell (i := 0) (by simp)
      have HSRC : Hid ((some (⟨w4.heap.size, 0, none⟩ : Addr) = none ∧ 1 = 0 ∧ 1 = 0 ∧ [Value.int .u64 (kx : Nat)] = []) ∨ ∃ ad, some (⟨w4.heap.size, 0, none⟩ : Addr) = some ad ∧ [Value.int .u64 (kx : Nat)].length = 1 * 1 ∧ ∀ j u, [Value.int .u64 (kx : Nat)][j]? = some u → (w4.alloc (.cells #[.int .u64 (kx : Nat)] 31)).cell? (ad.add j) = some u) := Lib.hid (.inr ⟨_, rfl, rfl, fun j u hu => by
        match j with
        | 0 => rw [Addr.add_lit, Nat.zero_add, hnew]; simpa using hu
        | j + 1 => simp at hu⟩)
      have H1C : Hid (∀ u ∈ [Value.int .u64 (kx : Nat)], u.oneCell' = true) := Lib.hid (by simp [Value.oneCell'])
      have hszA : w2.heap.size ≤ (w4.alloc (.cells #[.int .u64 (kx : Nat)] 31)).heap.size := by simp; omega
      clear hnew hyk hy hb4 c0 c1 c2 c3 q0
      go_wp2_with (at_builtin; refine wpList_append_src rfl (.tmp 20) (.tmp 26) 26 rfl w2.heap.size 31 (.int .u64 0) 1 8 (by kernel_rfl) (by kernel_rfl) rfl (by decide) v5 i _ rfl HOW.out (some ⟨w4.heap.size, 0, none⟩) 1 1 [.int .u64 (kx : Nat)] rfl HSRC.out H1C.out (by omega) (by omega) hszA ?_)
      intro v6 w6 hown6 hgrow6
      have hb6 := below_grown HALL.out HOW.out hgrow6 hszA
      rw [HAP.out] at hown6
      have HN := Lib.hid (And.intro (HB4.out.trans hb6) hown6)
      clear hown6 hgrow6 hb6 hfld
      go_wp2
      go_roundg (gk - 1)
      case measure => omega
      case rel => exact ⟨i + 1, v6, by omega, rfl, by go_num, HN⟩
    · have hltI : ¬ (i : Int) < (xs.length : Int) := by omega
      obtain rfl : i = xs.length := by omega
      have hfin := HI.out.2
      have hlm : xs.length = ks.length := HKS.out.1.symm
      rw [hlm, List.take_length] at hfin
      have HK := Lib.hid (ownsRow_low (base' := w.heap.size) hfin HB3.out.size)
      have HB := Lib.hid (HB3.out.trans (HI.out.1.mono HB3.out.size))
      clear hfin hlm c0 c1 c2 c3
      go_wp2
      go_ret
      exact ⟨_, rfl, HB.out, HK.out⟩
theorem si_keys_own (h : SI w0 w sp n Q m U most K) (hm : most ≤ 10000) (q : Int) :
    Calls Try.prog 38 #[ptr sp, .int .i64 q] w (KeysOwn w ((qI n Q q).map Ent.key)) := by
  obtain ⟨l, A, T, E, h1, h2⟩ := h
  obtain ⟨a, _⟩ := h1.ap
  rw [(qI_len h2 q).2, List.map_map]
  exact pkeys_own h1 (h2.fit a hm) q E (fun i => (h2.node i).1)
end

theorem grow_room (base : Option Addr) (l c n : Nat) (w : World) (hlc : l ≤ c) (hc : c ≤ maxLen) (hn : n ≤ 1000000000) (hroom : l + n ≤ c) :
    Calls Try.prog 60 #[.slice base l c, .int .i64 n] w fun e w' => e = .returned (.slice base l c) ∧ w' = w := by
  unfold maxLen at hc
  have h1 : ¬ ((n : Int) < 0) := by omega
  have h2 : wrap64 ((c : Int) - (l : Int)) = (c : Int) - (l : Int) := by unfold wrap64; omega
  have h3 : wrap64 ((n : Int) - ((c : Int) - (l : Int))) = (n : Int) - ((c : Int) - (l : Int)) := by unfold wrap64; omega
  have h4 : ¬ ((n : Int) - ((c : Int) - (l : Int)) > 0) := by omega
  go_enter Try.func60, Try.ntmps60
  go_wp2
  go_ret
  exact ⟨rfl, rfl⟩
set_option maxHeartbeats 2000000 in
set_option maxRecDepth 4000 in
theorem grow_new (base : Option Addr) (l c n : Nat) (cs : List Value) (w : World) (hlc : l ≤ c) (hroom : c < l + n) (hbig : l + n ≤ 1000000000) (hcl : cs.length = c) (hnil : base = none → c = 0)
    (hcs : ∀ a, base = some a → ∀ j v, cs[j]? = some v → w.cell? (a.add j) = some v) :
    Calls Try.prog 60 #[.slice base l c, .int .i64 n] w fun e w' =>
      e = .returned (.slice (some ⟨w.heap.size, 0, none⟩) l (grownCap w (l + n) c 31)) ∧
      w' = w.drew.alloc (.cells (cs.toArray ++ Builtin.zeroCells (Value.int .u64 0).cells (l + n - c) ++ Builtin.zeroCells (Value.int .u64 0).cells (grownCap w (l + n) c 31 - (l + n))) 31) := by
  have hinfo : (Try.prog.info? 31).map (fun i => (i.zero, i.size, i.bytes)) = some (some (.int .u64 0), 1, 8) := by kernel_rfl
  obtain ⟨i0, hi0, hz0, hs0, hby⟩ := info_parts hinfo
  have ht : Try.prog.underlying 26 = some (.slice 31) := by kernel_rfl
  have htn : Try.prog.underlying 3 = some (.int .i64) := by kernel_rfl
  have hck : c + (l + n - c) = l + n := by omega
  have hold : (Builtin.firstCells i0.size c (.slice base c c)).run Try.prog w.drew = .ok cs.toArray w.drew := by
    rw [hs0]
    cases base with
    | none =>
      have h0 := hnil rfl
      subst h0
      obtain rfl : cs = [] := List.length_eq_zero_iff.1 hcl
      exact run_firstCells_none w.drew 1 0 0 0
    | some a => exact run_firstCells_some w.drew 1 c a c c cs (by omega) (fun j v hj => hcs a rfl j v hj)
  have hrz : ∀ ty, (Builtin.append_ #[26, 3] ty #[.slice base c c, .int .i64 ((n : Int) - ((c : Int) - (l : Int)))]).run Try.prog w =
      .ok (.slice (some ⟨w.heap.size, 0, none⟩) (l + n) (grownCap w (l + n) c 31)) (w.drew.alloc (.cells (cs.toArray ++ Builtin.zeroCells (Value.int .u64 0).cells (l + n - c) ++ Builtin.zeroCells (Value.int .u64 0).cells (grownCap w (l + n) c 31 - (l + n))) 31)) := fun ty => by
    have h := Lib.run_append_grow_zeros w 26 3 ty 31 i0 (.int .u64 0) .i64 .i64 ht htn hi0 hz0 base c c cs hold (l + n - c) (by omega) (by omega) (by omega) (by omega)
      (by rw [hby]; omega) (by rw [hck, hby]; exact growslice_fits hroom (by omega))
    rw [hck] at h
    rw [show (n : Int) - ((c : Int) - (l : Int)) = ((l + n - c : Nat) : Int) by omega]
    exact h
  have hGn : l + n ≤ grownCap w (l + n) c 31 := grownCap_ge w _ _ _
  have hG63 : grownCap w (l + n) c 31 ≤ maxLen := grownCap_le_maxLen w (l + n) c 31 (by unfold maxLen; omega)
  unfold maxLen at hG63
  have h1 : ¬ ((n : Int) < 0) := by omega
  have h2 : wrap64 ((c : Int) - (l : Int)) = (c : Int) - (l : Int) := by unfold wrap64; omega
  have h3 : wrap64 ((n : Int) - ((c : Int) - (l : Int))) = (n : Int) - ((c : Int) - (l : Int)) := by unfold wrap64; omega
  have h4 : (n : Int) - ((c : Int) - (l : Int)) > 0 := by omega
  generalize grownCap w (l + n) c 31 = G at hrz hGn hG63 ⊢
  clear hold hck hcs hcl hi0 hz0 hs0 hby hinfo i0
  go_enter Try.func60, Try.ntmps60
  cases base with
  | none =>
    obtain rfl : c = 0 := hnil rfl
    obtain rfl : l = 0 := by omega
    go_wp2_with (at_builtin; refine Lib.wpList_append_run _ rfl _ _ _ _ rfl _ _ rfl rfl _ _ (hrz _) ?_)
    all_goals (go_ret; exact ⟨rfl, rfl⟩)
  | some a =>
    obtain ⟨ab, ao, asp⟩ := a
    go_wp2_with (at_builtin; refine Lib.wpList_append_run _ rfl _ _ _ _ rfl _ _ rfl rfl _ _ (hrz _) ?_)
    all_goals (go_ret; exact ⟨rfl, rfl⟩)
theorem grown_own {B n G m : Nat} {w0 w : World} {xs cs : List Value} (hlow : Below B w0 w) (hB : B ≤ w.heap.size) (hx : xs.length = n) (hn : n ≤ G) (hG : G ≤ maxLen) (hm : cs.length + m ≤ G) (ht : cs.take n = xs) :
    Below B w0 (w.drew.alloc (.cells (cs.toArray ++ Builtin.zeroCells (Value.int .u64 0).cells m ++ Builtin.zeroCells (Value.int .u64 0).cells (G - (cs.length + m))) 31)) ∧
    (w.drew.alloc (.cells (cs.toArray ++ Builtin.zeroCells (Value.int .u64 0).cells m ++ Builtin.zeroCells (Value.int .u64 0).cells (G - (cs.length + m))) 31)).ownsRow B 31 1 (.slice (some ⟨w.heap.size, 0, none⟩) n G) n xs := by
  refine ⟨(below_drewn hlow 1).alloc hB _, by omega, .inr ⟨w.heap.size, G, _, rfl, hB, heap_alloc_new w.drew _, hn, hG, ?_, ?_⟩⟩
  · simp [size_zeroCells, Value.cells]
    omega
  · have h2 : n ≤ cs.length := by
      rw [← hx, ← ht, List.length_take]
      omega
    simp only [Array.toList_append, Nat.mul_one]
    rw [List.append_assoc, List.take_append_of_le_length (by simpa using h2)]
    exact ht
theorem grow_walk {B : Nat} {w0 w : World} {v : Value} {ks : List Nat} (h : KO B w0 w v ks) (hB : B ≤ w.heap.size) (n : Nat) (hn : n ≤ 100000000) (hl : ks.length ≤ 100000000) :
    Calls Try.prog 60 #[v, .int .i64 n] w fun e w' => ∃ v', e = .returned v' ∧ KO B w0 w' v' ks := by
  obtain ⟨hlow, hx, h2⟩ := h
  rcases h2 with ⟨rfl, h0⟩ | ⟨g, c, cur, rfl, hBg, hg, hle, hc, hsz, htk⟩
  · obtain rfl : ks = [] := List.length_eq_zero_iff.1 h0
    rcases Nat.eq_zero_or_pos n with rfl | hp
    · refine (grow_room none 0 0 0 w (by omega) (by unfold maxLen; omega) (by omega) (by omega)).mono ?_
      rintro e w' ⟨rfl, rfl⟩
      exact ⟨_, rfl, KO.nil hlow⟩
    · refine (grow_new none 0 0 n [] w (by omega) (by omega) (by omega) rfl (fun _ => rfl) (fun a e => by cases e)).mono ?_
      rintro e w' ⟨rfl, rfl⟩
      have hG := grownCap_ge w (0 + n) 0 31
      have hG2 := grownCap_le_maxLen w (0 + n) 0 31 (by unfold maxLen; omega)
      obtain ⟨h3, h4⟩ := grown_own (n := 0) (m := 0 + n - 0) (xs := []) (cs := []) hlow hB rfl (Nat.zero_le _) hG2 (by simpa using hG) rfl
      refine ⟨_, rfl, ⟨?_, ?_⟩⟩
      · simpa using h3
      · simpa [u64L] using h4
  · by_cases hr : ks.length + n ≤ c
    · refine (grow_room (some ⟨g, 0, none⟩) ks.length c n w hle hc (by omega) hr).mono ?_
      rintro e w' ⟨rfl, rfl⟩
      exact ⟨_, rfl, ⟨hlow, hx, .inr ⟨g, c, cur, rfl, hBg, hg, hle, hc, hsz, htk⟩⟩⟩
    · have hcl : cur.toList.length = c := by simpa using hsz
      refine (grow_new (some ⟨g, 0, none⟩) ks.length c n cur.toList w hle (by omega) (by omega) hcl (fun e => by cases e) (fun a e j u hj => ?_)).mono ?_
      · injection e with e
        subst e
        have := (head_row hg).cell (i := j) (by have := (List.getElem?_eq_some_iff.1 hj).1; simpa using this)
        rw [Addr.add_lit, Nat.zero_add, this]
        rw [Array.getElem?_toList] at hj
        simp [Array.getD_eq_getD_getElem?, hj]
      rintro e w' ⟨rfl, rfl⟩
      have hG := grownCap_ge w (ks.length + n) c 31
      have hG2 := grownCap_le_maxLen w (ks.length + n) c 31 (by unfold maxLen; omega)
      obtain ⟨h3, h4⟩ := grown_own (n := ks.length) (m := ks.length + n - c) (xs := u64L ks) (cs := cur.toList) hlow hB (by simp [u64L]) (Nat.le_trans (by omega) hG) hG2 (by rw [hcl]; omega) (by simpa using htk)
      rw [hcl, show c + (ks.length + n - c) = ks.length + n by omega] at h3 h4
      exact ⟨_, rfl, ⟨h3, h4⟩⟩
section
variable {w0 w : World} {u v : Value} {ks js : List Nat}
def OthP (w0 : World) (ks : List Nat) (e : Ending) (w' : World) : Prop := ∃ v', e = .returned v' ∧ KO w0.heap.size w0 w' v' ks
set_option maxHeartbeats 100000000 in
end
set_option maxRecDepth 8000
theorem flat_take {kss : List (List Nat)} (i : Nat) : (kss.take i).flatten.length ≤ kss.flatten.length := by
  conv => rhs; rw [← List.take_append_drop i kss, List.flatten_append, List.length_append]
  omega
theorem flat_next {kss : List (List Nat)} {i : Nat} (hi : i < kss.length) : (kss.take (i + 1)).flatten = (kss.take i).flatten ++ kss[i] := by
  rw [List.take_succ_eq_append_getElem hi, List.flatten_append]
  simp
section
variable {w : World} {v : Value} {kss : List (List Nat)}
set_option maxHeartbeats 1000000 in
theorem concat_walk (h : KVV w v kss) (hl : kss.length ≤ 1000) (hl2 : kss.flatten.length ≤ 100000000) :
    Calls Try.prog 39 #[v] w (OwnK w kss.flatten) := by
  have HK := Lib.hid h
  obtain ⟨F, c, rfl, _⟩ := h.mem
  obtain ⟨nn, hnn⟩ : ∃ nn, kss.length = nn := ⟨_, rfl⟩
  have HNN := Lib.hid hnn
  rw [hnn] at hl HK ⊢
  have HE : Hid (∀ (W : World) (_ : Below w.heap.size w W) (i : Nat) (hi : i < kss.length), ∃ ad u, F = some ad ∧ W.cell? (ad.add i) = some u ∧ KV W u kss[i]) := Lib.hid (fun W hb i hi => by
    obtain ⟨F', c', e, h2⟩ := (HK.out.below hb).mem
    obtain ⟨ad, u, e2, _, h3, h4⟩ := h2 i hi
    injection e with e3 _ _
    exact ⟨ad, u, e3.trans e2, h3, h4⟩)
  clear h hnn HK
  go_enter Try.func39, Try.ntmps39
  go_wp2_with fail
  go_loopg [3, 11] nn (fun gg s3 s11 wr => ∃ i : Nat, i + gg = nn ∧ s3 = .int .i64 ((kss.take i).flatten.length : Nat) ∧ s11 = .int .i64 (i : Nat) ∧ w = wr)
  case atStart => exact ⟨0, by omega, by simp, rfl, rfl⟩
  case round =>
    obtain ⟨i, hi, rfl, rfl, rfl⟩ := hrel
    have hf1 := flat_take (kss := kss) i
    by_cases hlt : i < nn
    · have hltI : (i : Int) < (nn : Int) := by omega
      have hil : i < kss.length := by have := HNN.out; omega
      obtain ⟨ad, u, hF, q0, hk⟩ := HE.out w (Below.refl _ _) i hil
      subst hF
      obtain ⟨Fu, cu, rfl, _⟩ := hk.mem
      have hf2 := flat_take (kss := kss) (i + 1)
      have hn : (kss.take (i + 1)).flatten.length = (kss.take i).flatten.length + kss[i].length := by rw [flat_next hil, List.length_append]
      have HN := Lib.hid hn
      obtain ⟨a, ha⟩ : ∃ a, (kss.take i).flatten.length = a := ⟨_, rfl⟩
      obtain ⟨m, hm⟩ : ∃ m, kss[i].length = m := ⟨_, rfl⟩
      have hbd : (a : Int) + (m : Int) ≤ 100000000 := by omega
      have HX : Hid ((a : Int) + (m : Int) = ((kss.take (i + 1)).flatten.length : Nat)) := Lib.hid (by omega)
      have ha0 : (0 : Int) ≤ (a : Int) + (m : Int) := by omega
      have hng : ¬ ((a : Int) + (m : Int) < 0) := by omega
      rw [ha]
      rw [hm] at q0
      clear hf1 hf2 hn ha hm hk HN hlt
      go_wp2
      go_roundg (gk - 1)
      case measure => omega
      case rel => exact ⟨i + 1, by omega, by rw [← HX.out], by go_num, rfl⟩
    · have hltI : ¬ (i : Int) < (nn : Int) := by omega
      obtain rfl : i = nn := by omega
      have HFL : Hid (kss.take i = kss) := Lib.hid (List.take_of_length_le (by have := HNN.out; omega))
      rw [HFL.out] at hf1 ⊢
      have KG := Lib.hid (grow_walk (B := w.heap.size) (KO.nil (Below.refl w.heap.size w)) (Nat.le_refl _) kss.flatten.length hl2 (by simp))
      have HLL := Lib.hid hl2
      obtain ⟨a, ha⟩ : ∃ a, kss.flatten.length = a := ⟨_, rfl⟩
      rw [ha] at KG hl2 ⊢
      clear hf1 ha hlt
      go_wp2_with fail
      refine KG.out.mono ?_
      rintro e w1 ⟨v1, rfl, hk1⟩
      have HK1 := Lib.hid hk1
      clear hk1 KG
      go_wp2_with fail
      go_loopg [6, 27] i (fun gg s6 s27 wr => ∃ (j : Nat) (v6 : Value), j + gg = i ∧ v6 = s6 ∧ s27 = .int .i64 (j : Nat) ∧ Hid (KO w.heap.size w wr v6 (kss.take j).flatten))
      case atStart => exact ⟨0, _, by omega, rfl, rfl, Lib.hid (by simpa using HK1.out)⟩
      case round =>
        obtain ⟨j, v6, hj, rfl, rfl, HI⟩ := hrel
        by_cases hlt : j < i
        · have hltI2 : (j : Int) < (i : Int) := by omega
          have hjl : j < kss.length := by have := HNN.out; omega
          obtain ⟨ad, u, hF, q0, hk⟩ := HE.out wr HI.out.low j hjl
          subst hF
          have HKJ := Lib.hid hk
          have hf1 := flat_take (kss := kss) j
          have hf2 := flat_take (kss := kss) (j + 1)
          have hlen : (kss.take j).flatten.length + kss[j].length ≤ 1000000000 := by
            have h := congrArg List.length (flat_next hjl)
            rw [List.length_append] at h
            have := HLL.out
            omega
          have HNX := Lib.hid (flat_next hjl)
          have hszw := HI.out.low.size
          obtain ⟨Fu, cu, rfl, _⟩ := hk.mem
          obtain ⟨ys, hys⟩ : ∃ ys, (kss.take j).flatten = ys := ⟨_, rfl⟩
          obtain ⟨zs, hzs⟩ : ∃ zs, kss[j] = zs := ⟨_, rfl⟩
          rw [hys] at HI HNX hlen
          rw [hzs] at HKJ HNX hlen q0
          clear hf1 hf2 hys hzs hk
          go_wp2_with (at_builtin; refine wpList_append_kv rfl (.tmp 31) (.tmp 32) rfl w.heap.size (by kernel_rfl) (by kernel_rfl) v6 ys rfl HI.out _ zs rfl HKJ.out hlen hszw ?_)
          intro v7 w7 hown7 _ _
          rw [← HNX.out] at hown7
          have HN := Lib.hid hown7
          clear hown7 q0
          go_wp2
          go_roundg (gk - 1)
          case measure => omega
          case rel => exact ⟨j + 1, v7, by omega, rfl, by go_num, HN⟩
        · have hltI2 : ¬ (j : Int) < (i : Int) := by omega
          obtain rfl : j = i := by omega
          have hfin := HI.out
          rw [HFL.out] at hfin
          have HF := Lib.hid hfin
          clear hfin HI
          go_wp2
          go_ret
          exact ⟨_, rfl, HF.out⟩
end
def tailV (F : Option Addr) (n c i : Nat) : Value := .slice (if c = i then F else F.map (fun a => a.add i)) (n - i) (c - i)
theorem KV.tail {w : World} {F : Option Addr} {c : Nat} {ks : List Nat} (h : KV w (.slice F ks.length c) ks) {i : Nat} (hi : i ≤ ks.length) : KV w (tailV F ks.length c i) (ks.drop i) := by
  obtain ⟨hl, ⟨F', c', e, h1, h2, h3⟩, hnp⟩ := h
  injection e with e1 e2 e3
  subst e1 e3
  refine ⟨by simp [u64L], ⟨(if c = i then F else F.map (fun a => a.add i)), c - i, by simp [tailV], by simp; omega, fun hn => ?_, fun j u hj => ?_⟩, fun m c2 ad e1 => ?_⟩
  rotate_left 2
  · injection e1 with e1 e2 e3
    obtain ⟨n', hn'⟩ : ∃ n', ks.length = n' + 1 := ⟨ks.length - 1, by omega⟩
    cases F with
    | none => split at e1 <;> cases e1
    | some a =>
      have hb : ad.block = a.block := by
        split at e1
        · injection e1 with e1
          rw [e1]
        · have e4 : a.add i = ad := by injection e1
          rw [← e4, ad_block]
      rw [hb]
      exact hnp n' c a (by rw [hn'])
  · split at hn
    · omega
    · cases F with
      | none => have := h2 rfl; omega
      | some a => cases hn
  · have hd : (u64L ks)[i + j]? = some u := by
      simp only [u64L, List.map_drop, List.getElem?_drop] at hj ⊢
      exact hj
    obtain ⟨ad, rfl, h4, h5⟩ := h3 _ _ hd
    have hlt : i + j < ks.length := by
      have := (List.getElem?_eq_some_iff.1 hd).1
      simpa [u64L] using this
    rw [if_neg (by omega)]
    refine ⟨ad.add i, rfl, by rw [ad_block]; exact h4, ?_⟩
    rw [← h5]
    rw [Addr.add_add]
def Nw (B : Nat) (u v : Value) : Prop := ∀ n c ad, v = .slice (some ad) (n + 1) c → (∃ n' c', u = .slice (some ad) (n' + 1) c') ∨ B ≤ ad.block
theorem Nw.refl (B : Nat) (u : Value) : Nw B u u := fun n c _ h => .inl ⟨n, c, h⟩
theorem Nw.take (B : Nat) (F : Option Addr) {n k : Nat} (d : Nat) (hk : k ≤ n) : Nw B (.slice F n d) (.slice F k d) := fun m c ad h => by
  injection h with h1 h2 h3
  subst h1 h2 h3
  obtain ⟨j, rfl⟩ : ∃ j, n = j + 1 := ⟨n - 1, by omega⟩
  exact .inl ⟨j, _, rfl⟩
theorem Nw.trans {B B' : Nat} {u v x : Value} (h : Nw B u v) (h2 : Nw B' v x) (hB : B ≤ B') : Nw B u x := fun n c ad e => by
  rcases h2 n c ad e with ⟨n', c', e2⟩ | h3
  · exact h n' c' ad e2
  · exact .inr (Nat.le_trans hB h3)
theorem Nw.of_own {B B' : Nat} {w0 w : World} {v : Value} {ks : List Nat} (u : Value) (h : KO B' w0 w v ks) (hB : B ≤ B') : Nw B u v := fun n c ad e => by
  subst e
  have := (h.own.lt _ rfl).1
  exact .inr (by omega)
theorem Nw.off {B : Nat} {u v a : Value} (h : Nw B u v) (ho : Off u a) (ha : ∀ g, a.ownBlock = some g → g < B) : Off v a := fun n c ad e => by
  rcases h n c ad e with ⟨n', c', e2⟩ | h3
  · exact ho n' c' ad e2
  · intro e2
    have := ha _ e2
    omega
theorem KO.lt {B : Nat} {w0 w : World} {v : Value} {ks : List Nat} (h : KO B w0 w v ks) : ∀ g, v.ownBlock = some g → g < w.heap.size := fun _ hg => (h.own.lt _ hg).2
theorem step_append_kv {P : Program} {w : World} {ops : Array Oper} {o : Oper} {a : Act} {K : Act → World → Prop} {Q : Exit → Act → World → Prop} {E : Prop} (hgd : o.guard = none) (s x : Operand)
    (ho : o.op = .call { callee := .builtin .append, args := #[s, x], argTypes := #[26, 26] }) (base : Nat) (ht : P.underlying 26 = some (.slice 31))
    (hinfo : (P.info? 31).map (fun i => (i.zero, i.size, i.bytes)) = some (some (.int .u64 0), 1, 8))
    (v : Value) (ks : List Nat) (hs : a.eval s = v) {w0 : World} (hown : KO base w0 w v ks) (y : Value) (js : List Nat) (hx : a.eval x = y)
    (hsrc : KV w y js) (h63 : ks.length + js.length ≤ 1000000000) (hbase : base ≤ w.heap.size)
    (h : ∀ v' w', KO base w0 w' v' (ks ++ js) → K (a.put o.dst v') w') : if Region.wanted o (yielded ops a.tmps) = true then Oper.wp P o a w K Q else E := by
  obtain ⟨hl, ⟨F, c, rfl, h3, h4, h5⟩⟩ := hsrc
  refine step_append_src hgd s x 26 ho base 31 (.int .u64 0) 1 8 ht hinfo rfl (by decide) v ks.length (u64L ks) hs hown.own F js.length c (u64L js) hx ?_ (u64L_one js) (by omega) h63 hbase
    (fun v' w' h1 h2 => h v' w' ⟨below_grown hown.low hown.own h2 hbase, by rw [List.length_append, ← u64L_append]; exact h1⟩)
  cases F with
  | none =>
    have hc := h4 rfl
    refine .inl ⟨rfl, by omega, hc, List.length_eq_zero_iff.1 (by omega)⟩
  | some ad =>
    refine .inr ⟨ad, rfl, hl, fun j u hu => ?_⟩
    obtain ⟨ad', e2, _, h6⟩ := h5 j u hu
    injection e2 with e2
    subst e2
    exact h6
end Go.Proofs.Ytgkblelgcikafaa
