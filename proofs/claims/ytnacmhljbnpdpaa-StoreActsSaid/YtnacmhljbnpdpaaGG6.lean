/- Words and walks for layer 6: SsK SsI SsA SsNb. -/
import Derived.Test.YtnacmhljbnpdpaaGG2
import Derived.Test.YtnacmhljbnpdpaaGG3
import Derived.Test.YtnacmhljbnpdpaaGG5
import Derived.Test.YtnacmhljbnpdpaaGS2
import Derived.Test.YtnacmhljbnpdpaaGS3
/- Package store: Keys, of a store, and of one that is nil. -/
namespace Go.Proofs.Ytnacmhljbnpdpaa
open Go Go.RowKit Go.Deep

theorem rows32 {W : World} {B : Nat} {v : Value} {xs : List Nat} (h : W.ownsRow B 21 1 v xs.length (slots xs)) : ∃ F c, v = .slice F xs.length c ∧ ∀ w', Below W.heap.size W w' → ∀ i (hi : i < xs.length), ∃ g, F = some ⟨g, 0, none⟩ ∧ w'.cell? ⟨g, i, none⟩ = some (.int .i32 (xs[i] : Nat)) := by
  rcases Nat.eq_zero_or_pos xs.length with h0 | h0
  · rcases h.2 with ⟨rfl, _⟩ | ⟨g, cap, cur, rfl, _⟩
    · exact ⟨none, 0, by rw [h0], fun _ _ i hi => by omega⟩
    · exact ⟨_, _, rfl, fun _ _ i hi => by omega⟩
  · obtain ⟨g, cap, cur, rfl, _, hlt, _, _, hc⟩ := own_cur h h0
    refine ⟨_, _, rfl, fun w' hb i hi => ⟨g, rfl, ?_⟩⟩
    rw [hb.cell (p := ⟨g, i, none⟩) hlt, hc i (by simpa [slots] using hi)]
    simp [slots]

section
variable {w0 w : World} {sp n : Nat} {l : Nat → List Nat} {A : St} {T : Tb} {K : List Nat}
def KeysPost (w : World) (ks : List Nat) (e : Ending) (w' : World) : Prop := ∃ v, e = .returned v ∧ Below w.heap.size w w' ∧ KeysAt w' v ks
set_option maxHeartbeats 1000000 in
theorem pkeys_walk (h : SM w0 w sp n l A T K) (ft : Fit A T) (tag : Int) (E : Nat → Ent) (hE : ∀ i, (A.node i).key = (E i).key) :
    Calls Try.prog 16 #[ptr sp, .int .i64 tag] w (KeysPost w ((allL n l tag).map (fun i => (E i).key))) := by
  obtain ⟨p, b, ix, hc, hq, _, _⟩ := h
  have HO := Lib.hid (open_walk hc)
  have HAL := Lib.hid (fun (W : World) (hb : Below w.heap.size w W) => sq_all (hq.still hb).1 tag)
  have HXI : Hid (∀ x ∈ allL n l tag, (x : Int) ≤ 2147483647 ∧ (A.at_ x).key = (E x).key) := Lib.hid (fun x hx => by
    unfold allL at hx
    cases hh : hasT n tag
    · rw [hh] at hx; simp at hx
    · rw [hh, if_pos rfl] at hx
      obtain ⟨t, rfl, ht⟩ := hasT_nat hh
      have q := hq.in32 ft.an ht (by simpa using hx)
      exact ⟨q.1, by rw [q.2.2]; exact hE x⟩)
  have HAT := Lib.hid (fun (W : World) (hb : Below w.heap.size w W) (i : Int) (h32 : i ≤ 2147483647) => sq_at (hq.still hb).1 i h32)
  have hxl := hq.allLen tag
  obtain ⟨xs, hxs⟩ : ∃ xs, allL n l tag = xs := ⟨_, rfl⟩
  rw [hxs] at HAL HXI hxl ⊢
  obtain ⟨ks, hks⟩ : ∃ ks, xs.map (fun i => (E i).key) = ks := ⟨_, rfl⟩
  have HKS : Hid (ks.length = xs.length ∧ ∀ i (hi : i < xs.length) (hi' : i < ks.length), ks[i] = (E xs[i]).key) := Lib.hid (by subst hks; exact ⟨by simp, fun i hi _ => by simp⟩)
  rw [hks]
  clear hc hq ft hxs hks hE
  go_enter Try.func16, Try.ntmps16
  go_wp2_with fail
  refine HO.out.mono ?_
  rintro e w1 ⟨rfl, hb⟩
  have HB2 := Lib.hid (hb.alloc hb.size (.cells (partsC p n b ix) 71))
  have hbx := heap_alloc_new w1 (.cells (partsC p n b ix) 71)
  have HBX := Lib.hid hbx
  clear hb hbx
  go_wp2_with fail
  refine (HAL.out _ HB2.out).mono ?_
  rintro e w2 ⟨v, rfl, hrow, hb2⟩
  obtain ⟨F, c, rfl, hcells⟩ := rows32 hrow
  have HCE := Lib.hid hcells
  have HB3 := Lib.hid (HB2.out.trans (hb2.mono HB2.out.size))
  have HBX2 := Lib.hid ((hb2.block w1.heap.size (by simp)).trans HBX.out)
  have hw12 : w1.heap.size < w2.heap.size := by have := hb2.size; simp at this; omega
  clear hrow hcells hb2
  go_wp2_with fail
  go_loopg [6, 16] xs.length (fun gg s6 s16 wr => ∃ (i : Nat) (v5 : Value), i + gg = xs.length ∧ v5 = s6 ∧ s16 = .int .i64 (i : Nat) ∧ Hid (Below w2.heap.size w2 wr ∧ wr.ownsRow w2.heap.size 35 1 v5 i (k64 (ks.take i))))
  case atStart => exact ⟨0, _, by omega, rfl, rfl, Lib.hid ⟨Below.refl _ _, World.ownsRow_nil _ _ _ _⟩⟩
  case round =>
    obtain ⟨i, v5, hi, rfl, rfl, HI⟩ := hrel
    have hsz := HI.out.1.size
    obtain ⟨⟨c0, c1, c2, c3⟩, _⟩ := q4_at ((HI.out.1.block w1.heap.size hw12).trans HBX2.out)
    by_cases hlt : i < xs.length
    · have hltI : (i : Int) < (xs.length : Int) := by omega
      obtain ⟨g, hF, q0⟩ := HCE.out wr HI.out.1 i hlt
      subst hF
      obtain ⟨x, hx⟩ : ∃ x, xs[i] = x := ⟨_, rfl⟩
      have hxi := HXI.out _ (List.getElem_mem hlt)
      have hik : i < ks.length := by rw [HKS.out.1]; exact hlt
      have hkx := HKS.out.2 i hlt hik
      rw [hx] at q0 hxi hkx
      obtain ⟨kx, hkk⟩ : ∃ kx, ks[i] = kx := ⟨_, rfl⟩
      have HAP : Hid (k64 (ks.take i) ++ [.int .u64 (kx : Nat)] = k64 (ks.take (i + 1))) := Lib.hid (by
        rw [List.take_succ_eq_append_getElem hik, hkk]
        simp [k64])
      have HKX : Hid ((A.at_ (x : Nat)).key = ((kx : Nat) : Int)) := Lib.hid (by rw [hxi.2, ← hkk, hkx])
      have hx32 := hxi.1
      have HAX := Lib.hid (HAT.out wr (HB3.out.trans (HI.out.1.mono HB3.out.size)) x hx32)
      have HOW0 := Lib.hid HI.out.2
      have HBW := Lib.hid HI.out.1
      clear hx hxi hkx hkk HI
      go_wp2_with fail
      refine HAX.out.mono ?_
      rintro e w4 ⟨y, rfl, hy, hb4⟩
      have hyk : y.key = (kx : Nat) := by rw [hy.node.1]; exact HKX.out
      have hfld : ∀ w : World, (Instr.field 79 y.v 0).run Try.prog w = .ok (.int .u64 (kx : Nat)) w := fun w => by
        have e : (Instr.field 79 y.v 0).run Try.prog w = .ok (.int .u64 y.key) w := by kernel_rfl
        rw [e, hyk]
      have HOW4 := Lib.hid (ownsRow_block HOW0.out (fun k _ hk => hb4.block k hk))
      have HB4 := Lib.hid (HBW.out.trans (hb4.mono hsz))
      have hsz4 : w2.heap.size ≤ w4.heap.size := by have := hb4.size; omega
      have HOW := Lib.hid (HOW4.out.alloc (.cells #[.int .u64 (kx : Nat)] 35))
      have HALL := Lib.hid ((Below.refl w2.heap.size w4).alloc hsz4 (.cells #[.int .u64 (kx : Nat)] 35))
      have hnew : (w4.alloc (.cells #[.int .u64 (kx : Nat)] 35)).cell? ⟨w4.heap.size, 0, none⟩ = some (.int .u64 (kx : Nat)) := (head_row (heap_alloc_new w4 (.cells #[.int .u64 (kx : Nat)] 35))).cell (i := 0) (by simp)
      have HSRC : Hid ((some (⟨w4.heap.size, 0, none⟩ : Addr) = none ∧ 1 = 0 ∧ 1 = 0 ∧ [Value.int .u64 (kx : Nat)] = []) ∨ ∃ ad, some (⟨w4.heap.size, 0, none⟩ : Addr) = some ad ∧ [Value.int .u64 (kx : Nat)].length = 1 * 1 ∧ ∀ j u, [Value.int .u64 (kx : Nat)][j]? = some u → (w4.alloc (.cells #[.int .u64 (kx : Nat)] 35)).cell? (ad.add j) = some u) := Lib.hid (.inr ⟨_, rfl, rfl, fun j u hu => by
        match j with
        | 0 => rw [Addr.add_lit, Nat.zero_add, hnew]; simpa using hu
        | j + 1 => simp at hu⟩)
      have H1C : Hid (∀ u ∈ [Value.int .u64 (kx : Nat)], u.oneCell' = true) := Lib.hid (by simp [Value.oneCell'])
      have hszA : w2.heap.size ≤ (w4.alloc (.cells #[.int .u64 (kx : Nat)] 35)).heap.size := by simp; omega
      clear hnew hyk hy hb4 c0 c1 c2 c3 q0
      go_wp2_with (at_builtin; refine wpList_append_src rfl (.tmp 20) (.tmp 26) 45 rfl w2.heap.size 35 (.int .u64 0) 1 8 (by kernel_rfl) (by kernel_rfl) rfl (by decide) v5 i _ rfl HOW.out (some ⟨w4.heap.size, 0, none⟩) 1 1 [.int .u64 (kx : Nat)] rfl HSRC.out H1C.out (by omega) (by omega) hszA ?_)
      intro v6 w6 hown6 hgrow6
      have hb6 := below_grown HALL.out HOW.out hgrow6 hszA
      rw [HAP.out] at hown6
      have HN := Lib.hid (And.intro (HB4.out.trans hb6) hown6)
      clear hown6 hgrow6 hb6 hfld
      go_wp2
      go_roundg (gk - 1)
      case measure => omega
      case rel => exact ⟨i + 1, v6, by omega, rfl, by go_num, HN⟩
    · have hltI : ¬ (i : Int) < (xs.length : Int) := by omega
      obtain rfl : i = xs.length := by omega
      have hfin := HI.out.2
      have hlm : xs.length = ks.length := HKS.out.1.symm
      rw [hlm, List.take_length] at hfin
      have HK := Lib.hid (keys_own hfin)
      have HB := Lib.hid (HB3.out.trans (HI.out.1.mono HB3.out.size))
      clear hfin hlm c0 c1 c2 c3
      go_wp2
      go_ret
      exact ⟨_, rfl, HB.out, HK.out⟩
theorem nKeys (w : World) (tag : Int) :
    Calls Try.prog 16 #[nilS, .int .i64 tag] w fun e w' => e = .returned (.slice none 0 0) ∧ Below w.heap.size w w' := by
  go_enter Try.func16, Try.ntmps16
  go_wp2_with fail
  refine (open_nil w).mono ?_
  rintro e w1 ⟨rfl, hb⟩
  have HB2 := Lib.hid (hb.alloc hb.size (.cells partsN 71))
  clear hb
  go_wp2_with fail
  refine (all_nil _ tag).mono ?_
  rintro e w2 ⟨F, c, rfl, hb2⟩
  have HB3 := Lib.hid (HB2.out.trans (hb2.mono HB2.out.size))
  clear hb2
  go_wp2_with fail
  go_loopg [6, 16] 0 (fun gg s6 s16 wr => s6 = .slice none 0 0 ∧ s16 = .int .i64 0 ∧ wr = w2)
  case atStart => exact ⟨rfl, rfl, rfl⟩
  case round =>
    obtain ⟨rfl, rfl, rfl⟩ := hrel
    go_wp2
    go_ret
    exact ⟨rfl, HB3.out⟩
end
end Go.Proofs.Ytnacmhljbnpdpaa
/- A store, told by what its queues have: each call by one contract, in the document's words. -/
namespace Go.Proofs.Ytnacmhljbnpdpaa
open Go Go.RowKit Go.Deep

def SI (w0 w : World) (sp n : Nat) (Q : Nat → List Ent) (m : Nat) (U : Tb) (most : Nat) (K : List Nat) : Prop :=
  ∃ l A T E, SM w0 w sp n l A T K ∧ Inv n l A T E Q m U most
/- What a queue has, by any number. -/
def qI (n : Nat) (Q : Nat → List Ent) (q : Int) : List Ent := if hasT n q then Q q.toNat else []

section
variable {w0 w w' : World} {sp n m most : Nat} {l : Nat → List Nat} {A : St} {T U : Tb} {E : Nat → Ent} {Q : Nat → List Ent} {K K' : List Nat}
theorem SM.ap (h : SM w0 w sp n l A T K) : Ap n l A ∧ 1 ≤ n ∧ n ≤ 8 ∧ A.used < A.n := by
  obtain ⟨p, b, ix, h1, h2, h3, h4⟩ := h
  exact ⟨⟨h2.ap_.1, h2.ap_.2.1, h2.ap_.2.2.1⟩, h2.ap_.2.2.2.1, h2.ap_.2.2.2.2, h2.used⟩
theorem Inv.fit (h : Inv n l A T E Q m U most) (a : Ap n l A) (hm : most ≤ 10000) : Fit A T := by
  have h1 := h.tn
  have h2 := h.an
  have h3 := h.room
  have h4 := h.ok.room
  refine ⟨by omega, by omega, fun k => ?_⟩
  cases hk : T.there k
  · rw [get_no h.good.ok hk]; decide
  · obtain ⟨t, i, ht, hi, hi', e1, e2, e3⟩ := h.find hk
    rw [e3]
    have := tk_bounds (a.tk t _ ht (List.getElem_mem hi))
    show ((l t)[i] : Int) ≤ _
    omega
theorem SI.still (h : SI w0 w sp n Q m U most K) (hb : Below w.heap.size w w') : SI w0 w' sp n Q m U most K ∧ Kept K w w' := by
  obtain ⟨l, A, T, E, h1, h2⟩ := h
  exact ⟨⟨l, A, T, E, (h1.still hb).1, h2⟩, (h1.still hb).2⟩
theorem SI.other (h : SI w0 w sp n Q m U most K) (hb : Below w.heap.size w w') (hk : ∀ k ∈ K', (k ∈ K ∨ w.heap.size ≤ k) ∧ k < w'.heap.size) : SI w0 w' sp n Q m U most K' := by
  obtain ⟨l, A, T, E, h1, h2⟩ := h
  exact ⟨l, A, T, E, h1.other hb hk, h2⟩
theorem SI.less (h : SI w0 w sp n Q m U most K) (hk : ∀ k ∈ K', k ∈ K) : SI w0 w sp n Q m U most K' := by
  obtain ⟨l, A, T, E, h1, h2⟩ := h
  exact ⟨l, A, T, E, h1.other (Below.refl _ _) (fun k hk' => ⟨.inl (hk k hk'), h1.old k (hk k hk')⟩), h2⟩
theorem SI.below (h : SI w0 w sp n Q m U most K) : Below w0.heap.size w0 w := by
  obtain ⟨l, A, T, E, h1, h2⟩ := h
  exact h1.below
theorem SI.old (h : SI w0 w sp n Q m U most K) : ∀ k ∈ K, k < w.heap.size := by
  obtain ⟨l, A, T, E, h1, h2⟩ := h
  exact h1.old
theorem SI.more (h : SI w0 w sp n Q m U most K) {most' : Nat} (hm : most ≤ most') : SI w0 w sp n Q m U most' K := by
  obtain ⟨l, A, T, E, h1, h2⟩ := h
  exact ⟨l, A, T, E, h1, h2.more hm⟩
theorem sumE_congr {Q Q' : Nat → List Ent} : ∀ n, (∀ t, t < n → Q t = Q' t) → sumE Q n = sumE Q' n
  | 0, _ => rfl
  | n + 1, h => by
    unfold sumE
    rw [sumE_congr n (fun t ht => h t (by omega)), h n (by omega)]
theorem SI.congr {Q' : Nat → List Ent} (h : SI w0 w sp n Q m U most K) (hq : ∀ t, t < n → Q t = Q' t) : SI w0 w sp n Q' m U most K := by
  obtain ⟨l, A, T, E, h1, h2⟩ := h
  have e := sumE_congr n hq
  exact ⟨l, A, T, E, h1, { h2 with q := fun t ht => by rw [← hq t ht]; exact h2.q t ht, cnt := by rw [← e]; exact h2.cnt, live := by rw [← e]; exact h2.live, le := by rw [← e]; exact h2.le }⟩
/- What holds of the queues, and of the document's table. -/
structure QOk (n : Nat) (Q : Nat → List Ent) (m : Nat) (U : Tb) (most : Nat) : Prop where
  uq : Uq n Q
  good : U.Good
  keys : U.Keys
  le : sumE Q n ≤ most
  an : m ≤ 2 * most + 8
  tn : U.n ≤ 3 * most + 8
  one : 1 ≤ n
  eight : n ≤ 8
theorem SI.ok (h : SI w0 w sp n Q m U most K) : QOk n Q m U most := by
  obtain ⟨l, A, T, E, h1, h2⟩ := h
  obtain ⟨a, o, e, _⟩ := h1.ap
  exact ⟨h2.uq a, h2.good', h2.keys', h2.le, h2.an, by rw [← h2.sim.n]; exact h2.tn, o, e⟩
theorem SI.key64 (h : SI w0 w sp n Q m U most K) {t i : Nat} (ht : t < n) (hi : i < (Q t).length) : ((Q t)[i]).key < 18446744073709551616 := by
  obtain ⟨l, A, T, E, h1, h2⟩ := h
  obtain ⟨hi', e⟩ := h2.at_q ht hi
  rw [e]
  exact h2.key64 ht (List.getElem_mem hi')
theorem key_at (k : Nat) (hu : ¬ NoKey n Q k) : ∃ t i, ∃ (_ : t < n) (hi : i < (Q t).length), ((Q t)[i]).key = k := by
  simp only [NoKey] at hu
  exact Classical.byContradiction fun h => hu (fun t i ht hi e => h ⟨t, i, ht, hi, e⟩)
/- A key that a queue has at a place: its slot. -/
theorem Inv.spot (h : Inv n l A T E Q m U most) {t i : Nat} (ht : t < n) (hi : i < (Q t).length) : ∃ (hi' : i < (l t).length), (Q t)[i] = E ((l t)[i]) ∧ T.there ((Q t)[i]).key = true ∧ T.get ((Q t)[i]).key = ((((l t)[i] : Nat) : Int), true) := by
  obtain ⟨hi', e⟩ := h.at_q ht hi
  have hv := (h.tab ((Q t)[i]).key _).2 ⟨t, (l t)[i], ht, List.getElem_mem _, by rw [e], rfl⟩
  exact ⟨hi', e, there_yes h.good.ok hv, get_yes h.good.ok hv⟩

/- What only looks. -/
theorem si_find_in (h : SI w0 w sp n Q m U most K) (hm : most ≤ 10000) (t i : Nat) (ht : t < n) (hi : i < (Q t).length) (k : Nat) (hk : ((Q t)[i]).key = k) :
    Calls Try.prog 11 #[ptr sp, .int .u64 (k : Nat)] w fun e w' => e = .returned (.tuple #[.int .i64 (t : Nat), .bool true]) ∧ Below w.heap.size w w' := by
  subst hk
  have h64 := h.key64 ht hi
  obtain ⟨l, A, T, E, h1, h2⟩ := h
  obtain ⟨a, _⟩ := h1.ap
  obtain ⟨hi', e1, e2, e3⟩ := h2.spot ht hi
  have hc := sfind_walk h1 (h2.fit a hm) _ h64
  rw [e3] at hc
  rw [if_pos rfl, a.tag ht (List.getElem_mem hi')] at hc
  exact hc
theorem si_find_out (h : SI w0 w sp n Q m U most K) (hm : most ≤ 10000) (k : Nat) (h64 : k < 18446744073709551616) (hk : NoKey n Q k) :
    Calls Try.prog 11 #[ptr sp, .int .u64 (k : Nat)] w fun e w' => e = .returned (.tuple #[.int .i64 0, .bool false]) ∧ Below w.heap.size w w' := by
  obtain ⟨l, A, T, E, h1, h2⟩ := h
  obtain ⟨a, _⟩ := h1.ap
  have hc := sfind_walk h1 (h2.fit a hm) _ h64
  rw [get_no h2.good.ok ((h2.nokey k).1 hk)] at hc
  exact hc
theorem St.at_nat {A : St} {i : Nat} (hi : A.tk i = true) : A.at_ i = A.node i ∧ A.is i = true := by
  have h0 := tk_bounds hi
  have his : A.is i = true := by unfold St.is; rw [decide_eq_true (by omega)]; simpa using hi
  refine ⟨?_, his⟩
  unfold St.at_
  rw [his]
  rfl
theorem St.at_zero (A : St) : A.at_ 0 = Nd.zero ∧ A.is 0 = false := ⟨by unfold St.at_ St.is; rfl, by unfold St.is; rfl⟩
theorem si_val_in (h : SI w0 w sp n Q m U most K) (hm : most ≤ 10000) (t i : Nat) (ht : t < n) (hi : i < (Q t).length) (k : Nat) (hk : ((Q t)[i]).key = k) :
    (Calls Try.prog 14 #[ptr sp, .int .u64 (k : Nat)] w fun e w' => e = .returned (.int .u64 (((Q t)[i]).val : Nat)) ∧ Below w.heap.size w w') ∧
    (Calls Try.prog 15 #[ptr sp, .int .u64 (k : Nat)] w fun e w' => e = .returned (.int .i64 ((Q t)[i]).flag) ∧ Below w.heap.size w w') := by
  subst hk
  have h64 := h.key64 ht hi
  obtain ⟨l, A, T, E, h1, h2⟩ := h
  obtain ⟨a, _⟩ := h1.ap
  obtain ⟨hi', e1, e2, e3⟩ := h2.spot ht hi
  have hv := sval_walk h1 (h2.fit a hm) _ h64
  have hf := sflag_walk h1 (h2.fit a hm) _ h64
  rw [e3, (St.at_nat (a.tk t _ ht (List.getElem_mem hi'))).1] at hv hf
  rw [(h2.node _).2.1] at hv
  rw [(h2.node _).2.2] at hf
  rw [← e1] at hv hf
  exact ⟨hv, hf⟩
theorem si_val_out (h : SI w0 w sp n Q m U most K) (hm : most ≤ 10000) (k : Nat) (h64 : k < 18446744073709551616) (hk : NoKey n Q k) :
    (Calls Try.prog 14 #[ptr sp, .int .u64 (k : Nat)] w fun e w' => e = .returned (.int .u64 0) ∧ Below w.heap.size w w') ∧
    (Calls Try.prog 15 #[ptr sp, .int .u64 (k : Nat)] w fun e w' => e = .returned (.int .i64 0) ∧ Below w.heap.size w w') := by
  obtain ⟨l, A, T, E, h1, h2⟩ := h
  obtain ⟨a, _⟩ := h1.ap
  have hv := sval_walk h1 (h2.fit a hm) _ h64
  have hf := sflag_walk h1 (h2.fit a hm) _ h64
  rw [get_no h2.good.ok ((h2.nokey k).1 hk)] at hv hf
  rw [(St.at_zero A).1] at hv hf
  exact ⟨hv, hf⟩
theorem qI_len (h : Inv n l A T E Q m U most) (q : Int) : (qI n Q q).length = lenL n l q ∧ qI n Q q = (allL n l q).map E := by
  unfold qI lenL allL
  cases hh : hasT n q
  · exact ⟨rfl, rfl⟩
  · obtain ⟨t, rfl, ht⟩ := hasT_nat hh
    rw [if_pos rfl, if_pos rfl, if_pos rfl]
    simp only [Int.toNat_natCast]
    exact ⟨h.len ht, h.q t ht⟩
theorem si_len (h : SI w0 w sp n Q m U most K) (q : Int) :
    Calls Try.prog 31 #[ptr sp, .int .i64 q] w fun e w' => e = .returned (.int .i64 ((qI n Q q).length : Nat)) ∧ Below w.heap.size w w' := by
  obtain ⟨l, A, T, E, h1, h2⟩ := h
  rw [(qI_len h2 q).1]
  exact slen_walk h1 q
theorem si_total (h : SI w0 w sp n Q m U most K) :
    Calls Try.prog 17 #[ptr sp] w fun e w' => e = .returned (.int .i64 (sumE Q n : Nat)) ∧ Below w.heap.size w w' := by
  obtain ⟨l, A, T, E, h1, h2⟩ := h
  rw [← h2.cnt]
  exact stot_walk h1
theorem si_rooms (h : SI w0 w sp n Q m U most K) :
    Calls Try.prog 22 #[ptr sp] w fun e w' => e = .returned (.tuple #[.int .i64 (m : Nat), .int .i64 (U.n : Nat)]) ∧ Below w.heap.size w w' := by
  obtain ⟨l, A, T, E, h1, h2⟩ := h
  rw [← h2.room, ← h2.sim.n]
  exact srooms_walk h1
theorem si_keys (h : SI w0 w sp n Q m U most K) (hm : most ≤ 10000) (q : Int) :
    Calls Try.prog 16 #[ptr sp, .int .i64 q] w (KeysPost w ((qI n Q q).map Ent.key)) := by
  obtain ⟨l, A, T, E, h1, h2⟩ := h
  obtain ⟨a, _⟩ := h1.ap
  rw [(qI_len h2 q).2, List.map_map]
  exact pkeys_walk h1 (h2.fit a hm) q E (fun i => (h2.node i).1)
def headK (xs : List Ent) : Nat := (xs.head?.map Ent.key).getD 0
def lastK (xs : List Ent) : Nat := (xs.getLast?.map Ent.key).getD 0
theorem ends_list {A : St} {E : Nat → Ent} (xs : List Nat) (hin : ∀ i ∈ xs, (A.at_ (i : Nat)).key = ((E i).key : Nat) ∧ ((i : Int) ≠ 0)) :
    ((A.at_ (xs.headD 0 : Nat)).key = (headK (xs.map E) : Nat) ∧ (!decide (((xs.headD 0 : Nat) : Int) = 0)) = decide (0 < (xs.map E).length)) ∧
    ((A.at_ (xs.getLastD 0 : Nat)).key = (lastK (xs.map E) : Nat) ∧ (!decide (((xs.getLastD 0 : Nat) : Int) = 0)) = decide (0 < (xs.map E).length)) := by
  constructor
  · cases xs with
    | nil => exact ⟨by show (A.at_ 0).key = _; rw [(St.at_zero A).1]; rfl, rfl⟩
    | cons x xs =>
      have q := hin x (by simp)
      refine ⟨by rw [List.headD_cons, q.1]; rfl, ?_⟩
      rw [List.headD_cons, decide_eq_false q.2]
      simp
  · rcases List.eq_nil_or_concat xs with rfl | ⟨ys, x, rfl⟩
    · exact ⟨by show (A.at_ 0).key = _; rw [(St.at_zero A).1]; rfl, rfl⟩
    · have q := hin x (by simp)
      have e : (ys.concat x).getLastD 0 = x := by simp
      refine ⟨by rw [e, q.1]; simp [lastK], ?_⟩
      rw [e, decide_eq_false q.2]
      simp
theorem ends_are (h : Inv n l A T E Q m U most) (a : Ap n l A) (q : Int) :
    ((A.at_ (frontL n l q : Nat)).key = (headK (qI n Q q) : Nat) ∧ (!decide (((frontL n l q : Nat) : Int) = 0)) = decide (0 < (qI n Q q).length)) ∧
    ((A.at_ (backL n l q : Nat)).key = (lastK (qI n Q q) : Nat) ∧ (!decide (((backL n l q : Nat) : Int) = 0)) = decide (0 < (qI n Q q).length)) := by
  rw [(qI_len h q).2]
  unfold frontL backL allL
  cases hh : hasT n q
  · exact ⟨⟨by rw [if_neg (by decide)]; show (A.at_ 0).key = _; rw [(St.at_zero A).1]; rfl, rfl⟩, ⟨by rw [if_neg (by decide)]; show (A.at_ 0).key = _; rw [(St.at_zero A).1]; rfl, rfl⟩⟩
  · obtain ⟨t, rfl, ht⟩ := hasT_nat hh
    rw [if_pos rfl, if_pos rfl, if_pos rfl]
    simp only [Int.toNat_natCast]
    have hin : ∀ i ∈ l t, (A.at_ (i : Nat)).key = ((E i).key : Nat) ∧ ((i : Int) ≠ 0) := fun i hi => by
      have htk := a.tk t i ht hi
      have := tk_bounds htk
      rw [(St.at_nat htk).1]
      exact ⟨(h.node i).1, by omega⟩
    exact ends_list (l t) hin
theorem si_front (h : SI w0 w sp n Q m U most K) (hm : most ≤ 10000) (q : Int) :
    Calls Try.prog 23 #[ptr sp, .int .i64 q] w fun e w' => e = .returned (.tuple #[.int .u64 (headK (qI n Q q) : Nat), .bool (decide (0 < (qI n Q q).length))]) ∧ Below w.heap.size w w' := by
  obtain ⟨l, A, T, E, h1, h2⟩ := h
  obtain ⟨a, _⟩ := h1.ap
  have hc := sfront_walk h1 (h2.fit a hm) q
  rw [(ends_are h2 a q).1.1, (ends_are h2 a q).1.2] at hc
  exact hc
theorem si_back (h : SI w0 w sp n Q m U most K) (hm : most ≤ 10000) (q : Int) :
    Calls Try.prog 24 #[ptr sp, .int .i64 q] w fun e w' => e = .returned (.tuple #[.int .u64 (lastK (qI n Q q) : Nat), .bool (decide (0 < (qI n Q q).length))]) ∧ Below w.heap.size w w' := by
  obtain ⟨l, A, T, E, h1, h2⟩ := h
  obtain ⟨a, _⟩ := h1.ap
  have hc := sback_walk h1 (h2.fit a hm) q
  rw [(ends_are h2 a q).2.1, (ends_are h2 a q).2.2] at hc
  exact hc

/- What turns. -/
def SIPost (w0 w : World) (sp n : Nat) (Q : Nat → List Ent) (m : Nat) (U : Tb) (most : Nat) (K : List Nat) (ok : Bool) (e : Ending) (w' : World) : Prop :=
  e = .returned (.bool ok) ∧ SI w0 w' sp n Q m U most K ∧ Kept K w w'
theorem si_push (h : SI w0 w sp n Q m U most K) (hm : most ≤ 10000) (t : Nat) (ht : t < n) (k : Nat) (h64 : k < 18446744073709551616) (hk : NoKey n Q k) :
    Calls Try.prog 25 #[ptr sp, .int .i64 (t : Nat), .int .u64 (k : Nat)] w (SIPost w0 w sp n (pushedQ true Q t k) (roomE Q n m) (U.put k 1) (max most (sumE Q n + 1)) K true) ∧
    Calls Try.prog 26 #[ptr sp, .int .i64 (t : Nat), .int .u64 (k : Nat)] w (SIPost w0 w sp n (pushedQ false Q t k) (roomE Q n m) (U.put k 1) (max most (sumE Q n + 1)) K true) := by
  obtain ⟨l, A, T, E, h1, h2⟩ := h
  obtain ⟨a, _⟩ := h1.ap
  have hth := (h2.nokey k).1 hk
  have hg : (T.get k).2 = false := by rw [get_no h2.good.ok hth]
  constructor
  · refine (spushFront_yes h1 (h2.fit a hm) h2.ok k h64 t ht hg).mono ?_
    rintro e w' ⟨rfl, g1, g2⟩
    exact ⟨rfl, ⟨_, _, _, _, g1, h2.push a true ht h64 hth⟩, g2⟩
  · refine (spushBack_yes h1 (h2.fit a hm) h2.ok k h64 t ht hg).mono ?_
    rintro e w' ⟨rfl, g1, g2⟩
    exact ⟨rfl, ⟨_, _, _, _, g1, h2.push a false ht h64 hth⟩, g2⟩
theorem si_push_no (h : SI w0 w sp n Q m U most K) (hm : most ≤ 10000) (q : Int) (k : Nat) (h64 : k < 18446744073709551616) (hno : q < 0 ∨ (0 ≤ q ∧ (n : Int) ≤ q) ∨ (0 ≤ q ∧ q < (n : Int) ∧ ¬ NoKey n Q k)) :
    Calls Try.prog 25 #[ptr sp, .int .i64 q, .int .u64 (k : Nat)] w (SIPost w0 w sp n Q m U most K false) ∧
    Calls Try.prog 26 #[ptr sp, .int .i64 q, .int .u64 (k : Nat)] w (SIPost w0 w sp n Q m U most K false) := by
  obtain ⟨l, A, T, E, h1, h2⟩ := h
  obtain ⟨a, _⟩ := h1.ap
  have hno' : q < 0 ∨ (0 ≤ q ∧ (n : Int) ≤ q) ∨ (0 ≤ q ∧ q < (n : Int) ∧ (T.get k).2 = true) := by
    rcases hno with g | g | ⟨g1, g2, g3⟩
    · exact .inl g
    · exact .inr (.inl g)
    · refine .inr (.inr ⟨g1, g2, ?_⟩)
      cases hth : T.there k
      · exact absurd ((h2.nokey k).2 hth) g3
      · obtain ⟨_, _, _, _, _, _, _, e⟩ := h2.find hth
        rw [e]
  constructor
  · refine (spushFront_no h1 (h2.fit a hm) k h64 q hno').mono ?_
    rintro e w' ⟨rfl, g1, g2⟩
    exact ⟨rfl, ⟨_, _, _, _, g1, h2⟩, g2⟩
  · refine (spushBack_no h1 (h2.fit a hm) k h64 q hno').mono ?_
    rintro e w' ⟨rfl, g1, g2⟩
    exact ⟨rfl, ⟨_, _, _, _, g1, h2⟩, g2⟩
theorem si_move (h : SI w0 w sp n Q m U most K) (hm : most ≤ 10000) (t i : Nat) (ht : t < n) (hi : i < (Q t).length) (k : Nat) (hk : ((Q t)[i]).key = k) (t1 : Nat) (ht1 : t1 < n) :
    Calls Try.prog 27 #[ptr sp, .int .i64 (t1 : Nat), .int .u64 (k : Nat)] w (SIPost w0 w sp n (movE Q t i t1 ((Q t)[i])) m U most K true) := by
  subst hk
  have h64 := h.key64 ht hi
  obtain ⟨l, A, T, E, h1, h2⟩ := h
  obtain ⟨a, _⟩ := h1.ap
  obtain ⟨hi', e1, e2, e3⟩ := h2.spot ht hi
  have hm' := List.getElem_mem hi'
  refine (smov_walk h1 (h2.fit a hm) (t1 : Nat) _ h64).mono ?_
  rintro e w' ⟨rfl, g1, g2⟩
  rw [e3] at g1 ⊢
  have e4 : moveOk n l (t1 : Nat) ((l t)[i] : Nat) = true := by
    unfold moveOk
    rw [hasT_of ht1, a.tag ht hm', decide_eq_true (by omega)]
    rfl
  have g1' : SM w0 w' sp n (moveL n l (t1 : Nat) ((l t)[i] : Nat)) A T K := g1
  rw [a.move ht hm' ht1] at g1'
  exact ⟨by rw [← e4], ⟨_, _, _, _, g1', h2.move a ht hi' hi ht1 e1⟩, g2⟩
theorem si_move_no (h : SI w0 w sp n Q m U most K) (hm : most ≤ 10000) (q : Int) (k : Nat) (h64 : k < 18446744073709551616) (hno : q < 0 ∨ (0 ≤ q ∧ (n : Int) ≤ q) ∨ (0 ≤ q ∧ q < (n : Int) ∧ NoKey n Q k)) :
    Calls Try.prog 27 #[ptr sp, .int .i64 q, .int .u64 (k : Nat)] w (SIPost w0 w sp n Q m U most K false) := by
  obtain ⟨l, A, T, E, h1, h2⟩ := h
  obtain ⟨a, _⟩ := h1.ap
  have e4 : moveOk n l q (T.get k).1 = false := by
    unfold moveOk hasT
    rcases hno with g | ⟨g1, g2⟩ | ⟨g1, g2, g3⟩
    · rw [decide_eq_false (by omega)]; rfl
    · rw [decide_eq_false (show ¬ q < (n : Int) by omega)]; simp
    · rw [get_no h2.good.ok ((h2.nokey k).1 g3)]
      show (_ && decide (0 ≤ tagI n l 0)) = false
      rw [tagI_zero]
      simp
  have hc := smov_walk h1 (h2.fit a hm) q k h64
  unfold moveL at hc
  rw [e4] at hc
  refine hc.mono ?_
  rintro e w' ⟨rfl, g1, g2⟩
  exact ⟨rfl, ⟨_, _, _, _, g1, h2⟩, g2⟩
theorem si_rem (h : SI w0 w sp n Q m U most K) (hm : most ≤ 10000) (t i : Nat) (ht : t < n) (hi : i < (Q t).length) (k : Nat) (hk : ((Q t)[i]).key = k) :
    Calls Try.prog 28 #[ptr sp, .int .u64 (k : Nat)] w (SIPost w0 w sp n (upd Q t (cutE (Q t) i)) m (U.del k) most K true) := by
  subst hk
  have h64 := h.key64 ht hi
  obtain ⟨l, A, T, E, h1, h2⟩ := h
  obtain ⟨a, _⟩ := h1.ap
  obtain ⟨hi', e1, e2, e3⟩ := h2.spot ht hi
  refine (sremo_yes h1 (h2.fit a hm) _ h64 t _ ht (List.getElem_mem hi') (by rw [e3]) e2).mono ?_
  rintro e w' ⟨rfl, g1, g2⟩
  have hinv := h2.rem a ht hi' hi
  rw [← e1] at hinv
  exact ⟨rfl, ⟨_, _, _, _, g1, hinv⟩, g2⟩
theorem si_rem_no (h : SI w0 w sp n Q m U most K) (hm : most ≤ 10000) (k : Nat) (h64 : k < 18446744073709551616) (hk : NoKey n Q k) :
    Calls Try.prog 28 #[ptr sp, .int .u64 (k : Nat)] w (SIPost w0 w sp n Q m U most K false) := by
  obtain ⟨l, A, T, E, h1, h2⟩ := h
  obtain ⟨a, _⟩ := h1.ap
  refine (sremo_no h1 (h2.fit a hm) _ h64 (by rw [get_no h2.good.ok ((h2.nokey k).1 hk)])).mono ?_
  rintro e w' ⟨rfl, g1, g2⟩
  exact ⟨rfl, ⟨_, _, _, _, g1, h2⟩, g2⟩
theorem si_set_at (h2 : Inv n l A T E Q m U most) (a : Ap n l A) {t i : Nat} (ht : t < n) (hi : i < (Q t).length) (flag : Bool) (x : Ent) (v : Int) (hv : v = if flag then x.flag else (x.val : Int)) {e : Ending} {w' : World} (hp : SetPost w0 w sp n l A T K (T.get ((Q t)[i]).key).1 flag v e w') :
    SIPost w0 w sp n (upd Q t ((Q t).set i (setE flag ((Q t)[i]) x))) m U most K true e w' := by
  obtain ⟨hi', e1, e2, e3⟩ := h2.spot ht hi
  have htk := a.tk t _ ht (List.getElem_mem hi')
  obtain ⟨y, hy, rfl, g1, g2⟩ := hp
  rw [e3] at hy g1 ⊢
  have e4 := St.at_nat htk
  have hy' : y.key = (A.node (l t)[i]).key ∧ y.val = (A.node (l t)[i]).val ∧ y.flag = (A.node (l t)[i]).flag := by rw [← e4.1]; exact hy
  have e5 : A.setVI ((l t)[i] : Nat) (setV flag y v) = A.set (l t)[i] (setN flag y x) := by
    unfold St.setVI
    rw [e4.2, if_pos rfl]
    simp only [Int.toNat_natCast]
    congr 1
    unfold setV setN
    rw [hv]
    cases flag <;> rfl
  have g1' : SM w0 w' sp n l (A.setVI ((l t)[i] : Nat) (setV flag y v)) T K := g1
  rw [e5] at g1'
  exact ⟨by show Ending.returned (.bool (A.is ((l t)[i] : Nat))) = _; rw [e4.2], ⟨_, _, _, _, g1', h2.set a ht hi' hi e1 flag x y hy'⟩, g2⟩
theorem si_set (h : SI w0 w sp n Q m U most K) (hm : most ≤ 10000) (t i : Nat) (ht : t < n) (hi : i < (Q t).length) (k : Nat) (hk : ((Q t)[i]).key = k) (x : Ent) :
    Calls Try.prog 29 #[ptr sp, .int .u64 (k : Nat), .int .u64 (x.val : Nat)] w (SIPost w0 w sp n (upd Q t ((Q t).set i (setE false ((Q t)[i]) x))) m U most K true) ∧
    Calls Try.prog 30 #[ptr sp, .int .u64 (k : Nat), .int .i64 x.flag] w (SIPost w0 w sp n (upd Q t ((Q t).set i (setE true ((Q t)[i]) x))) m U most K true) := by
  subst hk
  have h64 := h.key64 ht hi
  obtain ⟨l, A, T, E, h1, h2⟩ := h
  obtain ⟨a, _⟩ := h1.ap
  exact ⟨(ssetVal_walk h1 (h2.fit a hm) _ h64 (x.val : Nat)).mono fun e w' hp => si_set_at h2 a ht hi false x _ rfl hp, (ssetFlag_walk h1 (h2.fit a hm) _ h64 x.flag).mono fun e w' hp => si_set_at h2 a ht hi true x _ rfl hp⟩
theorem si_set_no (h : SI w0 w sp n Q m U most K) (hm : most ≤ 10000) (k : Nat) (h64 : k < 18446744073709551616) (hk : NoKey n Q k) (v f : Int) :
    Calls Try.prog 29 #[ptr sp, .int .u64 (k : Nat), .int .u64 v] w (SIPost w0 w sp n Q m U most K false) ∧
    Calls Try.prog 30 #[ptr sp, .int .u64 (k : Nat), .int .i64 f] w (SIPost w0 w sp n Q m U most K false) := by
  obtain ⟨l, A, T, E, h1, h2⟩ := h
  obtain ⟨a, _⟩ := h1.ap
  have e0 := get_no h2.good.ok ((h2.nokey k).1 hk)
  have key : ∀ flag v e w', SetPost w0 w sp n l A T K (T.get k).1 flag v e w' → SIPost w0 w sp n Q m U most K false e w' := by
    intro flag v e w' hp
    rw [e0] at hp
    obtain ⟨y, hy, rfl, g1, g2⟩ := hp
    have e1 : A.setVI 0 (setV flag y v) = A := by unfold St.setVI; rw [(St.at_zero A).2]; rfl
    have g1' : SM w0 w' sp n l (A.setVI 0 (setV flag y v)) T K := g1
    rw [e1] at g1'
    exact ⟨by show Ending.returned (.bool (A.is 0)) = _; rw [(St.at_zero A).2], ⟨_, _, _, _, g1', h2⟩, g2⟩
  exact ⟨(ssetVal_walk h1 (h2.fit a hm) k h64 v).mono fun e w' hp => key _ _ e w' hp, (ssetFlag_walk h1 (h2.fit a hm) k h64 f).mono fun e w' hp => key _ _ e w' hp⟩
theorem sumE_none : ∀ n, sumE (fun _ => []) n = 0
  | 0 => rfl
  | n + 1 => by unfold sumE; rw [sumE_none n]; rfl
theorem new_inv (n : Nat) : Inv n (fun _ => []) (St.first 8) Tb.new (fun _ => ⟨0, 0, 0⟩) (fun _ => []) 8 Tb.new 0 := by
  refine ⟨fun _ => ⟨rfl, rfl, rfl⟩, fun _ _ => rfl, fun k v => ⟨fun q => absurd q (none_has 8 k v), fun ⟨_, _, _, q, _⟩ => by simp at q⟩, first_ok 8 (by decide), new_good, new_keys, new_good, new_keys, Sim.refl _, ?_, ?_, rfl, ?_, by decide, by decide⟩
  · rw [sumE_none]; exact none_cnt _
  · rw [sumE_none]; rfl
  · rw [sumE_none]; exact Nat.le_refl _
def SINew (w0 w : World) (n : Nat) (K : List Nat) (e : Ending) (w' : World) : Prop :=
  ∃ sp, e = .returned (ptr sp) ∧ SI w0 w' sp n (fun _ => []) 8 Tb.new 0 K ∧ Kept K w w'
theorem si_new (hb : Below w0.heap.size w0 w) (hK : ∀ k ∈ K, k < w.heap.size) (q : Int) :
    Calls Try.prog 18 #[.int .i64 q] w (SINew w0 w (numT q) K) := by
  refine (store_new hb hK q).mono ?_
  rintro e w' ⟨sp, rfl, h1, h2⟩
  exact ⟨sp, rfl, ⟨_, _, _, _, h1, new_inv _⟩, h2⟩
end
end Go.Proofs.Ytnacmhljbnpdpaa
/- The laws' awake. -/
namespace Go.Proofs.Ytnacmhljbnpdpaa
open Go Go.RowKit Go.Deep

def aQ (q : Nat) (x : Ent) (t : Nat) : List Ent := if t = q then [x] else []
noncomputable def aU : Tb := Tb.new.put 1 1
theorem aU_n : aU.n = 8 := by
  obtain ⟨_, _, h, _⟩ := new_good.put_all 1 1
  unfold aU
  rw [h, show Tb.new.n = 8 from rfl, show Tb.new.cnt = 0 from none_cnt _, if_neg (by omega)]
section
variable {w0 w : World} {sp : Nat}
theorem aQ_at (x : Ent) (q : Nat) : aQ q x q = [x] := if_pos rfl
theorem aw_push (h : SI w0 w sp 2 (fun _ => []) 8 Tb.new 0 []) :
    Calls Try.prog 25 #[ptr sp, .int .i64 0, .int .u64 1] w fun e w' => e = .returned (.bool true) ∧ SI w0 w' sp 2 (aQ 0 ⟨1, 0, 0⟩) 8 aU 1 [] := by
  refine (si_push h (by decide) 0 (by decide) 1 (by decide) (fun t i ht hi => by simp at hi)).1.mono ?_
  rintro e w' ⟨rfl, g, _⟩
  refine ⟨rfl, ?_⟩
  have g' : SI w0 w' sp 2 (pushedQ true (fun _ => []) 0 1) 8 aU 1 [] := g
  refine g'.congr (fun t ht => ?_)
  unfold pushedQ aQ upd
  rfl
theorem aw_set (h : SI w0 w sp 2 (aQ 0 ⟨1, 0, 0⟩) 8 aU 1 []) :
    Calls Try.prog 29 #[ptr sp, .int .u64 1, .int .u64 7] w fun e w' => e = .returned (.bool true) ∧ SI w0 w' sp 2 (aQ 0 ⟨1, 7, 0⟩) 8 aU 1 [] := by
  refine (si_set h (by decide) 0 0 (by decide) (by decide) 1 rfl ⟨1, 7, 0⟩).1.mono ?_
  rintro e w' ⟨rfl, g, _⟩
  refine ⟨rfl, g.congr (fun t ht => ?_)⟩
  unfold upd aQ
  by_cases e : t = 0
  · subst e; rfl
  · rw [if_neg e, if_neg e, if_neg e]
theorem aw_move (h : SI w0 w sp 2 (aQ 0 ⟨1, 7, 0⟩) 8 aU 1 []) :
    Calls Try.prog 27 #[ptr sp, .int .i64 1, .int .u64 1] w fun e w' => e = .returned (.bool true) ∧ SI w0 w' sp 2 (aQ 1 ⟨1, 7, 0⟩) 8 aU 1 [] := by
  refine (si_move h (by decide) 0 0 (by decide) (by decide) 1 rfl 1 (by decide)).mono ?_
  rintro e w' ⟨rfl, g, _⟩
  refine ⟨rfl, g.congr (fun t ht => ?_)⟩
  have : t = 0 ∨ t = 1 := by omega
  rcases this with rfl | rfl <;> rfl
theorem aw_find (h : SI w0 w sp 2 (aQ 1 ⟨1, 7, 0⟩) 8 aU 1 []) :
    Calls Try.prog 11 #[ptr sp, .int .u64 1] w fun e w' => e = .returned (.tuple #[.int .i64 1, .bool true]) ∧ Below w.heap.size w w' :=
  si_find_in h (by decide) 1 0 (by decide) (by decide) 1 rfl
theorem aw_back (h : SI w0 w sp 2 (aQ 1 ⟨1, 7, 0⟩) 8 aU 1 []) :
    Calls Try.prog 24 #[ptr sp, .int .i64 1] w fun e w' => e = .returned (.tuple #[.int .u64 1, .bool true]) ∧ Below w.heap.size w w' :=
  si_back h (by decide) 1
theorem aw_rooms (h : SI w0 w sp 2 (aQ 1 ⟨1, 7, 0⟩) 8 aU 1 []) :
    Calls Try.prog 22 #[ptr sp] w fun e w' => e = .returned (.tuple #[.int .i64 8, .int .i64 8]) ∧ Below w.heap.size w w' := by
  have := si_rooms h
  rw [aU_n] at this
  exact this
theorem aw_val (h : SI w0 w sp 2 (aQ 1 ⟨1, 7, 0⟩) 8 aU 1 []) :
    Calls Try.prog 14 #[ptr sp, .int .u64 1] w fun e w' => e = .returned (.int .u64 7) ∧ Below w.heap.size w w' :=
  (si_val_in h (by decide) 1 0 (by decide) (by decide) 1 rfl).1
theorem aw_len (h : SI w0 w sp 2 (aQ 1 ⟨1, 7, 0⟩) 8 aU 1 []) :
    Calls Try.prog 31 #[ptr sp, .int .i64 1] w fun e w' => e = .returned (.int .i64 1) ∧ Below w.heap.size w w' := si_len h 1
theorem aw_total (h : SI w0 w sp 2 (aQ 1 ⟨1, 7, 0⟩) 8 aU 1 []) :
    Calls Try.prog 17 #[ptr sp] w fun e w' => e = .returned (.int .i64 1) ∧ Below w.heap.size w w' := si_total h
theorem aw_pushNo (h : SI w0 w sp 2 (aQ 1 ⟨1, 7, 0⟩) 8 aU 1 []) :
    Calls Try.prog 26 #[ptr sp, .int .i64 0, .int .u64 1] w fun e w' => e = .returned (.bool false) ∧ SI w0 w' sp 2 (aQ 1 ⟨1, 7, 0⟩) 8 aU 1 [] := by
  refine (si_push_no h (by decide) 0 1 (by decide) (.inr (.inr ⟨by decide, by decide, fun hn => hn 1 0 (by decide) (by decide) rfl⟩))).2.mono ?_
  rintro e w' ⟨rfl, g, _⟩
  exact ⟨rfl, g⟩
theorem aw_rem (h : SI w0 w sp 2 (aQ 1 ⟨1, 7, 0⟩) 8 aU 1 []) :
    Calls Try.prog 28 #[ptr sp, .int .u64 1] w fun e w' => e = .returned (.bool true) ∧ SI w0 w' sp 2 (fun _ => []) 8 (aU.del 1) 1 [] := by
  refine (si_rem h (by decide) 1 0 (by decide) (by decide) 1 rfl).mono ?_
  rintro e w' ⟨rfl, g, _⟩
  refine ⟨rfl, g.congr (fun t ht => ?_)⟩
  have : t = 0 ∨ t = 1 := by omega
  rcases this with rfl | rfl <;> rfl
theorem aw_remNo (h : SI w0 w sp 2 (fun _ => []) 8 (aU.del 1) 1 []) :
    Calls Try.prog 28 #[ptr sp, .int .u64 1] w fun e w' => e = .returned (.bool false) ∧ SI w0 w' sp 2 (fun _ => []) 8 (aU.del 1) 1 [] := by
  refine (si_rem_no h (by decide) 1 (by decide) (fun t i ht hi => by simp at hi)).mono ?_
  rintro e w' ⟨rfl, g, _⟩
  exact ⟨rfl, g⟩
end
set_option maxHeartbeats 2000000 in
set_option maxRecDepth 4000 in
theorem awake_walk (w : World) : Calls Try.prog 8 #[] w fun e w' => e = .returned (.bool true) ∧ Below w.heap.size w w' := by
  have HN : Hid (Calls Try.prog 18 #[.int .i64 2] w (SINew w w 2 [])) := Lib.hid (si_new (Below.refl _ _) (by simp) 2)
  go_enter Try.func8, Try.ntmps8
  go_wp2_with fail
  refine HN.out.mono ?_
  rintro e w1 ⟨sp, rfl, h1, _⟩
  have H1 := Lib.hid h1
  clear h1
  go_wp2_with fail
  refine (aw_push H1.out).mono ?_
  rintro e w2 ⟨rfl, h2⟩
  have H2 := Lib.hid h2
  clear h2
  go_wp2_with fail
  refine (aw_set H2.out).mono ?_
  rintro e w3 ⟨rfl, h3⟩
  have H3 := Lib.hid h3
  clear h3
  go_wp2_with fail
  refine (aw_move H3.out).mono ?_
  rintro e w4 ⟨rfl, h4⟩
  have H4 := Lib.hid h4
  clear h4
  go_wp2_with fail
  refine (aw_find H4.out).mono ?_
  rintro e w5 ⟨rfl, hb⟩
  have H5 := Lib.hid (H4.out.still hb).1
  clear hb
  go_wp2_with fail
  refine (aw_back H5.out).mono ?_
  rintro e w6 ⟨rfl, hb⟩
  have H6 := Lib.hid (H5.out.still hb).1
  clear hb
  go_wp2_with fail
  refine (aw_rooms H6.out).mono ?_
  rintro e w7 ⟨rfl, hb⟩
  have H7 := Lib.hid (H6.out.still hb).1
  clear hb
  go_wp2_with fail
  refine (aw_val H7.out).mono ?_
  rintro e w8 ⟨rfl, hb⟩
  have H8 := Lib.hid (H7.out.still hb).1
  clear hb
  go_wp2_with fail
  refine (aw_len H8.out).mono ?_
  rintro e w9 ⟨rfl, hb⟩
  have H9 := Lib.hid (H8.out.still hb).1
  clear hb
  go_wp2_with fail
  refine (aw_total H9.out).mono ?_
  rintro e wa ⟨rfl, hb⟩
  have HA := Lib.hid (H9.out.still hb).1
  clear hb
  go_wp2_with fail
  refine (aw_pushNo HA.out).mono ?_
  rintro e wb ⟨rfl, hh⟩
  have HB := Lib.hid hh
  clear hh
  go_wp2_with fail
  refine (aw_rem HB.out).mono ?_
  rintro e wc ⟨rfl, hh⟩
  have HC := Lib.hid hh
  clear hh
  go_wp2_with fail
  refine (aw_remNo HC.out).mono ?_
  rintro e wd ⟨rfl, hh⟩
  have HD := Lib.hid hh
  clear hh
  go_wp2
  go_ret
  exact ⟨rfl, HD.out.below⟩
end Go.Proofs.Ytnacmhljbnpdpaa
/- StoreNobody, walked: of a store that is nil nothing is told. -/
namespace Go.Proofs.Ytnacmhljbnpdpaa
open Go Go.RowKit Go.Deep

set_option maxHeartbeats 4000000 in
set_option maxRecDepth 8000 in
theorem storeNobody_walk (w : World) (q k : Int) :
    Calls Try.prog 7 #[.int .i64 q, .int .u64 k] w fun e w' => e = .returned (.bool true) ∧ Below w.heap.size w w' := by
  go_enter Try.func7, Try.ntmps7
  go_wp2_with fail
  refine (awake_walk w).mono ?_
  rintro e w1 ⟨rfl, hb⟩
  have B1 := Lib.hid hb
  clear hb
  go_wp2_with fail
  refine (nFind w1 (.int .u64 k)).mono ?_
  rintro e w2 ⟨rfl, hb⟩
  have B2 := Lib.hid (B1.out.trans (hb.mono B1.out.size))
  clear hb B1
  go_wp2_with fail
  refine (nFront w2 q).mono ?_
  rintro e w3 ⟨rfl, hb⟩
  have B3 := Lib.hid (B2.out.trans (hb.mono B2.out.size))
  clear hb B2
  go_wp2_with fail
  refine (nBack w3 q).mono ?_
  rintro e w4 ⟨rfl, hb⟩
  have B4 := Lib.hid (B3.out.trans (hb.mono B3.out.size))
  clear hb B3
  go_wp2_with fail
  refine (nRooms w4).mono ?_
  rintro e w5 ⟨rfl, hb⟩
  have B5 := Lib.hid (B4.out.trans (hb.mono B4.out.size))
  clear hb B4
  go_wp2_with fail
  refine (nPushFront w5 q (.int .u64 k)).mono ?_
  rintro e w6 ⟨rfl, hb⟩
  have B6 := Lib.hid (B5.out.trans (hb.mono B5.out.size))
  clear hb B5
  go_wp2_with fail
  refine (nPushBack w6 q (.int .u64 k)).mono ?_
  rintro e w7 ⟨rfl, hb⟩
  have B7 := Lib.hid (B6.out.trans (hb.mono B6.out.size))
  clear hb B6
  go_wp2_with fail
  refine (nMove w7 q (.int .u64 k)).mono ?_
  rintro e w8 ⟨rfl, hb⟩
  have B8 := Lib.hid (B7.out.trans (hb.mono B7.out.size))
  clear hb B7
  go_wp2_with fail
  refine (nRemove w8 (.int .u64 k)).mono ?_
  rintro e w9 ⟨rfl, hb⟩
  have B9 := Lib.hid (B8.out.trans (hb.mono B8.out.size))
  clear hb B8
  go_wp2_with fail
  refine (nSetVal w9 (.int .u64 k) 1).mono ?_
  rintro e w10 ⟨rfl, hb⟩
  have B10 := Lib.hid (B9.out.trans (hb.mono B9.out.size))
  clear hb B9
  go_wp2_with fail
  refine (nSetFlag w10 (.int .u64 k) 1).mono ?_
  rintro e w11 ⟨rfl, hb⟩
  have B11 := Lib.hid (B10.out.trans (hb.mono B10.out.size))
  clear hb B10
  go_wp2_with fail
  refine (nLen w11 q).mono ?_
  rintro e w12 ⟨rfl, hb⟩
  have B12 := Lib.hid (B11.out.trans (hb.mono B11.out.size))
  clear hb B11
  go_wp2_with fail
  refine (nTotal w12).mono ?_
  rintro e w13 ⟨rfl, hb⟩
  have B13 := Lib.hid (B12.out.trans (hb.mono B12.out.size))
  clear hb B12
  go_wp2_with fail
  refine (nKeys w13 q).mono ?_
  rintro e w14 ⟨rfl, hb⟩
  have B14 := Lib.hid (B13.out.trans (hb.mono B13.out.size))
  clear hb B13
  go_wp2_with fail
  refine (nVal w14 (.int .u64 k)).mono ?_
  rintro e w15 ⟨rfl, hb⟩
  have B15 := Lib.hid (B14.out.trans (hb.mono B14.out.size))
  clear hb B14
  go_wp2_with fail
  refine (nFlag w15 (.int .u64 k)).mono ?_
  rintro e w16 ⟨rfl, hb⟩
  have B16 := Lib.hid (B15.out.trans (hb.mono B15.out.size))
  clear hb B15
  go_wp2
  go_ret
  exact ⟨rfl, B16.out⟩
end Go.Proofs.Ytnacmhljbnpdpaa
