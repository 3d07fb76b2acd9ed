/- Words and walks for layer 6: SsKo SsOn. -/
import Derived.Test.YtnacmhljbnpdpaaGG6
import Derived.Test.YtnacmhljbnpdpaaGG9
import Derived.Deep.QuietTactic
import Derived.Deep.AppendLies
import Derived.BigQuiet
/- Package store: Keys, in a row of its own. -/
namespace Go.Proofs.Ytnacmhljbnpdpaa
open Go Go.RowKit Go.Deep

theorem ownsRow_low {w : World} {base base' size n : Nat} {e : TypeId} {v : Value} {xs : List Value} (h : w.ownsRow base e size v n xs) (hb : base' ≤ base) : w.ownsRow base' e size v n xs :=
  ⟨h.1, h.2.imp id (fun ⟨g, cap, cur, e1, e2, rest⟩ => ⟨g, cap, cur, e1, Nat.le_trans hb e2, rest⟩)⟩
section
variable {w0 w : World} {sp n m most : Nat} {l : Nat → List Nat} {A : St} {T U : Tb} {Q : Nat → List Ent} {K : List Nat}
def KeysOwn (w : World) (ks : List Nat) (e : Ending) (w' : World) : Prop := ∃ v, e = .returned v ∧ Below w.heap.size w w' ∧ w'.ownsRow w.heap.size 35 1 v ks.length (k64 ks)
set_option maxHeartbeats 1000000 in
theorem pkeys_own (h : SM w0 w sp n l A T K) (ft : Fit A T) (tag : Int) (E : Nat → Ent) (hE : ∀ i, (A.node i).key = (E i).key) :
    Calls Try.prog 16 #[ptr sp, .int .i64 tag] w (KeysOwn w ((allL n l tag).map (fun i => (E i).key))) := by
  obtain ⟨p, b, ix, hc, hq, _, _⟩ := h
  have HO := Lib.hid (open_walk hc)
  have HAL := Lib.hid (fun (W : World) (hb : Below w.heap.size w W) => sq_all (hq.still hb).1 tag)
  have HXI : Hid (∀ x ∈ allL n l tag, (x : Int) ≤ 2147483647 ∧ (A.at_ x).key = (E x).key) := Lib.hid (fun x hx => by
    unfold allL at hx
    cases hh : hasT n tag
    · rw [hh] at hx; simp at hx
    · rw [hh, if_pos rfl] at hx
      obtain ⟨t, rfl, ht⟩ := hasT_nat hh
      have q := hq.in32 ft.an ht (by simpa using hx)
      exact ⟨q.1, by rw [q.2.2]; exact hE x⟩)
  have HAT := Lib.hid (fun (W : World) (hb : Below w.heap.size w W) (i : Int) (h32 : i ≤ 2147483647) => sq_at (hq.still hb).1 i h32)
  have hxl := hq.allLen tag
  obtain ⟨xs, hxs⟩ : ∃ xs, allL n l tag = xs := ⟨_, rfl⟩
  rw [hxs] at HAL HXI hxl ⊢
  obtain ⟨ks, hks⟩ : ∃ ks, xs.map (fun i => (E i).key) = ks := ⟨_, rfl⟩
  have HKS : Hid (ks.length = xs.length ∧ ∀ i (hi : i < xs.length) (hi' : i < ks.length), ks[i] = (E xs[i]).key) := Lib.hid (by subst hks; exact ⟨by simp, fun i hi _ => by simp⟩)
  rw [hks]
  clear hc hq ft hxs hks hE
  go_enter Try.func16, Try.ntmps16
  go_wp2_with fail
  refine HO.out.mono ?_
  rintro e w1 ⟨rfl, hb⟩
  have HB2 := Lib.hid (hb.alloc hb.size (.cells (partsC p n b ix) 71))
  have hbx := heap_alloc_new w1 (.cells (partsC p n b ix) 71)
  have HBX := Lib.hid hbx
  clear hb hbx
  go_wp2_with fail
  refine (HAL.out _ HB2.out).mono ?_
  rintro e w2 ⟨v, rfl, hrow, hb2⟩
  obtain ⟨F, c, rfl, hcells⟩ := rows32 hrow
  have HCE := Lib.hid hcells
  have HB3 := Lib.hid (HB2.out.trans (hb2.mono HB2.out.size))
  have HBX2 := Lib.hid ((hb2.block w1.heap.size (by simp)).trans HBX.out)
  have hw12 : w1.heap.size < w2.heap.size := by have := hb2.size; simp at this; omega
  clear hrow hcells hb2
  go_wp2_with fail
  go_loopg [6, 16] xs.length (fun gg s6 s16 wr => ∃ (i : Nat) (v5 : Value), i + gg = xs.length ∧ v5 = s6 ∧ s16 = .int .i64 (i : Nat) ∧ Hid (Below w2.heap.size w2 wr ∧ wr.ownsRow w2.heap.size 35 1 v5 i (k64 (ks.take i))))
  case atStart => exact ⟨0, _, by omega, rfl, rfl, Lib.hid ⟨Below.refl _ _, World.ownsRow_nil _ _ _ _⟩⟩
  case round =>
    obtain ⟨i, v5, hi, rfl, rfl, HI⟩ := hrel
    have hsz := HI.out.1.size
    obtain ⟨⟨c0, c1, c2, c3⟩, _⟩ := q4_at ((HI.out.1.block w1.heap.size hw12).trans HBX2.out)
    by_cases hlt : i < xs.length
    · have hltI : (i : Int) < (xs.length : Int) := by omega
      obtain ⟨g, hF, q0⟩ := HCE.out wr HI.out.1 i hlt
      subst hF
      obtain ⟨x, hx⟩ : ∃ x, xs[i] = x := ⟨_, rfl⟩
      have hxi := HXI.out _ (List.getElem_mem hlt)
      have hik : i < ks.length := by rw [HKS.out.1]; exact hlt
      have hkx := HKS.out.2 i hlt hik
      rw [hx] at q0 hxi hkx
      obtain ⟨kx, hkk⟩ : ∃ kx, ks[i] = kx := ⟨_, rfl⟩
      have HAP : Hid (k64 (ks.take i) ++ [.int .u64 (kx : Nat)] = k64 (ks.take (i + 1))) := Lib.hid (by
        rw [List.take_succ_eq_append_getElem hik, hkk]
        simp [k64])
      have HKX : Hid ((A.at_ (x : Nat)).key = ((kx : Nat) : Int)) := Lib.hid (by rw [hxi.2, ← hkk, hkx])
      have hx32 := hxi.1
      have HAX := Lib.hid (HAT.out wr (HB3.out.trans (HI.out.1.mono HB3.out.size)) x hx32)
      have HOW0 := Lib.hid HI.out.2
      have HBW := Lib.hid HI.out.1
      clear hx hxi hkx hkk HI
      go_wp2_with fail
      refine HAX.out.mono ?_
      rintro e w4 ⟨y, rfl, hy, hb4⟩
      have hyk : y.key = (kx : Nat) := by rw [hy.node.1]; exact HKX.out
      have hfld : ∀ w : World, (Instr.field 79 y.v 0).run Try.prog w = .ok (.int .u64 (kx : Nat)) w := fun w => by
        have e : (Instr.field 79 y.v 0).run Try.prog w = .ok (.int .u64 y.key) w := by kernel_rfl
        rw [e, hyk]
      have HOW4 := Lib.hid (ownsRow_block HOW0.out (fun k _ hk => hb4.block k hk))
      have HB4 := Lib.hid (HBW.out.trans (hb4.mono hsz))
      have hsz4 : w2.heap.size ≤ w4.heap.size := by have := hb4.size; omega
      have HOW := Lib.hid (HOW4.out.alloc (.cells #[.int .u64 (kx : Nat)] 35))
      have HALL := Lib.hid ((Below.refl w2.heap.size w4).alloc hsz4 (.cells #[.int .u64 (kx : Nat)] 35))
      have hnew : (w4.alloc (.cells #[.int .u64 (kx : Nat)] 35)).cell? ⟨w4.heap.size, 0, none⟩ = some (.int .u64 (kx : Nat)) := (head_row (heap_alloc_new w4 (.cells #[.int .u64 (kx : Nat)] 35))).cell (i := 0) (by simp)
      have HSRC : Hid ((some (⟨w4.heap.size, 0, none⟩ : Addr) = none ∧ 1 = 0 ∧ 1 = 0 ∧ [Value.int .u64 (kx : Nat)] = []) ∨ ∃ ad, some (⟨w4.heap.size, 0, none⟩ : Addr) = some ad ∧ [Value.int .u64 (kx : Nat)].length = 1 * 1 ∧ ∀ j u, [Value.int .u64 (kx : Nat)][j]? = some u → (w4.alloc (.cells #[.int .u64 (kx : Nat)] 35)).cell? (ad.add j) = some u) := Lib.hid (.inr ⟨_, rfl, rfl, fun j u hu => by
        match j with
        | 0 => rw [Addr.add_lit, Nat.zero_add, hnew]; simpa using hu
        | j + 1 => simp at hu⟩)
      have H1C : Hid (∀ u ∈ [Value.int .u64 (kx : Nat)], u.oneCell' = true) := Lib.hid (by simp [Value.oneCell'])
      have hszA : w2.heap.size ≤ (w4.alloc (.cells #[.int .u64 (kx : Nat)] 35)).heap.size := by simp; omega
      clear hnew hyk hy hb4 c0 c1 c2 c3 q0
      go_wp2_with (at_builtin; refine wpList_append_src rfl (.tmp 20) (.tmp 26) 45 rfl w2.heap.size 35 (.int .u64 0) 1 8 (by kernel_rfl) (by kernel_rfl) rfl (by decide) v5 i _ rfl HOW.out (some ⟨w4.heap.size, 0, none⟩) 1 1 [.int .u64 (kx : Nat)] rfl HSRC.out H1C.out (by omega) (by omega) hszA ?_)
      intro v6 w6 hown6 hgrow6
      have hb6 := below_grown HALL.out HOW.out hgrow6 hszA
      rw [HAP.out] at hown6
      have HN := Lib.hid (And.intro (HB4.out.trans hb6) hown6)
      clear hown6 hgrow6 hb6 hfld
      go_wp2
      go_roundg (gk - 1)
      case measure => omega
      case rel => exact ⟨i + 1, v6, by omega, rfl, by go_num, HN⟩
    · have hltI : ¬ (i : Int) < (xs.length : Int) := by omega
      obtain rfl : i = xs.length := by omega
      have hfin := HI.out.2
      have hlm : xs.length = ks.length := HKS.out.1.symm
      rw [hlm, List.take_length] at hfin
      have HK := Lib.hid (ownsRow_low (base' := w.heap.size) hfin HB3.out.size)
      have HB := Lib.hid (HB3.out.trans (HI.out.1.mono HB3.out.size))
      clear hfin hlm c0 c1 c2 c3
      go_wp2
      go_ret
      exact ⟨_, rfl, HB.out, HK.out⟩
theorem si_keys_own (h : SI w0 w sp n Q m U most K) (hm : most ≤ 10000) (q : Int) :
    Calls Try.prog 16 #[ptr sp, .int .i64 q] w (KeysOwn w ((qI n Q q).map Ent.key)) := by
  obtain ⟨l, A, T, E, h1, h2⟩ := h
  obtain ⟨a, _⟩ := h1.ap
  rw [(qI_len h2 q).2, List.map_map]
  exact pkeys_own h1 (h2.fit a hm) q E (fun i => (h2.node i).1)
end
end Go.Proofs.Ytnacmhljbnpdpaa
/- StoreOne, walked. -/
namespace Go.Proofs.Ytnacmhljbnpdpaa
open Go Go.RowKit Go.Deep

/- All keys of the first queues, one behind the other. -/
def catK (n : Nat) (Q : Nat → List Ent) : Nat → List Nat
  | 0 => []
  | j + 1 => catK n Q j ++ (qI n Q (j : Nat)).map Ent.key
section
variable {n : Nat} {Q : Nat → List Ent}
theorem qI_nat (t : Nat) : qI n Q (t : Nat) = if t < n then Q t else [] := by
  unfold qI
  by_cases h : t < n
  · rw [hasT_of h, if_pos rfl, if_pos h, Int.toNat_natCast]
  · rw [if_neg h]
    have e : hasT n (t : Nat) = false := by unfold hasT; rw [decide_eq_false (show ¬ ((t : Nat) : Int) < (n : Int) by omega)]; simp
    rw [e]
    rfl
theorem catK_len : ∀ j, (catK n Q j).length = sumE Q (min j n)
  | 0 => by simp [catK, sumE]
  | j + 1 => by
    unfold catK
    rw [List.length_append, catK_len j, qI_nat, List.length_map]
    by_cases h : j < n
    · rw [if_pos h, show min (j + 1) n = min j n + 1 by omega, show min j n = j by omega]
      rfl
    · rw [if_neg h, show min (j + 1) n = min j n by omega]
      rfl
theorem catK_mem : ∀ j k, k ∈ catK n Q j → ∃ t i, ∃ (_ : t < n) (hi : i < (Q t).length), t < j ∧ ((Q t)[i]).key = k
  | 0, k, h => by simp [catK] at h
  | j + 1, k, h => by
    unfold catK at h
    rcases List.mem_append.1 h with h | h
    · obtain ⟨t, i, ht, hi, hj, e⟩ := catK_mem j k h
      exact ⟨t, i, ht, hi, by omega, e⟩
    · rw [qI_nat] at h
      split at h
      · rename_i hj
        obtain ⟨x, hx, rfl⟩ := List.mem_map.1 h
        obtain ⟨i, hi, rfl⟩ := List.getElem_of_mem hx
        exact ⟨j, i, hj, hi, by omega, rfl⟩
      · simp at h
theorem uq_nodup (hu : Uq n Q) {t : Nat} (ht : t < n) : ((Q t).map Ent.key).Nodup := by
  refine List.pairwise_iff_getElem.2 (fun i j hi hj hij e => ?_)
  simp only [List.getElem_map] at e
  simp only [List.length_map] at hi hj
  have := (hu t t i j ht ht hi hj e).2
  omega
theorem catK_nodup (hu : Uq n Q) : ∀ j, (catK n Q j).Nodup
  | 0 => List.nodup_nil
  | j + 1 => by
    unfold catK
    rw [List.nodup_append, qI_nat]
    by_cases h : j < n
    · rw [if_pos h]
      refine ⟨catK_nodup hu j, uq_nodup hu h, fun a ha b hb e => ?_⟩
      obtain ⟨t, i, ht, hi, hj, e1⟩ := catK_mem j a ha
      obtain ⟨x, hx, e2⟩ := List.mem_map.1 hb
      obtain ⟨i2, hi2, rfl⟩ := List.getElem_of_mem hx
      have := (hu t j i i2 ht h hi hi2 (by rw [e1, e2, e])).1
      omega
    · rw [if_neg h]
      exact ⟨catK_nodup hu j, List.nodup_nil, fun a _ b hb => by simp at hb⟩
/- A key of a queue: where. -/
theorem qI_at {j i : Nat} (hi : i < ((qI n Q (j : Nat)).map Ent.key).length) : ∃ (_ : j < n) (hi' : i < (Q j).length), ((Q j)[i]).key = ((qI n Q (j : Nat)).map Ent.key)[i] := by
  have e := qI_nat (n := n) (Q := Q) j
  by_cases h : j < n
  · rw [if_pos h] at e
    refine ⟨h, by rw [e] at hi; simpa using hi, ?_⟩
    simp only [e, List.getElem_map]
  · rw [if_neg h] at e
    rw [e] at hi
    simp at hi
end

/- append of something, and where the new row lies. -/
theorem wpList_append_at {P : Program} {w : World} {ops : Array Oper} {rest : List Oper} {o : Oper} {a : Act} {Q : Exit → Act → World → Prop} (hgd : o.guard = none) (s x : Operand) (t : TypeId)
    (ho : o.op = .call { callee := .builtin .append, args := #[s, x], argTypes := #[t, t] }) (base : Nat) (e : TypeId) (z : Value) (size bytes : Nat) (ht : P.underlying t = some (.slice e))
    (hinfo : (P.info? e).map (fun i => (i.zero, i.size, i.bytes)) = some (some z, size, bytes)) (hzs : z.cells.size = size) (hsz : 0 < size)
    (v : Value) (n : Nat) (xs : List Value) (hs : a.eval s = v) (hown : w.ownsRow base e size v n xs) (ad : Addr) (m c : Nat) (news : List Value) (hx : a.eval x = .slice (some ad) m c)
    (hl : news.length = m * size) (hc : ∀ j u, news[j]? = some u → w.cell? (ad.add j) = some u) (h1 : ∀ u ∈ news, u.oneCell' = true) (hm : 0 < m)
    (hbound : (n + m) * bytes ≤ 140737488355328) (h63 : n + m ≤ 1000000000) (hbase : base ≤ w.heap.size)
    (h : ∀ g cap w', w'.ownsRow base e size (.slice (some ⟨g, 0, none⟩) (n + m) cap) (n + m) (xs ++ news) → w.grownBy w' v.ownBlock → (v.ownBlock = some g ∨ g = w.heap.size) → wpList P ops Q rest (a.put o.dst (.slice (some ⟨g, 0, none⟩) (n + m) cap)) w') : wpList P ops Q (o :: rest) a w := by
  obtain ⟨i, hi, hz, hsize, hby⟩ := info_parts hinfo
  exact wpList_append_lies w hgd s x t ho base e i z size bytes ht hi hz hsize hby hzs hsz v n xs hs hown ad m c news hx hl hc h1 hm (by unfold maxLen; omega) hbound hbase _ rfl (fun g cap w' h2 h3 h4 _ => h g cap w' h2 h3 h4)
theorem rowK {W : World} {B : Nat} {v : Value} {ks : List Nat} (h : W.ownsRow B 35 1 v ks.length (k64 ks)) : ∃ F c, v = .slice F ks.length c ∧ ∀ i (hi : i < ks.length), ∃ g, F = some ⟨g, 0, none⟩ ∧ B ≤ g ∧ g < W.heap.size ∧ W.cell? ⟨g, i, none⟩ = some (.int .u64 (ks[i] : Nat)) := by
  rcases Nat.eq_zero_or_pos ks.length with h0 | h0
  · rcases h.2 with ⟨rfl, _⟩ | ⟨g, cap, cur, rfl, _⟩
    · exact ⟨none, 0, by rw [h0], fun i hi => by omega⟩
    · exact ⟨_, _, rfl, fun i hi => by omega⟩
  · obtain ⟨g, cap, cur, rfl, hB, hlt, _, _, hc⟩ := own_cur h h0
    refine ⟨_, _, rfl, fun i hi => ⟨g, rfl, hB, hlt, ?_⟩⟩
    rw [hc i (by simpa [k64] using hi)]
    simp [k64]
/- A row of keys that is read, another one's block than v's. -/
def RowAt (wr : World) (F : Option Addr) (ks : List Nat) (v : Value) : Prop := ∀ i (hi : i < ks.length), ∃ g, F = some ⟨g, 0, none⟩ ∧ g < wr.heap.size ∧ v.ownBlock ≠ some g ∧ wr.cell? ⟨g, i, none⟩ = some (.int .u64 (ks[i] : Nat))
theorem RowAt.below {wr w' : World} {F : Option Addr} {ks : List Nat} {v : Value} (h : RowAt wr F ks v) (hb : Below wr.heap.size wr w') : RowAt w' F ks v := fun i hi => by
  obtain ⟨g, e, h1, h2, h3⟩ := h i hi
  exact ⟨g, e, Nat.lt_of_lt_of_le h1 hb.size, h2, (hb.cell (p := ⟨g, i, none⟩) h1).trans h3⟩
theorem RowAt.grown {wr w' : World} {F : Option Addr} {ks : List Nat} {v : Value} {g6 n6 c6 : Nat} (h : RowAt wr F ks v) (hg : wr.grownBy w' v.ownBlock) (ha : v.ownBlock = some g6 ∨ g6 = wr.heap.size) : RowAt w' F ks (.slice (some ⟨g6, 0, none⟩) n6 c6) := fun i hi => by
  obtain ⟨g, e, h1, h2, h3⟩ := h i hi
  refine ⟨g, e, Nat.lt_of_lt_of_le h1 hg.size, fun q => ?_, hg.cell h3 (fun q => h2 q.symm)⟩
  have q' : g6 = g := by simpa [Value.ownBlock] using q
  subst q'
  rcases ha with ha | ha
  · exact h2 ha
  · omega

section
set_option maxHeartbeats 4000000 in
set_option maxRecDepth 4000 in
theorem one_short (w : World) (q : Nat) (hq : q < 256) (A : Option Addr) (na c : Nat) (l : Nat → Act6) (hn : na ≤ 50) (ha : Acts6 w A na l) :
    Calls Try.prog 5 #[.int .u8 (q : Nat), .slice A na c] w fun e w' => e = .returned (.bool true) ∧ Below w.heap.size w w' := by
  have HA := Lib.hid ha
  clear ha
  go_enter Try.func5, Try.ntmps5
  go_wp2_with fail
  refine (awake_walk _).mono ?_
  rintro e w1 ⟨rfl, h⟩
  have B1 := Lib.hid h; clear h
  go_wp2_with fail
  refine (run_walk B1.out q hq A na c l hn HA.out).mono ?_
  rintro e w2 ⟨sp, Q, m, U, most, o, oc, gu, cu, Kd, rfl, hs, hr, hm⟩
  have ba := (Below.refl w2.heap.size w2).alloc (Nat.le_refl _) (.cells (refSC o (1 + q % 4) oc m gu U.n cu) 30)
  have HS := Lib.hid (hs.still ba).1
  have hok := hs.ok
  have hn4 : 1 + q % 4 ≤ 4 := by omega
  have HCL : Hid ((catK (1 + q % 4) Q 4).length = sumE Q (1 + q % 4)) := Lib.hid (by rw [catK_len, show min 4 (1 + q % 4) = 1 + q % 4 by omega])
  have HND := Lib.hid (catK_nodup hok.uq 4)
  have hsum := hok.le
  have HQL := Lib.hid (fun j : Int => hok.qlen (by omega) j)
  have hm50 : most ≤ 50 := by omega
  have HT := Lib.hid (fun (W : World) (hb : Below (w2.alloc (.cells (refSC o (1 + q % 4) oc m gu U.n cu) 30)).heap.size (w2.alloc (.cells (refSC o (1 + q % 4) oc m gu U.n cu) 30)) W) => si_total (HS.out.still hb).1)
  clear hs hr ba hok hm
  generalize 1 + q % 4 = nq at HS HCL HND hsum HQL HT ⊢
  go_wp2_with fail
  generalize w2.alloc (.cells (refSC o nq oc m gu U.n cu) 30) = X at HS HT ⊢
  have HB0 := Lib.hid HS.out.below
  have HFD := Lib.hid (fun (W : World) (hb : Below X.heap.size X W) (j i : Nat) (hi : i < ((qI nq Q (j : Nat)).map Ent.key).length) => si_find_in (HS.out.still hb).1 (by omega) j i (qI_at hi).1 (qI_at hi).2.1 _ (qI_at hi).2.2)
  have HKY := Lib.hid (fun (W : World) (hb : Below X.heap.size X W) (j : Nat) => si_keys_own (HS.out.still hb).1 (by omega) (j : Nat))
  have HSTEP : Hid (∀ j, catK nq Q (j + 1) = catK nq Q j ++ (qI nq Q (j : Nat)).map Ent.key) := Lib.hid (fun _ => rfl)
  have hcl50 : (catK nq Q 4).length ≤ 50 := by rw [HCL.out]; omega
  have HLE := Lib.hid hcl50
  have HCLE : Hid (∀ j, j ≤ 4 → (catK nq Q j).length ≤ 50) := Lib.hid (fun j hj => by
    have h4 : ∀ i, i ≤ 4 → (catK nq Q i).length ≤ (catK nq Q 4).length := fun i hi => by
      have mono : ∀ d i, (catK nq Q i).length ≤ (catK nq Q (i + d)).length := fun d => by
        induction d with
        | zero => exact fun i => Nat.le_refl _
        | succ d ih => exact fun i => Nat.le_trans (ih i) (by rw [show i + (d + 1) = (i + d) + 1 by omega, HSTEP.out, List.length_append]; omega)
      have := mono (4 - i) i
      rwa [show i + (4 - i) = 4 by omega] at this
    exact Nat.le_trans (h4 j hj) hcl50)
  go_loopg [9, 10] 4 (fun gg s9 s10 wr => ∃ (j : Nat) (v9 : Value), j + gg = 4 ∧ v9 = s9 ∧ s10 = .int .i64 (j : Nat) ∧ Hid (Below X.heap.size X wr ∧ wr.ownsRow X.heap.size 35 1 v9 (catK nq Q j).length (k64 (catK nq Q j))))
  case atStart => exact ⟨0, _, by omega, rfl, rfl, Lib.hid ⟨Below.refl _ _, World.ownsRow_nil _ _ _ _⟩⟩
  case round =>
    obtain ⟨j, v9, hj, rfl, rfl, HI⟩ := hrel
    by_cases hlt : j < 4
    · have hltI : (j : Int) < 4 := by omega
      go_wp2_with fail
      refine (HKY.out wr HI.out.1 j).mono ?_
      rintro e w3 ⟨v, rfl, hb3, hk⟩
      have hkl := HQL.out (j : Nat)
      have HFJ := Lib.hid (fun (W : World) (hb : Below X.heap.size X W) => HFD.out W hb j)
      have HSJ := Lib.hid (HSTEP.out j)
      have hle1 := HCLE.out (j + 1) (by omega)
      obtain ⟨ks, hks⟩ : ∃ ks, (qI nq Q (j : Nat)).map Ent.key = ks := ⟨_, rfl⟩
      have hkl2 : ks.length ≤ 1000 := by rw [← hks]; simpa using hkl
      rw [hks] at hk HFJ HSJ
      obtain ⟨cj, hcj⟩ : ∃ cj, catK nq Q j = cj := ⟨_, rfl⟩
      rw [HSJ.out] at hle1
      rw [hcj] at HI HSJ hle1
      rw [List.length_append] at hle1
      obtain ⟨F, c1, rfl, hcells⟩ := rowK hk
      have HB3 := Lib.hid (HI.out.1.trans (hb3.mono HI.out.1.size))
      have HO3 := Lib.hid (ownsRow_block HI.out.2 (fun k _ hk => hb3.block k hk))
      have HRA : Hid (RowAt w3 F ks v9) := Lib.hid (fun i hi => by
        obtain ⟨g, e, g1, g2, g3⟩ := hcells i hi
        refine ⟨g, e, g2, fun q => ?_, g3⟩
        have := (HI.out.2.lt g q).2
        omega)
      clear hk hcells hks hcj hb3 HI hkl
      go_wp2_with fail
      go_loopg [9, 12] ks.length (fun gg s9 s12 wr => ∃ (i : Nat) (v9 : Value), i + gg = ks.length ∧ v9 = s9 ∧ s12 = .int .i64 (i : Nat) ∧ Hid (Below X.heap.size X wr ∧ wr.ownsRow X.heap.size 35 1 v9 (cj.length + i) (k64 (cj ++ ks.take i)) ∧ RowAt wr F ks v9))
      case atStart => exact ⟨0, _, by omega, rfl, rfl, Lib.hid ⟨HB3.out, by simpa using HO3.out, HRA.out⟩⟩
      case round =>
        obtain ⟨i, v5, hi, rfl, rfl, HI⟩ := hrel
        have hszX := HI.out.1.size
        by_cases hli : i < ks.length
        · have hliI : (i : Int) < (ks.length : Int) := by omega
          obtain ⟨g, hF, hgr, _, q0⟩ := HI.out.2.2 i hli
          subst hF
          have HFX := Lib.hid (HFJ.out wr HI.out.1 i hli)
          obtain ⟨x, hx⟩ : ∃ x, ks[i] = x := ⟨_, rfl⟩
          have HAP : Hid (k64 (cj ++ ks.take i) ++ [.int .u64 (x : Nat)] = k64 (cj ++ ks.take (i + 1))) := Lib.hid (by
            rw [List.take_succ_eq_append_getElem hli, hx]
            simp [k64])
          rw [hx] at q0 HFX
          have c0 := q0
          clear hx q0
          go_wp2_with fail
          refine HFX.out.mono ?_
          rintro e w4 ⟨rfl, hb4⟩
          have c4 := (hb4.cell (p := ⟨g, i, none⟩) hgr).trans c0
          have HOW4 := Lib.hid (ownsRow_block HI.out.2.1 (fun k _ hk => hb4.block k hk))
          have HB4 := Lib.hid (HI.out.1.trans (hb4.mono hszX))
          have HR4 := Lib.hid ((HI.out.2.2.below hb4).below ((Below.refl _ _).alloc (Nat.le_refl _) (.cells #[.int .u64 (x : Nat)] 35)))
          have hsz4 : X.heap.size ≤ w4.heap.size := by have := hb4.size; omega
          have HOW := Lib.hid (HOW4.out.alloc (.cells #[.int .u64 (x : Nat)] 35))
          have HALL := Lib.hid ((Below.refl X.heap.size w4).alloc hsz4 (.cells #[.int .u64 (x : Nat)] 35))
          have HALX := Lib.hid (HB4.out.alloc HB4.out.size (.cells #[.int .u64 (x : Nat)] 35))
          have hnew : (w4.alloc (.cells #[.int .u64 (x : Nat)] 35)).cell? ⟨w4.heap.size, 0, none⟩ = some (.int .u64 (x : Nat)) := (head_row (heap_alloc_new w4 (.cells #[.int .u64 (x : Nat)] 35))).cell (i := 0) (by simp)
          have HSRC : Hid (∀ (j : Nat) u, [Value.int .u64 (x : Nat)][j]? = some u → (w4.alloc (.cells #[.int .u64 (x : Nat)] 35)).cell? ((⟨w4.heap.size, 0, none⟩ : Addr).add j) = some u) := Lib.hid (fun j u hu => by
            match j with
            | 0 => rw [Addr.add_lit, Nat.zero_add, hnew]; simpa using hu
            | j + 1 => simp at hu)
          have H1C : Hid (∀ u ∈ [Value.int .u64 (x : Nat)], u.oneCell' = true) := Lib.hid (by simp [Value.oneCell'])
          have hszA : X.heap.size ≤ (w4.alloc (.cells #[.int .u64 (x : Nat)] 35)).heap.size := by simp; omega
          clear hnew hb4 c0
          go_wp2_with (at_builtin; refine wpList_append_at rfl (.tmp 58) (.tmp 63) 45 rfl X.heap.size 35 (.int .u64 0) 1 8 (by kernel_rfl) (by kernel_rfl) rfl (by decide) v5 (cj.length + i) _ rfl HOW.out ⟨w4.heap.size, 0, none⟩ 1 1 [.int .u64 (x : Nat)] rfl rfl HSRC.out H1C.out (by decide) (by omega) (by omega) hszA ?_)
          intro g6 cap6 w6 hown6 hgrow6 hat6
          have hb6 := below_grown HALX.out HOW.out hgrow6 hszA
          rw [HAP.out] at hown6
          have HN := Lib.hid (And.intro hb6 (And.intro hown6 (HR4.out.grown (n6 := cj.length + i + 1) (c6 := cap6) hgrow6 (by simpa using hat6))))
          clear hown6 hgrow6 hb6 c4 hat6
          go_wp2
          go_roundg (gk - 1)
          case measure => omega
          case rel => exact ⟨i + 1, _, by omega, rfl, by go_num, HN⟩
        · have hliI : ¬ (i : Int) < (ks.length : Int) := by omega
          obtain rfl : i = ks.length := by omega
          have hfin := HI.out.2.1
          rw [List.take_length, ← List.length_append, ← HSJ.out] at hfin
          have HN := Lib.hid (And.intro HI.out.1 hfin)
          clear hfin
          go_wp2_with fail
          go_roundg (4 - j - 1)
          case measure => omega
          case rel => exact ⟨j + 1, v5, by omega, rfl, by go_num, HN⟩
    · obtain rfl : j = 4 := by omega
      have hk := keys_own HI.out.2
      have HBW := Lib.hid HI.out.1
      rw [← HCL.out] at HT
      clear HI HSTEP HCLE HKY HFD HQL hsum HCL hcl50
      have hcl50 : (catK nq Q 4).length ≤ 50 := HLE.out
      obtain ⟨ks, hks⟩ : ∃ ks, catK nq Q 4 = ks := ⟨_, rfl⟩
      rw [hks] at hk HND HT hcl50
      clear hks
      have hge4 : ¬ (((4 : Nat) : Int) < 4) := by decide
      obtain ⟨wA, hwA⟩ : ∃ x, x = wr := ⟨_, rfl⟩
      subst hwA
      obtain ⟨F, c1, rfl, hcells⟩ := hk.mem
      have HCE := Lib.hid hcells
      clear hcells hk
      go_wp2_with fail
      go_loopg [15] ks.length (fun gg s15 wz => ∃ i : Nat, i + gg = ks.length ∧ s15 = .int .i64 (i : Nat) ∧ Hid (Below wA.heap.size wA wz))
      case atStart => exact ⟨0, by omega, rfl, Lib.hid (Below.refl _ _)⟩
      case round =>
        obtain ⟨i, hi, rfl, HI⟩ := hrel
        obtain ⟨wB, hwB⟩ : ∃ x, x = wr := ⟨_, rfl⟩
        subst hwB
        by_cases hlt : i < ks.length
        · have hltI : (i : Int) < (ks.length : Int) := by omega
          have HCI := Lib.hid (HCE.out i hlt)
          go_wp2_with fail
          go_loopg [16] i (fun gg s16 wz => ∃ k : Nat, k + gg = i ∧ s16 = .int .i64 (k : Nat) ∧ Hid (Below wA.heap.size wA wz))
          case atStart => exact ⟨0, by omega, rfl, HI⟩
          case round =>
            obtain ⟨k, hk, rfl, HJ⟩ := hrel
            by_cases hki : k < i
            · have hkiI : (k : Int) < (i : Int) := by omega
              have hkl : k < ks.length := by omega
              have hklI : (k : Int) < (ks.length : Int) := by omega
              obtain ⟨b1, hF, l1, q1⟩ := HCI.out
              obtain ⟨b2, hG, l2, q2⟩ := HCE.out k hkl
              subst hF
              injection hG with hG
              injection hG with hG _
              subst hG
              have q1 := (HJ.out.cell (p := ⟨b1, i, none⟩) l1).trans q1
              have q2 := (HJ.out.cell (p := ⟨b1, k, none⟩) l2).trans q2
              have hne : ((((ks[i] : Nat)) : Int) == ((ks[k] : Nat) : Int)) = false := by
                rw [beq_eq_false_iff_ne]
                intro e
                have := nodup_inj HND.out hlt hkl (by omega)
                omega
              generalize ks[i] = x1 at q1 hne
              generalize ks[k] = x2 at q2 hne
              clear l1 l2
              go_wp2_with fail
              go_quiet (fail)
              go_wp2
              go_roundg (gk - 1)
              case measure => omega
              case rel => exact ⟨k + 1, by omega, by go_num, Lib.hid ⟨HJ.out.os, HJ.out.tape, HJ.out.output, HJ.out.size, HJ.out.block⟩⟩
            · obtain rfl : k = i := by omega
              have hkiI : ¬ (k : Int) < (k : Int) := by omega
              go_wp2
              go_roundg (ks.length - k - 1)
              case measure => omega
              case rel => exact ⟨k + 1, by omega, by go_num, HJ⟩
        · have hltI : ¬ (i : Int) < (ks.length : Int) := by omega
          have HTT := Lib.hid (HT.out _ (HBW.out.trans (HI.out.mono HBW.out.size)))
          have HZ := Lib.hid (HB0.out.trans ((HBW.out.trans (HI.out.mono HBW.out.size)).mono HB0.out.size))
          go_wp2_with fail
          refine HTT.out.mono ?_
          rintro e wz ⟨rfl, hb⟩
          have HY := Lib.hid (HZ.out.trans (hb.mono HZ.out.size))
          clear hb
          go_wp2
          go_ret
          exact ⟨rfl, HY.out⟩
end
theorem one_long (w : World) (q : Nat) (A : Option Addr) (n c : Nat) (hn : 50 < n) :
    Calls Try.prog 5 #[.int .u8 (q : Nat), .slice A n c] w fun e w' => e = .returned (.bool true) ∧ Below w.heap.size w w' := by
  have h1 : (50 : Int) < (n : Int) := by omega
  go_enter Try.func5, Try.ntmps5
  go_wp2_with fail
  refine (awake_walk _).mono ?_
  rintro e w1 ⟨rfl, h⟩
  have B1 := Lib.hid h
  clear h
  go_wp2
  go_ret
  exact ⟨rfl, B1.out⟩
theorem storeOne_walk (w : World) (q : Nat) (hq : q < 256) (A : Option Addr) (n c : Nat) (l : Nat → Act6) (ha : Acts6 w A n l) :
    Calls Try.prog 5 #[.int .u8 (q : Nat), .slice A n c] w fun e w' => e = .returned (.bool true) ∧ Below w.heap.size w w' := by
  by_cases hn : n ≤ 50
  · exact one_short w q hq A n c l hn ha
  · exact one_long w q A n c (by omega)
end Go.Proofs.Ytnacmhljbnpdpaa
