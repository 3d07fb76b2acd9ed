/- Words and walks: LiJ. -/
import Derived.Test.YtkhikpnlpcankaaGreatG1
import Derived.Test.YtkhikpnlpcankaaGreatG22
namespace Go.Proofs.YtkhikpnlpcankaaGreat
open Go Go.RowKit Go.Deep
set_option maxRecDepth 8000
theorem first_place (k : Nat) : ∀ (xs : List It), k ∈ keysI xs → ∃ (i : Nat) (hi : i < xs.length), xs[i].key = k ∧ ∀ j (hj : j < xs.length), j < i → xs[j].key ≠ k
  | [], h => by simp [keysI] at h
  | x :: xs, h => by
    by_cases e : x.key = k
    · exact ⟨0, by simp, e, fun j _ hj => by omega⟩
    · have h2 : k ∈ keysI xs := by
        rcases List.mem_cons.1 h with h | h
        · exact absurd h.symm e
        · exact h
      obtain ⟨i, hi, h3, h4⟩ := first_place k xs h2
      refine ⟨i + 1, by simpa using hi, h3, fun j hj hji => ?_⟩
      cases j with
      | zero => exact e
      | succ j => exact h4 j (by simpa using hj) (by omega)
theorem plc_val (xs : List It) (k : Nat) : (k ∉ keysI xs ∧ ∀ W e w', PlcP W xs k e w' → W = w' ∧ e = .returned (.int .i64 (-1))) ∨ ∃ (i : Nat) (hi : i < xs.length), xs[i].key = k ∧ ∀ W e w', PlcP W xs k e w' → W = w' ∧ e = .returned (.int .i64 (i : Nat)) := by
  by_cases hk : k ∈ keysI xs
  · obtain ⟨i, hi, h1, h2⟩ := first_place k xs hk
    refine .inr ⟨i, hi, h1, fun W e w' ⟨e1, h⟩ => ⟨e1, ?_⟩⟩
    rcases h with ⟨_, hno⟩ | ⟨j, hj, he, h3, h4⟩
    · exact absurd hk hno
    · have hij : i = j := by
        rcases Nat.lt_trichotomy i j with h | h | h
        · exact absurd h1 (h4 i hi h)
        · exact h
        · exact absurd h3 (h2 j hj h)
      rw [he, hij]
  · refine .inl ⟨hk, fun W e w' ⟨e1, h⟩ => ⟨e1, ?_⟩⟩
    rcases h with ⟨he, _⟩ | ⟨j, hj, _, h3, _⟩
    · exact he
    · exact absurd (h3 ▸ List.mem_map_of_mem (List.getElem_mem hj)) hk
theorem plc_f {xs : List It} {k i f : Nat} (hnd : (keysI xs).Nodup) (hi : i < xs.length) (hik : xs[i].key = k) : 0 < ct k f xs ↔ xs[i].f = f := by
  constructor
  · intro h
    obtain ⟨j, hj, e⟩ := List.getElem_of_mem (ct_in.2 h)
    have hji : j = i := by
      have h1 : (keysI xs)[j]'(by simpa [keysI] using hj) = (keysI xs)[i]'(by simpa [keysI] using hi) := by
        simp only [keysI, List.getElem_map]
        rw [e, hik]
      have h2 := List.pairwise_iff_getElem.1 hnd
      rcases Nat.lt_trichotomy j i with h | h | h
      · exact absurd h1 (h2 _ _ _ _ h)
      · exact h
      · exact absurd h1.symm (h2 _ _ _ _ h)
    subst hji
    rw [e]
  · intro h
    refine ct_in.1 ?_
    have : xs[i] = ⟨k, f⟩ := It.eq_iff.2 ⟨hik, h⟩
    rw [← this]
    exact List.getElem_mem hi
namespace L12
theorem coolN_c : ∀ (m : Nat) (s : L12), (coolN m s).c = s.c
  | 0, _ => rfl
  | m + 1, s => coolN_c m s.cool1
theorem fgN_c : ∀ (m : Nat) (s : L12), (fgN m s).c = s.c
  | 0, _ => rfl
  | m + 1, s => fgN_c m s.fg1
theorem cool_c (s : L12) : s.cool.c = s.c := coolN_c _ _
theorem forget_c (s : L12) : s.forget.c = s.c := fgN_c _ _
theorem Ok.bd {s : L12} (h : s.Ok) : nk 0 s.s + nk 2 s.s + s.q.length ≤ 2097152 := by
  have := h.len
  have := h.gone
  have := h.cap
  omega
theorem Ok.sl {s : L12} (h : s.Ok) : s.s.length ≤ 2097152 := by
  have := h.fine.slen
  have := h.bd
  omega
theorem Ok.ql {s : L12} (h : s.Ok) : s.q.length ≤ 2097152 := by
  have := h.bd
  omega
end L12
section
variable {w w1 : World} {u1 u2 : Value} {s t : L12} {T : TypeId} {b r : Nat} {cs : Array Value} {F1 F2 : Option Addr} {n1 d1 n2 d2 : Nat}
theorem Bo.only12 (_ : Bo w w1 T b r cs z12) (c : Nat) (v1 v2 : Value) : Only [b, r] w1 (((w1.setCell ⟨r, 0, none⟩ (.int .i64 (c : Nat))).setCell ⟨r, 1, none⟩ v1).setCell ⟨r, 2, none⟩ v2) := (((Only.refl _ _).setCell (by simp) _).setCell (by simp) _).setCell (by simp) _
theorem Bo.tell12 (h : Bo w w1 T b r cs z12) (hs : St12 w1 t u1 u2) {c : Nat} (hc : t.c = c) : P12 w t (.returned (.agg (l12C c u1 u2))) (((w1.setCell ⟨r, 0, none⟩ (.int .i64 (c : Nat))).setCell ⟨r, 1, none⟩ u1).setCell ⟨r, 2, none⟩ u2) := ⟨_, _, by rw [hc], h.fin (h.only12 _ _ _), h.st12 (h.only12 _ _ _) hs⟩
theorem Bo.tell12o (h : Bo w w1 T b r cs z12) (hs : St12 w1 t u1 u2) {c : Nat} (hc : t.c = c) {o : Value} {out : List Nat} (ho : KV w1 o out) : P12o w t out (.returned (.tuple #[.agg (l12C c u1 u2), o])) (((w1.setCell ⟨r, 0, none⟩ (.int .i64 (c : Nat))).setCell ⟨r, 1, none⟩ u1).setCell ⟨r, 2, none⟩ u2) := ⟨_, _, _, by rw [hc], h.fin (h.only12 _ _ _), h.st12 (h.only12 _ _ _) hs, h.kv (h.only12 _ _ _) ho⟩
theorem Bo.put12 {c0 c : Nat} {v1 v2 : Value} (h : Bo w w1 T b r (l12C c0 v1 v2) z12) (hs : St12 w1 t (.slice F1 n1 d1) (.slice F2 n2 d2)) (hc : t.c = c) : Bx12 w (((w1.setCell ⟨b, 0, none⟩ (.int .i64 (c : Nat))).setCell ⟨b, 1, none⟩ (.slice F1 n1 d1)).setCell ⟨b, 2, none⟩ (.slice F2 n2 d2)) T b r t (.slice F1 n1 d1) (.slice F2 n2 d2) := by
  subst hc
  obtain ⟨h1, h2⟩ := c3_set h.box (.int .i64 (t.c : Nat)) (.slice F1 n1 d1) (.slice F2 n2 d2)
  have ho : Only [b, r] w1 (((w1.setCell ⟨b, 0, none⟩ (.int .i64 (t.c : Nat))).setCell ⟨b, 1, none⟩ (.slice F1 n1 d1)).setCell ⟨b, 2, none⟩ (.slice F2 n2 d2)) := (((Only.refl _ _).setCell (by simp) _).setCell (by simp) _).setCell (by simp) _
  exact ⟨⟨h.fin ho, h1, (h2.block r (head_row h.res).lt (by simpa using fun e => h.ge.2.2 e.symm)).trans h.res, h.ge, ⟨rfl, h.nu.2⟩, h.ty⟩, h.st12 ho hs⟩
set_option maxHeartbeats 1000000 in
theorem r12new_walk (n : Int) (hn1 : -9223372036854775808 ≤ n) (hn2 : n ≤ 9223372036854775807) : Calls Tryz.prog 8 #[.int .i64 n] w (P12 w (L12.new n)) := by
  have KK := Lib.hid (rcap_walk (w := w.alloc (.cells z12 29)) n hn1 hn2)
  obtain ⟨c, hc⟩ : ∃ c, capI n = c := ⟨_, rfl⟩
  have HC : Hid (P12 w (L12.new n) = P12 w ⟨c, [], []⟩) := Lib.hid (by rw [← hc]; rfl)
  rw [hc] at KK
  rw [HC.out]
  clear hc HC
  go_enter Tryz.func8, Tryz.ntmps8
  go_wp2_with fail
  refine KK.out.mono ?_
  rintro e w1 ⟨rfl, rfl⟩
  go_wp2
  exact bodyPost_ret (v := .agg (l12C c (.slice none 0 0) (.slice none 0 0))) (by simp [results, Tryz.results8, go_sem]) rfl ⟨_, _, rfl, (Below.refl _ _).alloc (Nat.le_refl _) _, ⟨IV.nil _, KV.nil _⟩⟩
theorem r12ghosts_walk (hs : St12 w s u1 u2) (ok : s.Ok) : Calls Tryz.prog 19 #[.agg (l12C s.c u1 u2)] w fun e w' => e = .returned (.int .i64 (s.ghosts : Nat)) ∧ Below w.heap.size w w' := by
  have hl := ok.sl
  obtain ⟨F1, n1, d1, rfl⟩ := hs.form1
  obtain ⟨F2, n2, d2, rfl⟩ := hs.form2
  unfold L12.ghosts
  obtain ⟨c, xs, q⟩ := s
  simp only at *
  have HB := Lib.hid (low_one w (.cells (l12C c (.slice F1 n1 d1) (.slice F2 n2 d2)) T12))
  have KM : Hid (Calls Tryz.prog 48 #[.slice F1 n1 d1, .int .i64 0] (w.alloc (.cells (l12C c (.slice F1 n1 d1) (.slice F2 n2 d2)) T12)) fun e w' => e = .returned (.int .i64 (nk 0 xs : Nat)) ∧ (w.alloc (.cells (l12C c (.slice F1 n1 d1) (.slice F2 n2 d2)) T12)) = w') := Lib.hid (r12many_walk (hs.g1.below HB.out) (by show xs.length ≤ _; omega) 0)
  clear hs ok
  go_enter Tryz.func19, Tryz.ntmps19
  go_wp2_with fail
  refine KM.out.mono ?_
  rintro e w1 ⟨rfl, rfl⟩
  go_wp2
  go_ret
  exact ⟨rfl, HB.out⟩
theorem hotK_next {xs : List It} {i : Nat} (hi : i < xs.length) : hotK (xs.take (i + 1)) = hotK (xs.take i) ++ (if xs[i].f = 2 then [xs[i].key] else []) := by
  rw [List.take_succ_eq_append_getElem hi]
  unfold hotK keysI
  rw [List.filter_append, List.map_append]
  congr 1
  by_cases e : xs[i].f = 2 <;> simp [e]
set_option maxHeartbeats 1000000 in
theorem r12keys_walk (hs : St12 w s u1 u2) (ok : s.Ok) : Calls Tryz.prog 14 #[.agg (l12C s.c u1 u2)] w (RetK w s.keys) := by
  obtain ⟨F1, d1, rfl, -⟩ := hs.g1.mem
  obtain ⟨F2, n2, d2, rfl⟩ := hs.form2
  have hsl := ok.sl
  have hql := ok.ql
  clear ok
  unfold L12.keys
  obtain ⟨c, xs, q⟩ := s
  simp only at *
  have HQL := Lib.hid hql
  obtain ⟨n, hn⟩ : ∃ n, xs.length = n := ⟨_, rfl⟩
  rw [hn] at hs hsl ⊢
  have HLD : Hid (∀ W, Below (w.alloc (.cells (l12C c (.slice F1 n d1) (.slice F2 n2 d2)) T12)).heap.size (w.alloc (.cells (l12C c (.slice F1 n d1) (.slice F2 n2 d2)) T12)) W → St12 W ⟨c, xs, q⟩ (.slice F1 n d1) (.slice F2 n2 d2) ∧ (W.cell? ⟨w.heap.size, 1, none⟩ = some (.slice F1 n d1) ∧ W.cell? ⟨w.heap.size, 2, none⟩ = some (.slice F2 n2 d2)) ∧ w.heap.size < W.heap.size ∧ Below w.heap.size w W) := Lib.hid (fun W hb => by
    have hlo := low_one w (.cells (l12C c (.slice F1 n d1) (.slice F2 n2 d2)) T12)
    have h2 := hlo.trans (hb.mono hlo.size)
    have h3 := (hb.block w.heap.size (by simp)).trans (heap_alloc_new w (.cells (l12C c (.slice F1 n d1) (.slice F2 n2 d2)) T12))
    obtain ⟨⟨x0, x1, x2⟩, _⟩ := c3_at h3
    exact ⟨hs.below h2, ⟨x1, x2⟩, (head_row h3).lt, h2⟩)
  have HN := Lib.hid hn
  have hnI : (n : Int) ≤ 2097152 := by omega
  clear hs hql hn
  go_enter Tryz.func14, Tryz.ntmps14
  go_wp2_with fail
  generalize World.alloc w _ = W0 at HLD ⊢
  go_loopg [3, 4] n (fun gg s3 s4 wr => ∃ (i : Nat) (v3 : Value), i + gg = n ∧ v3 = s3 ∧ s4 = .int .i64 (i : Nat) ∧ Hid (KO W0.heap.size W0 wr v3 (hotK (xs.take i))))
  case atStart => exact ⟨0, _, by omega, rfl, rfl, Lib.hid (by rw [List.take_zero]; exact KO.nil (Below.refl _ _))⟩
  case round =>
    obtain ⟨i, v3, hi, rfl, rfl, HI⟩ := hrel
    obtain ⟨hst, ⟨x1, x2⟩, hbb, hbw⟩ := HLD.out wr HI.out.low
    have HST := Lib.hid hst
    have HBW := Lib.hid hbw
    have HHL : Hid ((hotK (xs.take i)).length ≤ 2097152) := Lib.hid (by
      rw [hotK_len]
      have h1 : nk 2 (xs.take i) ≤ (xs.take i).length := List.countP_le_length
      rw [List.length_take, HN.out] at h1
      omega)
    clear hst hbw
    by_cases hlt : i < n
    · have hltI : (i : Int) < (n : Int) := by omega
      have hil : i < xs.length := by rw [HN.out]; exact hlt
      obtain ⟨F', d', e, _, _, h3⟩ := HST.out.g1.mem
      injection e with e1 e2 e3
      subst e1 e3
      obtain ⟨g, off, hF, hg, q0, q1⟩ := h3 i hil
      subst hF
      have hnx := hotK_next hil
      obtain ⟨kx, hkx⟩ : ∃ k, xs[i].key = k := ⟨_, rfl⟩
      obtain ⟨fx, hfx⟩ : ∃ f, xs[i].f = f := ⟨_, rfl⟩
      dsimp only at q0 q1
      rw [hkx] at q0 hnx
      rw [hfx] at q1 hnx
      clear h3 e2 hkx hfx
      by_cases he : fx = 2
      · subst he
        rw [if_pos rfl] at hnx
        have HNX := Lib.hid hnx
        have HOW := Lib.hid (HI.out.alloc HI.out.low.size (.cells #[.int .u64 (kx : Nat)] 32))
        have HSRC := Lib.hid (KV.one wr kx)
        have hsz := Nat.le_trans HI.out.low.size (low_one wr (.cells #[.int .u64 (kx : Nat)] 32)).size
        clear hnx
        go_wp2_with (at_builtin; refine wpList_append_kv rfl (.tmp 19) (.tmp 26) rfl W0.heap.size (by kernel_rfl) (by kernel_rfl) v3 (hotK (xs.take i)) rfl HOW.out _ [kx] rfl HSRC.out (by have := HHL.out; simp; omega) hsz ?_)
        intro v5 w5 hown5 _ _
        rw [← HNX.out] at hown5
        have HF := Lib.hid hown5
        clear hown5 HOW HSRC hsz q0 q1 x1 x2 hbb HI HST HBW HHL HNX
        go_wp2
        go_roundg (gk - 1)
        case measure => omega
        case rel => exact ⟨i + 1, v5, by omega, rfl, by go_num, HF⟩
      · have heI : ¬ (fx : Int) = 2 := by omega
        rw [if_neg he, List.append_nil] at hnx
        have HF : Hid (KO W0.heap.size W0 wr v3 (hotK (xs.take (i + 1)))) := Lib.hid (by rw [hnx]; exact HI.out)
        clear hnx HI
        go_wp2
        go_roundg (gk - 1)
        case measure => omega
        case rel => exact ⟨i + 1, v3, by omega, rfl, by go_num, HF⟩
    · have hltI : ¬ (i : Int) < (n : Int) := by omega
      obtain rfl : i = n := by omega
      have hown := HI.out
      rw [← HN.out, List.take_length] at hown
      rw [← HN.out, List.take_length] at HHL
      have HOW := Lib.hid hown
      have HSRC := Lib.hid HST.out.g2
      have hsz := HI.out.low.size
      clear hown HI
      go_wp2_with (at_builtin; refine wpList_append_kv rfl (.tmp 28) (.tmp 30) rfl W0.heap.size (by kernel_rfl) (by kernel_rfl) v3 (hotK xs) rfl HOW.out _ q rfl HSRC.out (by have := HHL.out; have := HQL.out; omega) hsz ?_)
      intro v5 w5 hown5 _ _
      have HF := Lib.hid (And.intro (HLD.out w5 hown5.low).2.2.2 hown5.kv)
      clear hown5 HOW HSRC
      go_wp2
      go_ret
      exact ⟨_, rfl, HF.out.1, HF.out.2⟩
set_option maxHeartbeats 2000000 in
theorem r12drop_walk (hs : St12 w s u1 u2) (ok : s.Ok) (k : Nat) : Calls Tryz.prog 39 #[.agg (l12C s.c u1 u2), .int .u64 (k : Nat)] w (P12 w (s.drop k)) := by
  obtain ⟨F1, n1, d1, rfl⟩ := hs.form1
  obtain ⟨F2, n2, d2, rfl⟩ := hs.form2
  have HX0 := Lib.hid (Bx12.start w T12 (by decide) hs)
  have HSL := Lib.hid ok.sl
  have HQL := Lib.hid ok.ql
  have HTL := Lib.hid ok.fine.tot_le
  have hpv := plc_val s.s k
  unfold L12.drop
  obtain ⟨c, xs, q⟩ := s
  simp only at *
  clear hs ok
  generalize hW0 : World.alloc _ (.cells z12 T12) = W0 at HX0
  have HW0 := Lib.hid hW0
  have KP := Lib.hid (r12place_walk HX0.out.st.g1 (by have := HSL.out; show xs.length ≤ _; omega) k)
  obtain ⟨⟨x0, x1, x2⟩, xf0, xf1, xf2⟩ := c3_at HX0.out.bo.box
  have hbb := (head_row HX0.out.bo.box).lt
  clear hW0
  go_enter Tryz.func39, Tryz.ntmps39
  go_wp2_with fail
  rw [HW0.out]
  clear HW0
  go_wp2_with fail
  refine KP.out.mono ?_
  rcases hpv with ⟨hno, hval⟩ | ⟨i, hi, hik, hval⟩
  · rintro e w1 hp
    obtain ⟨rfl, rfl⟩ := hval _ _ _ hp
    have HWI : Hid (wi k xs = xs) := Lib.hid (wi_none (by have := mt tot_in.2 hno; omega))
    have KW := Lib.hid (rwithout_walk HX0.out.st.g2 (by have := HQL.out; show q.length ≤ _; omega) k)
    clear KP hno hval hp
    go_wp2_with fail
    refine KW.out.mono ?_
    rintro e w3 ⟨v3, rfl, ha⟩
    obtain ⟨Fw, nw, dw, rfl⟩ := ha.kv.form
    have hx3 := HX0.out.step ha.low
    clear x0 x1 x2 xf0 xf1 xf2 hbb
    obtain ⟨⟨x0, x1, x2⟩, xf0, xf1, xf2⟩ := c3_at hx3.bo.box
    try dsimp only at x0 x1 x2
    have hbb := (head_row hx3.bo.box).lt
    have hy3 := hx3.set2 ha.kv
    generalize hWb : w3.setCell ⟨w.heap.size, 2, none⟩ (.slice Fw nw dw) = wb at hy3
    have HWb := Lib.hid hWb
    have HXb := Lib.hid hy3
    have KPR := Lib.hid (r12prune_walk HXb.out.st (by have := HSL.out; have := wi_len (k := k) (s := xs); show xs.length ≤ _; omega))
    clear hx3 hy3 hWb ha KW HX0
    go_upto_region 5 with fail
    rw [HWb.out]
    clear HWb x0 x1 x2 xf0 xf1 xf2 hbb
    obtain ⟨⟨x0, x1, x2⟩, xf0, xf1, xf2⟩ := c3_at HXb.out.bo.box
    try dsimp only at x0 x1 x2
    have hbb := (head_row HXb.out.bo.box).lt
    go_wp2_with fail
    refine KPR.out.mono ?_
    rintro e w5 ⟨v1, v2, he, hb5, hs5⟩
    obtain ⟨Fa1, na1, da1, rfl⟩ := hs5.form1
    obtain ⟨Fa2, na2, da2, rfl⟩ := hs5.form2
    have he' : e = .returned (.agg (l12C c (.slice Fa1 na1 da1) (.slice Fa2 na2 da2))) := he
    subst he'
    have HBO := Lib.hid (HXb.out.bo.step hb5)
    have HST := Lib.hid hs5
    obtain ⟨⟨y0, y1, y2⟩, yf0, yf1, yf2⟩ := c3_at HBO.out.res
    have hrr := (head_row HBO.out.res).lt
    clear he hb5 hs5 KPR HXb x0 x1 x2 xf0 xf1 xf2 hbb
    go_wp2
    exact bodyPost_ret (v := .agg (l12C c (.slice Fa1 na1 da1) (.slice Fa2 na2 da2))) (by simp [results, Tryz.results39, go_sem, y0, y1, y2]) rfl (by rw [HWI.out]; exact HBO.out.tell12 HST.out rfl)
  · rintro e w1 hp
    obtain ⟨rfl, rfl⟩ := hval _ _ _ hp
    have HCI : Hid (xs.take i ++ xs.drop (i + 1) = wi k xs) := Lib.hid (by rw [cut_is HTL.out hi, hik])
    have KC := Lib.hid (r12cut_walk HX0.out.st.g1 (by have := HSL.out; show xs.length ≤ _; omega) hi)
    rw [HCI.out] at KC
    clear KP hik hval hp HCI
    go_wp2_with fail
    refine KC.out.mono ?_
    rintro e w2 ⟨v2, rfl, hb2, hv2, -⟩
    obtain ⟨Fc, nc, dc, rfl⟩ := hv2.form
    have hx2 := HX0.out.step hb2
    clear x0 x1 x2 xf0 xf1 xf2 hbb
    obtain ⟨⟨x0, x1, x2⟩, xf0, xf1, xf2⟩ := c3_at hx2.bo.box
    try dsimp only at x0 x1 x2
    have hbb := (head_row hx2.bo.box).lt
    have hy2 := hx2.set1 hv2
    generalize hWa : w2.setCell ⟨w.heap.size, 1, none⟩ (.slice Fc nc dc) = wa at hy2
    have HWa := Lib.hid hWa
    have HXa := Lib.hid hy2
    have KW := Lib.hid (rwithout_walk HXa.out.st.g2 (by have := HQL.out; show q.length ≤ _; omega) k)
    clear hx2 hy2 hWa hv2 hb2 KC HX0
    go_upto_region 4 with fail
    rw [HWa.out]
    clear HWa x0 x1 x2 xf0 xf1 xf2 hbb
    obtain ⟨⟨x0, x1, x2⟩, xf0, xf1, xf2⟩ := c3_at HXa.out.bo.box
    try dsimp only at x0 x1 x2
    have hbb := (head_row HXa.out.bo.box).lt
    go_wp2_with fail
    refine KW.out.mono ?_
    rintro e w3 ⟨v3, rfl, ha⟩
    obtain ⟨Fw, nw, dw, rfl⟩ := ha.kv.form
    have hx3 := HXa.out.step ha.low
    clear x0 x1 x2 xf0 xf1 xf2 hbb
    obtain ⟨⟨x0, x1, x2⟩, xf0, xf1, xf2⟩ := c3_at hx3.bo.box
    try dsimp only at x0 x1 x2
    have hbb := (head_row hx3.bo.box).lt
    have hy3 := hx3.set2 ha.kv
    generalize hWb : w3.setCell ⟨w.heap.size, 2, none⟩ (.slice Fw nw dw) = wb at hy3
    have HWb := Lib.hid hWb
    have HXb := Lib.hid hy3
    have KPR := Lib.hid (r12prune_walk HXb.out.st (by have := HSL.out; have := wi_len (k := k) (s := xs); show (wi k xs).length ≤ _; omega))
    clear hx3 hy3 hWb ha KW HXa
    go_upto_region 5 with fail
    rw [HWb.out]
    clear HWb x0 x1 x2 xf0 xf1 xf2 hbb
    obtain ⟨⟨x0, x1, x2⟩, xf0, xf1, xf2⟩ := c3_at HXb.out.bo.box
    try dsimp only at x0 x1 x2
    have hbb := (head_row HXb.out.bo.box).lt
    go_wp2_with fail
    refine KPR.out.mono ?_
    rintro e w5 ⟨v1, v2, he, hb5, hs5⟩
    obtain ⟨Fa1, na1, da1, rfl⟩ := hs5.form1
    obtain ⟨Fa2, na2, da2, rfl⟩ := hs5.form2
    have he' : e = .returned (.agg (l12C c (.slice Fa1 na1 da1) (.slice Fa2 na2 da2))) := he
    subst he'
    have HBO := Lib.hid (HXb.out.bo.step hb5)
    have HST := Lib.hid hs5
    obtain ⟨⟨y0, y1, y2⟩, yf0, yf1, yf2⟩ := c3_at HBO.out.res
    have hrr := (head_row HBO.out.res).lt
    clear he hb5 hs5 KPR HXb x0 x1 x2 xf0 xf1 xf2 hbb
    go_wp2
    exact bodyPost_ret (v := .agg (l12C c (.slice Fa1 na1 da1) (.slice Fa2 na2 da2))) (by simp [results, Tryz.results39, go_sem, y0, y1, y2]) rfl (HBO.out.tell12 HST.out rfl)
namespace L12
theorem Fine.cool_len (h : s.Fine) (hb : nk 0 s.s + nk 2 s.s + s.q.length ≤ 9000000) : s.cool.s.length ≤ 9000000 ∧ nk 0 s.cool.s + nk 2 s.cool.s + s.cool.q.length ≤ 9000000 := by
  obtain ⟨c1, c3, c4, c5, c6, c7⟩ := h.cool
  have := c1.slen
  omega
end L12
set_option maxHeartbeats 2000000 in
theorem r12touch_walk (hs : St12 w s u1 u2) (ok : s.Ok) (k : Nat) : Calls Tryz.prog 37 #[.agg (l12C s.c u1 u2), .int .u64 (k : Nat)] w (P12 w (s.touch k)) := by
  obtain ⟨F1, d1, rfl, -⟩ := hs.g1.mem
  obtain ⟨F2, n2, d2, rfl⟩ := hs.form2
  have HX0 := Lib.hid (Bx12.start w T12 (by decide) hs)
  have HPC := Lib.hid (And.intro ok.pos ok.cap)
  have HQL := Lib.hid ok.ql
  have hpv := plc_val s.s k
  have HTC : Hid (∀ f, 0 < ct k f s.s → tot k s.s ≠ 0) := Lib.hid (fun f h1 h2 => by
    obtain ⟨y, hy, e⟩ := List.mem_map.1 (tot_in.2 (show 0 < tot k s.s by
      have h3 := tot_ct (a := k) ok.fine.kinds
      have h4 := ct_in.2 h1
      have h5 : k ∈ keysI s.s := List.mem_map_of_mem (f := It.key) h4
      have := tot_in.1 h5
      omega))
    have h6 : k ∈ keysI s.s := e ▸ List.mem_map_of_mem hy
    have := tot_in.1 h6
    omega)
  have HPF := Lib.hid (fun (i f : Nat) (hi : i < s.s.length) (hik : s.s[i].key = k) => plc_f (f := f) ok.fine.stackNd hi hik)
  have HKS : Hid (∀ (W : World) (v1 v2 : Value) (f : Nat), St12 W s v1 v2 → Calls Tryz.prog 75 #[.agg (l12C s.c v1 v2), .int .u64 (k : Nat), .int .i64 (f : Nat)] W (P12 W (s.stack k f))) := Lib.hid (fun W v1 v2 f h => r12stack_walk h ok.fine.tot_le (by have := ok.sl; omega) k f)
  have HSS : Hid (∀ f, (s.stack k f).s.length ≤ 3000000) := Lib.hid (fun f => by
    have h1 := ok.sl
    have h2 := wi_len (k := k) (s := s.s)
    show (wi k s.s).length + 1 ≤ _
    omega)
  have HWM : Hid (k ∈ s.q → ((s.stack k 2).less k).Fine) := Lib.hid (fun h => ok.fine.warm ((ok.fine.at_ k).2.2.2 (by have := L12.q_in.1 h; omega)))
  have HLL : Hid ((wo k s.q).length ≤ s.q.length) := Lib.hid (wo_len k s.q)
  generalize hW0 : World.alloc _ (.cells z12 T12) = W0 at HX0
  have HW0 := Lib.hid hW0
  have KP := Lib.hid (r12place_walk HX0.out.st.g1 (by have := ok.sl; omega) k)
  have KH := Lib.hid (rhas_walk HX0.out.st.g2 (by have := HQL.out; omega) k)
  obtain ⟨⟨x0, x1, x2⟩, xf0, xf1, xf2⟩ := c3_at HX0.out.bo.box
  have hbb := (head_row HX0.out.bo.box).lt
  clear hW0
  unfold L12.touch
  have hgm : ∀ i (hi : i < s.s.length), ∃ g off, F1 = some ⟨g, off, none⟩ ∧ g < W0.heap.size ∧ W0.cell? ⟨g, off + i * 2 + 1, none⟩ = some (.int .i64 (s.s[i].f : Nat)) := fun i hi => by
    obtain ⟨F', d', e, _, _, h3⟩ := HX0.out.st.g1.mem
    injection e with e1 e2 e3
    subst e1
    obtain ⟨g, off, hF, hg, _, q1⟩ := h3 i hi
    exact ⟨g, off, hF, hg, q1⟩
  have HGM := Lib.hid hgm
  clear hgm hs
  obtain ⟨n, hn⟩ : ∃ n, s.s.length = n := ⟨_, rfl⟩
  have HN := Lib.hid hn
  have hnI : (n : Int) ≤ 2097152 := by have := ok.sl; omega
  rw [hn] at HX0 HW0 KP x1 ⊢
  clear hn ok
  rcases hpv with ⟨hno, hval⟩ | ⟨i, hi, hik, hval⟩
  · have ht0 : tot k s.s = 0 := by have := mt tot_in.2 hno; omega
    rw [if_neg (fun h => HTC.out 2 h ht0)]
    have HVAL := Lib.hid hval
    have HT0 := Lib.hid ht0
    clear hno hval ht0 HPF HTC HGM
    by_cases hq : k ∈ s.q
    · rw [if_neg (fun h => h hq), if_pos HT0.out]
      rw [decide_eq_true hq] at KH
      clear hq
      go_enter Tryz.func37, Tryz.ntmps37
      go_wp2_with fail
      rw [HW0.out]
      clear HW0
      go_wp2_with fail
      refine KP.out.mono ?_
      rintro e w1 hp
      obtain ⟨rfl, rfl⟩ := HVAL.out _ _ _ hp
      clear KP hp HVAL
      go_wp2_with fail
      refine KH.out.mono ?_
      rintro e w1 ⟨rfl, rfl⟩
      clear KH
      go_wp2_with fail
      refine (HKS.out _ _ _ 1 HX0.out.st).mono ?_
      rintro e w2 ⟨v1, v2, he, hbz, hsz⟩
      obtain ⟨Fa2, na2, da2, rfl⟩ := hsz.form1
      obtain ⟨Fb2, nb2, db2, rfl⟩ := hsz.form2
      have he' : e = .returned (.agg (l12C s.c (.slice Fa2 na2 da2) (.slice Fb2 nb2 db2))) := by
        rw [he]
        exact congrArg (fun x => Ending.returned (.agg (l12C x _ _))) (show ((s.stack k 1)).c = s.c from rfl)
      subst he'
      have HB2 := Lib.hid ((HX0.out.bo).step hbz)
      have HS2 : Hid (St12 w2 ((s.stack k 1)) (.slice Fa2 na2 da2) (.slice Fb2 nb2 db2)) := Lib.hid hsz
      clear he hbz hsz
      have KL := Lib.hid (r12last_walk HS2.out (by show s.q.length ≤ _; have := HQL.out; omega) k)
      go_wp2_with fail
      refine KL.out.mono ?_
      rintro e w3 ⟨v1, v2, he, hbz, hsz⟩
      obtain ⟨Fa3, na3, da3, rfl⟩ := hsz.form1
      obtain ⟨Fb3, nb3, db3, rfl⟩ := hsz.form2
      have he' : e = .returned (.agg (l12C s.c (.slice Fa3 na3 da3) (.slice Fb3 nb3 db3))) := by
        rw [he]
        exact congrArg (fun x => Ending.returned (.agg (l12C x _ _))) (show (((s.stack k 1).last k)).c = s.c from rfl)
      subst he'
      have HB3 := Lib.hid ((HB2.out).step hbz)
      have HS3 : Hid (St12 w3 (((s.stack k 1).last k)) (.slice Fa3 na3 da3) (.slice Fb3 nb3 db3)) := Lib.hid hsz
      clear he hbz hsz
      have KR := Lib.hid (r12prune_walk HS3.out (by show (s.stack k 1).s.length ≤ _; have := HSS.out 1; omega))
      go_wp2_with fail
      refine KR.out.mono ?_
      rintro e w4 ⟨v1, v2, he, hbz, hsz⟩
      obtain ⟨Fa4, na4, da4, rfl⟩ := hsz.form1
      obtain ⟨Fb4, nb4, db4, rfl⟩ := hsz.form2
      have he' : e = .returned (.agg (l12C s.c (.slice Fa4 na4 da4) (.slice Fb4 nb4 db4))) := by
        rw [he]
        exact congrArg (fun x => Ending.returned (.agg (l12C x _ _))) (show ((((s.stack k 1).last k).prune)).c = s.c from rfl)
      subst he'
      have HB4 := Lib.hid ((HB3.out).step hbz)
      have HS4 : Hid (St12 w4 ((((s.stack k 1).last k).prune)) (.slice Fa4 na4 da4) (.slice Fb4 nb4 db4)) := Lib.hid hsz
      clear he hbz hsz
      obtain ⟨⟨y0, y1, y2⟩, yf0, yf1, yf2⟩ := c3_at HB4.out.res
      have hrr := (head_row HB4.out.res).lt
      go_wp2
      exact bodyPost_ret (v := .agg (l12C s.c (.slice Fa4 na4 da4) (.slice Fb4 nb4 db4))) (by simp [results, Tryz.results37, go_sem, y0, y1, y2]) rfl (HB4.out.tell12 HS4.out rfl)
    · rw [if_pos hq]
      rw [decide_eq_false hq] at KH
      clear hq
      go_enter Tryz.func37, Tryz.ntmps37
      go_wp2_with fail
      rw [HW0.out]
      clear HW0
      go_wp2_with fail
      refine KP.out.mono ?_
      rintro e w1 hp
      obtain ⟨rfl, rfl⟩ := HVAL.out _ _ _ hp
      clear KP hp HVAL
      go_wp2_with fail
      refine KH.out.mono ?_
      rintro e w1 ⟨rfl, rfl⟩
      clear KH
      obtain ⟨⟨y0, y1, y2⟩, yf0, yf1, yf2⟩ := c3_at HX0.out.bo.res
      have hrr := (head_row HX0.out.bo.res).lt
      go_wp2
      exact bodyPost_ret (v := .agg (l12C s.c (.slice F1 n d1) (.slice F2 n2 d2))) (by simp [results, Tryz.results37, go_sem, y0, y1, y2]) rfl HX0.out.done
  · have HVAL := Lib.hid hval
    have hff := HPF.out i 2 hi hik
    obtain ⟨g, off, hF, hg, q1⟩ := HGM.out i hi
    subst hF
    have htp : tot k s.s ≠ 0 := by
      have := tot_in.1 (hik ▸ List.mem_map_of_mem (f := It.key) (List.getElem_mem hi) : k ∈ keysI s.s)
      omega
    obtain ⟨fx, hfx⟩ : ∃ f, s.s[i].f = f := ⟨_, rfl⟩
    rw [hfx] at hff q1
    have hin : i < n := by rw [← HN.out]; exact hi
    have hinI : (i : Int) < (n : Int) := by omega
    clear hval HPF HTC HGM hfx hik
    by_cases h2 : fx = 2
    · rw [if_pos (hff.2 h2)]
      subst h2
      clear hff
      go_enter Tryz.func37, Tryz.ntmps37
      go_wp2_with fail
      rw [HW0.out]
      clear HW0
      go_wp2_with fail
      refine KP.out.mono ?_
      rintro e w1 hp
      obtain ⟨rfl, rfl⟩ := HVAL.out _ _ _ hp
      clear KP hp HVAL
      go_wp2_with fail
      refine (HKS.out _ _ _ 2 HX0.out.st).mono ?_
      rintro e w2 ⟨v1, v2, he, hbz, hsz⟩
      obtain ⟨Fa2, na2, da2, rfl⟩ := hsz.form1
      obtain ⟨Fb2, nb2, db2, rfl⟩ := hsz.form2
      have he' : e = .returned (.agg (l12C s.c (.slice Fa2 na2 da2) (.slice Fb2 nb2 db2))) := by
        rw [he]
        exact congrArg (fun x => Ending.returned (.agg (l12C x _ _))) (show ((s.stack k 2)).c = s.c from rfl)
      subst he'
      have HB2 := Lib.hid ((HX0.out.bo).step hbz)
      have HS2 : Hid (St12 w2 ((s.stack k 2)) (.slice Fa2 na2 da2) (.slice Fb2 nb2 db2)) := Lib.hid hsz
      clear he hbz hsz
      have KR := Lib.hid (r12prune_walk HS2.out (by have := HSS.out 2; omega))
      go_wp2_with fail
      refine KR.out.mono ?_
      rintro e w3 ⟨v1, v2, he, hbz, hsz⟩
      obtain ⟨Fa3, na3, da3, rfl⟩ := hsz.form1
      obtain ⟨Fb3, nb3, db3, rfl⟩ := hsz.form2
      have he' : e = .returned (.agg (l12C s.c (.slice Fa3 na3 da3) (.slice Fb3 nb3 db3))) := by
        rw [he]
        exact congrArg (fun x => Ending.returned (.agg (l12C x _ _))) (show (((s.stack k 2).prune)).c = s.c from rfl)
      subst he'
      have HB3 := Lib.hid ((HB2.out).step hbz)
      have HS3 : Hid (St12 w3 (((s.stack k 2).prune)) (.slice Fa3 na3 da3) (.slice Fb3 nb3 db3)) := Lib.hid hsz
      clear he hbz hsz
      obtain ⟨⟨y0, y1, y2⟩, yf0, yf1, yf2⟩ := c3_at HB3.out.res
      have hrr := (head_row HB3.out.res).lt
      go_wp2
      exact bodyPost_ret (v := .agg (l12C s.c (.slice Fa3 na3 da3) (.slice Fb3 nb3 db3))) (by simp [results, Tryz.results37, go_sem, y0, y1, y2]) rfl (HB3.out.tell12 HS3.out rfl)
    · rw [if_neg (fun h => h2 (hff.1 h))]
      have h2I : ¬ (fx : Int) = 2 := by omega
      clear hff h2
      by_cases hq : k ∈ s.q
      · rw [if_neg (fun h => h hq), if_neg htp]
        rw [decide_eq_true hq] at KH
        have HWF := Lib.hid (HWM.out hq)
        clear hq htp HWM
        go_enter Tryz.func37, Tryz.ntmps37
        go_wp2_with fail
        rw [HW0.out]
        clear HW0
        go_wp2_with fail
        refine KP.out.mono ?_
        rintro e w1 hp
        obtain ⟨rfl, rfl⟩ := HVAL.out _ _ _ hp
        clear KP hp HVAL
        go_wp2_with fail
        refine KH.out.mono ?_
        rintro e w1 ⟨rfl, rfl⟩
        clear KH q1
        go_wp2_with fail
        refine (HKS.out _ _ _ 2 HX0.out.st).mono ?_
        rintro e w2 ⟨v1, v2, he, hbz, hsz⟩
        obtain ⟨Fa2, na2, da2, rfl⟩ := hsz.form1
        obtain ⟨Fb2, nb2, db2, rfl⟩ := hsz.form2
        have he' : e = .returned (.agg (l12C s.c (.slice Fa2 na2 da2) (.slice Fb2 nb2 db2))) := by
          rw [he]
          exact congrArg (fun x => Ending.returned (.agg (l12C x _ _))) (show ((s.stack k 2)).c = s.c from rfl)
        subst he'
        have HB2 := Lib.hid ((HX0.out.bo).step hbz)
        have HS2 : Hid (St12 w2 ((s.stack k 2)) (.slice Fa2 na2 da2) (.slice Fb2 nb2 db2)) := Lib.hid hsz
        clear he hbz hsz
        have HXp : Hid (Bx12 w (w2.alloc (.cells (l12C s.c (.slice Fa2 na2 da2) (.slice Fb2 nb2 db2)) T12)) T12 w2.heap.size (w.heap.size + 1) (s.stack k 2) (.slice Fa2 na2 da2) (.slice Fb2 nb2 db2)) := Lib.hid ⟨HB2.out.alloc (l12C s.c (.slice Fa2 na2 da2) (.slice Fb2 nb2 db2)) rfl, HS2.out.below (low_one _ _)⟩
        clear x0 x1 x2 xf0 xf1 xf2 hbb HX0 HB2 HS2
        go_upto_region 9 with fail
        generalize w2.alloc (.cells (l12C s.c (.slice Fa2 na2 da2) (.slice Fb2 nb2 db2)) T12) = wx at *
        generalize w2.heap.size = P at *
        obtain ⟨⟨x0, x1, x2⟩, xf0, xf1, xf2⟩ := c3_at HXp.out.bo.box
        try dsimp only at x0 x1 x2
        have hbb := (head_row HXp.out.bo.box).lt
        have KW := Lib.hid (rwithout_walk HXp.out.st.g2 (by show s.q.length ≤ _; have := HQL.out; omega) k)
        go_wp2_with fail
        refine KW.out.mono ?_
        rintro e w3 ⟨v3, rfl, ha⟩
        obtain ⟨Fw, nw, dw, rfl⟩ := ha.kv.form
        have hx3 := HXp.out.step ha.low
        clear x0 x1 x2 xf0 xf1 xf2 hbb
        obtain ⟨⟨x0, x1, x2⟩, xf0, xf1, xf2⟩ := c3_at hx3.bo.box
        try dsimp only at x0 x1 x2
        have hbb := (head_row hx3.bo.box).lt
        have hy3 := hx3.set2 ha.kv
        generalize hWb : w3.setCell ⟨P, 2, none⟩ (.slice Fw nw dw) = wb at hy3
        have HWb := Lib.hid hWb
        have HXb := Lib.hid hy3
        have hcb : nk 0 ((s.stack k 2).less k).s + nk 2 ((s.stack k 2).less k).s + ((s.stack k 2).less k).q.length ≤ 9000000 := by
          have h1 := HSS.out 2
          have h2 := HLL.out
          have h3 := HQL.out
          have h4 : nk 0 (s.stack k 2).s ≤ _ := List.countP_le_length
          have h5 : nk 2 (s.stack k 2).s ≤ _ := List.countP_le_length
          show nk 0 (s.stack k 2).s + nk 2 (s.stack k 2).s + (wo k s.q).length ≤ _
          omega
        have KC : Hid (Calls Tryz.prog 78 #[.agg (l12C s.c (.slice Fa2 na2 da2) (.slice Fw nw dw))] wb (P12 wb ((s.stack k 2).less k).cool)) := Lib.hid (r12cool_walk (s := (s.stack k 2).less k) hy3.st HWF.out HPC.out.1 HPC.out.2 hcb)
        have HCL := Lib.hid (HWF.out.cool_len hcb).1
        clear hx3 hy3 hWb ha KW HXp hcb
        go_upto_region 10 with fail
        rw [HWb.out]
        clear HWb x0 x1 x2 xf0 xf1 xf2 hbb
        obtain ⟨⟨x0, x1, x2⟩, xf0, xf1, xf2⟩ := c3_at HXb.out.bo.box
        try dsimp only at x0 x1 x2
        have hbb := (head_row HXb.out.bo.box).lt
        go_wp2_with fail
        refine KC.out.mono ?_
        rintro e w4 ⟨v1, v2, he, hbz, hsz⟩
        obtain ⟨Fa4, na4, da4, rfl⟩ := hsz.form1
        obtain ⟨Fb4, nb4, db4, rfl⟩ := hsz.form2
        have he' : e = .returned (.agg (l12C s.c (.slice Fa4 na4 da4) (.slice Fb4 nb4 db4))) := by
          rw [he]
          exact congrArg (fun x => Ending.returned (.agg (l12C x _ _))) (show ((((s.stack k 2).less k).cool)).c = s.c from (L12.cool_c _))
        subst he'
        have HB4 := Lib.hid ((HXb.out.bo).step hbz)
        have HS4 : Hid (St12 w4 ((((s.stack k 2).less k).cool)) (.slice Fa4 na4 da4) (.slice Fb4 nb4 db4)) := Lib.hid hsz
        clear he hbz hsz
        have KR := Lib.hid (r12prune_walk HS4.out (by have := HCL.out; omega))
        rw [show (((s.stack k 2).less k).cool).c = s.c from L12.cool_c _] at KR
        go_wp2_with fail
        refine KR.out.mono ?_
        rintro e w5 ⟨v1, v2, he, hbz, hsz⟩
        obtain ⟨Fa5, na5, da5, rfl⟩ := hsz.form1
        obtain ⟨Fb5, nb5, db5, rfl⟩ := hsz.form2
        have he' : e = .returned (.agg (l12C s.c (.slice Fa5 na5 da5) (.slice Fb5 nb5 db5))) := by
          rw [he]
          exact congrArg (fun x => Ending.returned (.agg (l12C x _ _))) (show ((((s.stack k 2).less k).cool.prune)).c = s.c from (L12.cool_c _))
        subst he'
        have HB5 := Lib.hid ((HB4.out).step hbz)
        have HS5 : Hid (St12 w5 ((((s.stack k 2).less k).cool.prune)) (.slice Fa5 na5 da5) (.slice Fb5 nb5 db5)) := Lib.hid hsz
        clear he hbz hsz
        obtain ⟨⟨y0, y1, y2⟩, yf0, yf1, yf2⟩ := c3_at HB5.out.res
        have hrr := (head_row HB5.out.res).lt
        go_wp2
        exact bodyPost_ret (v := .agg (l12C s.c (.slice Fa5 na5 da5) (.slice Fb5 nb5 db5))) (by simp [results, Tryz.results37, go_sem, y0, y1, y2]) rfl (HB5.out.tell12 HS5.out (L12.cool_c _))
      · rw [if_pos hq]
        rw [decide_eq_false hq] at KH
        clear hq htp
        go_enter Tryz.func37, Tryz.ntmps37
        go_wp2_with fail
        rw [HW0.out]
        clear HW0
        go_wp2_with fail
        refine KP.out.mono ?_
        rintro e w1 hp
        obtain ⟨rfl, rfl⟩ := HVAL.out _ _ _ hp
        clear KP hp HVAL
        go_wp2_with fail
        refine KH.out.mono ?_
        rintro e w1 ⟨rfl, rfl⟩
        clear KH
        obtain ⟨⟨y0, y1, y2⟩, yf0, yf1, yf2⟩ := c3_at HX0.out.bo.res
        have hrr := (head_row HX0.out.bo.res).lt
        go_wp2
        exact bodyPost_ret (v := .agg (l12C s.c (.slice (some ⟨g, off, none⟩) n d1) (.slice F2 n2 d2))) (by simp [results, Tryz.results37, go_sem, y0, y1, y2]) rfl HX0.out.done
end
end Go.Proofs.YtkhikpnlpcankaaGreat
