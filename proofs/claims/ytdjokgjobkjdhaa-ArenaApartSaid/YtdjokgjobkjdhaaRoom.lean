/- ArenaRoom, walked. -/
import Derived.Test.YtdjokgjobkjdhaaDo
import Derived.Deep.LoopGhost
namespace Go.Proofs.Ytdjokgjobkjdhaa
open Go Go.RowKit Go.Deep

/- Acts that came in: n of them, in one row. -/
def Acts (w : World) (A : Option Addr) (n : Nat) (l : Nat → Actn) : Prop := ∀ k, k < n → (l k).Wf ∧ ∃ g off, A = some ⟨g, off, none⟩ ∧ g < w.heap.size ∧
  w.cell? ⟨g, off + k * 8, none⟩ = some (.int .u8 (l k).kind) ∧ w.cell? ⟨g, off + k * 8 + 1, none⟩ = some (.int .i32 (l k).i) ∧ w.cell? ⟨g, off + k * 8 + 2, none⟩ = some (.int .u64 (l k).x.key) ∧ w.cell? ⟨g, off + k * 8 + 3, none⟩ = some (.int .u64 (l k).x.val) ∧
  w.cell? ⟨g, off + k * 8 + 4, none⟩ = some (.int .i64 (l k).x.flag) ∧ w.cell? ⟨g, off + k * 8 + 5, none⟩ = some (.int .i64 (l k).x.tag) ∧ w.cell? ⟨g, off + k * 8 + 6, none⟩ = some (.int .i32 (l k).x.prev) ∧ w.cell? ⟨g, off + k * 8 + 7, none⟩ = some (.int .i32 (l k).x.next)
theorem Acts.below {w w' : World} {A : Option Addr} {n : Nat} {l : Nat → Actn} (h : Acts w A n l) (hb : Below w.heap.size w w') : Acts w' A n l := fun k hk => by
  obtain ⟨wf, g, off, hA, hg, c0, c1, c2, c3, c4, c5, c6, c7⟩ := h k hk
  exact ⟨wf, g, off, hA, Nat.lt_of_lt_of_le hg hb.size, (hb.cell hg).trans c0, (hb.cell hg).trans c1, (hb.cell hg).trans c2, (hb.cell hg).trans c3, (hb.cell hg).trans c4, (hb.cell hg).trans c5, (hb.cell hg).trans c6, (hb.cell hg).trans c7⟩

theorem act_step (st : St) (a : Actn) : (st.act a).used ≤ st.used + 1 ∧ ((st.act a).n = st.n ∨ ((st.act a).n = 2 * st.n ∧ st.used + 1 = st.n ∧ (st.act a).live = st.n)) := by
  unfold St.act
  split
  · unfold St.alloc St.live
    split
    · exact ⟨by show st.used ≤ _; omega, .inl rfl⟩
    · refine ⟨Nat.le_refl _, ?_⟩
      by_cases e : st.used + 1 = st.n
      · exact .inr ⟨if_pos e, e, by show st.used + 1 - 0 = st.n; omega⟩
      · exact .inl (if_neg e)
  · split
    · unfold St.freeI
      split
      · exact ⟨by show st.used ≤ _; omega, .inl rfl⟩
      · exact ⟨by omega, .inl rfl⟩
    · unfold St.setI
      split
      · exact ⟨by show st.used ≤ _; omega, .inl rfl⟩
      · exact ⟨by omega, .inl rfl⟩

/- What the law holds behind k acts. -/
structure RoomInv (r : Nat) (st : St) (m k : Nat) : Prop where
  used : st.used ≤ k
  n : st.n ≤ 2 * k + 12
  most : m ≤ k
  bound : st.n ≤ 2 + r ∨ st.n ≤ 2 * (m + 1)

theorem room_next {r : Nat} {st : St} {m k : Nat} (h : RoomInv r st m k) (ho : st.Ok) (ho' : ∀ a, (st.act a).Ok) (a : Actn) : RoomInv r (st.act a) (max m (st.act a).live) (k + 1) ∧ (st.act a).live < (st.act a).n := by
  obtain ⟨h1, h2⟩ := act_step st a
  have hl : (st.act a).live ≤ (st.act a).used := Nat.sub_le _ _
  have hr := (ho' a).room
  have i1 := h.used
  have i2 := h.n
  have i3 := h.most
  have i4 := h.bound
  have i5 := ho.room
  refine ⟨⟨by omega, ?_, by omega, ?_⟩, by omega⟩
  · rcases h2 with e | ⟨e, e2, _⟩ <;> omega
  · rcases h2 with e | ⟨e, e2, e3⟩
    · rcases i4 with i4 | i4
      · left; omega
      · right; omega
    · right; omega

theorem act_ok {st : St} (ho : st.Ok) (a : Actn) : (st.act a).Ok := by
  unfold St.act
  split
  · exact alloc_ok ho
  · split
    · unfold St.freeI
      split
      · rename_i hi
        obtain ⟨k, e, _, _, h3⟩ := St.is_nat ho hi
        have : a.i.toNat = k := by omega
        rw [this]; exact free_ok ho h3
      · exact ho
    · unfold St.setI
      split
      · rename_i hi
        obtain ⟨k, e, _, _, h3⟩ := St.is_nat ho hi
        have : a.i.toNat = k := by omega
        rw [this]; exact set_ok ho h3 _
      · exact ho

theorem held_newq {w0 w : World} (hb : Below w0.heap.size w0 w) (q : Nat) (hq : q < 5) :
    Calls Try.prog 19 #[.int .i64 (1 + (q : Int))] w fun e w' => e = .returned (.pointer (some ⟨w.heap.size, 0, none⟩)) ∧ Held w0 w' w.heap.size (St.first (2 + q)) [] := by
  have h := held_new hb (1 + q) (by omega) (by omega)
  rw [Int.natCast_add, show 1 + (1 + q) = 2 + q by omega] at h
  exact h

theorem acts_long (w : World) (r : Int) (A : Option Addr) (n c : Nat) (hn : 40 < n) (hm : n ≤ maxLen) :
    Calls Try.prog 7 #[.int .u8 r, .slice A n c] w fun e w' => e = .returned (.bool true) ∧ Below w.heap.size w w' := by
  unfold maxLen at hm
  go_enter Try.func7, Try.ntmps7
  go_wp2_with fail
  refine (awake_walk _).mono ?_
  rintro e w1 ⟨rfl, h⟩
  have B1 := Lib.hid h; clear h
  go_wp2
  go_ret
  exact ⟨rfl, B1.out⟩

set_option maxHeartbeats 400000 in
theorem arenaRoom_short (w : World) (r : Nat) (hr : r < 256) (A : Option Addr) (n c : Nat) (l : Nat → Actn) (hn : n ≤ 40) (ha : Acts w A n l) :
    Calls Try.prog 7 #[.int .u8 r, .slice A n c] w fun e w' => e = .returned (.bool true) ∧ Below w.heap.size w w' := by
  have HA := Lib.hid ha
  clear ha
  have e1 : (r : Int).tmod 5 = ((r % 5 : Nat) : Int) := by rw [Int.tmod_eq_emod_of_nonneg (by omega)]; omega
  have e2 : (r : Int) % 5 = ((r % 5 : Nat) : Int) := by omega
  obtain ⟨q, hq, hq5⟩ : ∃ q : Nat, r % 5 = q ∧ q < 5 := ⟨_, rfl, by omega⟩
  rw [hq] at e1 e2
  clear hq
  go_enter Try.func7, Try.ntmps7
  go_wp2_with fail
  refine (awake_walk _).mono ?_
  rintro e w1 ⟨rfl, h⟩
  have B1 := Lib.hid h; clear h
  go_wp2_with fail
  refine (held_newq B1.out q hq5).mono ?_
  rintro e w2 ⟨rfl, h⟩
  have H2 := Lib.hid h
  clear h
  go_wp2_with fail
  go_loopg [7, 8] n (fun g s7 s8 wr => ∃ (k m : Nat) (st : St), k + g = n ∧ s7 = .int .i64 m ∧ s8 = .int .i64 k ∧ Hid (Held w wr w1.heap.size st [] ∧ RoomInv q st m k))
  case atStart => exact ⟨0, 0, _, by omega, rfl, rfl, Lib.hid ⟨H2.out, ⟨Nat.le_refl _, by show 2 + q ≤ _; omega, Nat.le_refl _, .inl (Nat.le_refl _)⟩⟩⟩
  case round =>
    obtain ⟨k, m, st, hk, rfl, rfl, HI⟩ := hrel
    by_cases hlt : k < n
    · obtain ⟨wf, g, off, hA, hg, c0, c1, c2, c3, c4, c5, c6, c7⟩ := (HA.out.below HI.out.1.below) k hlt
      have hb1 := HI.out.2.n
      have hb3 := HI.out.2.most
      go_wp2_with fail
      refine (do_walk HI.out.1 (by omega) (l k) wf).mono ?_
      rintro e w3 ⟨rfl, h, _⟩
      obtain ⟨hin, hll⟩ := room_next HI.out.2 HI.out.1.ok (act_ok HI.out.1.ok) (l k)
      have H3 := Lib.hid h
      have HN := Lib.hid hin
      have hn3 : (st.act (l k)).n ≤ 1000000 := by have := hin.n; omega
      have hbd := hin.bound
      clear h hin c0 c1 c2 c3 c4 c5 c6 c7 hA hg wf HI
      generalize hst : st.act (l k) = st' at H3 HN hn3 hll hbd
      clear hst
      go_wp2_with fail
      refine (held_live H3.out hn3).mono ?_
      rintro e w4 ⟨rfl, d, rfl⟩
      have H4 := Lib.hid (H3.out.still (below_drewN' w3 d)).1
      clear H3
      obtain ⟨lv, hlv⟩ : ∃ lv, st'.live = lv := ⟨_, rfl⟩
      rw [hlv] at HN hll hbd
      have HLV := Lib.hid hlv
      by_cases hmx : m < lv
      · have emx : max m lv = lv := by omega
        rw [emx] at HN hbd
        clear emx
        rw [hlv]
        clear hlv
        have hM : lv ≤ 100 := by have := HN.out.most; omega
        obtain ⟨N, hN⟩ : ∃ N, st'.n = N := ⟨_, rfl⟩
        have HNN := Lib.hid hN
        rw [hN] at hll hbd hn3
        clear hN
        by_cases h9 : 2 + q < 2 * (lv + 1)
        · have hle : (N : Int) ≤ 2 * ((lv : Int) + 1) := by omega
          clear hbd
          go_wp2_with fail
          refine (held_len H4.out).mono ?_
          rintro e w5 ⟨rfl, rfl⟩
          rw [HNN.out]
          go_wp2_with fail
          refine (held_live H4.out (by rw [HNN.out]; exact hn3)).mono ?_
          rintro e w5 ⟨rfl, d2, rfl⟩
          have H5 := Lib.hid (H4.out.still (below_drewN' _ d2)).1
          rw [World.drewN_drewN] at H5
          rw [HLV.out]
          go_wp2_with fail
          refine (held_len H5.out).mono ?_
          rintro e w5 ⟨rfl, rfl⟩
          rw [HNN.out]
          go_wp2
          go_roundg (gk - 1)
          case measure => omega
          case rel => exact ⟨k + 1, lv, st', by omega, rfl, by go_num, Lib.hid ⟨H5.out, HN.out⟩⟩
        · have hle : (N : Int) ≤ 2 + (q : Int) := by omega
          clear hbd
          go_wp2_with fail
          refine (held_len H4.out).mono ?_
          rintro e w5 ⟨rfl, rfl⟩
          rw [HNN.out]
          go_wp2_with fail
          refine (held_live H4.out (by rw [HNN.out]; exact hn3)).mono ?_
          rintro e w5 ⟨rfl, d2, rfl⟩
          have H5 := Lib.hid (H4.out.still (below_drewN' _ d2)).1
          rw [World.drewN_drewN] at H5
          rw [HLV.out]
          go_wp2_with fail
          refine (held_len H5.out).mono ?_
          rintro e w5 ⟨rfl, rfl⟩
          rw [HNN.out]
          go_wp2
          go_roundg (gk - 1)
          case measure => omega
          case rel => exact ⟨k + 1, lv, st', by omega, rfl, by go_num, Lib.hid ⟨H5.out, HN.out⟩⟩
      · have emx : max m lv = m := by omega
        rw [emx] at HN hbd
        clear emx
        rw [hlv]
        clear hlv
        have hM : m ≤ 100 := by have := HN.out.most; omega
        obtain ⟨N, hN⟩ : ∃ N, st'.n = N := ⟨_, rfl⟩
        have HNN := Lib.hid hN
        rw [hN] at hll hbd hn3
        clear hN
        by_cases h9 : 2 + q < 2 * (m + 1)
        · have hle : (N : Int) ≤ 2 * ((m : Int) + 1) := by omega
          clear hbd
          go_wp2_with fail
          refine (held_len H4.out).mono ?_
          rintro e w5 ⟨rfl, rfl⟩
          rw [HNN.out]
          go_wp2_with fail
          refine (held_live H4.out (by rw [HNN.out]; exact hn3)).mono ?_
          rintro e w5 ⟨rfl, d2, rfl⟩
          have H5 := Lib.hid (H4.out.still (below_drewN' _ d2)).1
          rw [World.drewN_drewN] at H5
          rw [HLV.out]
          go_wp2_with fail
          refine (held_len H5.out).mono ?_
          rintro e w5 ⟨rfl, rfl⟩
          rw [HNN.out]
          go_wp2
          go_roundg (gk - 1)
          case measure => omega
          case rel => exact ⟨k + 1, m, st', by omega, rfl, by go_num, Lib.hid ⟨H5.out, HN.out⟩⟩
        · have hle : (N : Int) ≤ 2 + (q : Int) := by omega
          clear hbd
          go_wp2_with fail
          refine (held_len H4.out).mono ?_
          rintro e w5 ⟨rfl, rfl⟩
          rw [HNN.out]
          go_wp2_with fail
          refine (held_live H4.out (by rw [HNN.out]; exact hn3)).mono ?_
          rintro e w5 ⟨rfl, d2, rfl⟩
          have H5 := Lib.hid (H4.out.still (below_drewN' _ d2)).1
          rw [World.drewN_drewN] at H5
          rw [HLV.out]
          go_wp2_with fail
          refine (held_len H5.out).mono ?_
          rintro e w5 ⟨rfl, rfl⟩
          rw [HNN.out]
          go_wp2
          go_roundg (gk - 1)
          case measure => omega
          case rel => exact ⟨k + 1, m, st', by omega, rfl, by go_num, Lib.hid ⟨H5.out, HN.out⟩⟩
    · go_wp2
      go_ret
      exact ⟨rfl, HI.out.1.below⟩
end Go.Proofs.Ytdjokgjobkjdhaa
