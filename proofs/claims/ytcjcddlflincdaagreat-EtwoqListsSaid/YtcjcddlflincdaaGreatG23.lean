/- Words and walks: EtR EtC. -/
import Derived.Test.YtcjcddlflincdaaGreatG0
import Derived.Test.YtcjcddlflincdaaGreatG15
import Derived.Test.YtcjcddlflincdaaGreatG22
namespace Go.Proofs.YtcjcddlflincdaaGreat
open Go Go.RowKit Go.Deep
def T9i (w0 w : World) (xp sp : Nat) (s : L9) (top i m : Nat) (w' : World) : Prop := CP w0 w xp sp s.c (tri (s.inn.take i) (s.outX i) (s.main.take m)) top w'
section
variable {w0 w W w' : World} {xp sp top i m : Nat} {s : L9}
theorem T9i.still (h : T9i w0 w xp sp s top i m W) (hb : Below W.heap.size W w') : T9i w0 w xp sp s top i m w' := ⟨h.1.still hb, h.2.trans (Kn.below hb)⟩
theorem rc_back0 (h : T9i w0 w xp sp s top i m W) (hm : top ≤ 10000) (h0 : 0 < i) (hi : i ≤ s.inn.length) :
    Calls Tryz.prog 63 #[ptr sp, .int .i64 0] W fun e w' => ∃ b', e = .returned (.tuple #[.int .u64 (s.inn[i - 1] : Nat), .bool b']) ∧ T9i w0 w xp sp s top i m w' := by
  refine (m_back (t := 0) h.1.sk hm (by decide)).mono ?_
  rintro e w' ⟨rfl, hb⟩
  have e : (tri (s.inn.take i) (s.outX i) (s.main.take m)) 0 = s.inn.take i := rfl
  rw [e, (take_last s.inn i h0 hi).1]
  exact ⟨_, rfl, h.still hb⟩
theorem rc_back2 (h : T9i w0 w xp sp s top i m W) (hm : top ≤ 10000) (h0 : 0 < m) (hi : m ≤ s.main.length) :
    Calls Tryz.prog 63 #[ptr sp, .int .i64 2] W fun e w' => ∃ b', e = .returned (.tuple #[.int .u64 (s.main[m - 1] : Nat), .bool b']) ∧ T9i w0 w xp sp s top i m w' := by
  refine (m_back (t := 2) h.1.sk hm (by decide)).mono ?_
  rintro e w' ⟨rfl, hb⟩
  have e : (tri (s.inn.take i) (s.outX i) (s.main.take m)) 2 = s.main.take m := rfl
  rw [e, (take_last s.main m h0 hi).1]
  exact ⟨_, rfl, h.still hb⟩
theorem mem_last {l : List Nat} {i : Nat} (h0 : 0 < i) (hi : i ≤ l.length) : l[i - 1] ∈ l.take i :=
  List.mem_iff_getElem.2 ⟨i - 1, by rw [List.length_take]; omega, by rw [List.getElem_take]⟩
theorem rc_move (h : T9i w0 w xp sp s top i m W) (hf : s.Fine) (hm : top ≤ 10000) (h0 : 0 < i) (hi : i ≤ s.inn.length) :
    Calls Tryz.prog 51 #[ptr sp, .int .i64 1, .int .u64 (s.inn[i - 1] : Nat)] W fun e w' => e = .returned (.bool true) ∧ CP w0 w xp sp s.c (tri (s.inn.take (i - 1)) (s.inn[i - 1] :: s.outX i) (s.main.take m)) top w' := by
  refine (x_move h.1 hm (mem_last h0 hi)).mono ?_
  rintro e w' ⟨rfl, g1, g2⟩
  rw [take_less s.inn hf.inNd i h0 hi] at g1
  exact ⟨rfl, g1, h.2.trans g2⟩
theorem rc_forget (h0 : 0 < i) (hi : i ≤ s.inn.length) (h : CP w0 w xp sp s.c (tri (s.inn.take (i - 1)) (s.inn[i - 1] :: s.outX i) (s.main.take m)) top W) (hc : s.c ≤ 1048576) (hm : top ≤ 10000) :
    Calls Tryz.prog 52 #[ptr xp] W fun e w' => e = .returned (.tuple #[]) ∧ T9i w0 w xp sp s top (i - 1) m w' := by
  refine (forget_walk h.1 hm hc).mono ?_
  rintro e w' ⟨rfl, g1, g2⟩
  rw [L9.outX_next h0 hi] at g1
  exact ⟨rfl, g1, h.2.trans g2⟩
theorem rc_rem (h : T9i w0 w xp sp s top i m W) (hf : s.Fine) (hm : top ≤ 10000) (h0 : 0 < m) (hi : m ≤ s.main.length) :
    Calls Tryz.prog 38 #[ptr sp, .int .u64 (s.main[m - 1] : Nat)] W fun e w' => e = .returned (.bool true) ∧ T9i w0 w xp sp s top i (m - 1) w' := by
  refine (x_rem2 h.1 hm (mem_last h0 hi)).mono ?_
  rintro e w' ⟨rfl, g1, g2⟩
  rw [take_less s.main hf.mainNd m h0 hi] at g1
  exact ⟨rfl, g1, h.2.trans g2⟩
def RcP (w0 w : World) (xp sp : Nat) (s : L9) (top N : Nat) (e : Ending) (w' : World) : Prop := ∃ o, e = .returned o ∧ T9i w0 w xp sp s top (s.li N) (s.lm N) w' ∧ KF w0.heap.size w w' o (s.shrOut N)
structure RcL (w0 w wr : World) (xp sp : Nat) (s : L9) (top N f i m : Nat) (v : Value) : Prop where
  t : T9i w0 w xp sp s top i m wr
  hi : i ≤ s.inn.length
  hm : m ≤ s.main.length
  hf : f = i + m - N
  li : rcI (kin9 s.c) f i m = s.li N
  lm : rcM (kin9 s.c) f i m = s.lm N
  own : ∃ out, KF w0.heap.size w wr v out ∧ out ++ rcO (kin9 s.c) s.inn s.main f i m = s.shrOut N ∧ out.length + f = s.many N
theorem rc_end {N f : Nat} {v : Value} (h : RcL w0 w W xp sp s top N f i m v) (h0 : f = 0) : RcP w0 w xp sp s top N (.returned v) W := by
  subst h0
  obtain ⟨out, h1, h2, h3⟩ := h.own
  have e1 := h.li
  have e2 := h.lm
  rw [rcI] at e1
  rw [rcM] at e2
  rw [rcO, List.append_nil] at h2
  rw [h2] at h1
  refine ⟨v, rfl, ?_, h1⟩
  rw [← e1, ← e2]
  exact h.t
theorem rc_next {N f i' m' kx B : Nat} {v v6 : Value} {W1 w6 : World} (h : RcL w0 w W1 xp sp s top N (f + 1) i m v)
    (hcase : (kin9 s.c < i ∨ m = 0) ∧ i' = i - 1 ∧ m' = m ∧ s.inn.getD (i - 1) 0 = kx ∨ ¬ (kin9 s.c < i ∨ m = 0) ∧ i' = i ∧ m' = m - 1 ∧ s.main.getD (m - 1) 0 = kx)
    (ht : T9i w0 w xp sp s top i' m' W) {out : List Nat} (ho : out ++ rcO (kin9 s.c) s.inn s.main (f + 1) i m = s.shrOut N) (hn : out.length + (f + 1) = s.many N)
    (hB : w0.heap.size ≤ B) (hBw : ∀ g, NP w g → g < B) (hBz : B ≤ W.heap.size) (hk : Kt 31 W w6) (hown : KO B W w6 v6 (out ++ [kx])) : RcL w0 w w6 xp sp s top N f i' m' v6 := by
  have hl := hown.low
  have hkn : Kn w w6 := fun g hg => (hl.block g (hBw g hg)).trans (ht.2 g hg)
  have hT : T9i w0 w xp sp s top i' m' w6 := ⟨ht.1.sty (ht.1.sk.below.trans (hl.mono hB)) hk.sty hl.size, hkn⟩
  have hKF : KF w0.heap.size w w6 v6 (out ++ [kx]) := ⟨B, ⟨Below.refl _ _, hown.own⟩, hB, Nat.le_trans hBz hl.size, hBw⟩
  have hi := h.hi
  have hm := h.hm
  have hf := h.hf
  have e1 := h.li
  have e2 := h.lm
  rcases hcase with ⟨q, rfl, rfl, hx⟩ | ⟨q, rfl, rfl, hx⟩
  · rw [rcI_in q] at e1
    rw [rcM_in q] at e2
    rw [rcO_in q, hx] at ho
    exact ⟨hT, by omega, hm, by omega, e1, e2, _, hKF, by rw [List.append_assoc]; exact ho, by rw [List.length_append]; simp only [List.length_cons, List.length_nil]; omega⟩
  · rw [rcI_main q] at e1
    rw [rcM_main q] at e2
    rw [rcO_main q, hx] at ho
    exact ⟨hT, hi, by omega, by omega, e1, e2, _, hKF, by rw [List.append_assoc]; exact ho, by rw [List.length_append]; simp only [List.length_cons, List.length_nil]; omega⟩
set_option maxHeartbeats 8000000 in
theorem reclaim_walk (h : CX w0 w xp sp s.c (q9 s) top) (hf : s.Fine) (hm : top ≤ 10000) (hc : s.c ≤ 1048576) (n : Int) (N : Nat) (hN : n < 0 ∧ N = 0 ∨ n = 0 ∧ N = 0 ∨ 0 < n ∧ n = (N : Int)) (hn1 : -9223372036854775808 ≤ n) (hn2 : n ≤ 9223372036854775807) :
    Calls Tryz.prog 39 #[ptr xp, .int .i64 n] w (RcP w0 w xp sp s top N) := by
  have hsum := h.sk.sum
  rw [show q9 s = tri s.inn s.out s.main from rfl, tri_sum] at hsum
  have hsz := h.sk.below.size
  have hF := Lib.hid hf
  obtain ⟨c, hcc⟩ : ∃ c, s.c = c := ⟨_, rfl⟩
  have HKN : Hid (∀ W : World, Calls Tryz.prog 62 #[.int .i64 (c : Nat)] W fun e w' => e = .returned (.int .i64 (kin9 s.c : Nat)) ∧ W = w') := Lib.hid (fun W => by rw [← hcc]; exact kin_walk s.c hc)
  obtain ⟨kn, hkn⟩ : ∃ kn, kin9 s.c = kn := ⟨_, rfl⟩
  have HKE := Lib.hid hkn
  rw [hkn] at HKN
  have HCC := Lib.hid hcc
  have hknI : (kn : Int) ≤ 1048576 := by have : kin9 s.c = max (s.c / 4) 1 := rfl; omega
  have hmany : s.many N ≤ 10000 := by unfold L9.many; omega
  have HS := Lib.hid hsum
  have HMY := Lib.hid hmany
  have hC := Lib.hid hc
  have HI0 : Hid (RcL w0 w w xp sp s top N (s.many N) s.inn.length s.main.length (.slice none 0 0)) := Lib.hid ⟨⟨h.congr (fun t ht => by rw [List.take_length, List.take_length, L9.outX_all]; rfl), Kn.refl w⟩, Nat.le_refl _, Nat.le_refl _, rfl, rfl, rfl, [], KF.nil (Kn.refl w) hsz, rfl, by simp⟩
  clear h hf hsum hc hcc hkn hmany
  rcases hN with ⟨h1, hN⟩ | ⟨rfl, hN⟩ | ⟨h1, rfl⟩
  all_goals
    go_enter Tryz.func39, Tryz.ntmps39
    go_wp2_with fail
    go_step3
    go_wp2_with fail
    go_step3
    go_wp2_with fail
    go_loopg [5] (s.many N) (fun gg s5 wr => ∃ (i m : Nat) (v5 : Value), v5 = s5 ∧ Hid (RcL w0 w wr xp sp s top N gg i m v5))
    case atStart => exact ⟨_, _, _, rfl, HI0⟩
    case round =>
      obtain ⟨i, m, v5, rfl, HI⟩ := hrel
      obtain ⟨x0, x1⟩ := HI.out.t.1.cells
      rw [HCC.out] at x1
      have hil := HI.out.hi
      have hml := HI.out.hm
      have hff := HI.out.hf
      have hss := HS.out
      have HL0 : Hid (∀ W, Below wr.heap.size wr W → Calls Tryz.prog 37 #[ptr sp, .int .i64 0] W fun e w' => e = .returned (.int .i64 (i : Nat)) ∧ Below wr.heap.size wr w') := Lib.hid (fun W hb => (m_len (t := 0) (HI.out.t.still hb).1.sk (by decide)).mono (fun e w' ⟨he, hb'⟩ => ⟨by rw [he, show (tri (s.inn.take i) (s.outX i) (s.main.take m)) 0 = s.inn.take i from rfl, List.length_take, Nat.min_eq_left hil], hb.trans (hb'.mono hb.size)⟩))
      have HL2 : Hid (∀ W, Below wr.heap.size wr W → Calls Tryz.prog 37 #[ptr sp, .int .i64 2] W fun e w' => e = .returned (.int .i64 (m : Nat)) ∧ Below wr.heap.size wr w') := Lib.hid (fun W hb => (m_len (t := 2) (HI.out.t.still hb).1.sk (by decide)).mono (fun e w' ⟨he, hb'⟩ => ⟨by rw [he, show (tri (s.inn.take i) (s.outX i) (s.main.take m)) 2 = s.main.take m from rfl, List.length_take, Nat.min_eq_left hml], hb.trans (hb'.mono hb.size)⟩))
      have HKC : Hid (∀ W, Below wr.heap.size wr W → W.cell? ⟨xp, 0, none⟩ = some (ptr sp) ∧ W.cell? ⟨xp, 1, none⟩ = some (.int .i64 (c : Nat))) := Lib.hid (fun W hb => by have := (HI.out.t.still hb).1.cells; rw [HCC.out] at this; exact this)
      have hiI : (i : Int) ≤ 10000 := by omega
      have hmI : (m : Int) ≤ 10000 := by omega
      have hi0 : (0 : Int) ≤ (i : Int) := by omega
      have hm0 : (0 : Int) ≤ (m : Int) := by omega
      go_upto_region 2 with fail
      go_region_held3 (fun w' => w'.cell? ⟨xp, 0, none⟩ = some (ptr sp) ∧ w'.cell? ⟨xp, 1, none⟩ = some (.int .i64 (c : Nat))) (first | with_reducible exact kk5 | with_reducible exact kk6 | go_keep)
        (first
          | (go_at_call 37; refine (HL2.out _ hb5).mono ?_; rintro e w6 ⟨rfl, hb6⟩; have kk6 := HKC.out w6 hb6)
          | (go_at_call 37; refine (HL0.out _ (below_drewn (Below.refl _ _) _)).mono ?_; rintro e w5 ⟨rfl, hb5⟩; have kk5 := HKC.out w5 hb5))
      obtain ⟨y0, y1⟩ := kk6
      have HT6 := Lib.hid (HI.out.t.still hb6)
      have HR6 : Hid (RcL w0 w w6 xp sp s top N gk i m v5) := Lib.hid ⟨HT6.out, hil, hml, hff, HI.out.li, HI.out.lm, by
        obtain ⟨out, g1, g2, g3⟩ := HI.out.own
        exact ⟨out, g1.kn HI.out.t.2 (Kn.below hb6) HT6.out.1.sk.below.size, g2, g3⟩⟩
      clear HL0 HL2 HKC kk5 hb5 hb6 HI x0 x1
      by_cases h0 : gk = 0
      · have hle : (i : Int) + (m : Int) ≤ (N : Int) := by omega
        have HE := Lib.hid (rc_end HR6.out h0)
        clear HR6 HT6
        go_wp2
        try rw [Exit.noGoto_ret]
        go_ret
        exact HE.out
      · obtain ⟨f, rfl⟩ : ∃ f, gk = f + 1 := ⟨gk - 1, by omega⟩
        have hle : ¬ (i : Int) + (m : Int) ≤ (N : Int) := by omega
        have HT7 : Hid (T9i w0 w6 xp sp s top i m w6) := Lib.hid ⟨HT6.out.1, Kn.refl _⟩
        obtain ⟨out, g1, g2, g3⟩ := HR6.out.own
        have HOL : Hid (out.length ≤ 10000) := Lib.hid (by have := HMY.out; omega)
        rcases (by omega : kn < i ∨ ¬ kn < i ∧ m = 0 ∨ ¬ kn < i ∧ 0 < m) with hk1 | ⟨hk1, hm1⟩ | ⟨hk1, hm1⟩
        · have hkI : (kn : Int) < (i : Int) := by omega
          have hpos : 0 < i := by omega
          obtain ⟨kx, hkx⟩ : ∃ kx, s.inn[i - 1] = kx := ⟨_, rfl⟩
          have HBK := Lib.hid (rc_back0 HT7.out hm hpos hil)
          rw [hkx] at HBK
          have HMV : Hid (∀ W, T9i w0 w6 xp sp s top i m W → Calls Tryz.prog 51 #[ptr sp, .int .i64 1, .int .u64 (kx : Nat)] W fun e w' => e = .returned (.bool true) ∧ CP w0 w6 xp sp s.c (tri (s.inn.take (i - 1)) (kx :: s.outX i) (s.main.take m)) top w') := Lib.hid (fun W hW => by rw [← hkx]; exact rc_move hW hF.out hm hpos hil)
          have HFG : Hid (∀ W, CP w0 w6 xp sp s.c (tri (s.inn.take (i - 1)) (kx :: s.outX i) (s.main.take m)) top W → Calls Tryz.prog 52 #[ptr xp] W fun e w' => e = .returned (.tuple #[]) ∧ T9i w0 w6 xp sp s top (i - 1) m w') := Lib.hid (fun W hW => rc_forget hpos hil (by rw [hkx]; exact hW) hC.out hm)
          have HCS : Hid ((kin9 s.c < i ∨ m = 0) ∧ s.inn.getD (i - 1) 0 = kx) := Lib.hid ⟨by have := HKE.out; omega, by rw [List.getD_eq_getElem?_getD, List.getElem?_eq_getElem (by omega)]; exact hkx⟩
          clear hkx
          go_wp2_with fail
          refine (HKN.out _).mono ?_
          rintro e w7 ⟨rfl, rfl⟩
          go_wp2_with fail
          refine HBK.out.mono ?_
          rintro e w7 ⟨b7, rfl, h7⟩
          obtain ⟨z0, z1⟩ := h7.1.cells
          have H7 := Lib.hid h7
          clear h7 HBK y0 y1
          go_wp2_with fail
          refine (HMV.out w7 H7.out).mono ?_
          rintro e w8 ⟨rfl, h8⟩
          have H8 := Lib.hid h8
          clear h8 HMV z0 z1 H7
          go_wp2_with fail
          refine (HFG.out w8 H8.out).mono ?_
          rintro e w9 ⟨rfl, h9⟩
          have H9 := Lib.hid h9
          clear h9 HFG H8
          have hlow9 := low_one w9 (.cells #[.int .u64 (kx : Nat)] 31)
          have HTA : Hid (T9i w0 w xp sp s top (i - 1) m (w9.alloc (.cells #[.int .u64 (kx : Nat)] 31))) := Lib.hid ⟨H9.out.1.still hlow9, (HT6.out.2.trans H9.out.2).trans (Kn.below hlow9)⟩
          have HKF : Hid (KF w0.heap.size w (w9.alloc (.cells #[.int .u64 (kx : Nat)] 31)) v5 out) := Lib.hid (g1.kn HT6.out.2 (H9.out.2.trans (Kn.below hlow9)) HTA.out.1.sk.below.size)
          have HKV := Lib.hid (KV.one w9 kx)
          obtain ⟨B, hB1, hB2, hB3, hB4⟩ := HKF.out
          have HO9 := Lib.hid hB1
          have HB4 := Lib.hid hB4
          clear hlow9 hB1 hB4 HKF
          go_wp2_with (at_builtin; refine wpList_append_kv rfl (.tmp 75) (.tmp 77) rfl B (by kernel_rfl) (by kernel_rfl) _ _ rfl HO9.out _ [kx] rfl HKV.out (by have := HOL.out; simp; omega) hB3 ?_)
          intro v6 wa hown6 hkp6 hkt6
          have HN : Hid (RcL w0 w wa xp sp s top N f (i - 1) m v6) := Lib.hid (rc_next HR6.out (.inl ⟨HCS.out.1, rfl, rfl, HCS.out.2⟩) HTA.out g2 g3 hB2 HB4.out hB3 hkt6 hown6)
          clear hown6 hkp6 hkt6 HTA HO9 HKV HB4 HCS
          go_wp2
          go_roundg f
          case measure => omega
          case rel => exact ⟨_, _, _, rfl, HN⟩
        · have hkI : ¬ (kn : Int) < (i : Int) := by omega
          have hmI1 : (m : Int) = 0 := by omega
          have hpos : 0 < i := by omega
          obtain ⟨kx, hkx⟩ : ∃ kx, s.inn[i - 1] = kx := ⟨_, rfl⟩
          have HBK := Lib.hid (rc_back0 HT7.out hm hpos hil)
          rw [hkx] at HBK
          have HMV : Hid (∀ W, T9i w0 w6 xp sp s top i m W → Calls Tryz.prog 51 #[ptr sp, .int .i64 1, .int .u64 (kx : Nat)] W fun e w' => e = .returned (.bool true) ∧ CP w0 w6 xp sp s.c (tri (s.inn.take (i - 1)) (kx :: s.outX i) (s.main.take m)) top w') := Lib.hid (fun W hW => by rw [← hkx]; exact rc_move hW hF.out hm hpos hil)
          have HFG : Hid (∀ W, CP w0 w6 xp sp s.c (tri (s.inn.take (i - 1)) (kx :: s.outX i) (s.main.take m)) top W → Calls Tryz.prog 52 #[ptr xp] W fun e w' => e = .returned (.tuple #[]) ∧ T9i w0 w6 xp sp s top (i - 1) m w') := Lib.hid (fun W hW => rc_forget hpos hil (by rw [hkx]; exact hW) hC.out hm)
          have HCS : Hid ((kin9 s.c < i ∨ m = 0) ∧ s.inn.getD (i - 1) 0 = kx) := Lib.hid ⟨by have := HKE.out; omega, by rw [List.getD_eq_getElem?_getD, List.getElem?_eq_getElem (by omega)]; exact hkx⟩
          clear hkx
          go_wp2_with fail
          refine (HKN.out _).mono ?_
          rintro e w7 ⟨rfl, rfl⟩
          go_wp2_with fail
          refine HBK.out.mono ?_
          rintro e w7 ⟨b7, rfl, h7⟩
          obtain ⟨z0, z1⟩ := h7.1.cells
          have H7 := Lib.hid h7
          clear h7 HBK y0 y1
          go_wp2_with fail
          refine (HMV.out w7 H7.out).mono ?_
          rintro e w8 ⟨rfl, h8⟩
          have H8 := Lib.hid h8
          clear h8 HMV z0 z1 H7
          go_wp2_with fail
          refine (HFG.out w8 H8.out).mono ?_
          rintro e w9 ⟨rfl, h9⟩
          have H9 := Lib.hid h9
          clear h9 HFG H8
          have hlow9 := low_one w9 (.cells #[.int .u64 (kx : Nat)] 31)
          have HTA : Hid (T9i w0 w xp sp s top (i - 1) m (w9.alloc (.cells #[.int .u64 (kx : Nat)] 31))) := Lib.hid ⟨H9.out.1.still hlow9, (HT6.out.2.trans H9.out.2).trans (Kn.below hlow9)⟩
          have HKF : Hid (KF w0.heap.size w (w9.alloc (.cells #[.int .u64 (kx : Nat)] 31)) v5 out) := Lib.hid (g1.kn HT6.out.2 (H9.out.2.trans (Kn.below hlow9)) HTA.out.1.sk.below.size)
          have HKV := Lib.hid (KV.one w9 kx)
          obtain ⟨B, hB1, hB2, hB3, hB4⟩ := HKF.out
          have HO9 := Lib.hid hB1
          have HB4 := Lib.hid hB4
          clear hlow9 hB1 hB4 HKF
          go_wp2_with (at_builtin; refine wpList_append_kv rfl (.tmp 75) (.tmp 77) rfl B (by kernel_rfl) (by kernel_rfl) _ _ rfl HO9.out _ [kx] rfl HKV.out (by have := HOL.out; simp; omega) hB3 ?_)
          intro v6 wa hown6 hkp6 hkt6
          have HN : Hid (RcL w0 w wa xp sp s top N f (i - 1) m v6) := Lib.hid (rc_next HR6.out (.inl ⟨HCS.out.1, rfl, rfl, HCS.out.2⟩) HTA.out g2 g3 hB2 HB4.out hB3 hkt6 hown6)
          clear hown6 hkp6 hkt6 HTA HO9 HKV HB4 HCS
          go_wp2
          go_roundg f
          case measure => omega
          case rel => exact ⟨_, _, _, rfl, HN⟩
        · have hkI : ¬ (kn : Int) < (i : Int) := by omega
          have hmI1 : ¬ (m : Int) = 0 := by omega
          have hpos : 0 < m := by omega
          obtain ⟨kx, hkx⟩ : ∃ kx, s.main[m - 1] = kx := ⟨_, rfl⟩
          have HBK := Lib.hid (rc_back2 HT7.out hm hpos hml)
          rw [hkx] at HBK
          have HRM : Hid (∀ W, T9i w0 w6 xp sp s top i m W → Calls Tryz.prog 38 #[ptr sp, .int .u64 (kx : Nat)] W fun e w' => e = .returned (.bool true) ∧ T9i w0 w6 xp sp s top i (m - 1) w') := Lib.hid (fun W hW => by rw [← hkx]; exact rc_rem hW hF.out hm hpos hml)
          have HCS : Hid (¬ (kin9 s.c < i ∨ m = 0) ∧ s.main.getD (m - 1) 0 = kx) := Lib.hid ⟨by have := HKE.out; omega, by rw [List.getD_eq_getElem?_getD, List.getElem?_eq_getElem (by omega)]; exact hkx⟩
          clear hkx
          go_wp2_with fail
          refine (HKN.out _).mono ?_
          rintro e w7 ⟨rfl, rfl⟩
          go_wp2_with fail
          refine HBK.out.mono ?_
          rintro e w7 ⟨b7, rfl, h7⟩
          obtain ⟨z0, z1⟩ := h7.1.cells
          have H7 := Lib.hid h7
          clear h7 HBK y0 y1
          go_wp2_with fail
          refine (HRM.out w7 H7.out).mono ?_
          rintro e w9 ⟨rfl, h9⟩
          have H9 := Lib.hid h9
          clear h9 HRM H7 z0 z1
          have hlow9 := low_one w9 (.cells #[.int .u64 (kx : Nat)] 31)
          have HTA : Hid (T9i w0 w xp sp s top i (m - 1) (w9.alloc (.cells #[.int .u64 (kx : Nat)] 31))) := Lib.hid ⟨H9.out.1.still hlow9, (HT6.out.2.trans H9.out.2).trans (Kn.below hlow9)⟩
          have HKF : Hid (KF w0.heap.size w (w9.alloc (.cells #[.int .u64 (kx : Nat)] 31)) v5 out) := Lib.hid (g1.kn HT6.out.2 (H9.out.2.trans (Kn.below hlow9)) HTA.out.1.sk.below.size)
          have HKV := Lib.hid (KV.one w9 kx)
          obtain ⟨B, hB1, hB2, hB3, hB4⟩ := HKF.out
          have HO9 := Lib.hid hB1
          have HB4 := Lib.hid hB4
          clear hlow9 hB1 hB4 HKF
          go_wp2_with (at_builtin; refine wpList_append_kv rfl (.tmp 36) (.tmp 38) rfl B (by kernel_rfl) (by kernel_rfl) _ _ rfl HO9.out _ [kx] rfl HKV.out (by have := HOL.out; simp; omega) hB3 ?_)
          intro v6 wa hown6 hkp6 hkt6
          have HN : Hid (RcL w0 w wa xp sp s top N f i (m - 1) v6) := Lib.hid (rc_next HR6.out (.inr ⟨HCS.out.1, rfl, rfl, HCS.out.2⟩) HTA.out g2 g3 hB2 HB4.out hB3 hkt6 hown6)
          clear hown6 hkp6 hkt6 HTA HO9 HKV HB4 HCS
          go_wp2
          go_roundg f
          case measure => omega
          case rel => exact ⟨_, _, _, rfl, HN⟩
end
section
variable {w0 w w' : World} {xp top : Nat} {s : L9}
theorem EC.make {sp : Nat} (ok : s.Ok) (small : top ≤ 5000) (ge : w0.heap.size ≤ xp) (h : CX w0 w xp sp s.c (q9 s) (top + top / 2)) : EC w0 w xp s top := ⟨ok, small, ge, sp, h⟩
set_option maxHeartbeats 1000000 in
theorem enew_walk (hb : Below w0.heap.size w0 w) (n : Int) (hn1 : -9223372036854775808 ≤ n) (hn2 : n ≤ 9223372036854775807) :
    Calls Tryz.prog 5 #[.int .i64 n] w fun e w' => ∃ xp, e = .returned (ptr xp) ∧ EP w0 w xp (L9.new n) 0 w' := by
  have HN : Hid (Calls Tryz.prog 23 #[.int .i64 3] w (SINew w0 w 3 (allN w))) := Lib.hid (si_new hb (K := allN w) (fun k hk => (allN_mem.1 hk).lt) 3)
  have HB := Lib.hid (fun (W : World) => ebounded_walk (w := W) n hn1 hn2)
  have HOK := Lib.hid (L9.ok_new n)
  have hsz := hb.size
  obtain ⟨c, hc⟩ : ∃ c, capI n = c := ⟨_, rfl⟩
  have HE : Hid (L9.new n = ⟨c, [], [], []⟩) := Lib.hid (by rw [← hc]; rfl)
  rw [hc] at HB
  rw [HE.out] at HOK ⊢
  clear hc HE hb
  go_enter Tryz.func5, Tryz.ntmps5
  go_wp2_with fail
  refine HN.out.mono ?_
  rintro e w2 ⟨sp, rfl, h, hk⟩
  have H2 := Lib.hid h
  have HK := Lib.hid hk
  clear h hk
  go_wp2_with fail
  refine (HB.out w2).mono ?_
  rintro e w3 ⟨rfl, rfl⟩
  have hz2 := H2.out.below.size
  have hlow := low_one w2 (.cells (cacheC sp c) CaT)
  have HF : Hid (EP w0 w w2.heap.size ⟨c, [], [], []⟩ 0 (w2.alloc (.cells (cacheC sp c) CaT))) := Lib.hid ⟨⟨HOK.out, by decide, hz2, sp, heap_alloc_new w2 _, 8, Tb.new, ((H2.out.less (K' := []) (by simp)).other hlow (fun k hk => by
    simp only [List.mem_singleton] at hk
    subst hk
    exact ⟨.inr (Nat.le_refl _), by simp⟩)).congr (fun t ht => by rcases three ht with rfl | rfl | rfl <;> rfl), R8.start⟩, fun g hg => (hlow.block g (by
      have := HK.out g (allN_mem.2 hg)
      exact (hg.keep this).lt)).trans (HK.out g (allN_mem.2 hg))⟩
  clear hlow
  go_wp2
  go_ret
  exact ⟨_, rfl, HF.out⟩
theorem x_find {sp c : Nat} {a o b : List Nat} {tp k : Nat} (h : CX w0 w xp sp c (tri a o b) tp) (hm : tp ≤ 10000) (h64 : k < 18446744073709551616) :
    (k ∈ a → Calls Tryz.prog 41 #[ptr sp, .int .u64 (k : Nat)] w fun e w' => e = .returned (.tuple #[.int .i64 0, .bool true]) ∧ Below w.heap.size w w') ∧
    (k ∈ o → Calls Tryz.prog 41 #[ptr sp, .int .u64 (k : Nat)] w fun e w' => e = .returned (.tuple #[.int .i64 1, .bool true]) ∧ Below w.heap.size w w') ∧
    (k ∈ b → Calls Tryz.prog 41 #[ptr sp, .int .u64 (k : Nat)] w fun e w' => e = .returned (.tuple #[.int .i64 2, .bool true]) ∧ Below w.heap.size w w') ∧
    (k ∉ a ∧ k ∉ o ∧ k ∉ b → Calls Tryz.prog 41 #[ptr sp, .int .u64 (k : Nat)] w fun e w' => e = .returned (.tuple #[.int .i64 0, .bool false]) ∧ Below w.heap.size w w') :=
  ⟨fun q => m_find_in (t := 0) h.sk hm (by decide) q, fun q => m_find_in (t := 1) h.sk hm (by decide) q, fun q => m_find_in (t := 2) h.sk hm (by decide) q, fun q => m_find_out h.sk hm k h64 (tri_not.2 q)⟩
theorem ehas_walk (h : EC w0 w xp s top) (k : Nat) (h64 : k < 18446744073709551616) :
    Calls Tryz.prog 21 #[ptr xp, .int .u64 (k : Nat)] w (RetB w (decide (k ∈ s.keys))) := by
  obtain ⟨sp, hx⟩ := h.mem
  have hm : top + top / 2 ≤ 10000 := by have := h.small; omega
  obtain ⟨f1, f2, f3, f4⟩ := x_find hx hm h64
  obtain ⟨p1, p2, p3⟩ := h.ok.fine.parts (k := k)
  have hE := Lib.hid (fun (W : World) => eopen_walk (w := W) xp)
  obtain ⟨x0, x1⟩ := hx.cells
  have hcases : ∃ (q : Int) (b : Bool), (q = 0 ∧ b = true ∨ q = 1 ∧ b = true ∨ q = 2 ∧ b = true ∨ q = 0 ∧ b = false) ∧ decide (k ∈ s.keys) = (b && q != 1) ∧ Calls Tryz.prog 41 #[ptr sp, .int .u64 (k : Nat)] w fun e w' => e = .returned (.tuple #[.int .i64 q, .bool b]) ∧ Below w.heap.size w w' := by
    have hk : k ∈ s.keys ↔ k ∈ s.inn ∨ k ∈ s.main := by unfold L9.keys; simp
    by_cases q1 : k ∈ s.inn
    · exact ⟨0, true, .inl ⟨rfl, rfl⟩, by rw [decide_eq_true (hk.2 (.inl q1))]; rfl, f1 q1⟩
    · by_cases q2 : k ∈ s.out
      · exact ⟨1, true, .inr (.inl ⟨rfl, rfl⟩), by rw [decide_eq_false (fun q => (hk.1 q).elim q1 (p2 q2).2)]; rfl, f2 q2⟩
      · by_cases q3 : k ∈ s.main
        · exact ⟨2, true, .inr (.inr (.inl ⟨rfl, rfl⟩)), by rw [decide_eq_true (hk.2 (.inr q3))]; rfl, f3 q3⟩
        · exact ⟨0, false, .inr (.inr (.inr ⟨rfl, rfl⟩)), by rw [decide_eq_false (fun q => (hk.1 q).elim q1 q3)]; rfl, f4 ⟨q1, q2, q3⟩⟩
  obtain ⟨q, b, hqb, hd, hf⟩ := hcases
  have HF := Lib.hid hf
  rw [hd]
  clear h hx f1 f2 f3 f4 p1 p2 p3 hd hf
  rcases hqb with ⟨rfl, rfl⟩ | ⟨rfl, rfl⟩ | ⟨rfl, rfl⟩ | ⟨rfl, rfl⟩
  all_goals
    go_enter Tryz.func21, Tryz.ntmps21
    go_wp2_with fail
    refine (hE.out w).mono ?_
    rintro e w1 ⟨rfl, rfl⟩
    go_wp2_with fail
    refine HF.out.mono ?_
    rintro e w2 ⟨rfl, hb⟩
    have HP := Lib.hid hb
    clear hb x0 x1
    go_wp2
    go_ret
    exact ⟨rfl, HP.out⟩
theorem etouch_walk (h : EC w0 w xp s top) (k : Nat) (h64 : k < 18446744073709551616) :
    Calls Tryz.prog 31 #[ptr xp, .int .u64 (k : Nat)] w fun e w' => e = .returned (.tuple #[]) ∧ EP w0 w xp (s.touch k) top w' := by
  obtain ⟨sp, hx⟩ := h.mem
  have hm : top + top / 2 ≤ 10000 := by have := h.small; omega
  obtain ⟨f1, f2, f3, f4⟩ := x_find hx hm h64
  have hE := Lib.hid (fun (W : World) => eopen_walk (w := W) xp)
  obtain ⟨x0, x1⟩ := hx.cells
  by_cases q3 : k ∈ s.main
  · have HF := Lib.hid (f3 q3)
    have HKC : Hid (∀ W, Below w.heap.size w W → W.cell? ⟨xp, 0, none⟩ = some (ptr sp) ∧ W.cell? ⟨xp, 1, none⟩ = some (.int .i64 (s.c : Nat))) := Lib.hid (fun W hb => (hx.still hb).cells)
    have HM : Hid (∀ W, Below w.heap.size w W → Calls Tryz.prog 51 #[ptr sp, .int .i64 2, .int .u64 (k : Nat)] W fun e w' => e = .returned (.bool true) ∧ EP w0 w xp (s.touch k) top w') := Lib.hid (fun W hb => by
      refine (x_front (hx.still hb) hm q3).mono ?_
      rintro e w' ⟨rfl, g1, g2⟩
      refine ⟨rfl, EC.make (h.ok.touch k) h.small h.ge (sp := sp) ?_, (Kn.below hb).trans g2⟩
      rw [L9.touch_c, L9.touch_q, if_pos q3]
      exact g1)
    clear h hx f1 f2 f3 f4 q3
    go_enter Tryz.func31, Tryz.ntmps31
    go_wp2_with fail
    refine (hE.out w).mono ?_
    rintro e w1 ⟨rfl, rfl⟩
    go_wp2_with fail
    refine HF.out.mono ?_
    rintro e w2 ⟨rfl, hb⟩
    obtain ⟨y0, y1⟩ := HKC.out w2 hb
    have HMM := Lib.hid (HM.out w2 hb)
    clear hb x0 x1 HM HKC
    go_wp2_with fail
    refine HMM.out.mono ?_
    rintro e w3 ⟨rfl, hp⟩
    have HP := Lib.hid hp
    clear hp
    go_wp2
    exact bodyPost_end (v := .tuple #[]) (by simp [results, Tryz.results31, go_sem]) rfl ⟨rfl, HP.out⟩
  · have hcases : ∃ (q : Int) (b : Bool), (q = 0 ∧ b = true ∨ q = 1 ∧ b = true ∨ q = 0 ∧ b = false) ∧ Calls Tryz.prog 41 #[ptr sp, .int .u64 (k : Nat)] w fun e w' => e = .returned (.tuple #[.int .i64 q, .bool b]) ∧ Hid (Below w.heap.size w w') := by
      by_cases q1 : k ∈ s.inn
      · exact ⟨0, true, .inl ⟨rfl, rfl⟩, (f1 q1).mono (fun e w' h => ⟨h.1, Lib.hid h.2⟩)⟩
      · by_cases q2 : k ∈ s.out
        · exact ⟨1, true, .inr (.inl ⟨rfl, rfl⟩), (f2 q2).mono (fun e w' h => ⟨h.1, Lib.hid h.2⟩)⟩
        · exact ⟨0, false, .inr (.inr ⟨rfl, rfl⟩), (f4 ⟨q1, q2, q3⟩).mono (fun e w' h => ⟨h.1, Lib.hid h.2⟩)⟩
    obtain ⟨q, b, hqb, hf⟩ := hcases
    have HF := Lib.hid hf
    have e1 : s.touch k = s := by unfold L9.touch; rw [if_neg q3]
    rw [e1]
    have H := Lib.hid h
    clear h hx f1 f2 f3 f4 hf e1 q3
    rcases hqb with ⟨rfl, rfl⟩ | ⟨rfl, rfl⟩ | ⟨rfl, rfl⟩
    all_goals
      go_enter Tryz.func31, Tryz.ntmps31
      go_wp2_with fail
      refine (hE.out w).mono ?_
      rintro e w1 ⟨rfl, rfl⟩
      go_wp2_with fail
      refine HF.out.mono ?_
      rintro e w2 ⟨rfl, hb⟩
      have HP : Hid (EP w0 w xp s top w2) := Lib.hid ⟨H.out.still hb.out, Kn.below hb.out⟩
      clear hb x0 x1
      go_wp2
      exact bodyPost_end (v := .tuple #[]) (by simp [results, Tryz.results31, go_sem]) rfl ⟨rfl, HP.out⟩
theorem x_remove {sp c : Nat} {tp k : Nat} (hf : s.Fine) (h : CX w0 w xp sp c (q9 s) tp) (hm : tp ≤ 10000) (h64 : k < 18446744073709551616) :
    Calls Tryz.prog 38 #[ptr sp, .int .u64 (k : Nat)] w fun e w' => e = .returned (.bool (decide (k ∈ s.inn ∨ k ∈ s.out ∨ k ∈ s.main))) ∧ CP w0 w xp sp c (q9 (s.drop k)) tp w' := by
  obtain ⟨p1, p2, p3⟩ := hf.parts (k := k)
  have e : q9 (s.drop k) = tri (wo k s.inn) (wo k s.out) (wo k s.main) := rfl
  rw [e]
  by_cases q1 : k ∈ s.inn
  · rw [decide_eq_true (.inl q1), wo_none8 (p1 q1).1, wo_none8 (p1 q1).2]
    exact x_rem0 h hm q1
  · by_cases q2 : k ∈ s.out
    · rw [decide_eq_true (.inr (.inl q2)), wo_none8 (p2 q2).1, wo_none8 (p2 q2).2]
      exact x_rem1 h hm q2
    · by_cases q3 : k ∈ s.main
      · rw [decide_eq_true (.inr (.inr q3)), wo_none8 q1, wo_none8 q2]
        exact x_rem2 h hm q3
      · rw [decide_eq_false (by rintro (q | q | q); exact q1 q; exact q2 q; exact q3 q), wo_none8 q1, wo_none8 q2, wo_none8 q3]
        exact x_rem_no h hm h64 q1 q2 q3
theorem edrop_walk (h : EC w0 w xp s top) (k : Nat) (h64 : k < 18446744073709551616) :
    Calls Tryz.prog 32 #[ptr xp, .int .u64 (k : Nat)] w fun e w' => e = .returned (.tuple #[]) ∧ EP w0 w xp (s.drop k) top w' := by
  obtain ⟨sp, hx⟩ := h.mem
  have hm : top + top / 2 ≤ 10000 := by have := h.small; omega
  have hE := Lib.hid (fun (W : World) => eopen_walk (w := W) xp)
  obtain ⟨x0, x1⟩ := hx.cells
  have HM : Hid (Calls Tryz.prog 38 #[ptr sp, .int .u64 (k : Nat)] w fun e w' => ∃ b, e = .returned (.bool b) ∧ EP w0 w xp (s.drop k) top w') := Lib.hid (by
    refine (x_remove h.ok.fine hx hm h64).mono ?_
    rintro e w' ⟨rfl, g1, g2⟩
    exact ⟨_, rfl, EC.make (h.ok.drop k) h.small h.ge (sp := sp) g1, g2⟩)
  clear h hx
  go_enter Tryz.func32, Tryz.ntmps32
  go_wp2_with fail
  refine (hE.out w).mono ?_
  rintro e w1 ⟨rfl, rfl⟩
  go_wp2_with fail
  refine HM.out.mono ?_
  rintro e w2 ⟨b, rfl, hp⟩
  have HP := Lib.hid hp
  clear hp x0 x1
  go_wp2
  exact bodyPost_end (v := .tuple #[]) (by simp [results, Tryz.results32, go_sem]) rfl ⟨rfl, HP.out⟩
theorem eghosts_walk (h : EC w0 w xp s top) :
    Calls Tryz.prog 18 #[ptr xp] w fun e w' => e = .returned (.int .i64 (s.ghosts : Nat)) ∧ Below w.heap.size w w' := by
  obtain ⟨sp, hx⟩ := h.mem
  have hE := Lib.hid (fun (W : World) => eopen_walk (w := W) xp)
  obtain ⟨x0, x1⟩ := hx.cells
  have HM : Hid (Calls Tryz.prog 37 #[ptr sp, .int .i64 1] w fun e w' => e = .returned (.int .i64 (s.ghosts : Nat)) ∧ Below w.heap.size w w') := Lib.hid (m_len (t := 1) hx.sk (by decide))
  generalize s.ghosts = n at HM ⊢
  clear h hx
  go_enter Tryz.func18, Tryz.ntmps18
  go_wp2_with fail
  refine (hE.out w).mono ?_
  rintro e w1 ⟨rfl, rfl⟩
  go_wp2_with fail
  refine HM.out.mono ?_
  rintro e w2 ⟨rfl, hp⟩
  have HP := Lib.hid hp
  clear hp x0 x1
  go_wp2
  go_ret
  exact ⟨rfl, HP.out⟩
end
end Go.Proofs.YtcjcddlflincdaaGreat
