/- Words and walks: HxZ HxV HxH HxIL HxHL HxIS HxHS. -/
import Derived.Test.YtkhikpnlpcankaaGreatG9
import Derived.Deep.RegionHeld3
import Derived.Deep.RegionWith
import Derived.Deep.QuietTactic
import Derived.BigQuiet
import Derived.StillTailTactics
namespace Go.Proofs.YtkhikpnlpcankaaGreat
open Go Go.RowKit Go.Deep
abbrev behF (a b : Nat) : Value := .func (.func 147) #[] #[ptr a, ptr b]
theorem behind_walk (w : World) (p : Nat) (x : Nat) :
    Calls Tryz.prog 139 #[ptr p, .int .i64 (x : Nat)] w fun e w' => e = .returned (behF w.heap.size (w.heap.size + 1)) ∧ w' = (w.alloc (.cells #[ptr p] 98)).alloc (.cells #[.int .i64 (x : Nat)] 3) := by
  have hmf : ∀ (fn : Fn) (first cap : Array Value) (w : World), (Instr.makeFunc fn first cap).run Tryz.prog w = .ok (.func fn first cap) w := fun _ _ _ _ => rfl
  go_enter Tryz.func139, Tryz.ntmps139
  go_wp2
  go_ret
  exact ⟨rfl, rfl⟩
structure BehAt (w : World) (p a b x : Nat) : Prop where
  tab : w.heap[a]? = some (.cells #[ptr p] 98 (0, 0))
  at_ : w.heap[b]? = some (.cells #[.int .i64 (x : Nat)] 3 (0, 0))
theorem BehAt.only {S : List Nat} {w w' : World} {p a b x : Nat} (h : BehAt w p a b x) (ho : Only S w w') (ha : a ∉ S) (hb : b ∉ S) : BehAt w' p a b x :=
  ⟨(ho.block a (head_row h.tab).lt ha).trans h.tab, (ho.block b (head_row h.at_).lt hb).trans h.at_⟩
theorem behind1_walk {w : World} {p : Nat} {T : Tb} {g c a b x : Nat} (h : IxT w p T g c) (hn : T.n ≤ 1073741824) (hx : x < T.n) (k : BehAt w p a b x) :
    Calls Tryz.prog 147 #[ptr a, ptr b] w fun e w' => e = .returned (.tuple #[.int .i64 ((x + 1) % T.n : Nat), .bool (T.sl ((x + 1) % T.n)).full]) ∧ BehAt w' p a b ((x + 1) % T.n) ∧ Only [b] w w' := by
  have hy : (x + 1) % T.n < T.n := Nat.mod_lt _ (by omega)
  have HX := Lib.hid h
  have HN := Lib.hid (fun w' (q : IxT w' p T g c) => next_walk q hn x hx)
  have a0 : w.cell? ⟨a, 0, none⟩ = some (ptr p) := (head_row k.tab).cell (i := 0) (by simp)
  have b0 : w.cell? ⟨b, 0, none⟩ = some (.int .i64 (x : Nat)) := (head_row k.at_).cell (i := 0) (by simp)
  have z0 : w.frozen? ⟨b, 0, none⟩ = false := (head_row k.at_).frozen 0
  obtain ⟨t1, o1⟩ := one_heap k.at_ (.int .i64 ((x + 1) % T.n : Nat))
  have hbp : p ≠ b := block_ne (head_row h.tab) (head_row k.at_) (by decide)
  have hbg : g ≠ b := by obtain ⟨N, F, hF, _⟩ := h.row; exact block_ne hF (head_row k.at_) (by decide)
  have hab : a ≠ b := block_ne (head_row k.tab) (head_row k.at_) (by decide)
  have HT := Lib.hid t1
  have HO := Lib.hid o1
  have HA := Lib.hid ((o1.block a (head_row k.tab).lt (by simpa using hab)).trans k.tab)
  have HX1 := Lib.hid (h.only o1 (by simpa using hbp) (by simpa using hbg))
  clear h k t1 o1 hbp hbg hab
  generalize (x + 1) % T.n = y at hy HN HT HO HA HX1 ⊢
  go_enter Tryz.func147, Tryz.ntmps147
  go_wp2_with fail
  refine (HN.out _ HX.out).mono ?_
  rintro e w1 ⟨rfl, rfl⟩
  go_upto_region 2 with fail
  generalize w.setCell ⟨b, 0, none⟩ (.int .i64 (y : Nat)) = w1 at HT HO HA HX1 ⊢
  clear a0 b0 z0
  have a0 : w1.cell? ⟨a, 0, none⟩ = some (ptr p) := (head_row HA.out).cell (i := 0) (by simp)
  have b0 : w1.cell? ⟨b, 0, none⟩ = some (.int .i64 (y : Nat)) := (head_row HT.out).cell (i := 0) (by simp)
  obtain ⟨c0, _⟩ := HX1.out.cells
  obtain ⟨_, _, q2⟩ := HX1.out.sl y hy
  have hyI : (y : Int) < (T.n : Int) := by omega
  go_quiet (fail)
  go_wp2
  exact bodyPost_ret (v := .tuple #[.int .i64 (y : Nat), .bool (T.sl y).full]) (by simp [results, Tryz.results147, go_sem]) rfl ⟨rfl, ⟨HA.out, HT.out⟩, HO.out.drewN _⟩
theorem passes_walk {w : World} {p : Nat} {T : Tb} {g c x y : Nat} (h : IxT w p T g c) (hs : isSz T.n = true) (hx : x < T.n) (hy : y < T.n) :
    Calls Tryz.prog 140 #[ptr p, .int .i64 (x : Nat), .int .i64 (y : Nat)] w fun e w' => e = .returned (.bool (decide (away x y T.n ≤ away (hm (T.sl y).key T.n) y T.n))) ∧ Below w.heap.size w w' := by
  have hyI : (y : Int) < (T.n : Int) := by omega
  obtain ⟨c0, _⟩ := h.cells
  obtain ⟨q0, _, _⟩ := h.sl y hy
  have HX := Lib.hid h
  have HF := Lib.hid (fun w' (q : IxT w' p T g c) => fromHome_walk q hs (T.sl y).key y hy)
  have HA := Lib.hid (fun w' => apart_is w' x y T.n hs hx hy)
  clear h hs
  generalize (T.sl y).key = sk at q0 HF ⊢
  generalize away (hm sk T.n) y T.n = d at HF ⊢
  generalize away x y T.n = d' at HA ⊢
  have HXD := Lib.hid (HX.out.only (Only.refl [] w).drew (by simp) (by simp))
  have HCELL := Lib.hid (fun w' (b : Below w.drew.heap.size w.drew w') => And.intro ((b.cell (p := ⟨p, 0, none⟩) HXD.out.plt).trans c0) ((b.cell (p := ⟨g, y * 3, none⟩) HXD.out.lt).trans q0))
  go_enter Tryz.func140, Tryz.ntmps140
  go_wp2_with fail
  go_region_held3 (fun w' => w'.cell? ⟨p, 0, none⟩ = some (.slice (some ⟨g, 0, none⟩) T.n T.n) ∧ w'.cell? ⟨g, y * 3, none⟩ = some (.int .u64 (sk : Nat))) (first | with_reducible exact kk5 | go_keep) (first
    | (go_at_call 148; refine (HF.out _ HXD.out).mono ?_; rintro e w5 ⟨rfl, d5⟩; have kk5 := HCELL.out _ d5)
    | (go_at_call 149; refine (HA.out _).mono ?_; rintro e w6 ⟨rfl, rfl⟩))
  have HB5 := Lib.hid ((Below.refl w.heap.size w).drew.trans (d5.mono (Nat.le_refl _)))
  go_wp2
  go_ret
  exact ⟨rfl, HB5.out⟩
structure DelInv (w wr : World) (p g : Nat) (T : Tb) (k a m : Nat) : Prop where
  ix : IxT wr p ⟨T.n, (T.back (T.look k) m).2⟩ g T.cnt
  only : Only [p, g] w wr
  beh : BehAt wr p a (a + 1) ((T.look k + (m + 1)) % T.n)
structure DelStep (T : Tb) (k r m : Nat) : Prop where
  gap : (T.back (T.look k) m).1 < T.n
  at_ : (T.look k + (m + 1)) % T.n < T.n
  full : ((T.back (T.look k) m).2 ((T.look k + (m + 1)) % T.n)).full = decide (m < r)
theorem Tb.Good.del_steps {T : Tb} (gd : T.Good) (k : Nat) (hf : T.there k = true) : ∀ m, m ≤ T.run (T.look k) → DelStep T k (T.run (T.look k)) m := fun _ hm =>
  have hr := gd.ok.run_at (gd.ok.look_lt k) hf
  ⟨hr.back_lt gd.ok hm, Nat.mod_lt _ gd.ok.pos, hr.back_next gd.ok hm⟩
theorem Tb.Good.del_is {T : Tb} (gd : T.Good) (k : Nat) (hf : T.there k = true) :
    T.del k = ⟨T.n, fun i => if i = (T.back (T.look k) (T.run (T.look k))).1 then Sl.no else (T.back (T.look k) (T.run (T.look k))).2 i⟩ ∧ (T.del k).cnt + 1 = T.cnt := by
  have h1 := (gd.del_all k).2.1
  rw [if_pos hf] at h1
  refine ⟨?_, h1⟩
  unfold Tb.del
  rw [if_pos hf]
  exact ((gd.ok.run_at (gd.ok.look_lt k) hf).back_end gd.ok).1
theorem del_behind {w w5 : World} {p g : Nat} {T : Tb} {k a m r : Nat} (hn : T.n ≤ 100000) (h : IxT w5 p ⟨T.n, (T.back (T.look k) (m + 1)).2⟩ g T.cnt) (hb : BehAt w5 p a (a + 1) ((T.look k + (m + 1)) % T.n)) (ho : Only [p, g] w w5)
    (hlow : w.heap.size ≤ a) (hp : p < w.heap.size) (hg : g < w.heap.size) (st : DelStep T k r m) (st' : DelStep T k r (m + 1)) :
    Calls Tryz.prog 147 #[ptr a, ptr (a + 1)] w5 fun e w' => e = .returned (.tuple #[.int .i64 ((T.look k + (m + 1 + 1)) % T.n : Nat), .bool (decide (m + 1 < r))]) ∧ DelInv w w' p g T k a (m + 1) := by
  have e1 : ((T.look k + (m + 1)) % T.n + 1) % T.n = (T.look k + (m + 1 + 1)) % T.n := by rw [Nat.mod_add_mod, Nat.add_assoc]
  refine (behind1_walk h (show T.n ≤ _ by omega) st.at_ hb).mono ?_
  rintro e w' ⟨rfl, hb', ho'⟩
  have hb'' : BehAt w' p a (a + 1) (((T.look k + (m + 1)) % T.n + 1) % T.n) := hb'
  rw [e1] at hb''
  refine ⟨?_, h.only ho' (by simp; omega) (by simp; omega), ho.trans ho' (by simp; omega), hb''⟩
  show Ending.returned (.tuple #[.int .i64 (((T.look k + (m + 1)) % T.n + 1) % T.n : Nat), .bool ((T.back (T.look k) (m + 1)).2 (((T.look k + (m + 1)) % T.n + 1) % T.n)).full]) = _
  rw [e1, st'.full]
set_option maxHeartbeats 1000000 in
theorem delete_walk {w : World} {p : Nat} {T : Tb} {g : Nat} (h : IxT w p T g T.cnt) (gd : T.Good) (hn : T.n ≤ 100000) (k : Nat) (hk : k < 18446744073709551616) :
    Calls Tryz.prog 126 #[ptr p, .int .u64 (k : Nat)] w fun e w' => e = .returned (.bool (T.there k)) ∧ PutTo w w' p g (T.del k) := by
  obtain ⟨e, he⟩ := gd.pow
  have hs : isSz T.n = true := good_sz ⟨e, he⟩ (by omega)
  have hlk := gd.ok.look_lt k
  have HL := Lib.hid (look_walk h gd.ok hs k hk)
  have HX := Lib.hid h
  have hcle : T.cnt ≤ T.n := cntB_le _ _
  obtain ⟨th, hth⟩ : ∃ th, T.there k = th := ⟨_, rfl⟩
  rw [hth] at HL ⊢
  cases th
  · have HD : Hid (T.del k = T) := Lib.hid (by unfold Tb.del; rw [hth]; rfl)
    clear h gd hs he hth
    go_enter Tryz.func126, Tryz.ntmps126
    go_wp2_with fail
    refine HL.out.mono ?_
    rintro e w1 ⟨rfl, hb⟩
    have HB := Lib.hid hb
    clear hb HL
    go_wp2_with fail
    go_ret
    exact ⟨rfl, Only.of_below HB.out, g, .inl rfl, by rw [HD.out]; exact HX.out.below HB.out⟩
  · have HST := Lib.hid (gd.del_steps k hth)
    obtain ⟨d1, d2⟩ := gd.del_is k hth
    have HD := Lib.hid d1
    have HS := Lib.hid hs
    have hplt := Lib.hid (And.intro h.plt h.lt)
    have HB0 : Hid (∀ m, T.back (T.look k) (m + 1) = if away (T.back (T.look k) m).1 ((T.look k + (m + 1)) % T.n) T.n ≤ away (hm ((T.back (T.look k) m).2 ((T.look k + (m + 1)) % T.n)).key T.n) ((T.look k + (m + 1)) % T.n) T.n then
      ((T.look k + (m + 1)) % T.n, fun i => if i = (T.back (T.look k) m).1 then (T.back (T.look k) m).2 ((T.look k + (m + 1)) % T.n) else (T.back (T.look k) m).2 i) else T.back (T.look k) m) := Lib.hid (fun _ => rfl)
    clear h gd hs he hth d1
    go_enter Tryz.func126, Tryz.ntmps126
    go_wp2_with fail
    refine HL.out.mono ?_
    rintro e w1 ⟨rfl, hb⟩
    have H1 := Lib.hid (HX.out.below hb)
    have HB1 := Lib.hid hb
    clear hb HL HX
    go_wp2_with fail
    refine (behind_walk _ p (T.look k)).mono ?_
    rintro e w2 ⟨rfl, rfl⟩
    have ho2 := ((Only.refl [] w1).alloc (.cells #[ptr p] 98)).alloc (.cells #[.int .i64 (T.look k : Nat)] 3)
    have k1 : (w1.alloc (.cells #[ptr p] 98)).heap[w1.heap.size]? = _ := heap_alloc_new w1 (.cells #[ptr p] 98)
    have k2 : ((w1.alloc (.cells #[ptr p] 98)).alloc (.cells #[.int .i64 (T.look k : Nat)] 3)).heap[w1.heap.size]? = _ := (((Only.refl [] _).alloc (.cells #[.int .i64 (T.look k : Nat)] 3)).block w1.heap.size (by simp) (by simp)).trans k1
    have k3 := heap_alloc_new (w1.alloc (.cells #[ptr p] 98)) (.cells #[.int .i64 (T.look k : Nat)] 3)
    have e3 : (w1.alloc (.cells #[ptr p] 98)).heap.size = w1.heap.size + 1 := by simp
    rw [e3] at k3
    have HBE : Hid (BehAt _ p w1.heap.size (w1.heap.size + 1) (T.look k)) := Lib.hid ⟨k2, k3⟩
    have HX2 := Lib.hid (H1.out.only ho2 (by simp) (by simp))
    have HO2 := Lib.hid ((Only.of_below (S := [p, g]) HB1.out).trans ho2 (by simp))
    have hlow := HB1.out.size
    clear ho2 k1 k2 k3 e3 H1 HB1
    generalize (w1.alloc (.cells #[ptr p] 98)).alloc (.cells #[.int .i64 (T.look k : Nat)] 3) = w2 at HBE HX2 HO2 ⊢
    generalize w1.heap.size = a at HBE hlow ⊢
    go_wp2_with fail
    refine (behind1_walk HX2.out (by omega) hlk HBE.out).mono ?_
    rintro e w3 ⟨rfl, hbe, ho⟩
    have hp := hplt.out
    have HI0 : Hid (DelInv w w3 p g T k a 0) := Lib.hid ⟨HX2.out.only ho (by simp; omega) (by simp; omega), HO2.out.trans ho (by simp; omega), hbe⟩
    have hf0 : (T.sl ((T.look k + 1) % T.n)).full = decide (0 < T.run (T.look k)) := (HST.out 0 (Nat.zero_le _)).full
    rw [hf0]
    obtain ⟨r, hr⟩ : ∃ r, T.run (T.look k) = r := ⟨_, rfl⟩
    rw [hr] at HST HD ⊢
    clear hf0 hr HX2 HO2 HBE hbe ho hp
    go_wp2_with fail
    go_loopg [5, 8, 9] r (fun gg s5 s8 s9 wr => ∃ m : Nat, m + gg = r ∧ s5 = .int .i64 ((T.back (T.look k) m).1 : Nat) ∧ s8 = .int .i64 ((T.look k + (m + 1)) % T.n : Nat) ∧ s9 = .bool (decide (m < r)) ∧ Hid (DelInv w wr p g T k a m))
    case atStart => exact ⟨0, by omega, rfl, rfl, rfl, HI0⟩
    case round =>
      obtain ⟨m, hmm, rfl, rfl, rfl, HI⟩ := hrel
      by_cases hmr : m < r
      · rw [decide_eq_true hmr]
        have hst := HST.out m (by omega)
        have HST1 := Lib.hid (HST.out (m + 1) (by omega))
        have HSTM := Lib.hid hst
        have HB1 := Lib.hid (HB0.out m)
        have hpw := passes_walk HI.out.ix HS.out hst.gap hst.at_
        simp only at hpw
        obtain ⟨G, hG⟩ : ∃ G, (T.back (T.look k) m).1 = G := ⟨_, rfl⟩
        obtain ⟨x, hx⟩ : ∃ x, (T.look k + (m + 1)) % T.n = x := ⟨_, rfl⟩
        have hgl := hst.gap
        have hxl := hst.at_
        rw [hG] at hpw hgl HB1 ⊢
        rw [hx] at hpw hxl HB1 ⊢
        have HXX := Lib.hid hx
        have HG := Lib.hid hG
        clear hG hx hst
        by_cases hc : away G x T.n ≤ away (hm ((T.back (T.look k) m).2 x).key T.n) x T.n
        · rw [decide_eq_true hc] at hpw
          rw [if_pos hc] at HB1
          have HP := Lib.hid hpw
          clear hpw hc
          go_wp2_with fail
          refine HP.out.mono ?_
          rintro e w4 ⟨rfl, hb⟩
          have hx4 := HI.out.ix.below hb
          have HB4 := Lib.hid (HI.out.beh.only (Only.of_below (S := []) hb) (by simp) (by simp))
          have HO4 := Lib.hid (HI.out.only.trans (Only.of_below (S := []) hb) (by simp))
          obtain ⟨c0, _⟩ := hx4.cells
          obtain ⟨q0, q1, q2⟩ := hx4.sl x hxl
          obtain ⟨r0, r1, r2⟩ := hx4.sl G hgl
          obtain ⟨f0, f1, f2⟩ := hx4.row.free G hgl
          obtain ⟨i5, o5⟩ := hx4.put G ((T.back (T.look k) m).2 x)
          have HI5 := Lib.hid i5
          have HO5 := Lib.hid o5
          simp only at c0 q0 q1 q2 r0 r1 r2
          have hxI : (x : Int) < (T.n : Int) := by omega
          have hGI : (G : Int) < (T.n : Int) := by omega
          clear hb hx4 i5 o5 HP
          generalize (T.back (T.look k) m).2 x = s at q0 q1 q2 HI5 HO5 HB1 ⊢
          generalize (T.back (T.look k) m).2 G = s' at r0 r1 r2 ⊢
          go_wp2_with fail
          go_region
          have hp1 := HI5.out
          have hp2 := HO5.out
          clear HI5 HO5 q0 q1 q2 r0 r1 r2 f0 f1 f2 c0
          generalize (((w4.setCell ⟨g, G * 3, none⟩ (.int .u64 (s.key : Nat))).setCell ⟨g, G * 3 + 1, none⟩ (.int .i32 s.n)).setCell ⟨g, G * 3 + 2, none⟩ (.bool s.full)) = V at hp1 hp2 ⊢
          have hpp := hplt.out
          have h1 : IxT V.drew p ⟨T.n, (T.back (T.look k) (m + 1)).2⟩ g T.cnt := by rw [HB1.out]; exact hp1.only (Only.refl [] V).drew (by simp) (by simp)
          have h2 := HB4.out.only hp2.drew (by simp; omega) (by simp; omega)
          have h3 := HO4.out.trans hp2.drew (by simp)
          have HBH := Lib.hid (del_behind hn h1 h2 h3 hlow hplt.out.1 hplt.out.2 HSTM.out HST1.out)
          have HGE := Lib.hid (congrArg Prod.fst HB1.out)
          clear h1 h2 h3 hp1 hp2 hpp
          go_wp2_with fail
          refine HBH.out.mono ?_
          rintro e w5 ⟨rfl, hi⟩
          have HI5 := Lib.hid hi
          clear hi HBH
          go_wp2
          go_roundg (gk - 1)
          case measure => omega
          case rel => exact ⟨m + 1, by omega, by rw [HGE.out], rfl, rfl, HI5⟩
        · rw [decide_eq_false hc] at hpw
          rw [if_neg hc] at HB1
          have HP := Lib.hid hpw
          clear hpw hc
          go_wp2_with fail
          refine HP.out.mono ?_
          rintro e w4 ⟨rfl, hb⟩
          have h1 : IxT w4 p ⟨T.n, (T.back (T.look k) (m + 1)).2⟩ g T.cnt := by rw [HB1.out]; exact HI.out.ix.below hb
          have h2 := HI.out.beh.only (Only.of_below (S := []) hb) (by simp) (by simp)
          have h3 := HI.out.only.trans (Only.of_below (S := []) hb) (by simp)
          have HBH := Lib.hid (del_behind hn h1 h2 h3 hlow hplt.out.1 hplt.out.2 HSTM.out HST1.out)
          clear h1 h2 h3 hb HP
          go_wp2_with fail
          refine HBH.out.mono ?_
          rintro e w5 ⟨rfl, hi⟩
          have HI5 := Lib.hid hi
          have HGE := Lib.hid (congrArg Prod.fst HB1.out)
          clear hi HBH
          go_wp2
          go_roundg (gk - 1)
          case measure => omega
          case rel => exact ⟨m + 1, by omega, by rw [HGE.out, HG.out], rfl, rfl, HI5⟩
      · obtain rfl : m = r := by omega
        rw [decide_eq_false hmr]
        have hst := HST.out m (by omega)
        have hgl := hst.gap
        obtain ⟨G, hG⟩ : ∃ G, (T.back (T.look k) m).1 = G := ⟨_, rfl⟩
        rw [hG] at hgl HD ⊢
        have hx4 := HI.out.ix
        obtain ⟨c0, c1⟩ := hx4.cells
        obtain ⟨r0, r1, r2⟩ := hx4.sl G hgl
        obtain ⟨f0, f1, f2⟩ := hx4.row.free G hgl
        obtain ⟨z0, z1⟩ := hx4.free
        obtain ⟨i5, o5⟩ := hx4.put G Sl.no
        have i5 : IxT (((wr.setCell ⟨g, G * 3, none⟩ (.int .u64 0)).setCell ⟨g, G * 3 + 1, none⟩ (.int .i32 0)).setCell ⟨g, G * 3 + 2, none⟩ (.bool false)) p _ g T.cnt := i5
        have o5 : Only [p, g] w (((wr.setCell ⟨g, G * 3, none⟩ (.int .u64 0)).setCell ⟨g, G * 3 + 1, none⟩ (.int .i32 0)).setCell ⟨g, G * 3 + 2, none⟩ (.bool false)) := HI.out.only.trans o5 (by simp)
        have HI5 := Lib.hid i5
        have HO5 := Lib.hid o5
        simp only at c0 r0 r1 r2
        have hGI : (G : Int) < (T.n : Int) := by omega
        clear hx4 i5 o5 hst hG HI HB0 HST
        generalize (T.back (T.look k) m).2 G = s' at r0 r1 r2 ⊢
        go_upto_region 14 with fail
        have hp1 := HI5.out
        have hp2 := HO5.out
        clear HI5 HO5 r0 r1 r2 f0 f1 f2 c0 c1 z0 z1
        generalize (((wr.setCell ⟨g, G * 3, none⟩ (.int .u64 0)).setCell ⟨g, G * 3 + 1, none⟩ (.int .i32 0)).setCell ⟨g, G * 3 + 2, none⟩ (.bool false)) = V at hp1 hp2 ⊢
        obtain ⟨_, c1⟩ := hp1.cells
        obtain ⟨_, z1⟩ := hp1.free
        obtain ⟨i6, o6⟩ := hp1.keys (T.del k).cnt ((T.cnt : Int) - 1) (by omega)
        have HI6 := Lib.hid i6
        have HO6 := Lib.hid (hp2.trans o6 (by simp))
        have hcI : (T.cnt : Int) ≤ 100000 := by omega
        have hc0 : 1 ≤ (T.cnt : Int) := by omega
        have HD2 : Hid (T.del k = ⟨T.n, fun j => if j = G then Sl.no else (T.back (T.look k) m).2 j⟩) := HD
        clear hp1 hp2 i6 o6 HD
        have e6 : IxT (V.setCell ⟨p, 1, none⟩ (.int .i64 ((T.cnt : Int) - 1))) p ⟨T.n, fun j => if j = G then Sl.no else (T.back (T.look k) m).2 j⟩ g (T.del k).cnt := HI6.out
        rw [← HD2.out] at e6
        have HE6 := Lib.hid e6
        clear e6 HI6 HD2
        go_wp2
        go_ret
        exact ⟨rfl, HO6.out, g, .inl rfl, HE6.out⟩
structure HX (w0 w : World) (p : Nat) (T : Tb) (K : List Nat) : Prop where
  below : Below w0.heap.size w0 w
  good : T.Good
  keys : T.Keys
  old : ∀ k ∈ K, k < w.heap.size
  mem : ∃ g, w0.heap.size ≤ p ∧ w0.heap.size ≤ g ∧ p ∉ K ∧ g ∉ K ∧ IxT w p T g T.cnt
def KeptX (K : List Nat) (w w' : World) : Prop := ∀ k ∈ K, w'.heap[k]? = w.heap[k]?
section
variable {w0 w w' : World} {p : Nat} {T U : Tb} {K : List Nat}
theorem HX.still (h : HX w0 w p T K) (hb : Below w.heap.size w w') : HX w0 w' p T K ∧ KeptX K w w' := by
  obtain ⟨g, h1, h2, h3, h4, h5⟩ := h.mem
  exact ⟨⟨h.below.trans (hb.mono h.below.size), h.good, h.keys, fun k hk => Nat.lt_of_lt_of_le (h.old k hk) hb.size, g, h1, h2, h3, h4, h5.below hb⟩, fun k hk => hb.block k (h.old k hk)⟩
theorem HX.turn {g : Nat} (h : HX w0 w p T K) (h1 : w0.heap.size ≤ p) (h2 : w0.heap.size ≤ g) (h3 : p ∉ K) (h4 : g ∉ K) (good : U.Good) (keys : U.Keys) (ht : PutTo w w' p g U) : HX w0 w' p U K ∧ KeptX K w w' := by
  obtain ⟨o, g', hg', i⟩ := ht
  have hsz := h.below.size
  refine ⟨⟨h.below.trans (o.below (by simp; omega) hsz), good, keys, fun k hk => Nat.lt_of_lt_of_le (h.old k hk) o.size, g', h1, by omega, h3, ?_, i⟩, fun k hk => o.block k (h.old k hk) ?_⟩
  · rcases hg' with rfl | hg'
    · exact h4
    · intro hk; have := h.old _ hk; omega
  · simp only [List.mem_cons, List.not_mem_nil, or_false, not_or]
    exact ⟨fun e => h3 (e ▸ hk), fun e => h4 (e ▸ hk)⟩
theorem HX.sz (h : HX w0 w p T K) (hn : T.n ≤ 100000) : isSz T.n = true := good_sz h.good.pow (by omega)
theorem hx_new (hb : Below w0.heap.size w0 w) (K : List Nat) (hK : ∀ k ∈ K, k < w.heap.size) :
    Calls Tryz.prog 69 #[] w fun e w' => ∃ p, e = .returned (ptr p) ∧ HX w0 w' p Tb.new K ∧ Below w.heap.size w w' := by
  refine (ixnew_walk w).mono ?_
  rintro e w' ⟨p, g, rfl, hb', h1, h2, h3⟩
  have hsz := hb.size
  refine ⟨p, rfl, ⟨hb.trans (hb'.mono hsz), new_good, new_keys, fun k hk => Nat.lt_of_lt_of_le (hK k hk) hb'.size, g, by omega, by omega, fun hk => by have := hK _ hk; omega, fun hk => by have := hK _ hk; omega, ?_⟩, hb'⟩
  rw [show Tb.new.cnt = 0 from none_cnt _]
  exact h3
theorem hx_put (h : HX w0 w p T K) (hn : T.n ≤ 100000) (k : Nat) (hk : k < 18446744073709551616) (v : Int) :
    Calls Tryz.prog 153 #[ptr p, .int .u64 (k : Nat), .int .i32 v] w fun e w' => e = .returned (.tuple #[]) ∧ HX w0 w' p (T.put k v) K ∧ KeptX K w w' := by
  obtain ⟨g, h1, h2, h3, h4, h5⟩ := h.mem
  exact (put_walk h5 h.good hn h.keys k hk v).mono fun e w' ⟨he, ht⟩ => ⟨he, h.turn h1 h2 h3 h4 (h.good.put_all k v).1 (h.keys.put k v hk) ht⟩
theorem hx_del (h : HX w0 w p T K) (hn : T.n ≤ 100000) (k : Nat) (hk : k < 18446744073709551616) :
    Calls Tryz.prog 126 #[ptr p, .int .u64 (k : Nat)] w fun e w' => e = .returned (.bool (T.there k)) ∧ HX w0 w' p (T.del k) K ∧ KeptX K w w' := by
  obtain ⟨g, h1, h2, h3, h4, h5⟩ := h.mem
  exact (delete_walk h5 h.good hn k hk).mono fun e w' ⟨he, ht⟩ => ⟨he, h.turn h1 h2 h3 h4 (h.good.del_all k).1 (h.keys.del h.good.ok.pos k) ht⟩
theorem hx_get (h : HX w0 w p T K) (hn : T.n ≤ 100000) (k : Nat) (hk : k < 18446744073709551616) :
    Calls Tryz.prog 90 #[ptr p, .int .u64 (k : Nat)] w fun e w' => e = .returned (.tuple #[.int .i32 (T.get k).1, .bool (T.get k).2]) ∧ Below w.heap.size w w' := by
  obtain ⟨g, h1, h2, h3, h4, h5⟩ := h.mem
  exact get_walk h5 h.good.ok (h.sz hn) k hk
end
theorem there_no {T : Tb} (ok : T.Ok) {k : Nat} (h : ∀ v, ¬ T.has k v) : T.there k = false := by
  refine eq_false_of_ne_true (fun q => ?_)
  obtain ⟨v, hv⟩ := (T.there_has ok k).1 q
  exact h v hv
theorem there_yes {T : Tb} (ok : T.Ok) {k : Nat} {v : Int} (h : T.has k v) : T.there k = true := (T.there_has ok k).2 ⟨v, h⟩
theorem get_yes {T : Tb} (ok : T.Ok) {k : Nat} {v : Int} (h : T.has k v) : T.get k = (v, true) := by
  obtain ⟨h1, h2⟩ := (ok.has_iff k v).1 h
  unfold Tb.get
  rw [h2, there_yes ok h]
theorem get_no {T : Tb} (ok : T.Ok) {k : Nat} (h : T.there k = false) : T.get k = (0, false) := by
  have := ok.clean _ (ok.look_lt k) h
  unfold Tb.get
  rw [this, h]
  rfl

section
variable {w0 w : World} {p : Nat} {T : Tb} {K : List Nat}
end

section
variable {w0 w : World} {p : Nat} {T : Tb} {K : List Nat}
end
end Go.Proofs.YtkhikpnlpcankaaGreat
