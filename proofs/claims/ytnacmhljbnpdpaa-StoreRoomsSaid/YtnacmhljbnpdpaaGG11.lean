/- Words and walks for layer 6: SsRo. -/
import Derived.Test.YtnacmhljbnpdpaaGG8
/- StoreRooms, walked. -/
namespace Go.Proofs.Ytnacmhljbnpdpaa
open Go Go.RowKit Go.Deep

structure RunR (w0 wr : World) (sp b8 n : Nat) (Q : Nat → List Ent) (m : Nat) (U : Tb) (most o oc g c : Nat) (Kd : List Nat) : Prop where
  si : SI w0 wr sp n Q m U most (b8 :: Kd)
  rs : RSA wr o n oc m g c Q U Kd
  cell : wr.heap[b8]? = some (.cells (refSC o n oc m g U.n c) 30 (0, 0))
  ne : b8 ∉ Kd
  low : w0.heap.size ≤ b8
theorem RunR.below {w0 w w' : World} {sp b8 n : Nat} {Q : Nat → List Ent} {m : Nat} {U : Tb} {most o oc g c : Nat} {Kd : List Nat} (h : RunR w0 w sp b8 n Q m U most o oc g c Kd) (hb : Below w.heap.size w w') : RunR w0 w' sp b8 n Q m U most o oc g c Kd :=
  ⟨(h.si.still hb).1, h.rs.below hb, (hb.block b8 (head_row h.cell).lt).trans h.cell, h.ne, h.low⟩

set_option maxHeartbeats 4000000 in
set_option maxRecDepth 4000 in
theorem rooms_short (w : World) (q : Nat) (hq : q < 256) (A : Option Addr) (na c : Nat) (l : Nat → Act6) (hn : na ≤ 50) (ha : Acts6 w A na l) :
    Calls Try.prog 6 #[.int .u8 (q : Nat), .slice A na c] w fun e w' => e = .returned (.bool true) ∧ Below w.heap.size w w' := by
  have HA := Lib.hid ha
  have en : numT ((1 : Int) + (q : Int) % 4) = 1 + q % 4 := by
    have := numT_same (1 + q % 4) (by omega) (by omega)
    rw [← this]
    congr 1
  have HNW := Lib.hid (fun (W : World) (hb : Below w.heap.size w W) => si_new hb (K := []) (by simp) (1 + (q : Int) % 4))
  have HNR := Lib.hid (fun W => snew_walk W (1 + (q : Int) % 4))
  rw [en] at HNW HNR
  obtain ⟨n, hnn⟩ : ∃ n, 1 + q % 4 = n := ⟨_, rfl⟩
  rw [hnn] at HNW HNR
  clear ha en hnn
  have q1 : (0 : Int) ≤ (q : Int) := by omega
  have q2 : (q : Int) ≤ 255 := by omega
  go_enter Try.func6, Try.ntmps6
  go_wp2_with fail
  refine (awake_walk _).mono ?_
  rintro e w1 ⟨rfl, h⟩
  have B1 := Lib.hid h; clear h
  go_wp2_with fail
  refine (HNW.out w1 B1.out).mono ?_
  rintro e w2 ⟨sp, rfl, h, hk⟩
  have H2 := Lib.hid h
  clear h hk
  go_wp2_with fail
  refine (HNR.out w2).mono ?_
  rintro e w3 ⟨o3, oc3, g3, c3, K3, he, hb3, hr3, hk3⟩
  have he' : e = .returned (.agg (refSC o3 n oc3 8 g3 Tb.new.n c3)) := he
  subst he'
  clear he
  have hz3 := hb3.size
  have HI0 : Hid (RunR w (w3.alloc (.cells (refSC o3 n oc3 8 g3 Tb.new.n c3) 30)) sp w3.heap.size n (fun _ => []) 8 Tb.new 0 o3 oc3 g3 c3 K3) := Lib.hid (by
    have ba := (Below.refl w3.heap.size w3).alloc (Nat.le_refl _) (.cells (refSC o3 n oc3 8 g3 Tb.new.n c3) 30)
    have hlow : ∀ k ∈ K3, w2.heap.size ≤ k ∧ k < w3.heap.size := fun k hk => ⟨(hk3 k hk).resolve_left (by simp), hr3.old k hk⟩
    have hw2 := H2.out.below.size
    refine ⟨H2.out.other (hb3.trans (ba.mono hz3)) (fun k hk => ?_), hr3.below ba, heap_alloc_new w3 _, fun hk => ?_, by omega⟩
    · simp only [List.mem_cons] at hk
      rcases hk with rfl | hk
      · exact ⟨.inr hz3, by simp⟩
      · have := hlow k hk
        exact ⟨.inr this.1, by simp; omega⟩
    · have := hlow _ hk; omega)
  clear hb3 hr3 hk3 H2
  go_wp2_with fail
  generalize (w3.alloc (.cells (refSC o3 n oc3 8 g3 Tb.new.n c3) 30)) = wI at HI0 ⊢
  generalize w3.heap.size = b8 at HI0 ⊢
  go_loopg [8, 9] na (fun gg s8 s9 wr => ∃ (i : Nat) (Q : Nat → List Ent) (m : Nat) (U : Tb) (most o oc g cu : Nat) (Kd : List Nat), i + gg = na ∧ s8 = .int .i64 (most : Nat) ∧ s9 = .int .i64 i ∧ most ≤ i ∧ Hid (RunR w wr sp b8 n Q m U most o oc g cu Kd))
  case atStart => exact ⟨0, _, _, _, 0, _, _, _, _, _, by omega, rfl, rfl, Nat.le_refl _, HI0⟩
  case round =>
    obtain ⟨i, Q, m, U, most, o, oc, gu, cu, Kd, hi, rfl, rfl, hmi, HI⟩ := hrel
    by_cases hlt : i < na
    · have hltI : (i : Int) < (na : Int) := by omega
      obtain ⟨wf, g, off, hA, hg, c0, c1, c2, c3', c4⟩ := (HA.out.below HI.out.si.below) i hlt
      obtain ⟨Q', m', U', dd, hs1, hs2, hs3⟩ := step_both HI.out.si.ok (by omega) wf
      have HD := Lib.hid (hs1 _ _ _ _ HI.out.si)
      have HDO0 := Lib.hid hs2
      have hmost : max most (sumE Q' n) ≤ i + 1 := by omega
      obtain ⟨most', hm'⟩ : ∃ x, max most (sumE Q' n) = x := ⟨_, rfl⟩
      rw [hm'] at HD hmost
      have HM := Lib.hid hm'
      clear hs1 hs2 hs3 hm'
      subst hA
      go_wp2_with fail
      refine HD.out.mono ?_
      rintro e w4 ⟨rfl, h4, k4⟩
      have hg0 : g < w.heap.size := (HA.out i hlt).2.elim fun g' q => by obtain ⟨off', hA, hgz, _⟩ := q; injection hA with hA; injection hA with e1 _; rw [e1]; exact hgz
      have hg4 : g < w4.heap.size := Nat.lt_of_lt_of_le hg0 h4.below.size
      obtain ⟨_, g', off', hA, _, c0', c1', c2', c3'', c4'⟩ := (HA.out.below h4.below) i hlt
      injection hA with hA
      injection hA with e1 e2
      subst e1 e2
      have hc8 := (k4 b8 (by simp)).trans HI.out.cell
      have h84 : b8 < w4.heap.size := h4.old _ (by simp)
      obtain ⟨⟨u0, u1, u2⟩, _⟩ := three_at hc8
      have hr4 := HI.out.rs.kept (w' := w4) (fun k hk => k4 k (by simp [hk])) (fun k hk => h4.old k (by simp [hk]))
      have HR4 := Lib.hid hr4
      have H4 := Lib.hid h4
      have HC8 := Lib.hid hc8
      have HNE := Lib.hid HI.out.ne
      have HLO := Lib.hid HI.out.low
      have HKD := Lib.hid hr4.old
      have HDO := Lib.hid (fun w' (hb : Below w4.heap.size w4 w') => HDO0.out w' o oc gu cu Kd (HR4.out.below hb))
      have HSS : Hid (∀ w' : World, (∀ x, x < w4.heap.size → w'.heap[x]? = w4.heap[x]?) → w'.cell? ⟨b8, 0, none⟩ = some (.slice (some ⟨o, 0, none⟩) n oc) ∧ w'.cell? ⟨b8, 1, none⟩ = some (.int .i64 (m : Nat)) ∧ w'.cell? ⟨b8, 2, none⟩ = some (.slice (some ⟨gu, 0, none⟩) U.n cu) ∧ w'.cell? ⟨g, off + i * 5, none⟩ = some (.int .u8 ((l i).kind : Nat)) ∧ w'.cell? ⟨g, off + i * 5 + 1, none⟩ = some (.int .i64 (l i).q) ∧ w'.cell? ⟨g, off + i * 5 + 2, none⟩ = some (.int .u64 ((l i).key : Nat)) ∧ w'.cell? ⟨g, off + i * 5 + 3, none⟩ = some (.int .u64 ((l i).val : Nat)) ∧ w'.cell? ⟨g, off + i * 5 + 4, none⟩ = some (.int .i64 (l i).flag)) := Lib.hid (fun w' hh => by
        have e := fun (x j : Nat) (hx : x < w4.heap.size) => World.cell?_of_block (w := w4) (w' := w') (a := ⟨x, j, none⟩) (hh x hx)
        exact ⟨(e _ _ h84).trans u0, (e _ _ h84).trans u1, (e _ _ h84).trans u2, (e _ _ hg4).trans c0', (e _ _ hg4).trans c1', (e _ _ hg4).trans c2', (e _ _ hg4).trans c3'', (e _ _ hg4).trans c4'⟩)
      clear h4 k4 hc8 hr4 HD HDO0 c0 c1 c2 c3' c4 hg HI
      go_upto_region 11 with fail
      go_cut [10, 11] (fun s10 s11 wx => s11 = Value.bool dd ∧ After6 w4 n m' Q' U' Kd s10 wx)
      case first =>
       go_region_held3 (fun w' => w'.cell? ⟨b8, 0, none⟩ = some (.slice (some ⟨o, 0, none⟩) n oc) ∧ w'.cell? ⟨b8, 1, none⟩ = some (.int .i64 (m : Nat)) ∧ w'.cell? ⟨b8, 2, none⟩ = some (.slice (some ⟨gu, 0, none⟩) U.n cu) ∧ w'.cell? ⟨g, off + i * 5, none⟩ = some (.int .u8 ((l i).kind : Nat)) ∧ w'.cell? ⟨g, off + i * 5 + 1, none⟩ = some (.int .i64 (l i).q) ∧ w'.cell? ⟨g, off + i * 5 + 2, none⟩ = some (.int .u64 ((l i).key : Nat)) ∧ w'.cell? ⟨g, off + i * 5 + 3, none⟩ = some (.int .u64 ((l i).val : Nat)) ∧ w'.cell? ⟨g, off + i * 5 + 4, none⟩ = some (.int .i64 (l i).flag))
        (first | with_reducible exact kk0 | with_reducible exact KK1 _ (three_heap hP5 _ _ _).2 | go_keep)
        (first
          | (go_at_call 21; refine (HDO.out _ ((Below.refl _ _).alloc (Nat.le_refl _) (.cells zero3 30)).drew).mono ?_; rintro e w5 ⟨o5, oc5, g5, c5, K5, rfl, hb5, hr5, hk5⟩; have kk0 := HSS.out w5 (fun x hx => (hb5.block x (by simp; omega)).trans (Below.heap_alloc w4 _ x hx)); have hP5 := (hb5.block w4.heap.size (by simp)).trans (heap_alloc_new w4 _); have KK1 := fun (W : World) (ho : Only [w4.heap.size] w5 W) => HSS.out W (fun x hx => (ho.block x (by have := hb5.size; simp at this; omega) (by simp; omega)).trans ((hb5.block x (by simp; omega)).trans (Below.heap_alloc w4 _ x hx))); obtain ⟨⟨xx0, xx1, xx2⟩, zz0, zz1, zz2⟩ := three_at hP5)
          | (go_at_call 21; refine (HDO.out _ (Below.refl _ _).drew).mono ?_; rintro e w5 ⟨o5, oc5, g5, c5, K5, rfl, hb5, hr5, hk5⟩; have kk0 := HSS.out w5 (fun x hx => hb5.block x hx)))
       all_goals
         go_wp2_with fail
         go_meet
         first
           | exact ⟨rfl, after6_b hb5 hr5 hk5⟩
           | exact ⟨rfl, after6_a HKD.out hb5 hP5 hr5 hk5⟩
      case rest =>
       obtain ⟨rfl, P5, o5, oc5, g5, c5, K5, rfl, hbc, hP, hcell, href, hk5⟩ := hcut
       have hc8c := (hbc.block b8 h84).trans HC8.out
       obtain ⟨⟨p0, p1, p2⟩, _⟩ := three_at hcell
       obtain ⟨⟨b0, b1, b2⟩, z0, z1, z2⟩ := three_at hc8c
       have hszc := hbc.size
       have n3 := HNE.out
       have n4 : b8 ∉ K5 := fun hk => by
         rcases (hk5 _ hk).1 with q | q
         · exact n3 q
         · omega
       have HNW : Hid (∀ W, W = ((wc.setCell ⟨b8, 0, none⟩ (.slice (some ⟨o5, 0, none⟩) n oc5)).setCell ⟨b8, 1, none⟩ (.int .i64 (m' : Nat))).setCell ⟨b8, 2, none⟩ (.slice (some ⟨g5, 0, none⟩) U'.n c5) → RunR w W sp b8 n Q' m' U' most' o5 oc5 g5 c5 K5) := Lib.hid (by
         rintro W rfl
         obtain ⟨t1, ow⟩ := three_heap hc8c (.slice (some ⟨o5, 0, none⟩) n oc5) (.int .i64 (m' : Nat)) (.slice (some ⟨g5, 0, none⟩) U'.n c5)
         refine ⟨(H4.out.other hbc (K' := b8 :: K5) (fun k hk => ?_)).only ow (fun x hx => ?_), href.only ow (fun k hk => by simp; rintro rfl; exact n4 hk), t1, n4, HLO.out⟩
         · simp only [List.mem_cons] at hk
           rcases hk with rfl | hk
           · exact ⟨.inl (by simp), by omega⟩
           · exact ⟨(hk5 k hk).1.imp (fun h => by simp [h]) id, href.old k hk⟩
         · have e : x = b8 := by simpa using hx
           rw [e]
           exact ⟨by simp, HLO.out⟩)
       clear hbc hcell href hc8c HSS HR4 HC8 H4 HDO hk5 u0 u1 u2 c0' c1' c2' c3'' c4' n3 n4 HKD
       go_wp2_with fail
       have hri := HNW.out _ rfl
       generalize ((wc.setCell ⟨b8, 0, none⟩ (.slice (some ⟨o5, 0, none⟩) n oc5)).setCell ⟨b8, 1, none⟩ (.int .i64 (m' : Nat))).setCell ⟨b8, 2, none⟩ (.slice (some ⟨g5, 0, none⟩) U'.n c5) = W at hri ⊢
       have HRI := Lib.hid hri
       have hok := hri.si.ok
       have m1 : (m' : Int) ≤ 3 * (most' : Int) + 8 := by have := hok.an; omega
       have m2 : (U'.n : Int) ≤ 3 * (most' : Int) + 8 := by have := hok.tn; omega
       have hT := si_total hri.si
       obtain ⟨sm, hsm⟩ : ∃ sm, sumE Q' n = sm := ⟨_, rfl⟩
       have HMX : Hid (max most sm = most') := Lib.hid (by rw [← hsm]; exact HM.out)
       rw [hsm] at hT
       have HT := Lib.hid hT
       have hsI : sm ≤ i + 1 := by have := HMX.out; omega
       have mI : (most' : Int) ≤ 51 := by omega
       have mI0 : (most : Int) ≤ 51 := by omega
       have sI0 : (sm : Int) ≤ 51 := by omega
       clear hri hok hsm hT p0 p1 p2 b0 b1 b2 z0 z1 z2 HNW
       refine HT.out.mono ?_
       rintro e w6 ⟨rfl, hb6⟩
       have HR6 := Lib.hid (HRI.out.below hb6)
       clear hb6
       have HCASE : Hid (most < sm ∧ most' = sm ∨ sm ≤ most ∧ most' = most) := Lib.hid (by have := HMX.out; omega)
       clear HM HMX
       rcases HCASE.out with ⟨hc1, rfl⟩ | ⟨hc1, rfl⟩
       all_goals
         go_wp2_with fail
         refine (si_rooms HR6.out.si).mono ?_
         rintro e w7 ⟨rfl, hb7⟩
         have HR7 := Lib.hid (HR6.out.below hb7)
         obtain ⟨⟨b0, b1, b2⟩, _⟩ := three_at HR7.out.cell
         clear hb7
         go_wp2
         go_roundg (gk - 1)
         case measure => omega
         case rel => exact ⟨i + 1, Q', m', U', _, o5, oc5, g5, c5, K5, by omega, rfl, by go_num, by omega, HR7⟩
    · obtain rfl : i = na := by omega
      have hge : ¬ (i : Int) < (i : Int) := by omega
      have HZ := Lib.hid HI.out.si.below
      clear HI
      go_wp2
      go_ret
      exact ⟨rfl, HZ.out⟩
theorem rooms_long (w : World) (q : Nat) (A : Option Addr) (n c : Nat) (hn : 50 < n) :
    Calls Try.prog 6 #[.int .u8 (q : Nat), .slice A n c] w fun e w' => e = .returned (.bool true) ∧ Below w.heap.size w w' := by
  have h1 : (50 : Int) < (n : Int) := by omega
  go_enter Try.func6, Try.ntmps6
  go_wp2_with fail
  refine (awake_walk _).mono ?_
  rintro e w1 ⟨rfl, h⟩
  have B1 := Lib.hid h
  clear h
  go_wp2
  go_ret
  exact ⟨rfl, B1.out⟩
theorem storeRooms_walk (w : World) (q : Nat) (hq : q < 256) (A : Option Addr) (n c : Nat) (l : Nat → Act6) (ha : Acts6 w A n l) :
    Calls Try.prog 6 #[.int .u8 (q : Nat), .slice A n c] w fun e w' => e = .returned (.bool true) ∧ Below w.heap.size w w' := by
  by_cases hn : n ≤ 50
  · exact rooms_short w q hq A n c l hn ha
  · exact rooms_long w q A n c (by omega)
end Go.Proofs.Ytnacmhljbnpdpaa
