/- Words and walks for layer 6: SsU. -/
import Derived.Test.YtnacmhljbnpdpaaGG6
import Derived.Test.YtnacmhljbnpdpaaGG7
import Derived.Test.YtnacmhljbnpdpaaGS6
/- The laws' run: a store, and the document's own, side by side. -/
namespace Go.Proofs.Ytnacmhljbnpdpaa
open Go Go.RowKit Go.Deep

section
variable {w0 w w' : World} {p b ix n sp m most : Nat} {x : LSt} {F G S : List Nat} {l : Nat → List Nat} {A : St} {T U : Tb} {Q : Nat → List Ent} {K : List Nat}
theorem SP.only (h : SP w0 w p b ix n x F G l A T K) (ho : Only S w w') (hS : ∀ y ∈ S, y ∈ K ∧ w0.heap.size ≤ y) : SP w0 w' p b ix n x F G l A T K :=
  ⟨h.below.trans (ho.below (fun y hy => (hS y hy).2) h.below.size), h.fh.keep (fun k hk => ⟨ho.block k (h.fh.old k hk).2 (fun q => (h.dF k hk).2 (hS k q).1), Nat.lt_of_lt_of_le (h.fh.old k hk).2 ho.size⟩), h.lok, h.xn, h.al,
    h.fx.keep (fun k hk => ⟨ho.block k (h.fx.old k hk).2 (fun q => h.dG k hk (hS k q).1), Nat.lt_of_lt_of_le (h.fx.old k hk).2 ho.size⟩), h.dF, h.dG, fun k hk => Nat.lt_of_lt_of_le (h.dK k hk) ho.size⟩
theorem SI.only (h : SI w0 w sp n Q m U most K) (ho : Only S w w') (hS : ∀ y ∈ S, y ∈ K ∧ w0.heap.size ≤ y) : SI w0 w' sp n Q m U most K := by
  obtain ⟨l, A, T, E, ⟨p, b, ix, h1, ⟨x, F, G, h2⟩, h3, h4⟩, hi⟩ := h
  exact ⟨l, A, T, E, ⟨p, b, ix, (ho.block sp (head_row h1).lt (fun q => h4 (hS sp q).1)).trans h1, ⟨x, F, G, h2.only ho (fun y hy => ⟨by simp [(hS y hy).1], (hS y hy).2⟩)⟩, h3, h4⟩, hi⟩
end

structure RunS (w0 wr : World) (sp b5 b8 n : Nat) (Q : Nat → List Ent) (m : Nat) (U : Tb) (most o oc g c : Nat) (Kd : List Nat) : Prop where
  si : SI w0 wr sp n Q m U most (b5 :: b8 :: Kd)
  rs : RSA wr o n oc m g c Q U Kd
  cell : wr.heap[b8]? = some (.cells (refSC o n oc m g U.n c) 30 (0, 0))
  res : wr.heap[b5]? = some (.cells #[.slice none 0 0, .int .i64 0, .slice none 0 0] 30 (0, 0))
  ne : b5 ≠ b8 ∧ b5 ∉ Kd ∧ b8 ∉ Kd
  low : w0.heap.size ≤ b5 ∧ w0.heap.size ≤ b8
def RunPost (w0 : World) (n i : Nat) (e : Ending) (w' : World) : Prop := ∃ (sp : Nat) (Q : Nat → List Ent) (m : Nat) (U : Tb) (most o oc g c : Nat) (Kd : List Nat),
  e = .returned (.tuple #[ptr sp, .agg (refSC o n oc m g U.n c), .bool true]) ∧ SI w0 w' sp n Q m U most Kd ∧ RSA w' o n oc m g c Q U Kd ∧ most ≤ i
abbrev zero3 : Array Value := #[.slice none 0 0, .int .i64 0, .slice none 0 0]

/- Behind the document's act: its new value lies in a block of its own. -/
def After6 (w4 : World) (n m : Nat) (Q : Nat → List Ent) (U : Tb) (Kd : List Nat) (v : Value) (wx : World) : Prop := ∃ (P o oc g c : Nat) (K' : List Nat), v = ptr P ∧ Below w4.heap.size w4 wx ∧ w4.heap.size ≤ P ∧
  wx.heap[P]? = some (.cells (refSC o n oc m g U.n c) 30 (0, 0)) ∧ RSA wx o n oc m g c Q U K' ∧ (∀ k ∈ K', (k ∈ Kd ∨ w4.heap.size ≤ k) ∧ k ≠ P)
section
variable {w4 w5 : World} {n m o oc g c : Nat} {Q : Nat → List Ent} {U : Tb} {Kd K' : List Nat}
theorem after6_b (hb : Below w4.drew.heap.size w4.drew w5) (hr : RSA w5 o n oc m g c Q U K') (hk : ∀ k ∈ K', k ∈ Kd ∨ w4.drew.heap.size ≤ k) :
    After6 w4 n m Q U Kd (ptr w5.heap.size) (w5.alloc (.cells (refSC o n oc m g U.n c) 30)) := by
  have hb4 : Below w4.heap.size w4 w5 := (Below.refl _ _).drew.trans hb
  refine ⟨_, o, oc, g, c, K', rfl, hb4.alloc hb4.size _, hb4.size, heap_alloc_new w5 _, hr.below ((Below.refl _ _).alloc (Nat.le_refl _) _), fun k q => ⟨hk k q, ?_⟩⟩
  have := hr.old k q
  omega
theorem after6_a {O : Obj} {a0 a1 a2 : Value} (hKd : ∀ k ∈ Kd, k < w4.heap.size) (hb : Below (w4.alloc O).drew.heap.size (w4.alloc O).drew w5) (hP : w5.heap[w4.heap.size]? = some (.cells #[a0, a1, a2] 30 (0, 0)))
    (hr : RSA w5 o n oc m g c Q U K') (hk : ∀ k ∈ K', k ∈ Kd ∨ (w4.alloc O).drew.heap.size ≤ k) :
    After6 w4 n m Q U Kd (ptr w4.heap.size) (((w5.setCell ⟨w4.heap.size, 0, none⟩ (.slice (some ⟨o, 0, none⟩) n oc)).setCell ⟨w4.heap.size, 1, none⟩ (.int .i64 (m : Nat))).setCell ⟨w4.heap.size, 2, none⟩ (.slice (some ⟨g, 0, none⟩) U.n c)) := by
  obtain ⟨h1, h2⟩ := three_heap hP (.slice (some ⟨o, 0, none⟩) n oc) (.int .i64 (m : Nat)) (.slice (some ⟨g, 0, none⟩) U.n c)
  have hs : (w4.alloc O).drew.heap.size = w4.heap.size + 1 := by simp
  have hbs : w4.heap.size + 1 ≤ w5.heap.size := by have := hb.size; omega
  have hb4 : Below w4.heap.size w4 w5 := ((Below.refl _ _).alloc (Nat.le_refl _) O).drew.trans (hb.mono (by simp))
  have hne : ∀ k ∈ K', k ≠ w4.heap.size := fun k q => by
    rcases hk k q with q2 | q2
    · have := hKd k q2; omega
    · omega
  exact ⟨_, o, oc, g, c, K', rfl, hb4.trans (h2.below (by simp) (by omega)), Nat.le_refl _, h1, hr.only h2 (fun k q => by simpa using hne k q), fun k q => ⟨(hk k q).imp id (fun q2 => by omega), hne k q⟩⟩
end

set_option maxHeartbeats 4000000 in
set_option maxRecDepth 4000 in
theorem run_walk {w0 w : World} (hb0 : Below w0.heap.size w0 w) (q : Nat) (hq : q < 256) (A : Option Addr) (na c : Nat) (l : Nat → Act6) (hn : na ≤ 50) (ha : Acts6 w0 A na l) :
    Calls Try.prog 9 #[.int .u8 (q : Nat), .slice A na c] w (RunPost w0 (1 + q % 4) na) := by
  have HA := Lib.hid ha
  have hz0 := hb0.size
  have hk0 := heap_alloc_new w (.cells zero3 30)
  have HBR : Hid (Below w0.heap.size w0 (w.alloc (.cells zero3 30))) := Lib.hid (hb0.alloc hz0 _)
  have HK0 := Lib.hid hk0
  have en : numT ((1 : Int) + (q : Int) % 4) = 1 + q % 4 := by
    have := numT_same (1 + q % 4) (by omega) (by omega)
    rw [← this]
    congr 1
  have HNW := Lib.hid (si_new HBR.out (K := [w.heap.size]) (by simp) (1 + (q : Int) % 4))
  have HNR := Lib.hid (fun W => snew_walk W (1 + (q : Int) % 4))
  rw [en] at HNW HNR
  obtain ⟨n, hnn⟩ : ∃ n, 1 + q % 4 = n := ⟨_, rfl⟩
  rw [hnn] at HNW HNR ⊢
  clear ha hb0 hk0 en hnn
  have q1 : (0 : Int) ≤ (q : Int) := by omega
  have q2 : (q : Int) ≤ 255 := by omega
  go_enter Try.func9, Try.ntmps9
  go_wp2_with fail
  refine HNW.out.mono ?_
  rintro e w2 ⟨sp, rfl, h, hk⟩
  have H2 := Lib.hid h
  have HR2 := Lib.hid ((hk w.heap.size (by simp)).trans HK0.out)
  have hz2 : w.heap.size < w2.heap.size := h.old _ (by simp)
  clear h hk
  go_wp2_with fail
  refine (HNR.out w2).mono ?_
  rintro e w3 ⟨o3, oc3, g3, c3, K3, he, hb3, hr3, hk3⟩
  have he' : e = .returned (.agg (refSC o3 n oc3 8 g3 Tb.new.n c3)) := he
  subst he'
  clear he
  have hz3 := hb3.size
  have HI0 : Hid (RunS w0 (w3.alloc (.cells (refSC o3 n oc3 8 g3 Tb.new.n c3) 30)) sp w.heap.size w3.heap.size n (fun _ => []) 8 Tb.new 0 o3 oc3 g3 c3 K3) := Lib.hid (by
    have ba := (Below.refl w3.heap.size w3).alloc (Nat.le_refl _) (.cells (refSC o3 n oc3 8 g3 Tb.new.n c3) 30)
    have hlow : ∀ k ∈ K3, w2.heap.size ≤ k ∧ k < w3.heap.size := fun k hk => ⟨(hk3 k hk).resolve_left (by simp), hr3.old k hk⟩
    refine ⟨H2.out.other (hb3.trans (ba.mono hz3)) (fun k hk => ?_), hr3.below ba, heap_alloc_new w3 _, (ba.block w.heap.size (by omega)).trans ((hb3.block w.heap.size hz2).trans HR2.out), ⟨by omega, fun hk => ?_, fun hk => ?_⟩, ⟨hz0, by omega⟩⟩
    · simp only [List.mem_cons] at hk
      rcases hk with rfl | rfl | hk
      · exact ⟨.inl (by simp), by simp; omega⟩
      · exact ⟨.inr hz3, by simp⟩
      · have := hlow k hk
        exact ⟨.inr this.1, by simp; omega⟩
    · have := hlow _ hk; omega
    · have := hlow _ hk; omega)
  clear hb3 hr3 hk3 H2 HR2
  go_wp2_with fail
  generalize (w3.alloc (.cells (refSC o3 n oc3 8 g3 Tb.new.n c3) 30)) = wI at HI0 ⊢
  generalize w3.heap.size = b8 at HI0 ⊢
  generalize w.heap.size = b5 at HI0 ⊢
  go_loopg [9] na (fun gg s9 wr => ∃ (i : Nat) (Q : Nat → List Ent) (m : Nat) (U : Tb) (most o oc g cu : Nat) (Kd : List Nat), i + gg = na ∧ s9 = .int .i64 i ∧ most ≤ i ∧ Hid (RunS w0 wr sp b5 b8 n Q m U most o oc g cu Kd))
  case atStart => exact ⟨0, _, _, _, 0, _, _, _, _, _, by omega, rfl, Nat.le_refl _, HI0⟩
  case round =>
    obtain ⟨i, Q, m, U, most, o, oc, gu, cu, Kd, hi, rfl, hmi, HI⟩ := hrel
    by_cases hlt : i < na
    · have hltI : (i : Int) < (na : Int) := by omega
      obtain ⟨wf, g, off, hA, hg, c0, c1, c2, c3', c4⟩ := (HA.out.below HI.out.si.below) i hlt
      obtain ⟨Q', m', U', dd, hs1, hs2, hs3⟩ := step_both HI.out.si.ok (by omega) wf
      have HD := Lib.hid (hs1 _ _ _ _ HI.out.si)
      have HDO0 := Lib.hid hs2
      have hmost : max most (sumE Q' n) ≤ i + 1 := by omega
      obtain ⟨most', hm'⟩ : ∃ x, max most (sumE Q' n) = x := ⟨_, rfl⟩
      rw [hm'] at HD hmost
      clear hs1 hs2 hs3 hm'
      subst hA
      go_wp2_with fail
      refine HD.out.mono ?_
      rintro e w4 ⟨rfl, h4, k4⟩
      have hg0 : g < w0.heap.size := (HA.out i hlt).2.elim fun g' q => by obtain ⟨off', hA, hgz, _⟩ := q; injection hA with hA; injection hA with e1 _; rw [e1]; exact hgz
      have hg4 : g < w4.heap.size := Nat.lt_of_lt_of_le hg0 h4.below.size
      obtain ⟨_, g', off', hA, _, c0', c1', c2', c3'', c4'⟩ := (HA.out.below h4.below) i hlt
      injection hA with hA
      injection hA with e1 e2
      subst e1 e2
      have hc8 := (k4 b8 (by simp)).trans HI.out.cell
      have h84 : b8 < w4.heap.size := h4.old _ (by simp)
      obtain ⟨⟨u0, u1, u2⟩, _⟩ := three_at hc8
      have hr4 := HI.out.rs.kept (w' := w4) (fun k hk => k4 k (by simp [hk])) (fun k hk => h4.old k (by simp [hk]))
      have HR4 := Lib.hid hr4
      have H4 := Lib.hid h4
      have HC8 := Lib.hid hc8
      have HRES := Lib.hid ((k4 b5 (by simp)).trans HI.out.res)
      have HNE := Lib.hid HI.out.ne
      have HLO := Lib.hid HI.out.low
      have h54 : b5 < w4.heap.size := h4.old _ (by simp)
      have HKD := Lib.hid hr4.old
      have HDO := Lib.hid (fun w' (hb : Below w4.heap.size w4 w') => HDO0.out w' o oc gu cu Kd (HR4.out.below hb))
      have HSS : Hid (∀ w' : World, (∀ x, x < w4.heap.size → w'.heap[x]? = w4.heap[x]?) → w'.cell? ⟨b8, 0, none⟩ = some (.slice (some ⟨o, 0, none⟩) n oc) ∧ w'.cell? ⟨b8, 1, none⟩ = some (.int .i64 (m : Nat)) ∧ w'.cell? ⟨b8, 2, none⟩ = some (.slice (some ⟨gu, 0, none⟩) U.n cu) ∧ w'.cell? ⟨g, off + i * 5, none⟩ = some (.int .u8 ((l i).kind : Nat)) ∧ w'.cell? ⟨g, off + i * 5 + 1, none⟩ = some (.int .i64 (l i).q) ∧ w'.cell? ⟨g, off + i * 5 + 2, none⟩ = some (.int .u64 ((l i).key : Nat)) ∧ w'.cell? ⟨g, off + i * 5 + 3, none⟩ = some (.int .u64 ((l i).val : Nat)) ∧ w'.cell? ⟨g, off + i * 5 + 4, none⟩ = some (.int .i64 (l i).flag)) := Lib.hid (fun w' hh => by
        have e := fun (x j : Nat) (hx : x < w4.heap.size) => World.cell?_of_block (w := w4) (w' := w') (a := ⟨x, j, none⟩) (hh x hx)
        exact ⟨(e _ _ h84).trans u0, (e _ _ h84).trans u1, (e _ _ h84).trans u2, (e _ _ hg4).trans c0', (e _ _ hg4).trans c1', (e _ _ hg4).trans c2', (e _ _ hg4).trans c3'', (e _ _ hg4).trans c4'⟩)
      clear h4 k4 hc8 hr4 HD HDO0 c0 c1 c2 c3' c4 hg HI
      go_upto_region 7 with fail
      go_cut [10, 11, 12] (fun s10 s11 s12 wx => s10 = Value.bool dd ∧ s12 = Value.bool dd ∧ After6 w4 n m' Q' U' Kd s11 wx)
      case first =>
       go_region_held3 (fun w' => w'.cell? ⟨b8, 0, none⟩ = some (.slice (some ⟨o, 0, none⟩) n oc) ∧ w'.cell? ⟨b8, 1, none⟩ = some (.int .i64 (m : Nat)) ∧ w'.cell? ⟨b8, 2, none⟩ = some (.slice (some ⟨gu, 0, none⟩) U.n cu) ∧ w'.cell? ⟨g, off + i * 5, none⟩ = some (.int .u8 ((l i).kind : Nat)) ∧ w'.cell? ⟨g, off + i * 5 + 1, none⟩ = some (.int .i64 (l i).q) ∧ w'.cell? ⟨g, off + i * 5 + 2, none⟩ = some (.int .u64 ((l i).key : Nat)) ∧ w'.cell? ⟨g, off + i * 5 + 3, none⟩ = some (.int .u64 ((l i).val : Nat)) ∧ w'.cell? ⟨g, off + i * 5 + 4, none⟩ = some (.int .i64 (l i).flag))
        (first | with_reducible exact kk0 | with_reducible exact KK1 _ (three_heap hP5 _ _ _).2 | go_keep)
        (first
          | (go_at_call 21; refine (HDO.out _ ((Below.refl _ _).alloc (Nat.le_refl _) (.cells zero3 30)).drew).mono ?_; rintro e w5 ⟨o5, oc5, g5, c5, K5, rfl, hb5, hr5, hk5⟩; have kk0 := HSS.out w5 (fun x hx => (hb5.block x (by simp; omega)).trans (Below.heap_alloc w4 _ x hx)); have hP5 := (hb5.block w4.heap.size (by simp)).trans (heap_alloc_new w4 _); have KK1 := fun (W : World) (ho : Only [w4.heap.size] w5 W) => HSS.out W (fun x hx => (ho.block x (by have := hb5.size; simp at this; omega) (by simp; omega)).trans ((hb5.block x (by simp; omega)).trans (Below.heap_alloc w4 _ x hx))); obtain ⟨⟨xx0, xx1, xx2⟩, zz0, zz1, zz2⟩ := three_at hP5)
          | (go_at_call 21; refine (HDO.out _ (Below.refl _ _).drew).mono ?_; rintro e w5 ⟨o5, oc5, g5, c5, K5, rfl, hb5, hr5, hk5⟩; have kk0 := HSS.out w5 (fun x hx => hb5.block x hx)))
       all_goals
         go_wp2_with fail
         go_meet
         first
           | exact ⟨rfl, rfl, after6_b hb5 hr5 hk5⟩
           | exact ⟨rfl, rfl, after6_a HKD.out hb5 hP5 hr5 hk5⟩
      case rest =>
       obtain ⟨rfl, rfl, P5, o5, oc5, g5, c5, K5, rfl, hbc, hP, hcell, href, hk5⟩ := hcut
       have hc8c := (hbc.block b8 h84).trans HC8.out
       obtain ⟨⟨p0, p1, p2⟩, _⟩ := three_at hcell
       obtain ⟨⟨b0, b1, b2⟩, z0, z1, z2⟩ := three_at hc8c
       have hszc := hbc.size
       obtain ⟨n1, n2, n3⟩ := HNE.out
       have n4 : b5 ∉ K5 ∧ b8 ∉ K5 := ⟨fun hk => by
         rcases (hk5 _ hk).1 with q | q
         · exact n2 q
         · omega, fun hk => by
         rcases (hk5 _ hk).1 with q | q
         · exact n3 q
         · omega⟩
       have HNW : Hid (∀ W, W = ((wc.setCell ⟨b8, 0, none⟩ (.slice (some ⟨o5, 0, none⟩) n oc5)).setCell ⟨b8, 1, none⟩ (.int .i64 (m' : Nat))).setCell ⟨b8, 2, none⟩ (.slice (some ⟨g5, 0, none⟩) U'.n c5) → RunS w0 W sp b5 b8 n Q' m' U' most' o5 oc5 g5 c5 K5) := Lib.hid (by
         rintro W rfl
         obtain ⟨t1, ow⟩ := three_heap hc8c (.slice (some ⟨o5, 0, none⟩) n oc5) (.int .i64 (m' : Nat)) (.slice (some ⟨g5, 0, none⟩) U'.n c5)
         refine ⟨(H4.out.other hbc (K' := b5 :: b8 :: K5) (fun k hk => ?_)).only ow (fun x hx => ?_), href.only ow (fun k hk => by simp; rintro rfl; exact n4.2 hk), t1, (ow.block b5 (by omega) (by simpa using n1)).trans ((hbc.block b5 h54).trans HRES.out), ⟨n1, n4.1, n4.2⟩, HLO.out⟩
         · simp only [List.mem_cons] at hk
           rcases hk with rfl | rfl | hk
           · exact ⟨.inl (by simp), by omega⟩
           · exact ⟨.inl (by simp), by omega⟩
           · exact ⟨(hk5 k hk).1.imp (fun h => by simp [h]) id, href.old k hk⟩
         · have e : x = b8 := by simpa using hx
           rw [e]
           exact ⟨by simp, HLO.out.2⟩)
       clear hbc hcell href hc8c HSS HR4 HC8 H4 HDO HRES hk5 u0 u1 u2 c0' c1' c2' c3'' c4' n1 n2 n3 n4 HKD
       go_wp2_with fail
       have hri := HNW.out _ rfl
       generalize ((wc.setCell ⟨b8, 0, none⟩ (.slice (some ⟨o5, 0, none⟩) n oc5)).setCell ⟨b8, 1, none⟩ (.int .i64 (m' : Nat))).setCell ⟨b8, 2, none⟩ (.slice (some ⟨g5, 0, none⟩) U'.n c5) = W at hri ⊢
       have HRI := Lib.hid hri
       clear hri p0 p1 p2 b0 b1 b2 z0 z1 z2 HNW
       go_roundg (gk - 1)
       case measure => omega
       case rel => exact ⟨i + 1, Q', m', U', most', o5, oc5, g5, c5, K5, by omega, by go_num, hmost, HRI⟩
    · obtain rfl : i = na := by omega
      have hge : ¬ (i : Int) < (i : Int) := by omega
      obtain ⟨⟨x0, x1, x2⟩, _⟩ := three_at HI.out.cell
      obtain ⟨⟨y0, y1, y2⟩, z0, z1, z2⟩ := three_at HI.out.res
      have HF : Hid (∀ V, V = ((wr.setCell ⟨b5, 0, none⟩ (.slice (some ⟨o, 0, none⟩) n oc)).setCell ⟨b5, 1, none⟩ (.int .i64 (m : Nat))).setCell ⟨b5, 2, none⟩ (.slice (some ⟨gu, 0, none⟩) U.n cu) → (V.drew.cell? ⟨b5, 0, none⟩ = some (.slice (some ⟨o, 0, none⟩) n oc) ∧ V.drew.cell? ⟨b5, 1, none⟩ = some (.int .i64 (m : Nat)) ∧ V.drew.cell? ⟨b5, 2, none⟩ = some (.slice (some ⟨gu, 0, none⟩) U.n cu)) ∧ RunPost w0 n i (.returned (.tuple #[ptr sp, .agg (refSC o n oc m gu U.n cu), .bool true])) V.drew) := Lib.hid (by
        rintro V rfl
        obtain ⟨t1, ow⟩ := three_heap HI.out.res (.slice (some ⟨o, 0, none⟩) n oc) (.int .i64 (m : Nat)) (.slice (some ⟨gu, 0, none⟩) U.n cu)
        have od := ow.drew
        have hx := HI.out.si.only od (fun x hx => by
          have e : x = b5 := by simpa using hx
          rw [e]
          exact ⟨by simp, HI.out.low.1⟩)
        exact ⟨(three_at t1).1, sp, Q, m, U, most, o, oc, gu, cu, Kd, rfl, hx.less (fun k hk => by simp [hk]), HI.out.rs.only od (fun k hk => by simp; rintro rfl; exact HI.out.ne.2.1 hk), hmi⟩)
      have hb58 := HI.out.ne.1
      clear HI
      go_wp2_with fail
      go_region
      obtain ⟨⟨v0, v1, v2⟩, hP⟩ := HF.out _ rfl
      generalize (((wr.setCell ⟨b5, 0, none⟩ (.slice (some ⟨o, 0, none⟩) n oc)).setCell ⟨b5, 1, none⟩ (.int .i64 (m : Nat))).setCell ⟨b5, 2, none⟩ (.slice (some ⟨gu, 0, none⟩) U.n cu)).drew = V at v0 v1 v2 hP ⊢
      go_wp2
      exact bodyPost_ret (v := .tuple #[ptr sp, .agg (refSC o n oc m gu U.n cu), .bool true]) (by simp [results, Try.results9, go_sem, v0, v1, v2]) rfl hP
end Go.Proofs.Ytnacmhljbnpdpaa
