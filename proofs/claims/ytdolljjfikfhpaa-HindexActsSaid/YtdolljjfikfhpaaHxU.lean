/- The laws' run: a table, and the document's own, side by side. -/
import Derived.Test.YtdolljjfikfhpaaHxF
namespace Go.Proofs.Ytdolljjfikfhpaa
open Go Go.RowKit Go.Deep

section
variable {w0 w w' : World} {p : Nat} {T : Tb} {K K' S : List Nat}
theorem HX.only (h : HX w0 w p T K) (ho : Only S w w') (hS : ∀ x ∈ S, x ∈ K ∧ w0.heap.size ≤ x) : HX w0 w' p T K := by
  obtain ⟨g, h1, h2, h3, h4, h5⟩ := h.mem
  exact ⟨h.below.trans (ho.below (fun x hx => (hS x hx).2) h.below.size), h.good, h.keys, fun k hk => Nat.lt_of_lt_of_le (h.old k hk) ho.size, g, h1, h2, h3, h4, h5.only ho (fun hx => h3 (hS _ hx).1) (fun hx => h4 (hS _ hx).1)⟩
theorem HX.more (h : HX w0 w p T K) (hb : Below w.heap.size w w') (hK : ∀ k ∈ K', (k ∈ K ∨ w.heap.size ≤ k) ∧ k < w'.heap.size) : HX w0 w' p T K' := by
  obtain ⟨g, h1, h2, h3, h4, h5⟩ := h.mem
  refine ⟨h.below.trans (hb.mono h.below.size), h.good, h.keys, fun k hk => (hK k hk).2, g, h1, h2, fun hk => ?_, fun hk => ?_, h5.below hb⟩
  · have := h5.plt
    exact (hK _ hk).1.elim h3 (by omega)
  · have := h5.lt
    exact (hK _ hk).1.elim h4 (by omega)
theorem RefT.kept (h : RefT w T p) (hz : p < w'.heap.size) (hk : w'.heap[p]? = w.heap[p]?) : RefT w' T p :=
  ⟨hz, fun i hi => by
    obtain ⟨q0, q1, q2⟩ := h.sl i hi
    have e := fun (j : Nat) => World.cell?_of_block (w := w) (w' := w') (a := ⟨p, j, none⟩) hk
    exact ⟨(e _).trans q0, (e _).trans q1, (e _).trans q2⟩⟩
end

structure RunI (w0 wr : World) (p b3 b6 : Nat) (T : Tb) (gu cu i : Nat) : Prop where
  hx : HX w0 wr p T [b3, b6, gu]
  ref : RefT wr T gu
  cell : wr.heap[b6]? = some (.cells #[.slice (some ⟨gu, 0, none⟩) T.n cu] 27 (0, 0))
  res : wr.heap[b3]? = some (.cells #[.slice none 0 0] 27 (0, 0))
  ne : gu ≠ b3 ∧ gu ≠ b6 ∧ b3 ≠ b6
  low : w0.heap.size ≤ b3 ∧ w0.heap.size ≤ b6
  run : RunX T i
theorem RunI.below {w0 w w' : World} {p b3 b6 : Nat} {T : Tb} {gu cu i : Nat} (h : RunI w0 w p b3 b6 T gu cu i) (hb : Below w.heap.size w w') : RunI w0 w' p b3 b6 T gu cu i :=
  ⟨(h.hx.still hb).1, h.ref.below hb, (hb.block b6 (head_row h.cell).lt).trans h.cell, (hb.block b3 (head_row h.res).lt).trans h.res, h.ne, h.low, h.run⟩
def RunPost (w0 : World) (n : Nat) (e : Ending) (w' : World) : Prop := ∃ (p : Nat) (T : Tb) (gu cu : Nat), e = .returned (.tuple #[ptr p, tabV gu T.n cu, .bool true]) ∧ HX w0 w' p T [gu] ∧ RefT w' T gu ∧ RunX T n

/- Behind the document's act: its new value lies in a block of its own. -/
def After5 (w4 : World) (U : Tb) (gu : Nat) (v : Value) (wx : World) : Prop := ∃ P g' c' : Nat, v = ptr P ∧ Below w4.heap.size w4 wx ∧ w4.heap.size ≤ P ∧ wx.heap[P]? = some (.cells #[.slice (some ⟨g', 0, none⟩) U.n c'] 27 (0, 0)) ∧ RefT wx U g' ∧ (g' = gu ∨ w4.heap.size ≤ g')
theorem after5_b {w4 w5 : World} {U : Tb} {gu g' c' : Nat} (hb : Below w4.drew.heap.size w4.drew w5) (hr : RefT w5 U g') (hg : g' = gu ∨ w4.drew.heap.size ≤ g') :
    After5 w4 U gu (ptr w5.heap.size) (w5.alloc (.cells #[.slice (some ⟨g', 0, none⟩) U.n c'] 27)) := by
  have hb4 : Below w4.heap.size w4 w5 := (Below.refl _ _).drew.trans hb
  exact ⟨_, g', c', rfl, hb4.alloc hb4.size _, hb4.size, heap_alloc_new w5 _, hr.below ((Below.refl _ _).alloc (Nat.le_refl _) _), hg⟩
theorem after5_a {w4 w5 : World} {U : Tb} {gu g' c' : Nat} {O : Obj} {a0 : Value} (hgu : gu < w4.heap.size) (hb : Below (w4.alloc O).drew.heap.size (w4.alloc O).drew w5) (hP : w5.heap[w4.heap.size]? = some (.cells #[a0] 27 (0, 0)))
    (hr : RefT w5 U g') (hg : g' = gu ∨ (w4.alloc O).drew.heap.size ≤ g') :
    After5 w4 U gu (ptr w4.heap.size) (w5.setCell ⟨w4.heap.size, 0, none⟩ (.slice (some ⟨g', 0, none⟩) U.n c')) := by
  obtain ⟨h1, h2⟩ := one_heap hP (.slice (some ⟨g', 0, none⟩) U.n c')
  have hbs : w4.heap.size + 1 ≤ w5.heap.size := by have := hb.size; simpa using this
  have hb4 : Below w4.heap.size w4 w5 := ((Below.refl _ _).alloc (Nat.le_refl _) O).drew.trans (hb.mono (by simp))
  have hs : (w4.alloc O).drew.heap.size = w4.heap.size + 1 := by simp
  refine ⟨_, g', c', rfl, hb4.trans (h2.below (by simp) (by omega)), Nat.le_refl _, h1, hr.only h2 ?_, hg.imp id (fun h => by omega)⟩
  simp only [List.mem_singleton]
  rintro rfl
  rcases hg with h | h <;> omega

set_option maxHeartbeats 2000000 in
theorem run_walk {w0 w : World} (hb0 : Below w0.heap.size w0 w) (A : Option Addr) (n c : Nat) (l : Nat → Actx) (hn : n ≤ 50) (ha : ActsX w0 A n l) :
    Calls Try.prog 9 #[.slice A n c] w (RunPost w0 n) := by
  have HA := Lib.hid ha
  have hz0 := hb0.size
  have HB0 := Lib.hid hb0
  have hk0 := heap_alloc_new w (.cells #[.slice none 0 0] 27)
  have HBR : Hid (Below w0.heap.size w0 (w.alloc (.cells #[.slice none 0 0] 27))) := Lib.hid (hb0.alloc hz0 _)
  have HK0 := Lib.hid hk0
  clear ha hb0 hk0
  go_enter Try.func9, Try.ntmps9
  go_wp2_with fail
  refine (hx_new HBR.out [w.heap.size] (by simp)).mono ?_
  rintro e w2 ⟨p, rfl, h, hb⟩
  have hR2 := (hb.block w.heap.size (by simp)).trans HK0.out
  have H2 := Lib.hid h
  have HR2 := Lib.hid hR2
  have hz2 : w.heap.size < w2.heap.size := by have := hb.size; simp at this; omega
  clear h hb hR2
  go_wp2_with fail
  refine (rnewtab_walk w2).mono ?_
  rintro e w3 ⟨g3, c3, rfl, hb3, hr3, hg3⟩
  have hz3 := hb3.size
  have HI0 : Hid (RunI w0 (w3.alloc (.cells #[.slice (some ⟨g3, 0, none⟩) Tb.new.n c3] 27)) p w.heap.size w3.heap.size Tb.new g3 c3 0) := Lib.hid (by
    have ba := (Below.refl w3.heap.size w3).alloc (Nat.le_refl _) (.cells #[.slice (some ⟨g3, 0, none⟩) Tb.new.n c3] 27)
    have hg3' := hr3.lt
    refine ⟨H2.out.more (hb3.trans (ba.mono hz3)) (fun k hk => ?_), hr3.below ba, heap_alloc_new w3 _, (ba.block w.heap.size (by omega)).trans ((hb3.block w.heap.size hz2).trans HR2.out), ⟨by omega, by omega, by omega⟩, ⟨hz0, by omega⟩, run_new⟩
    simp only [List.mem_cons, List.not_mem_nil, or_false] at hk
    rcases hk with rfl | rfl | rfl
    · exact ⟨.inl (by simp), by simp; omega⟩
    · exact ⟨.inr hz3, by simp⟩
    · exact ⟨.inr hg3, by simp; omega⟩)
  have e8 : ((Tb.new.n : Nat) : Int) = 8 := rfl
  clear hb3 hr3 hg3 H2 HR2
  go_wp2_with fail
  generalize (w3.alloc (.cells #[.slice (some ⟨g3, 0, none⟩) Tb.new.n c3] 27)) = wI at HI0 ⊢
  generalize w3.heap.size = b6 at HI0 ⊢
  generalize w.heap.size = b3 at HI0 ⊢
  go_loopg [7] n (fun gg s7 wr => ∃ (i : Nat) (T : Tb) (gu cu : Nat), i + gg = n ∧ s7 = .int .i64 i ∧ Hid (RunI w0 wr p b3 b6 T gu cu i))
  case atStart => exact ⟨0, _, _, _, by omega, rfl, HI0⟩
  case round =>
    obtain ⟨i, T, gu, cu, hi, rfl, HI⟩ := hrel
    have hTn : T.n ≤ 158 := by have := HI.out.run.n; omega
    by_cases hlt : i < n
    · have hltI : (i : Int) < (n : Int) := by omega
      obtain ⟨wf, g, off, hA, hg, c0, c1, c2⟩ := (HA.out.below HI.out.hx.below) i hlt
      have HD := Lib.hid (do_walk HI.out.hx (by omega) (l i) wf)
      have HRU := Lib.hid (HI.out.run.act HI.out.hx.good (l i))
      have hdo := fun w' (h' : RefT w' T gu) => rdo_walk h' HI.out.hx.good (by omega) HI.out.hx.keys cu (l i) wf
      have hUn : (actT T (l i)).n ≤ 158 := by have := HRU.out.n; omega
      obtain ⟨U, hU⟩ : ∃ U, actT T (l i) = U := ⟨_, rfl⟩
      obtain ⟨dd, hdd⟩ : ∃ dd, doneT T (l i) = dd := ⟨_, rfl⟩
      rw [hU] at HD HRU hdo hUn
      rw [hdd] at HD hdo
      have HDO0 := Lib.hid hdo
      clear hU hdd hdo
      subst hA
      go_wp2_with fail
      refine HD.out.mono ?_
      rintro e w4 ⟨rfl, h4, k4⟩
      have hg4 : g < w4.heap.size := Nat.lt_of_lt_of_le (Nat.lt_of_lt_of_le ((HA.out i hlt).2.elim fun g' q => by obtain ⟨off', hA, hgz, _⟩ := q; injection hA with hA; injection hA with e1 _; rw [e1]; exact hgz) (Nat.le_refl _)) h4.below.size
      obtain ⟨_, g', off', hA, _, c0', c1', c2'⟩ := (HA.out.below h4.below) i hlt
      injection hA with hA
      injection hA with e1 e2
      subst e1 e2
      have hc6 := (k4 b6 (by simp)).trans HI.out.cell
      have h64 : b6 < w4.heap.size := h4.old _ (by simp)
      have hgu4 : gu < w4.heap.size := h4.old _ (by simp)
      have u0 : w4.cell? ⟨b6, 0, none⟩ = some (.slice (some ⟨gu, 0, none⟩) T.n cu) := (head_row hc6).cell (i := 0) (by simp)
      have hr4 := HI.out.ref.kept (w' := w4) hgu4 (k4 gu (by simp))
      have HR4 := Lib.hid hr4
      have H4 := Lib.hid h4
      have HC6 := Lib.hid hc6
      have HRES := Lib.hid ((k4 b3 (by simp)).trans HI.out.res)
      have HNE := Lib.hid HI.out.ne
      have HLO := Lib.hid HI.out.low
      have h34 : b3 < w4.heap.size := h4.old _ (by simp)
      have HDO := Lib.hid (fun w' (hb : Below w4.heap.size w4 w') => HDO0.out w' (HR4.out.below hb))
      have HSS : Hid (∀ w' : World, (∀ x, x < w4.heap.size → w'.heap[x]? = w4.heap[x]?) → w'.cell? ⟨b6, 0, none⟩ = some (.slice (some ⟨gu, 0, none⟩) T.n cu) ∧ w'.cell? ⟨g, off + i * 3, none⟩ = some (.int .u8 ((l i).kind : Nat)) ∧ w'.cell? ⟨g, off + i * 3 + 1, none⟩ = some (.int .u64 ((l i).key : Nat)) ∧ w'.cell? ⟨g, off + i * 3 + 2, none⟩ = some (.int .i32 (l i).n)) := Lib.hid (fun w' hh => by
        have e := fun (x j : Nat) (hx : x < w4.heap.size) => World.cell?_of_block (w := w4) (w' := w') (a := ⟨x, j, none⟩) (hh x hx)
        exact ⟨(e _ _ h64).trans u0, (e _ _ hg4).trans c0', (e _ _ hg4).trans c1', (e _ _ hg4).trans c2'⟩)
      clear h4 k4 hc6 hr4 HD HDO0 c0 c1 c2 hg HI
      go_upto_region 7 with fail
      go_cut [8, 9, 10] (fun s8 s9 s10 wx => s8 = Value.bool dd ∧ s10 = Value.bool dd ∧ After5 w4 U gu s9 wx)
      case first =>
       go_region_held3 (fun w' => w'.cell? ⟨b6, 0, none⟩ = some (.slice (some ⟨gu, 0, none⟩) T.n cu) ∧ w'.cell? ⟨g, off + i * 3, none⟩ = some (.int .u8 ((l i).kind : Nat)) ∧ w'.cell? ⟨g, off + i * 3 + 1, none⟩ = some (.int .u64 ((l i).key : Nat)) ∧ w'.cell? ⟨g, off + i * 3 + 2, none⟩ = some (.int .i32 (l i).n))
        (first | with_reducible exact kk0 | with_reducible exact KK1 _ (one_heap hP5 _).2 | go_keep)
        (first
          | (go_at_call 24; refine (HDO.out _ ((Below.refl _ _).alloc (Nat.le_refl _) (.cells #[.slice none 0 0] 27)).drew).mono ?_; rintro e w5 ⟨g5, c5, rfl, hb5, hr5, hg5⟩; have kk0 := HSS.out w5 (fun x hx => (hb5.block x (by simp; omega)).trans (Below.heap_alloc w4 _ x hx)); have hP5 := (hb5.block w4.heap.size (by simp)).trans (heap_alloc_new w4 _); have KK1 := fun (W : World) (ho : Only [w4.heap.size] w5 W) => HSS.out W (fun x hx => (ho.block x (by have := hb5.size; simp at this; omega) (by simp; omega)).trans ((hb5.block x (by simp; omega)).trans (Below.heap_alloc w4 _ x hx))); have xx0 := (head_row hP5).cell (i := 0) (by simp); have zz0 := (head_row hP5).frozen 0)
          | (go_at_call 24; refine (HDO.out _ (Below.refl _ _).drew).mono ?_; rintro e w5 ⟨g5, c5, rfl, hb5, hr5, hg5⟩; have kk0 := HSS.out w5 (fun x hx => hb5.block x hx)))
       all_goals
         go_wp2_with fail
         go_meet
         first
           | exact ⟨rfl, rfl, after5_b hb5 hr5 hg5⟩
           | exact ⟨rfl, rfl, after5_a hgu4 hb5 hP5 hr5 hg5⟩
      case rest =>
       obtain ⟨rfl, rfl, P5, g5, c5, rfl, hbc, hP, hcell, href, hg5⟩ := hcut
       have hc6c := (hbc.block b6 h64).trans HC6.out
       have p0 : wc.cell? ⟨P5, 0, none⟩ = some (.slice (some ⟨g5, 0, none⟩) U.n c5) := (head_row hcell).cell (i := 0) (by simp)
       have b0 : wc.cell? ⟨b6, 0, none⟩ = some (.slice (some ⟨gu, 0, none⟩) T.n cu) := (head_row hc6c).cell (i := 0) (by simp)
       have z0 : wc.frozen? ⟨b6, 0, none⟩ = false := (head_row hc6c).frozen 0
       have hszc := hbc.size
       have hgc := href.lt
       obtain ⟨n1, n2, n3⟩ := HNE.out
       have n4 : g5 ≠ b3 ∧ g5 ≠ b6 := by rcases hg5 with rfl | h <;> omega
       have HNW : Hid (∀ W, W = wc.setCell ⟨b6, 0, none⟩ (.slice (some ⟨g5, 0, none⟩) U.n c5) → RunI w0 W p b3 b6 U g5 c5 (i + 1)) := Lib.hid (by
         rintro W rfl
         obtain ⟨t1, o⟩ := one_heap hc6c (.slice (some ⟨g5, 0, none⟩) U.n c5)
         refine ⟨(H4.out.more hbc (K' := [b3, b6, g5]) (fun k hk => ?_)).only o (fun x hx => ?_), href.only o (by simpa using n4.2), t1, (o.block b3 (by omega) (by simpa using n3)).trans ((hbc.block b3 h34).trans HRES.out), ⟨n4.1, n4.2, n3⟩, HLO.out, HRU.out⟩
         · simp only [List.mem_cons, List.not_mem_nil, or_false] at hk
           rcases hk with rfl | rfl | rfl
           · exact ⟨.inl (by simp), by omega⟩
           · exact ⟨.inl (by simp), by omega⟩
           · exact ⟨hg5.imp (fun h => by simp [h]) id, hgc⟩
         · have e : x = b6 := by simpa using hx
           rw [e]
           exact ⟨by simp, HLO.out.2⟩)
       clear hbc hcell href hc6c HSS HR4 HC6 H4 HDO HRES hg5 u0 c0' c1' c2'
       go_upto_region 9 with fail
       have hri := HNW.out _ rfl
       generalize wc.setCell ⟨b6, 0, none⟩ (.slice (some ⟨g5, 0, none⟩) U.n c5) = W at hri ⊢
       clear p0 b0 z0 HNW
       have c6 : W.cell? ⟨b6, 0, none⟩ = some (.slice (some ⟨g5, 0, none⟩) U.n c5) := (head_row hri.cell).cell (i := 0) (by simp)
       have h6W : b6 < W.heap.size := (head_row hri.cell).lt
       have HRI := Lib.hid hri
       have HL0 := Lib.hid (hri.hx.still (Below.refl _ _).drew).1
       have HLR := Lib.hid (rlen_walk (hri.ref.below (Below.refl _ _).drew) (by omega) c5)
       have HSW : Hid (∀ w' : World, Below W.drew.heap.size W.drew w' → w'.cell? ⟨b6, 0, none⟩ = some (.slice (some ⟨g5, 0, none⟩) U.n c5)) := Lib.hid (fun w' hh => (hh.cell (p := ⟨b6, 0, none⟩) h6W).trans c6)
       clear hri
       go_region_held3 (fun w' => w'.cell? ⟨b6, 0, none⟩ = some (.slice (some ⟨g5, 0, none⟩) U.n c5)) (first | with_reducible exact kk7 | go_keep)
         (first
           | (go_at_call 17; refine (hx_len HL0.out).mono ?_; rintro e w6 ⟨rfl, rfl⟩)
           | (go_at_call 25; refine HLR.out.mono ?_; rintro e w7 ⟨rfl, b7⟩; have kk7 := HSW.out w7 b7)
           | (go_at_call 18; refine (hx_slots (HL0.out.still b7).1).mono ?_; rintro e w8 ⟨rfl, rfl⟩)
           | (go_at_call 17; refine (hx_len (HL0.out.still b7).1).mono ?_; rintro e w6 ⟨rfl, rfl⟩))
       have HN := Lib.hid (HRI.out.below ((Below.refl _ _).drew.trans b7))
       clear b7 kk7
       go_wp2
       go_roundg (gk - 1)
       case measure => omega
       case rel => exact ⟨i + 1, U, g5, c5, by omega, by go_num, HN⟩
    · obtain rfl : i = n := by omega
      have hge : ¬ (i : Int) < (i : Int) := by omega
      have c6 : wr.cell? ⟨b6, 0, none⟩ = some (.slice (some ⟨gu, 0, none⟩) T.n cu) := (head_row HI.out.cell).cell (i := 0) (by simp)
      obtain ⟨y3, z3⟩ := res_cells HI.out.res
      have HF : Hid (∀ V, V = wr.setCell ⟨b3, 0, none⟩ (.slice (some ⟨gu, 0, none⟩) T.n cu) → V.drew.cell? ⟨b3, 0, none⟩ = some (.slice (some ⟨gu, 0, none⟩) T.n cu) ∧ RunPost w0 i (.returned (.tuple #[ptr p, tabV gu T.n cu, .bool true])) V.drew) := Lib.hid (by
        rintro V rfl
        obtain ⟨y0, o⟩ := one_set HI.out.res (.slice (some ⟨gu, 0, none⟩) T.n cu)
        have od := o.drew
        have hx := HI.out.hx.only od (fun x hx => by
          have e : x = b3 := by simpa using hx
          rw [e]
          exact ⟨by simp, HI.out.low.1⟩)
        refine ⟨y0, p, T, gu, cu, rfl, hx.more (Below.refl _ _) (fun k hk => ?_), HI.out.ref.only od (by simpa using HI.out.ne.1), HI.out.run⟩
        have e : k = gu := by simpa using hk
        rw [e]
        exact ⟨.inl (by simp), hx.old _ (by simp)⟩)
      have hb36 := HI.out.ne.2.2
      clear HI
      go_wp2_with fail
      go_region
      obtain ⟨y0, hP⟩ := HF.out _ rfl
      generalize (wr.setCell ⟨b3, 0, none⟩ (.slice (some ⟨gu, 0, none⟩) T.n cu)).drew = V at y0 hP ⊢
      go_wp2
      exact bodyPost_ret (v := .tuple #[ptr p, tabV gu T.n cu, .bool true]) (by simp [results, Try.results9, go_sem, y0]) rfl hP
end Go.Proofs.Ytdolljjfikfhpaa
