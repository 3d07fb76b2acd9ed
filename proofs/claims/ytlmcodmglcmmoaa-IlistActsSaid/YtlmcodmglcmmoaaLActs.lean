/- IlistActs, walked. -/
import Derived.Test.YtlmcodmglcmmoaaLSame
namespace Go.Proofs.Ytlmcodmglcmmoaa
open Go Go.RowKit Go.Deep

/- Lists, and the document's own, of one state: the document's value lies in block M. -/
structure ActInv (w0 w : World) (p b n M : Nat) (l : Nat → List Nat) (A : St) (cs : Array Value) (Kr : List Nat) : Prop where
  held : HL w0 w p b n l A (M :: Kr)
  ref : RefL w (.agg cs) n l A Kr
  cell : w.heap[M]? = some (.cells cs 32 (0, 0))
  ne : M ∉ Kr
  low : w0.heap.size ≤ M
abbrev refLsCells (a0 a1 : Int) (F : Option Addr) (k c nb m nc : Nat) (O : Option Addr) (n oc : Nat) : Array Value := #[.int .i64 a0, .int .i64 a1, .slice F k c, .slice (some ⟨nb, 0, none⟩) m nc, .slice O n oc]
def After9 (w3 : World) (n : Nat) (l : Nat → List Nat) (A : St) (Kr : List Nat) (v : Value) (wx : World) : Prop := ∃ (P : Nat) (Fo : Option Addr) (fc nb nc o oc : Nat) (K' : List Nat),
  v = .pointer (some ⟨P, 0, none⟩) ∧ Below w3.heap.size w3 wx ∧ w3.heap.size ≤ P ∧ wx.heap[P]? = some (.cells (refLsCells A.n A.used Fo A.freed.length fc nb (A.used + 1) nc (some ⟨o, 0, none⟩) n oc) 32 (0, 0)) ∧
  RefL wx (refLs A.n A.used Fo A.freed.length fc nb (A.used + 1) nc (some ⟨o, 0, none⟩) n oc) n l A K' ∧ ∀ y ∈ K', y ∈ Kr ∨ w3.heap.size ≤ y
theorem after9_b {w3 w5 : World} {n : Nat} {l : Nat → List Nat} {A : St} {Kr K5 : List Nat} {Fo : Option Addr} {fc nb nc o oc : Nat} (hb : Below w3.drew.heap.size w3.drew w5) (hr : RefL w5 (refLs A.n A.used Fo A.freed.length fc nb (A.used + 1) nc (some ⟨o, 0, none⟩) n oc) n l A K5) (hk : ∀ y ∈ K5, y ∈ Kr ∨ w3.drew.heap.size ≤ y) :
    After9 w3 n l A Kr (.pointer (some ⟨w5.heap.size, 0, none⟩)) (w5.alloc (.cells #[.int .i64 A.n, .int .i64 A.used, .slice Fo A.freed.length fc, .slice (some ⟨nb, 0, none⟩) (A.used + 1) nc, .slice (some ⟨o, 0, none⟩) n oc] 32)) := by
  have hb4 : Below w3.heap.size w3 w5 := (Below.refl _ _).drew.trans hb
  exact ⟨_, Fo, fc, nb, nc, o, oc, K5, rfl, hb4.alloc hb4.size _, hb4.size, heap_alloc_new w5 _, hr.below ((Below.refl _ _).alloc (Nat.le_refl _) _), hk⟩
theorem after9_a {w3 w5 : World} {n : Nat} {l : Nat → List Nat} {A : St} {Kr K5 : List Nat} {O : Obj} {Fo : Option Addr} {fc nb nc o oc : Nat} {a0 a1 a2 a3 a4 : Value} (hKr : ∀ y ∈ Kr, y < w3.heap.size) (hb : Below (w3.alloc O).drew.heap.size (w3.alloc O).drew w5) (hP : w5.heap[w3.heap.size]? = some (.cells #[a0, a1, a2, a3, a4] 32 (0, 0)))
    (hr : RefL w5 (refLs A.n A.used Fo A.freed.length fc nb (A.used + 1) nc (some ⟨o, 0, none⟩) n oc) n l A K5) (hk : ∀ y ∈ K5, y ∈ Kr ∨ (w3.alloc O).drew.heap.size ≤ y) :
    After9 w3 n l A Kr (.pointer (some ⟨w3.heap.size, 0, none⟩)) (((((w5.setCell ⟨w3.heap.size, 0, none⟩ (.int .i64 A.n)).setCell ⟨w3.heap.size, 1, none⟩ (.int .i64 A.used)).setCell ⟨w3.heap.size, 2, none⟩ (.slice Fo A.freed.length fc)).setCell ⟨w3.heap.size, 3, none⟩ (.slice (some ⟨nb, 0, none⟩) (A.used + 1) nc)).setCell ⟨w3.heap.size, 4, none⟩ (.slice (some ⟨o, 0, none⟩) n oc)) := by
  obtain ⟨h1, h2⟩ := fiveR_set hP (.int .i64 A.n) (.int .i64 A.used) (.slice Fo A.freed.length fc) (.slice (some ⟨nb, 0, none⟩) (A.used + 1) nc) (.slice (some ⟨o, 0, none⟩) n oc)
  generalize (((((w5.setCell ⟨w3.heap.size, 0, none⟩ (.int .i64 A.n)).setCell ⟨w3.heap.size, 1, none⟩ (.int .i64 A.used)).setCell ⟨w3.heap.size, 2, none⟩ (.slice Fo A.freed.length fc)).setCell ⟨w3.heap.size, 3, none⟩ (.slice (some ⟨nb, 0, none⟩) (A.used + 1) nc)).setCell ⟨w3.heap.size, 4, none⟩ (.slice (some ⟨o, 0, none⟩) n oc)) = W at h1 h2 ⊢
  have hbs : w3.heap.size + 1 ≤ w5.heap.size := by have := hb.size; simpa using this
  have hb4 : Below w3.heap.size w3 w5 := ((Below.refl _ _).alloc (Nat.le_refl _) O).drew.trans (hb.mono (by simp))
  have hs : ∀ k, (w3.alloc O).drew.heap.size ≤ k → w3.heap.size + 1 ≤ k := fun k h => by simpa using h
  refine ⟨_, Fo, fc, nb, nc, o, oc, K5, rfl, hb4.trans (h2.below (by simp) (by omega)), Nat.le_refl _, h1, hr.kept (fun y hy => h2.block y (hr.old y hy) ?_) (fun y hy => Nat.lt_of_lt_of_le (hr.old y hy) h2.size), fun y hy => (hk y hy).imp id (fun g => by have := hs y g; omega)⟩
  simp only [List.mem_singleton]
  rintro rfl
  rcases hk _ hy with g | g
  · have := hKr _ g; omega
  · have := hs _ g; omega

theorem acts_long (w : World) (r : Int) (A : Option Addr) (n c : Nat) (hn : 40 < n) (hm : n ≤ maxLen) :
    Calls Try.prog 3 #[.int .u8 r, .slice A n c] w fun e w' => e = .returned (.bool true) ∧ Below w.heap.size w w' := by
  unfold maxLen at hm
  go_enter Try.func3, Try.ntmps3
  go_wp2_with fail
  refine (awake_walk _).mono ?_
  rintro e w1 ⟨rfl, h⟩
  have B1 := Lib.hid h; clear h
  go_wp2
  go_ret
  exact ⟨rfl, B1.out⟩

theorem begF_ok : begF.Ok := by
  have h6 : ∀ k, (begA k).Ok := fun k => by
    induction k with
    | zero => exact first_ok 5 (by decide)
    | succ k ih => exact setI_ok (alloc_ok ih) _ _
  unfold begF St.freeI
  split
  · rename_i hi
    obtain ⟨k, e, _, _, h3⟩ := St.is_nat (h6 6) hi
    have : ((4 : Int)).toNat = k := by omega
    rw [this]
    exact free_ok (h6 6) h3
  · exact h6 6

set_option maxHeartbeats 1000000 in
theorem acts_some (w : World) (r : Nat) (hr : r < 256) (g off n c : Nat) (l : Nat → Actl) (hn : n ≤ 40) (ha : Actls w (some ⟨g, off, none⟩) n l) :
    Calls Try.prog 3 #[.int .u8 r, .slice (some ⟨g, off, none⟩) n c] w fun e w' => e = .returned (.bool true) ∧ Below w.heap.size w w' := by
  have HA := Lib.hid ha
  clear ha
  go_enter Try.func3, Try.ntmps3
  go_wp2_with fail
  refine (awake_walk _).mono ?_
  rintro e w1 ⟨rfl, h⟩
  have B1 := Lib.hid h; clear h
  go_wp2_with fail
  refine (begin_walk B1.out r hr).mono ?_
  rintro e w2 ⟨b, p, v, K, rfl, h, hv⟩
  have hz2 := h.below.size
  have HV := Lib.hid hv
  have H2 := Lib.hid h
  obtain ⟨Fo0, fc0, nb0, nc0, o0, oc0, rfl, _⟩ := hv
  obtain ⟨q, hq, hq3⟩ : ∃ q : Nat, 1 + r % 3 = q ∧ q ≤ 3 := ⟨_, rfl, by omega⟩
  rw [hq] at H2 HV ⊢
  clear hq h
  have HAO := Lib.hid begF_ok
  have HAN : Hid (begF.n ≤ 1000000) := Lib.hid (by decide)
  generalize begF = A0 at *
  go_wp2_with fail
  go_loopg [9] n (fun g9 s9 wr => ∃ (k : Nat) (ls : Nat → List Nat) (cs : Array Value) (Kr : List Nat), k + g9 = n ∧ s9 = .int .i64 k ∧ Hid (ActInv w wr p b q w2.heap.size ls A0 cs Kr))
  case atStart =>
    have hbA := (Below.refl w2.heap.size w2).alloc (Nat.le_refl _) (.cells (refLsCells A0.n A0.used Fo0 A0.freed.length fc0 nb0 (A0.used + 1) nc0 (some ⟨o0, 0, none⟩) q oc0) 32)
    refine ⟨0, _, refLsCells A0.n A0.used Fo0 A0.freed.length fc0 nb0 (A0.used + 1) nc0 (some ⟨o0, 0, none⟩) q oc0, K, by omega, rfl, Lib.hid ⟨H2.out.other hbA (fun y hy => ?_), HV.out.below hbA, heap_alloc_new w2 _, fun hy => by have := HV.out.old _ hy; omega, hz2⟩⟩
    rcases List.mem_cons.1 hy with rfl | hy
    · exact ⟨.inr (Nat.le_refl _), by simp⟩
    · exact ⟨.inl hy, by have := HV.out.old y hy; simp; omega⟩
  case round =>
    obtain ⟨k, ls, cs, Kr, hk, rfl, HI⟩ := hrel
    by_cases hlt : k < n
    · have hltI : (k : Int) < (n : Int) := by omega
      obtain ⟨wf, g', off', hA, hg, c0, c1, c2⟩ := (HA.out.below HI.out.held.below) k hlt
      injection hA with hA
      injection hA with e1' e2'
      subst e1' e2'
      have HD := Lib.hid (do_walk HI.out.held (l k) wf)
      have HGD := Lib.hid HI.out.held.gd
      have HTK := Lib.hid (fun t (ht : t < q) x (hx : x ∈ ls t) => HI.out.held.taken ht hx)
      obtain ⟨dd, hdd⟩ : ∃ dd, doneL q ls A0 (l k) = dd := ⟨_, rfl⟩
      obtain ⟨ls2, hls⟩ : ∃ ls2, actL q ls A0 (l k) = ls2 := ⟨_, rfl⟩
      have hdo := fun w' (h' : RefL w' (.agg cs) q ls A0 Kr) => rldo_walk h' HGD.out HAO.out HAN.out HTK.out (l k) wf
      rw [hdd, hls] at HD hdo
      have HDO0 := Lib.hid hdo
      clear hdd hls hdo
      go_wp2_with fail
      refine HD.out.mono ?_
      rintro e w3 ⟨rfl, h3, hk3⟩
      obtain ⟨Fo, fc, nb, nc, o, oc, ecs, _⟩ := HI.out.ref
      injection ecs with ecs
      subst ecs
      have H3 := Lib.hid h3
      have hg3 : g < w3.heap.size := by
        obtain ⟨_, _, _, hA, hgz, _⟩ := (HA.out.below h3.below) k hlt
        injection hA with hA
        injection hA with e1' _
        rw [e1']; exact hgz
      obtain ⟨_, g', off', hA, hgz, c0', c1', c2'⟩ := (HA.out.below h3.below) k hlt
      injection hA with hA
      injection hA with e1' e2'
      subst e1' e2'
      have hM3 : w2.heap.size < w3.heap.size := h3.old _ (by simp)
      have hcM := (hk3 w2.heap.size (by simp)).trans HI.out.cell
      have HR3 := Lib.hid (HI.out.ref.kept (w' := w3) (fun y hy => hk3 y (by simp [hy])) (fun y hy => h3.old y (by simp [hy])))
      have HCM := Lib.hid hcM
      have HSS : Hid (∀ w' : World, (∀ x, x < w3.heap.size → w'.heap[x]? = w3.heap[x]?) → w'.cell? ⟨w2.heap.size, 0, none⟩ = some (.int .i64 A0.n) ∧ w'.cell? ⟨w2.heap.size, 1, none⟩ = some (.int .i64 A0.used) ∧ w'.cell? ⟨w2.heap.size, 2, none⟩ = some (.slice Fo A0.freed.length fc) ∧ w'.cell? ⟨w2.heap.size, 3, none⟩ = some (.slice (some ⟨nb, 0, none⟩) (A0.used + 1) nc) ∧ w'.cell? ⟨w2.heap.size, 4, none⟩ = some (.slice (some ⟨o, 0, none⟩) q oc) ∧ w'.cell? ⟨g, off + k * 3, none⟩ = some (.int .u8 (l k).kind) ∧ w'.cell? ⟨g, off + k * 3 + 1, none⟩ = some (.int .i64 (l k).tag) ∧ w'.cell? ⟨g, off + k * 3 + 2, none⟩ = some (.int .i32 (l k).i)) := Lib.hid (fun w' hh => by
        obtain ⟨q0, q1, q2, q3, q4⟩ := five_cells ((hh w2.heap.size hM3).trans HCM.out)
        have e := fun (j : Nat) => World.cell?_of_block (w := w3) (w' := w') (a := ⟨g, j, none⟩) (hh g hg3)
        exact ⟨q0, q1, q2, q3, q4, (e _).trans c0', (e _).trans c1', (e _).trans c2'⟩)
      obtain ⟨b0, b1, b2, b3, b4⟩ := five_cells hcM
      have HDO := Lib.hid (fun w' (hb : Below w3.heap.size w3 w') => HDO0.out w' (HR3.out.below hb))
      have HKR3 : Hid (∀ y ∈ Kr, y < w3.heap.size) := Lib.hid (fun y hy => h3.old y (by simp [hy]))
      clear h3 hk3 hcM HD HDO0 c0 c1 c2
      go_upto_region 9 with fail
      go_cut [10, 11, 12] (fun s10 s11 s12 wx => s10 = Value.bool dd ∧ s12 = Value.bool dd ∧ After9 w3 q ls2 A0 Kr s11 wx)
      case first =>
       go_region_held3 (fun w' => w'.cell? ⟨w2.heap.size, 0, none⟩ = some (.int .i64 A0.n) ∧ w'.cell? ⟨w2.heap.size, 1, none⟩ = some (.int .i64 A0.used) ∧ w'.cell? ⟨w2.heap.size, 2, none⟩ = some (.slice Fo A0.freed.length fc) ∧ w'.cell? ⟨w2.heap.size, 3, none⟩ = some (.slice (some ⟨nb, 0, none⟩) (A0.used + 1) nc) ∧ w'.cell? ⟨w2.heap.size, 4, none⟩ = some (.slice (some ⟨o, 0, none⟩) q oc) ∧ w'.cell? ⟨g, off + k * 3, none⟩ = some (.int .u8 (l k).kind) ∧ w'.cell? ⟨g, off + k * 3 + 1, none⟩ = some (.int .i64 (l k).tag) ∧ w'.cell? ⟨g, off + k * 3 + 2, none⟩ = some (.int .i32 (l k).i))
        (first | with_reducible exact kk0 | with_reducible exact KK1 _ (fiveR_set hP5 _ _ _ _ _).2 | go_keep)
        (first
          | (go_at_call 11; refine (HDO.out _ ((Below.refl _ _).alloc (Nat.le_refl _) (.cells #[.int .i64 0, .int .i64 0, .slice none 0 0, .slice none 0 0, .slice none 0 0] 32)).drew).mono ?_; rintro e w5 ⟨v5, K5, rfl, hb5, hr5, hk5⟩; have HR5 := Lib.hid hr5; obtain ⟨Fo5, fc5, nb5, nc5, o5, oc5, rfl, _⟩ := hr5; have kk0 := HSS.out w5 (fun x hx => (hb5.block x (by simp; omega)).trans (Below.heap_alloc w3 _ x hx)); have hP5 := (hb5.block w3.heap.size (by simp)).trans (heap_alloc_new w3 _); have KK1 := fun (W : World) (ho : Only [w3.heap.size] w5 W) => HSS.out W (fun x hx => (ho.block x (by have := hb5.size; simp at this; omega) (by simp; omega)).trans ((hb5.block x (by simp; omega)).trans (Below.heap_alloc w3 _ x hx))); obtain ⟨xx0, xx1, xx2, xx3, xx4⟩ := five_cells (W := w5) (g := w3.heap.size) hP5; obtain ⟨zz0, zz1, zz2, zz3, zz4⟩ := five_free (W := w5) (g := w3.heap.size) hP5)
          | (go_at_call 11; refine (HDO.out _ (Below.refl _ _).drew).mono ?_; rintro e w5 ⟨v5, K5, rfl, hb5, hr5, hk5⟩; have HR5 := Lib.hid hr5; obtain ⟨Fo5, fc5, nb5, nc5, o5, oc5, rfl, _⟩ := hr5; have kk0 := HSS.out w5 (fun x hx => hb5.block x hx)))
       all_goals
         go_wp2_with fail
         go_meet
         first
           | exact ⟨rfl, rfl, after9_b hb5 HR5.out hk5⟩
           | exact ⟨rfl, rfl, after9_a HKR3.out hb5 hP5 HR5.out hk5⟩
      case rest =>
       obtain ⟨rfl, rfl, P5, Fo5, fc5, nb5, nc5, o5, oc5, K5, rfl, hbc, hp, hcell, href, hK5⟩ := hcut
       have hcBc := (hbc.block w2.heap.size hM3).trans HCM.out
       obtain ⟨b0, b1, b2, b3, b4⟩ := five_cells hcBc
       obtain ⟨z0, z1, z2, z3, z4⟩ := five_free hcBc
       obtain ⟨p0, p1, p2, p3, p4⟩ := five_cells hcell
       have hszc := hbc.size
       have HFS := Lib.hid (fiveR_set hcBc (.int .i64 A0.n) (.int .i64 A0.used) (.slice Fo5 A0.freed.length fc5) (.slice (some ⟨nb5, 0, none⟩) (A0.used + 1) nc5) (.slice (some ⟨o5, 0, none⟩) q oc5))
       have HHc : Hid (HL w wc p b q ls2 A0 (w2.heap.size :: K5)) := Lib.hid (H3.out.other hbc (fun x hx => by
         rcases List.mem_cons.1 hx with rfl | hx
         · exact ⟨.inl (by simp), by omega⟩
         · exact ⟨(hK5 x hx).imp (fun h => by simp [h]) id, href.old x hx⟩))
       have HREF := Lib.hid href
       have HBK : Hid (w2.heap.size ∉ K5) := Lib.hid (fun h => (hK5 _ h).elim HI.out.ne (by omega))
       have HLO := Lib.hid HI.out.low
       have hpz : P5 < wc.heap.size := (head_row hcell).lt
       have hpne : P5 ≠ w2.heap.size := by omega
       clear hcBc hbc hcell href hK5 HSS HR3 HCM HI H3 HDO HGD HTK HKR3
       go_upto_region 11 with fail
       have hfs := HFS.out
       generalize (((((wc.setCell ⟨w2.heap.size, 0, none⟩ (.int .i64 A0.n)).setCell ⟨w2.heap.size, 1, none⟩ (.int .i64 A0.used)).setCell ⟨w2.heap.size, 2, none⟩ (.slice Fo5 A0.freed.length fc5)).setCell ⟨w2.heap.size, 3, none⟩ (.slice (some ⟨nb5, 0, none⟩) (A0.used + 1) nc5)).setCell ⟨w2.heap.size, 4, none⟩ (.slice (some ⟨o5, 0, none⟩) q oc5)) = W at hfs ⊢
       have HHW : Hid (HL w W p b q ls2 A0 (w2.heap.size :: K5)) := Lib.hid (HHc.out.only hfs.2 (fun x hx => by
         obtain rfl : x = w2.heap.size := by simpa using hx
         exact ⟨by simp, HLO.out⟩))
       have HRW : Hid (RefL W (refLs A0.n A0.used Fo5 A0.freed.length fc5 nb5 (A0.used + 1) nc5 (some ⟨o5, 0, none⟩) q oc5) q ls2 A0 K5) := Lib.hid (HREF.out.kept (fun x hx => hfs.2.block x (HREF.out.old x hx) (by simp; exact fun e => HBK.out (e ▸ hx))) (fun x hx => Nat.lt_of_lt_of_le (HREF.out.old x hx) hfs.2.size))
       have HCW := Lib.hid hfs.1
       obtain ⟨b0, b1, b2, b3, b4⟩ := five_cells hfs.1
       have hBW : w2.heap.size < W.heap.size := (head_row hfs.1).lt
       have HSM := Lib.hid (same_walk HHW.out HRW.out)
       clear hfs HHc HREF HFS p0 p1 p2 p3 p4 z0 z1 z2 z3 z4 hpz hpne hp hszc
       go_wp2_with fail
       refine HSM.out.mono ?_
       rintro e w6 ⟨rfl, b6⟩
       have HINV : Hid (ActInv w w6 p b q w2.heap.size ls2 A0 (refLsCells A0.n A0.used Fo5 A0.freed.length fc5 nb5 (A0.used + 1) nc5 (some ⟨o5, 0, none⟩) q oc5) K5) := Lib.hid ⟨(HHW.out.still b6).1, HRW.out.below b6, (b6.block _ hBW).trans HCW.out, HBK.out, HLO.out⟩
       clear b6 HHW HRW HCW HSM
       go_wp2
       go_roundg (gk - 1)
       case measure => omega
       case rel => exact ⟨k + 1, ls2, _, K5, by omega, by go_num, HINV⟩
    · have hge : ¬ (k : Int) < (n : Int) := by omega
      have HSM := Lib.hid (same_walk HI.out.held HI.out.ref)
      obtain ⟨Fo, fc, nb, nc, o, oc, ecs, _⟩ := HI.out.ref
      injection ecs with ecs
      subst ecs
      obtain ⟨b0, b1, b2, b3, b4⟩ := five_cells HI.out.cell
      have hMr : w2.heap.size < wr.heap.size := (head_row HI.out.cell).lt
      have HE := Lib.hid HI.out.held.below
      go_wp2_with fail
      refine HSM.out.mono ?_
      rintro e w6 ⟨rfl, b6⟩
      have HX := Lib.hid (HE.out.trans (b6.mono HE.out.size))
      clear b6
      go_wp2
      go_ret
      exact ⟨rfl, HX.out⟩
set_option maxHeartbeats 1000000 in
theorem acts_none (w : World) (r : Nat) (hr : r < 256) (A : Option Addr) (c : Nat) :
    Calls Try.prog 3 #[.int .u8 r, .slice A 0 c] w fun e w' => e = .returned (.bool true) ∧ Below w.heap.size w w' := by
  go_enter Try.func3, Try.ntmps3
  go_wp2_with fail
  refine (awake_walk _).mono ?_
  rintro e w1 ⟨rfl, h⟩
  have B1 := Lib.hid h; clear h
  go_wp2_with fail
  refine (begin_walk B1.out r hr).mono ?_
  rintro e w2 ⟨b, p, v, K, rfl, h, hv⟩
  have hz2 := h.below.size
  have HV := Lib.hid hv
  have H2 := Lib.hid h
  obtain ⟨Fo0, fc0, nb0, nc0, o0, oc0, rfl, _⟩ := hv
  obtain ⟨q, hq, hq3⟩ : ∃ q : Nat, 1 + r % 3 = q ∧ q ≤ 3 := ⟨_, rfl, by omega⟩
  rw [hq] at H2 HV ⊢
  clear hq h
  generalize begF = A0 at *
  go_wp2_with fail
  go_loopg [9] 0 (fun g9 s9 wr => ∃ (k : Nat) (ls : Nat → List Nat) (cs : Array Value) (Kr : List Nat), k + g9 = 0 ∧ s9 = .int .i64 k ∧ Hid (ActInv w wr p b q w2.heap.size ls A0 cs Kr))
  case atStart =>
    have hbA := (Below.refl w2.heap.size w2).alloc (Nat.le_refl _) (.cells (refLsCells A0.n A0.used Fo0 A0.freed.length fc0 nb0 (A0.used + 1) nc0 (some ⟨o0, 0, none⟩) q oc0) 32)
    refine ⟨0, _, refLsCells A0.n A0.used Fo0 A0.freed.length fc0 nb0 (A0.used + 1) nc0 (some ⟨o0, 0, none⟩) q oc0, K, by omega, rfl, Lib.hid ⟨H2.out.other hbA (fun y hy => ?_), HV.out.below hbA, heap_alloc_new w2 _, fun hy => by have := HV.out.old _ hy; omega, hz2⟩⟩
    rcases List.mem_cons.1 hy with rfl | hy
    · exact ⟨.inr (Nat.le_refl _), by simp⟩
    · exact ⟨.inl hy, by have := HV.out.old y hy; simp; omega⟩
  case round =>
    obtain ⟨k, ls, cs, Kr, hk, rfl, HI⟩ := hrel
    obtain rfl : k = 0 := by omega
    have HSM := Lib.hid (same_walk HI.out.held HI.out.ref)
    obtain ⟨Fo, fc, nb, nc, o, oc, ecs, _⟩ := HI.out.ref
    injection ecs with ecs
    subst ecs
    obtain ⟨b0, b1, b2, b3, b4⟩ := five_cells HI.out.cell
    have hMr : w2.heap.size < wr.heap.size := (head_row HI.out.cell).lt
    have HE := Lib.hid HI.out.held.below
    go_wp2_with fail
    refine HSM.out.mono ?_
    rintro e w6 ⟨rfl, b6⟩
    have HX := Lib.hid (HE.out.trans (b6.mono HE.out.size))
    clear b6
    go_wp2
    go_ret
    exact ⟨rfl, HX.out⟩
theorem ilistActs_walk (w : World) (r : Int) (hr : (Lit.int .u8 r).wf = true) (A : Option Addr) (n c : Nat) (l : Nat → Actl) (hm : n ≤ maxLen) (ha : Actls w A n l) :
    Calls Try.prog 3 #[.int .u8 r, .slice A n c] w fun e w' => e = .returned (.bool true) ∧ Below w.heap.size w w' := by
  by_cases hn : n ≤ 40
  · simp only [Lit.wf, Bool.and_eq_true, decide_eq_true_eq] at hr
    have m1 : IntKind.u8.min = 0 := rfl
    have m2 : IntKind.u8.max = 255 := rfl
    obtain ⟨k, rfl⟩ : ∃ k : Nat, r = k := ⟨r.toNat, by omega⟩
    by_cases h0 : n = 0
    · subst h0; exact acts_none w k (by omega) A c
    · obtain ⟨_, g, off, rfl, _⟩ := ha 0 (by omega)
      exact acts_some w k (by omega) g off n c l hn ha
  · exact acts_long w r A n c (by omega) hm
end Go.Proofs.Ytlmcodmglcmmoaa
