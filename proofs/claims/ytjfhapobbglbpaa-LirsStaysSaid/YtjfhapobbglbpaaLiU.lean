/- Inter-reference recency: the laws' run. -/
import Derived.Test.YtjfhapobbglbpaaLiW
import Derived.Test.YtjfhapobbglbpaaPoB
import Derived.Deep.DeepCutAuto
namespace Go.Proofs.Ytjfhapobbglbpaa
open Go Go.RowKit Go.Deep

/- Behind an act: its new state lies in a block of its own. -/
def Af12 (w4 : World) (T : TypeId) (s : L12) (out : List Nat) (v o : Value) (wx : World) : Prop := ∃ (P : Nat) (F1 : Option Addr) (n1 d1 : Nat) (F2 : Option Addr) (n2 d2 : Nat), v = .pointer (some ⟨P, 0, none⟩) ∧ Below w4.heap.size w4 wx ∧ w4.heap.size ≤ P ∧ wx.heap[P]? = some (.cells (l12C s.c (.slice F1 n1 d1) (.slice F2 n2 d2)) T (0, 0)) ∧ St12 wx s (.slice F1 n1 d1) (.slice F2 n2 d2) ∧ KV wx o out
section
variable {w4 w5 : World} {T : TypeId} {s : L12} {out : List Nat} {o : Value} {F1 : Option Addr} {n1 d1 : Nat} {F2 : Option Addr} {n2 d2 : Nat}
theorem af12_b (hb : Below w4.heap.size w4 w5) (hs : St12 w5 s (.slice F1 n1 d1) (.slice F2 n2 d2)) (ho : KV w5 o out) : Af12 w4 T s out (.pointer (some ⟨w5.heap.size, 0, none⟩)) o (w5.alloc (.cells (l12C s.c (.slice F1 n1 d1) (.slice F2 n2 d2)) T)) :=
  ⟨_, _, _, _, _, _, _, rfl, hb.alloc hb.size _, hb.size, heap_alloc_new w5 _, hs.below (low_one w5 _), ho.below (low_one w5 _)⟩
theorem af12_a {O : Obj} {zs : Array Value} (hT : T ≠ 35) (hz : NoU zs) (hzn : ∃ x0 x1 x2, zs = #[x0, x1, x2]) (hb : Below (w4.alloc O).heap.size (w4.alloc O) w5) (hP : w5.heap[w4.heap.size]? = some (.cells zs T (0, 0))) (hs : St12 w5 s (.slice F1 n1 d1) (.slice F2 n2 d2)) (ho : KV w5 o out) : Af12 w4 T s out (.pointer (some ⟨w4.heap.size, 0, none⟩)) o (((w5.setCell ⟨w4.heap.size, 0, none⟩ (.int .i64 ((s).c : Nat))).setCell ⟨w4.heap.size, 1, none⟩ (.slice F1 n1 d1)).setCell ⟨w4.heap.size, 2, none⟩ (.slice F2 n2 d2)) := by
  obtain ⟨x0, x1, x2, rfl⟩ := hzn
  obtain ⟨h1, h2⟩ := c3_set hP (.int .i64 ((s).c : Nat)) (.slice F1 n1 d1) (.slice F2 n2 d2)
  have hl : Below w4.heap.size w4 w5 := (low_one w4 O).trans (hb.mono (by simp))
  have hbx : ∀ g ∈ [w4.heap.size], Bx w5 g := fun g hg => by
    simp only [List.mem_singleton] at hg
    subst hg
    exact ⟨_, _, hP, hz, hT⟩
  exact ⟨_, _, _, _, _, _, _, rfl, hl.trans (h2.below (by simp) hl.size), Nat.le_refl _, h1, ⟨hs.g1.only h2 hbx, hs.g2.only h2 hbx⟩, ho.only h2 hbx⟩
end
def L12.runS (s : L12) (l : List Act8) : L12 := l.foldl L12.act s
theorem L12.runS_next (s : L12) {l : List Act8} {i : Nat} (hi : i < l.length) : s.runS (l.take (i + 1)) = (s.runS (l.take i)).act l[i] := by
  unfold L12.runS
  rw [List.take_succ_eq_append_getElem hi, List.foldl_append]
  rfl
theorem L12.Ok.runS {s : L12} (h : s.Ok) : ∀ (l : List Act8), (∀ x ∈ l, x.Ok) → (s.runS l).Ok
  | [], _ => h
  | x :: l, hx => L12.Ok.runS (h.act (hx x (by simp))) l (fun y hy => hx y (by simp [hy]))
section
variable {w : World} {v : Value} {l : List Act8}
set_option maxHeartbeats 8000000 in
set_option maxRecDepth 4000 in
theorem run12_walk (PO : Pol12Ok) (c : Nat) (hc : c < 256) (ha : AV w v l) (hl : l.length ≤ 60) : Calls Try.prog 16 #[.int .u8 (c : Nat), v] w (P12 w ((L12.new (1 + c % 12 : Nat)).runS l)) := by
  have HA := Lib.hid ha
  obtain ⟨A, cap, rfl, _⟩ := ha.mem
  have hlow := low_one w (.cells z12 PT12)
  have HK0 := Lib.hid (heap_alloc_new w (.cells z12 PT12))
  have HL0 := Lib.hid hlow
  obtain ⟨m0, hm0⟩ : ∃ m : Nat, 1 + c % 12 = m := ⟨_, rfl⟩
  have hmI : (1 : Int) + (c : Int) % 12 = (m0 : Int) := by omega
  have HNW := Lib.hid (PO.new (w.alloc (.cells z12 PT12)) (m0 : Int) (by omega) (by omega))
  rw [hm0]
  have hok0 : (L12.new (m0 : Int)).Ok := L12.ok_new _
  obtain ⟨s0, hs0⟩ : ∃ s0, L12.new (m0 : Int) = s0 := ⟨_, rfl⟩
  rw [hs0] at HNW hok0 ⊢
  have HOK0 := Lib.hid hok0
  obtain ⟨na, hna⟩ : ∃ na, l.length = na := ⟨_, rfl⟩
  rw [hna] at hl HA ⊢
  have HNA := Lib.hid hna
  have HAX : Hid (∀ W, Below w.heap.size w W → ∀ i (hi : i < l.length), l[i].Ok ∧ ∃ g off, A = some ⟨g, off, none⟩ ∧ g < w.heap.size ∧ ActAt W g (off + i * 3) l[i]) := Lib.hid (fun W hb i hi => by
    obtain ⟨A', c', e, h1⟩ := HA.out.mem
    injection e with e1 _ _
    subst e1
    obtain ⟨ok, g, off, e2, hg, hcc⟩ := h1 i hi
    exact ⟨ok, g, off, e2, hg, hcc.keep (hb.block g hg)⟩)
  have HOKR : Hid (∀ i, (s0.runS (l.take i)).Ok) := Lib.hid (fun i => HOK0.out.runS _ (fun x hx => by
    obtain ⟨j, hj, rfl⟩ := List.getElem_of_mem (List.mem_of_mem_take hx)
    exact (HAX.out w (Below.refl _ _) j hj).1))
  have hz : 0 < na ∨ na = 0 := by omega
  clear hz ha hlow hok0 hs0 hna HA hm0
  have q1 : (0 : Int) ≤ (c : Int) := by omega
  have q2 : (c : Int) ≤ 255 := by omega
  go_enter Try.func16, Try.ntmps16
  go_wp2_with fail
  try rw [hmI]
  refine HNW.out.mono ?_
  rintro e w2 ⟨q1, q2, rfl, hb2, hk2⟩
  obtain ⟨Fa1, na1, da1, rfl⟩ := hk2.form1
  obtain ⟨Fa2, na2, da2, rfl⟩ := hk2.form2
  have hl2 := HL0.out.trans (hb2.mono HL0.out.size)
  have hb4 : w.heap.size < w2.heap.size := by have := hb2.size; simp at this; omega
  have HI0 : Hid (Bo w (w2.alloc (.cells (l12C s0.c (.slice Fa1 na1 da1) (.slice Fa2 na2 da2)) PT12)) PT12 w2.heap.size w.heap.size (l12C s0.c (.slice Fa1 na1 da1) (.slice Fa2 na2 da2)) z12 ∧ St12 (w2.alloc (.cells (l12C s0.c (.slice Fa1 na1 da1) (.slice Fa2 na2 da2)) PT12)) s0 (.slice Fa1 na1 da1) (.slice Fa2 na2 da2)) := Lib.hid ⟨⟨hl2.alloc hl2.size _, heap_alloc_new w2 _, (Below.heap_alloc w2 _ _ hb4).trans ((hb2.block w.heap.size (by simp)).trans HK0.out), ⟨hl2.size, Nat.le_refl _, by omega⟩, ⟨rfl, rfl⟩, by decide⟩, hk2.below (low_one w2 _)⟩
  clear hb2 hk2 hl2 HNW HK0 HL0
  go_wp2_with fail
  generalize w2.alloc (.cells (l12C s0.c (.slice Fa1 na1 da1) (.slice Fa2 na2 da2)) PT12) = wI at HI0 ⊢
  generalize w2.heap.size = b5 at HI0 hb4 ⊢
  generalize hb4e : w.heap.size = b4 at HI0 hb4 ⊢
  go_loopg [6, 7, 8] na (fun gg s6 s7 s8 wr => ∃ (i : Nat) (F1 : Option Addr) (n1 d1 : Nat) (F2 : Option Addr) (n2 d2 : Nat), i + gg = na ∧ s6 = .int .i64 (i : Nat) ∧ Hid (Bo w wr PT12 b5 b4 (l12C ((s0.runS (l.take i))).c (.slice F1 n1 d1) (.slice F2 n2 d2)) z12 ∧ St12 wr ((s0.runS (l.take i))) (.slice F1 n1 d1) (.slice F2 n2 d2)))
  case atStart => exact ⟨0, _, _, _, _, _, _, by omega, rfl, HI0⟩
  case round =>
    obtain ⟨i, F1, n1, d1, F2, n2, d2, hi, rfl, HI⟩ := hrel
    by_cases hlt : i < na
    · have hltI : (i : Int) < (na : Int) := by omega
      have hil : i < l.length := by rw [HNA.out]; exact hlt
      obtain ⟨wf, g, off, hA, hg, hac⟩ := HAX.out wr HI.out.1.low i hil
      have hok := HOKR.out i
      have HNX := Lib.hid (s0.runS_next hil)
      obtain ⟨σ, hσ⟩ : ∃ σ, s0.runS (l.take i) = σ := ⟨_, rfl⟩
      obtain ⟨x, hx⟩ : ∃ x, l[i] = x := ⟨_, rfl⟩
      rw [hσ] at HI hok HNX
      rw [hx] at wf hac HNX
      clear hσ hx
      subst hA
      have hgw : g < wr.heap.size := Nat.lt_of_lt_of_le hg HI.out.1.low.size
      have hbw := (head_row HI.out.1.box).lt
      have HDO : Hid (∀ W, Below wr.heap.size wr W → Calls Try.prog 12 #[.agg (l12C σ.c (.slice F1 n1 d1) (.slice F2 n2 d2)), .agg (act8C x)] W (P12o W (σ.act x) (σ.actOut x))) := Lib.hid (fun W hb => do12_walk PO (HI.out.2.below hb) hok x wf)
      have HSS : Hid (∀ w' : World, (∀ k, k < wr.heap.size → w'.heap[k]? = wr.heap[k]?) → w'.cell? ⟨b5, 0, none⟩ = some (.int .i64 ((σ).c : Nat)) ∧ w'.cell? ⟨b5, 1, none⟩ = some (.slice F1 n1 d1) ∧ w'.cell? ⟨b5, 2, none⟩ = some (.slice F2 n2 d2) ∧ w'.cell? ⟨g, off + i * 3, none⟩ = some (.int .u8 (x.kind : Nat)) ∧ w'.cell? ⟨g, off + i * 3 + 1, none⟩ = some (.int .u64 (x.key : Nat)) ∧ w'.cell? ⟨g, off + i * 3 + 2, none⟩ = some (.int .u16 (x.n : Nat))) := Lib.hid (fun w' hh => by
        obtain ⟨⟨x0, x1, x2⟩, _⟩ := c3_at ((hh b5 hbw).trans HI.out.1.box)
        obtain ⟨a0, a1, a2⟩ := hac.keep (hh g hgw)
        exact ⟨x0, x1, x2, a0, a1, a2⟩)
      obtain ⟨x0, x1, x2, a0, a1, a2⟩ := HSS.out wr (fun _ _ => rfl)
      clear hac wf hok hg
      go_upto_region 5 with fail
      go_cut [7, 8] (fun s7 s8 wx => Af12 wr PT12 (σ.act x) (σ.actOut x) s7 s8 wx)
      case first =>
        go_region_held3 (fun w' => w'.cell? ⟨b5, 0, none⟩ = some (.int .i64 ((σ).c : Nat)) ∧ w'.cell? ⟨b5, 1, none⟩ = some (.slice F1 n1 d1) ∧ w'.cell? ⟨b5, 2, none⟩ = some (.slice F2 n2 d2) ∧ w'.cell? ⟨g, off + i * 3, none⟩ = some (.int .u8 (x.kind : Nat)) ∧ w'.cell? ⟨g, off + i * 3 + 1, none⟩ = some (.int .u64 (x.key : Nat)) ∧ w'.cell? ⟨g, off + i * 3 + 2, none⟩ = some (.int .u16 (x.n : Nat)))
          (first | with_reducible exact kk0 | with_reducible exact KK1 _ (c3_set hP5 _ _ _).2 | go_keep)
          (first
          | (go_at_call 12; refine (HDO.out _ (below_drewn (low_one wr (.cells z12 PT12)) _)).mono ?_; rintro e w5 ⟨q1, q2, o5, he, hb5, hk5, ho5⟩; obtain ⟨Fa1, na1, da1, rfl⟩ := hk5.form1; obtain ⟨Fa2, na2, da2, rfl⟩ := hk5.form2; subst he; have hbA := (below_drewn (Below.refl (wr.alloc (.cells z12 PT12)).heap.size (wr.alloc (.cells z12 PT12))) _).trans hb5; have kk0 := HSS.out w5 (fun k hk => (hbA.block k (by simp; omega)).trans (Below.heap_alloc wr _ k hk)); have hP5 := (hbA.block wr.heap.size (by simp)).trans (heap_alloc_new wr _); have KK1 := fun (W : World) (ho : Only [wr.heap.size] w5 W) => HSS.out W (fun k hk => (ho.block k (by have := hbA.size; simp at this; omega) (by simp; omega)).trans ((hbA.block k (by simp; omega)).trans (Below.heap_alloc wr _ k hk))); obtain ⟨⟨z0, z1, z2⟩, zf0, zf1, zf2⟩ := c3_at hP5)
          | (go_at_call 12; refine (HDO.out _ (below_drewn (Below.refl _ _) _)).mono ?_; rintro e w5 ⟨q1, q2, o5, he, hb5, hk5, ho5⟩; obtain ⟨Fa1, na1, da1, rfl⟩ := hk5.form1; obtain ⟨Fa2, na2, da2, rfl⟩ := hk5.form2; subst he; have hbA := (below_drewn (Below.refl wr.heap.size wr) _).trans hb5; have kk0 := HSS.out w5 (fun k hk => hbA.block k hk)))
        all_goals
          go_wp2_with fail
          go_meet
          first
            | exact af12_b hbA hk5 ho5
            | exact af12_a (zs := z12) (by decide) rfl ⟨_, _, _, rfl⟩ hbA hP5 hk5 ho5
      case rest =>
        obtain ⟨P, Fa1, na1, da1, Fa2, na2, da2, rfl, hbc, hP, hcell, hst, _⟩ := hcut
        have HBO := Lib.hid (HI.out.1.step hbc)
        have HST := Lib.hid hst
        obtain ⟨⟨k0, k1, k2⟩, _⟩ := c3_at hcell
        have hPb : P ≠ b5 := by omega
        have hPb2 : b5 ≠ P := by omega
        obtain ⟨⟨y0, y1, y2⟩, yf0, yf1, yf2⟩ := c3_at HBO.out.box
        clear hbc hst x0 x1 x2 a0 a1 a2 HDO HSS HI hcell
        go_wp2_with fail
        have HN : Hid (Bo w (((wc.setCell ⟨b5, 0, none⟩ (.int .i64 ((σ.act x).c : Nat))).setCell ⟨b5, 1, none⟩ (.slice Fa1 na1 da1)).setCell ⟨b5, 2, none⟩ (.slice Fa2 na2 da2)) PT12 b5 b4 (l12C ((s0.runS (l.take (i + 1)))).c (.slice Fa1 na1 da1) (.slice Fa2 na2 da2)) z12 ∧ St12 (((wc.setCell ⟨b5, 0, none⟩ (.int .i64 ((σ.act x).c : Nat))).setCell ⟨b5, 1, none⟩ (.slice Fa1 na1 da1)).setCell ⟨b5, 2, none⟩ (.slice Fa2 na2 da2)) ((s0.runS (l.take (i + 1)))) (.slice Fa1 na1 da1) (.slice Fa2 na2 da2)) := Lib.hid (by
          rw [HNX.out]
          obtain ⟨h1, h2⟩ := c3_set HBO.out.box (.int .i64 ((σ.act x).c : Nat)) (.slice Fa1 na1 da1) (.slice Fa2 na2 da2)
          have ho : Only [b5, b4] wc (((wc.setCell ⟨b5, 0, none⟩ (.int .i64 ((σ.act x).c : Nat))).setCell ⟨b5, 1, none⟩ (.slice Fa1 na1 da1)).setCell ⟨b5, 2, none⟩ (.slice Fa2 na2 da2)) := h2.mono (by simp)
          exact ⟨⟨HBO.out.fin ho, h1, (h2.block b4 (head_row HBO.out.res).lt (by simp; omega)).trans HBO.out.res, HBO.out.ge, ⟨rfl, rfl⟩, HBO.out.ty⟩, HBO.out.st12 ho HST.out⟩)
        go_roundg (gk - 1)
        case measure => omega
        case rel => exact ⟨i + 1, _, _, _, _, _, _, by omega, by go_num, HN⟩
    · have hltI : ¬ (i : Int) < (na : Int) := by omega
      obtain rfl : i = na := by omega
      have HF : Hid (s0.runS (l.take i) = s0.runS l) := Lib.hid (by rw [← HNA.out, List.take_length])
      rw [HF.out] at HI
      obtain ⟨⟨x0, x1, x2⟩, _⟩ := c3_at HI.out.1.box
      obtain ⟨⟨y0, y1, y2⟩, yf0, yf1, yf2⟩ := c3_at HI.out.1.res
      have hbb := HI.out.1.ge.2.2
      go_wp2
      have HO : Hid (Only [b5, b4] wr (((wr.setCell ⟨b4, 0, none⟩ (.int .i64 ((s0.runS l).c : Nat))).setCell ⟨b4, 1, none⟩ (.slice F1 n1 d1)).setCell ⟨b4, 2, none⟩ (.slice F2 n2 d2))) := Lib.hid ((((Only.refl _ _).setCell (by simp) _).setCell (by simp) _).setCell (by simp) _)
      exact bodyPost_ret (v := .agg (l12C (s0.runS l).c (.slice F1 n1 d1) (.slice F2 n2 d2))) (by simp [results, Try.results16, go_sem, y0, y1, y2]) rfl ⟨_, _, rfl, HI.out.1.fin HO.out, HI.out.1.st12 HO.out HI.out.2⟩
end
end Go.Proofs.Ytjfhapobbglbpaa
