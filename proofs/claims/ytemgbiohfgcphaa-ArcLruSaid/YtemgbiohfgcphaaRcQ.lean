/- Adaptive replacement and least recently used, side by side. -/
import Derived.Test.YtemgbiohfgcphaaRcO
import Derived.Test.YtemgbiohfgcphaaRcQp
import Derived.Test.YtemgbiohfgcphaaLrA
import Derived.Test.YtemgbiohfgcphaaRcU
import Derived.Test.YtemgbiohfgcphaaSqO
namespace Go.Proofs.Ytemgbiohfgcphaa
open Go Go.RowKit Go.Deep

def Af8 (w4 : World) (T : TypeId) (s : L8) (out : List Nat) (v o : Value) (wx : World) : Prop := ∃ (P : Nat) (F1 : Option Addr) (n1 d1 : Nat), v = .pointer (some ⟨P, 0, none⟩) ∧ Below w4.heap.size w4 wx ∧ w4.heap.size ≤ P ∧ wx.heap[P]? = some (.cells (l8C s.c (.slice F1 n1 d1)) T (0, 0)) ∧ St8 wx s (.slice F1 n1 d1) ∧ KV wx o out
theorem cell_same {w w' : World} {p : Addr} (h : w'.heap[p.block]? = w.heap[p.block]?) : w'.cell? p = w.cell? p := by
  unfold World.cell?
  rw [h]
section
variable {w4 w5 : World} {T : TypeId} {s : L8} {out : List Nat} {o : Value} {F1 : Option Addr} {n1 d1 : Nat}
theorem af8_b (hb : Below w4.heap.size w4 w5) (hs : St8 w5 s (.slice F1 n1 d1)) (ho : KV w5 o out) : Af8 w4 T s out (.pointer (some ⟨w5.heap.size, 0, none⟩)) o (w5.alloc (.cells (l8C s.c (.slice F1 n1 d1)) T)) :=
  ⟨_, _, _, _, rfl, hb.alloc hb.size _, hb.size, heap_alloc_new w5 _, hs.below (low_one w5 _), ho.below (low_one w5 _)⟩
theorem af8_a {O : Obj} {zs : Array Value} (hT : T ≠ 32) (hz : NoU zs) (hzn : ∃ x0 x1, zs = #[x0, x1]) (hb : Below (w4.alloc O).heap.size (w4.alloc O) w5) (hP : w5.heap[w4.heap.size]? = some (.cells zs T (0, 0))) (hs : St8 w5 s (.slice F1 n1 d1)) (ho : KV w5 o out) : Af8 w4 T s out (.pointer (some ⟨w4.heap.size, 0, none⟩)) o ((w5.setCell ⟨w4.heap.size, 0, none⟩ (.int .i64 ((s).c : Nat))).setCell ⟨w4.heap.size, 1, none⟩ (.slice F1 n1 d1)) := by
  obtain ⟨x0, x1, rfl⟩ := hzn
  obtain ⟨h1, h2⟩ := c2_set hP (.int .i64 ((s).c : Nat)) (.slice F1 n1 d1)
  have hl : Below w4.heap.size w4 w5 := (low_one w4 O).trans (hb.mono (by simp))
  have hbx : ∀ g ∈ [w4.heap.size], Bx w5 g := fun g hg => by
    simp only [List.mem_singleton] at hg
    subst hg
    exact ⟨_, _, hP, hz, hT⟩
  exact ⟨_, _, _, _, rfl, hl.trans (h2.below (by simp) hl.size), Nat.le_refl _, h1, ⟨hs.g1.only h2 hbx⟩, ho.only h2 hbx⟩
end
section
variable {w : World} {v : Value} {ks : List Nat}
set_option maxHeartbeats 8000000 in
set_option maxRecDepth 8000 in
theorem lru11_short (PO : Pol11Ok) (AW : ∀ w, Calls Try.prog 9 #[] w (RetB w true)) (c : Nat) (hc : c < 256) (ha : KV w v ks) (hkb : ∀ k ∈ ks, k < 18446744073709551616) (hl : ks.length ≤ 60) (hnd : ks.Nodup) : Calls Try.prog 7 #[.int .u8 (c : Nat), v] w (RetB w true) := by
  have HA := Lib.hid ha
  have HAW := Lib.hid (AW w)
  obtain ⟨A, cap, rfl, _⟩ := ha.mem
  obtain ⟨m0, hm0⟩ : ∃ m : Nat, 1 + c % 12 = m := ⟨_, rfl⟩
  have hmI : (1 : Int) + (c : Int) % 12 = (m0 : Int) := by omega
  have HNW := Lib.hid (fun W => PO.new W (m0 : Int) (by omega) (by omega))
  have HNR := Lib.hid (fun W => r8new_walk (w := W) (m0 : Int) (by omega) (by omega))
  obtain ⟨s0, hs0⟩ : ∃ s0 : L8, L8.new (m0 : Int) = s0 := ⟨_, rfl⟩
  have e1 : L11.new (m0 : Int) = s0.arc := by rw [← hs0]; rfl
  have hok0 : s0.Ok := by rw [← hs0]; exact L8.ok_new _
  have hs0l : s0.l = [] := by rw [← hs0]; rfl
  rw [e1] at HNW
  rw [hs0] at HNR
  obtain ⟨na, hna⟩ : ∃ na, ks.length = na := ⟨_, rfl⟩
  have HVV := Lib.hid (fun W (hb : Below w.heap.size w W) => KVV.one (ha.below hb) 24)
  have HND := Lib.hid (show [ks].flatten.Nodup by simpa using hnd)
  have HFL := Lib.hid (show [ks].flatten.length ≤ 100000000 by simp; omega)
  have HOKR : Hid (∀ i, (s0.comes (ks.take i)).Ok) := Lib.hid (fun i => hok0.comes _ (fun x hx => hkb x (List.mem_of_mem_take hx)))
  have HNEW : Hid (∀ i (hi : i < ks.length), ks[i] ∉ (s0.comes (ks.take i)).l) := Lib.hid (fun i hi => L8.comes_new hs0l hnd hi)
  have HKB := Lib.hid hkb
  have HAX : Hid (∀ W, Below w.heap.size w W → ∀ i (hi : i < ks.length), ∃ ad, A = some ad ∧ ad.block < w.heap.size ∧ W.cell? (ad.add i) = some (.int .u64 (ks[i] : Nat))) := Lib.hid (fun W hb i hi => by
    obtain ⟨A', c', e, _, _, h1⟩ := HA.out.mem
    injection e with e1 _ _
    subst e1
    obtain ⟨ad, e2, hg, hcc⟩ := h1 i hi
    exact ⟨ad, e2, hg, (hb.cell (p := ad.add i) (by rw [ad_block]; exact hg)).trans hcc⟩)
  rw [hna] at hl HVV ⊢
  have HNA := Lib.hid hna
  clear ha hok0 hs0 hs0l e1 hna hm0 AW hkb hnd HA
  have q1 : (0 : Int) ≤ (c : Int) := by omega
  have q2 : (c : Int) ≤ 255 := by omega
  have hlI : ¬ (60 : Int) < (na : Int) := by omega
  go_enter Try.func7, Try.ntmps7
  go_wp2_with fail
  refine HAW.out.mono ?_
  rintro e w1 ⟨rfl, hb1⟩
  have HL1 := Lib.hid hb1
  clear hb1 HAW
  go_wp2_with fail
  refine (rapart_walk (kss := [ks]) (HVV.out w1 HL1.out) (by simp) HFL.out).mono ?_
  rintro e wy ⟨rfl, hby⟩
  rw [decide_eq_true HND.out]
  have HLY := Lib.hid (HL1.out.trans (((low_one w1 _).trans (hby.mono (by simp))).mono HL1.out.size))
  clear hby HL1 HVV HFL HND
  go_wp2_with fail
  try rw [hmI]
  refine (HNW.out wy).mono ?_
  rintro e w2 ⟨q1, q2, q3, q4, rfl, hb2, hk2⟩
  obtain ⟨Fa1, na1, da1, rfl⟩ := hk2.form1
  obtain ⟨Fa2, na2, da2, rfl⟩ := hk2.form2
  obtain ⟨Fa3, na3, da3, rfl⟩ := hk2.form3
  obtain ⟨Fa4, na4, da4, rfl⟩ := hk2.form4
  have hl2 := HLY.out.trans (hb2.mono HLY.out.size)
  have HL3 := Lib.hid (hl2.alloc hl2.size (.cells (l11C (s0.arc).c (s0.arc).p (.slice Fa1 na1 da1) (.slice Fa2 na2 da2) (.slice Fa3 na3 da3) (.slice Fa4 na4 da4)) PT11))
  have HK3 := Lib.hid (heap_alloc_new w2 (.cells (l11C (s0.arc).c (s0.arc).p (.slice Fa1 na1 da1) (.slice Fa2 na2 da2) (.slice Fa3 na3 da3) (.slice Fa4 na4 da4)) PT11))
  have HS3 := Lib.hid (hk2.below (low_one w2 (.cells (l11C (s0.arc).c (s0.arc).p (.slice Fa1 na1 da1) (.slice Fa2 na2 da2) (.slice Fa3 na3 da3) (.slice Fa4 na4 da4)) PT11)))
  have hz2 := hl2.size
  clear hb2 hk2 hl2 HNW HLY
  go_wp2_with fail
  try rw [hmI]
  generalize hb6e : w2.heap.size = b6 at HK3 hz2 ⊢
  generalize w2.alloc (.cells (l11C (s0.arc).c (s0.arc).p (.slice Fa1 na1 da1) (.slice Fa2 na2 da2) (.slice Fa3 na3 da3) (.slice Fa4 na4 da4)) PT11) = w3 at HL3 HK3 HS3 ⊢
  refine (HNR.out w3).mono ?_
  rintro e w4 ⟨q1, rfl, hb4, hk4⟩
  obtain ⟨Fb1, nb1, db1, rfl⟩ := hk4.form1
  have hl4 := HL3.out.trans (hb4.mono HL3.out.size)
  have hb6 : b6 < w4.heap.size := Nat.lt_of_lt_of_le (head_row HK3.out).lt hb4.size
  have HI0 : Hid (Bp w (w4.alloc (.cells (l8C (s0).c (.slice Fb1 nb1 db1)) T8)) PT11 T8 b6 w4.heap.size (l11C (s0.arc).c (s0.arc).p (.slice Fa1 na1 da1) (.slice Fa2 na2 da2) (.slice Fa3 na3 da3) (.slice Fa4 na4 da4)) (l8C (s0).c (.slice Fb1 nb1 db1)) ∧ St11 (w4.alloc (.cells (l8C (s0).c (.slice Fb1 nb1 db1)) T8)) s0.arc (.slice Fa1 na1 da1) (.slice Fa2 na2 da2) (.slice Fa3 na3 da3) (.slice Fa4 na4 da4) ∧ St8 (w4.alloc (.cells (l8C (s0).c (.slice Fb1 nb1 db1)) T8)) s0 (.slice Fb1 nb1 db1)) := Lib.hid ⟨⟨hl4.alloc hl4.size _, (Below.heap_alloc w4 _ _ hb6).trans ((hb4.block b6 (head_row HK3.out).lt).trans HK3.out), heap_alloc_new w4 _, ⟨hz2, hl4.size, by omega⟩, ⟨rfl, rfl⟩, by decide, by decide⟩, (HS3.out.below hb4).below (low_one w4 _), hk4.below (low_one w4 _)⟩
  clear hb4 hk4 hl4 HNR HL3 HK3 HS3 hb6e
  go_wp2_with fail
  generalize (w4.alloc (.cells (l8C (s0).c (.slice Fb1 nb1 db1)) T8)) = wI at HI0 ⊢
  generalize w4.heap.size = b7 at HI0 hb6 ⊢
  go_loopg [8, 9, 10, 11, 12] na (fun gg s8 s9 s10 s11 s12 wr => ∃ (i : Nat) (Fa1 : Option Addr) (na1 da1 : Nat) (Fa2 : Option Addr) (na2 da2 : Nat) (Fa3 : Option Addr) (na3 da3 : Nat) (Fa4 : Option Addr) (na4 da4 : Nat) (Fb1 : Option Addr) (nb1 db1 : Nat), i + gg = na ∧ s8 = .int .i64 (i : Nat) ∧ Hid (Bp w wr PT11 T8 b6 b7 (l11C ((s0.comes (ks.take i)).arc).c ((s0.comes (ks.take i)).arc).p (.slice Fa1 na1 da1) (.slice Fa2 na2 da2) (.slice Fa3 na3 da3) (.slice Fa4 na4 da4)) (l8C (s0.comes (ks.take i)).c (.slice Fb1 nb1 db1)) ∧ St11 wr (s0.comes (ks.take i)).arc (.slice Fa1 na1 da1) (.slice Fa2 na2 da2) (.slice Fa3 na3 da3) (.slice Fa4 na4 da4) ∧ St8 wr (s0.comes (ks.take i)) (.slice Fb1 nb1 db1)))
  case atStart => exact ⟨0, _, _, _, _, _, _, _, _, _, _, _, _, _, _, _, by omega, rfl, HI0⟩
  case round =>
    obtain ⟨i, Fa1, na1, da1, Fa2, na2, da2, Fa3, na3, da3, Fa4, na4, da4, Fb1, nb1, db1, hi, rfl, HI⟩ := hrel
    by_cases hlt : i < na
    · have hltI : (i : Int) < (na : Int) := by omega
      have hil : i < ks.length := by rw [HNA.out]; exact hlt
      obtain ⟨ad, hA, hg, hac⟩ := HAX.out wr HI.out.1.low i hil
      have hok := HOKR.out i
      have hok2 := HOKR.out (i + 1)
      have hnew := HNEW.out i hil
      have hkk : ks[i] < 18446744073709551616 := HKB.out _ (List.getElem_mem hil)
      have hnx := s0.comes_next hil
      obtain ⟨σ, hσ⟩ : ∃ σ, s0.comes (ks.take i) = σ := ⟨_, rfl⟩
      obtain ⟨k, hk⟩ : ∃ k, ks[i] = k := ⟨_, rfl⟩
      rw [hσ] at HI hok hnx hnew
      rw [hk] at hac hnx hnew hkk
      rw [hnx] at hok2
      obtain ⟨ea, eo⟩ := hok.arc_adm hnew
      have hoka := hok.arc
      obtain ⟨τ, hτ⟩ : ∃ τ, σ.arc = τ := ⟨_, rfl⟩
      rw [hτ] at HI ea eo hoka
      obtain ⟨σ', hσ'⟩ : ∃ σ', σ.adm k = σ' := ⟨_, rfl⟩
      rw [hσ'] at hok2 hnx ea
      have hoka2 := hok2.arc
      obtain ⟨τ', hτ'⟩ : ∃ τ', σ'.arc = τ' := ⟨_, rfl⟩
      rw [hτ'] at ea hoka2
      obtain ⟨ou, hou⟩ : ∃ ou, σ.admitOut k = ou := ⟨_, rfl⟩
      rw [hou] at eo
      have HNX := Lib.hid hnx
      have HTX := Lib.hid hτ'
      have HOKA := Lib.hid hoka2
      have HKE : Hid (τ'.keys = σ'.l) := Lib.hid (by rw [← hτ']; simp [L8.arc, L11.keys])
      have HLN : Hid (σ'.l.length ≤ 100000000) := Lib.hid hok2.hl
      have HOUT : Hid (ou.length ≤ 100000000) := Lib.hid (by
        rw [← hou]
        have := hok.hl
        unfold L8.admitOut
        split
        · simp
        · rw [List.length_reverse, List.length_drop]; omega)
      subst hA
      have hgw : ad.block < wr.heap.size := Nat.lt_of_lt_of_le hg HI.out.1.low.size
      have hbw := (head_row HI.out.1.box).lt
      have hbw7 := (head_row HI.out.1.res).lt
      have HDO : Hid (∀ W, Below wr.heap.size wr W → Calls Try.prog 27 #[.agg (l11C (τ).c (τ).p (.slice Fa1 na1 da1) (.slice Fa2 na2 da2) (.slice Fa3 na3 da3) (.slice Fa4 na4 da4)), .int .u64 (k : Nat)] W (P11o W τ' ou)) := Lib.hid (fun W hb => by
        have := PO.adm (HI.out.2.1.below hb) hoka k hkk
        rw [ea, eo] at this
        exact this)
      have HDR : Hid (∀ W, Below wr.heap.size wr W → Calls Try.prog 28 #[.agg (l8C (σ).c (.slice Fb1 nb1 db1)), .int .u64 (k : Nat)] W (P8o W σ' ou)) := Lib.hid (fun W hb => by
        have := r8admit_walk (HI.out.2.2.below hb) hok k hkk
        rw [hσ', hou] at this
        exact this)
      have HAC := Lib.hid hac
      have HSS : Hid (∀ w' : World, (∀ k, k < wr.heap.size → w'.heap[k]? = wr.heap[k]?) → w'.cell? ⟨b6, 0, none⟩ = some (.int .i64 ((τ).c : Nat)) ∧ w'.cell? ⟨b6, 1, none⟩ = some (.int .i64 ((τ).p : Nat)) ∧ w'.cell? ⟨b6, 2, none⟩ = some (.slice Fa1 na1 da1) ∧ w'.cell? ⟨b6, 3, none⟩ = some (.slice Fa2 na2 da2) ∧ w'.cell? ⟨b6, 4, none⟩ = some (.slice Fa3 na3 da3) ∧ w'.cell? ⟨b6, 5, none⟩ = some (.slice Fa4 na4 da4) ∧ w'.cell? (ad.add i) = some (.int .u64 (k : Nat))) := Lib.hid (fun w' hh => by
        obtain ⟨⟨x0, x1, x2, x3, x4, x5⟩, _⟩ := c6_at ((hh b6 hbw).trans HI.out.1.box)
        exact ⟨x0, x1, x2, x3, x4, x5, (cell_same (hh _ (by rw [ad_block]; exact hgw))).trans HAC.out⟩)
      have HSR : Hid (∀ w' : World, (∀ k, k < wr.heap.size → w'.heap[k]? = wr.heap[k]?) → w'.cell? ⟨b7, 0, none⟩ = some (.int .i64 ((σ).c : Nat)) ∧ w'.cell? ⟨b7, 1, none⟩ = some (.slice Fb1 nb1 db1) ∧ w'.cell? (ad.add i) = some (.int .u64 (k : Nat))) := Lib.hid (fun w' hh => by
        obtain ⟨⟨x0, x1⟩, _⟩ := c2_at ((hh b7 hbw7).trans HI.out.1.res)
        exact ⟨x0, x1, (cell_same (hh _ (by rw [ad_block]; exact hgw))).trans HAC.out⟩)
      obtain ⟨x0, x1, x2, x3, x4, x5, a0⟩ := HSS.out wr (fun _ _ => rfl)
      clear hac hok hok2 hnew hkk hnx hσ hk ea eo hoka hoka2 hτ hσ' hτ' hou hg
      go_upto_region 9 with fail
      go_cut [9, 10] (fun s9 s10 wx => ∃ oo, oo = s10 ∧ Af11 wr PT11 τ' ou s9 oo wx)
      case first =>
        go_region_held3 (fun w' => w'.cell? ⟨b6, 0, none⟩ = some (.int .i64 ((τ).c : Nat)) ∧ w'.cell? ⟨b6, 1, none⟩ = some (.int .i64 ((τ).p : Nat)) ∧ w'.cell? ⟨b6, 2, none⟩ = some (.slice Fa1 na1 da1) ∧ w'.cell? ⟨b6, 3, none⟩ = some (.slice Fa2 na2 da2) ∧ w'.cell? ⟨b6, 4, none⟩ = some (.slice Fa3 na3 da3) ∧ w'.cell? ⟨b6, 5, none⟩ = some (.slice Fa4 na4 da4) ∧ w'.cell? (ad.add i) = some (.int .u64 (k : Nat)))
          (first | with_reducible exact kk0 | with_reducible exact KK1 _ (c6_set hP5 _ _ _ _ _ _).2 | go_keep)
          (first
          | (go_at_call 27; refine (HDO.out _ (below_drewn (low_one wr (.cells z11 PT11)) _)).mono ?_; rintro e w5 ⟨q1, q2, q3, q4, o5, he, hb5, hk5, ho5⟩; obtain ⟨Fa1, na1, da1, rfl⟩ := hk5.form1; obtain ⟨Fa2, na2, da2, rfl⟩ := hk5.form2; obtain ⟨Fa3, na3, da3, rfl⟩ := hk5.form3; obtain ⟨Fa4, na4, da4, rfl⟩ := hk5.form4; subst he; have hbA := (below_drewn (Below.refl (wr.alloc (.cells z11 PT11)).heap.size (wr.alloc (.cells z11 PT11))) _).trans hb5; have kk0 := HSS.out w5 (fun k hk => (hbA.block k (by simp; omega)).trans (Below.heap_alloc wr _ k hk)); have hP5 := (hbA.block wr.heap.size (by simp)).trans (heap_alloc_new wr _); have KK1 := fun (W : World) (ho : Only [wr.heap.size] w5 W) => HSS.out W (fun k hk => (ho.block k (by have := hbA.size; simp at this; omega) (by simp; omega)).trans ((hbA.block k (by simp; omega)).trans (Below.heap_alloc wr _ k hk))); obtain ⟨⟨z0, z1, z2, z3, z4, z5⟩, zf0, zf1, zf2, zf3, zf4, zf5⟩ := c6_at hP5)
          | (go_at_call 27; refine (HDO.out _ (below_drewn (Below.refl _ _) _)).mono ?_; rintro e w5 ⟨q1, q2, q3, q4, o5, he, hb5, hk5, ho5⟩; obtain ⟨Fa1, na1, da1, rfl⟩ := hk5.form1; obtain ⟨Fa2, na2, da2, rfl⟩ := hk5.form2; obtain ⟨Fa3, na3, da3, rfl⟩ := hk5.form3; obtain ⟨Fa4, na4, da4, rfl⟩ := hk5.form4; subst he; have hbA := (below_drewn (Below.refl wr.heap.size wr) _).trans hb5; have kk0 := HSS.out w5 (fun k hk => hbA.block k hk)))
        all_goals
          go_wp2_with fail
          go_meet
          first
            | exact ⟨_, rfl, af11_b hbA hk5 ho5⟩
            | exact ⟨_, rfl, af11_a (zs := z11) (by decide) rfl ⟨_, _, _, _, _, _, rfl⟩ hbA hP5 hk5 ho5⟩
      case rest =>
        obtain ⟨o1, rfl, P1, Fc1, nc1, dc1, Fc2, nc2, dc2, Fc3, nc3, dc3, Fc4, nc4, dc4, rfl, hbc, hP1, hcell, hst, hou⟩ := hcut
        have HBO := Lib.hid (HI.out.1.step hbc)
        have HCE := Lib.hid hcell
        have HST := Lib.hid hst
        have HOU := Lib.hid hou
        have HSR2 : Hid (∀ w' : World, (∀ k, k < wc.heap.size → w'.heap[k]? = wc.heap[k]?) → w'.cell? ⟨b7, 0, none⟩ = some (.int .i64 ((σ).c : Nat)) ∧ w'.cell? ⟨b7, 1, none⟩ = some (.slice Fb1 nb1 db1) ∧ w'.cell? (ad.add i) = some (.int .u64 (k : Nat))) := Lib.hid (fun w' hh => HSR.out w' (fun k hk => (hh k (Nat.lt_of_lt_of_le hk hbc.size)).trans (hbc.block k hk)))
        have HDR2 : Hid (∀ W, Below wc.heap.size wc W → Calls Try.prog 28 #[.agg (l8C (σ).c (.slice Fb1 nb1 db1)), .int .u64 (k : Nat)] W (P8o W σ' ou)) := Lib.hid (fun W hb => HDR.out W (hbc.trans (hb.mono hbc.size)))
        have hwc := hbc.size
        have hP1w := (head_row hcell).lt
        clear x0 x1 x2 x3 x4 x5 a0 hbc hst hou hcell HSS HSR HDO HDR HI
        obtain ⟨x0, x1, a0⟩ := HSR2.out wc (fun _ _ => rfl)
        obtain ⟨w5c, hw5⟩ : ∃ y, y = wc := ⟨_, rfl⟩
        subst hw5
        go_upto_region 10 with fail
        go_cut [11, 12] (fun s11 s12 wx => ∃ oo, oo = s12 ∧ Af8 w5c T8 σ' ou s11 oo wx)
        case first =>
          go_region_held3 (fun w' => w'.cell? ⟨b7, 0, none⟩ = some (.int .i64 ((σ).c : Nat)) ∧ w'.cell? ⟨b7, 1, none⟩ = some (.slice Fb1 nb1 db1) ∧ w'.cell? (ad.add i) = some (.int .u64 (k : Nat)))
            (first | with_reducible exact kk0 | with_reducible exact KK1 _ (c2_set hP5 _ _).2 | go_keep)
            (first
            | (go_at_call 28; refine (HDR2.out _ (below_drewn (low_one w5c (.cells z8 T8)) _)).mono ?_; rintro e w5 ⟨q1, o5, he, hb5, hk5, ho5⟩; obtain ⟨Fa1, na1, da1, rfl⟩ := hk5.form1; subst he; have hbA := (below_drewn (Below.refl (w5c.alloc (.cells z8 T8)).heap.size (w5c.alloc (.cells z8 T8))) _).trans hb5; have kk0 := HSR2.out w5 (fun k hk => (hbA.block k (by simp; omega)).trans (Below.heap_alloc w5c _ k hk)); have hP5 := (hbA.block w5c.heap.size (by simp)).trans (heap_alloc_new w5c _); have KK1 := fun (W : World) (ho : Only [w5c.heap.size] w5 W) => HSR2.out W (fun k hk => (ho.block k (by have := hbA.size; simp at this; omega) (by simp; omega)).trans ((hbA.block k (by simp; omega)).trans (Below.heap_alloc w5c _ k hk))); obtain ⟨⟨z0, z1⟩, zf0, zf1⟩ := c2_at hP5)
            | (go_at_call 28; refine (HDR2.out _ (below_drewn (Below.refl _ _) _)).mono ?_; rintro e w5 ⟨q1, o5, he, hb5, hk5, ho5⟩; obtain ⟨Fa1, na1, da1, rfl⟩ := hk5.form1; subst he; have hbA := (below_drewn (Below.refl w5c.heap.size w5c) _).trans hb5; have kk0 := HSR2.out w5 (fun k hk => hbA.block k hk)))
          all_goals
            go_wp2_with fail
            go_meet
            first
              | exact ⟨_, rfl, af8_b hbA hk5 ho5⟩
              | exact ⟨_, rfl, af8_a (zs := z8) (by decide) rfl ⟨_, _, rfl⟩ hbA hP5 hk5 ho5⟩
        case rest =>
          obtain ⟨o2, rfl, P2, Fd1, nd1, dd1, rfl, hbc, hP2, hcell, hst, hou⟩ := hcut
          have HBO6 := Lib.hid (HBO.out.step hbc)
          have HC1 := Lib.hid ((hbc.block P1 hP1w).trans HCE.out)
          have HC2 := Lib.hid hcell
          have HS1 := Lib.hid (HST.out.below hbc)
          have HS2 := Lib.hid hst
          have HO1 := Lib.hid (HOU.out.below hbc)
          have HO2 := Lib.hid hou
          have hn1 : P1 ≠ b6 := by omega
          have hn2 : P1 ≠ b7 := by omega
          have hn3 : P2 ≠ b6 := by omega
          have hn4 : P2 ≠ b7 := by omega
          have hn5 := HBO6.out.ge.2.2
          have hn1' := Ne.symm hn1
          have hn2' := Ne.symm hn2
          have hn3' := Ne.symm hn3
          have hn4' := Ne.symm hn4
          have hn5' := Ne.symm hn5
          clear x0 x1 a0 hbc hst hou hcell HSR2 HDR2 HBO HCE HST HOU
          obtain ⟨⟨k0, k1, k2, k3, k4, k5⟩, _⟩ := c6_at HC1.out
          obtain ⟨⟨j0, j1⟩, _⟩ := c2_at HC2.out
          obtain ⟨⟨y0, y1, y2, y3, y4, y5⟩, yf0, yf1, yf2, yf3, yf4, yf5⟩ := c6_at HBO6.out.box
          obtain ⟨⟨z0, z1⟩, zf0, zf1⟩ := c2_at HBO6.out.res
          have HN : Hid (∀ W, W = ((((((((wc.setCell ⟨b6, 0, none⟩ (.int .i64 ((τ').c : Nat))).setCell ⟨b6, 1, none⟩ (.int .i64 ((τ').p : Nat))).setCell ⟨b6, 2, none⟩ (.slice Fc1 nc1 dc1)).setCell ⟨b6, 3, none⟩ (.slice Fc2 nc2 dc2)).setCell ⟨b6, 4, none⟩ (.slice Fc3 nc3 dc3)).setCell ⟨b6, 5, none⟩ (.slice Fc4 nc4 dc4)).setCell ⟨b7, 0, none⟩ (.int .i64 ((σ').c : Nat))).setCell ⟨b7, 1, none⟩ (.slice Fd1 nd1 dd1)) → Bp w W PT11 T8 b6 b7 (l11C (τ').c (τ').p (.slice Fc1 nc1 dc1) (.slice Fc2 nc2 dc2) (.slice Fc3 nc3 dc3) (.slice Fc4 nc4 dc4)) (l8C (σ').c (.slice Fd1 nd1 dd1)) ∧ St11 W τ' (.slice Fc1 nc1 dc1) (.slice Fc2 nc2 dc2) (.slice Fc3 nc3 dc3) (.slice Fc4 nc4 dc4) ∧ St8 W σ' (.slice Fd1 nd1 dd1) ∧ KV W o1 ou ∧ KV W o2 ou) := Lib.hid (by
            rintro W rfl
            obtain ⟨h1, h2⟩ := c6_set HBO6.out.box (.int .i64 ((τ').c : Nat)) (.int .i64 ((τ').p : Nat)) (.slice Fc1 nc1 dc1) (.slice Fc2 nc2 dc2) (.slice Fc3 nc3 dc3) (.slice Fc4 nc4 dc4)
            have hr := (h2.block b7 (head_row HBO6.out.res).lt (by simp; omega)).trans HBO6.out.res
            obtain ⟨h3, h4⟩ := c2_set hr (.int .i64 ((σ').c : Nat)) (.slice Fd1 nd1 dd1)
            have ho : Only [b6, b7] wc _ := (h2.mono (T := [b6, b7]) (by simp)).trans h4 (by simp)
            exact ⟨⟨HBO6.out.fin ho, (h4.block b6 (head_row h1).lt (by simp; omega)).trans h1, h3, HBO6.out.ge, ⟨rfl, rfl⟩, HBO6.out.ty⟩, HBO6.out.st11 ho HS1.out, HBO6.out.st8 ho HS2.out, HBO6.out.kv ho HO1.out, HBO6.out.kv ho HO2.out⟩)
          go_upto_region 13 with fail
          have hW := HN.out _ rfl
          clear HN k0 j0 y0 z0 yf0 zf0 k1 j1 y1 z1 yf1 zf1 k2 y2 yf2 k3 y3 yf3 k4 y4 yf4 k5 y5 yf5
          generalize ((((((((wc.setCell ⟨b6, 0, none⟩ (.int .i64 ((τ').c : Nat))).setCell ⟨b6, 1, none⟩ (.int .i64 ((τ').p : Nat))).setCell ⟨b6, 2, none⟩ (.slice Fc1 nc1 dc1)).setCell ⟨b6, 3, none⟩ (.slice Fc2 nc2 dc2)).setCell ⟨b6, 4, none⟩ (.slice Fc3 nc3 dc3)).setCell ⟨b6, 5, none⟩ (.slice Fc4 nc4 dc4)).setCell ⟨b7, 0, none⟩ (.int .i64 ((σ').c : Nat))).setCell ⟨b7, 1, none⟩ (.slice Fd1 nd1 dd1)) = W at hW ⊢
          have HW := Lib.hid hW
          obtain ⟨Fo1, no1, do1, ho1⟩ := hW.2.2.2.1.form
          obtain ⟨Fo2, no2, do2, ho2⟩ := hW.2.2.2.2.form
          subst ho1 ho2
          clear hW HBO6 HC1 HC2 HS1 HS2 HO1 HO2
          have HPW : Hid (∀ w', Below W.heap.size W w' → w'.cell? ⟨b6, 0, none⟩ = some (.int .i64 ((τ').c : Nat)) ∧ w'.cell? ⟨b6, 1, none⟩ = some (.int .i64 ((τ').p : Nat)) ∧ w'.cell? ⟨b6, 2, none⟩ = some (.slice Fc1 nc1 dc1) ∧ w'.cell? ⟨b6, 3, none⟩ = some (.slice Fc2 nc2 dc2) ∧ w'.cell? ⟨b6, 4, none⟩ = some (.slice Fc3 nc3 dc3) ∧ w'.cell? ⟨b6, 5, none⟩ = some (.slice Fc4 nc4 dc4) ∧ w'.cell? ⟨b7, 0, none⟩ = some (.int .i64 ((σ').c : Nat)) ∧ w'.cell? ⟨b7, 1, none⟩ = some (.slice Fd1 nd1 dd1)) := Lib.hid (fun w' hb => by
            obtain ⟨⟨y0, y1, y2, y3, y4, y5⟩, _⟩ := c6_at (HW.out.1.step hb).box
            obtain ⟨⟨z0, z1⟩, _⟩ := c2_at (HW.out.1.step hb).res
            exact ⟨y0, y1, y2, y3, y4, y5, z0, z1⟩)
          have HKY : Hid (∀ w', Below W.heap.size W w' → Calls Try.prog 18 #[.agg (l11C (τ').c (τ').p (.slice Fc1 nc1 dc1) (.slice Fc2 nc2 dc2) (.slice Fc3 nc3 dc3) (.slice Fc4 nc4 dc4))] w' (RetK w' σ'.l)) := Lib.hid (fun w' hb => by
            have := PO.keys (HW.out.2.1.below hb) HOKA.out
            rw [HKE.out] at this
            exact this)
          obtain ⟨y0, y1, y2, y3, y4, y5, z0, z1⟩ := HPW.out W (Below.refl _ _)
          go_region_held3 (fun w' => w'.cell? ⟨b6, 0, none⟩ = some (.int .i64 ((τ').c : Nat)) ∧ w'.cell? ⟨b6, 1, none⟩ = some (.int .i64 ((τ').p : Nat)) ∧ w'.cell? ⟨b6, 2, none⟩ = some (.slice Fc1 nc1 dc1) ∧ w'.cell? ⟨b6, 3, none⟩ = some (.slice Fc2 nc2 dc2) ∧ w'.cell? ⟨b6, 4, none⟩ = some (.slice Fc3 nc3 dc3) ∧ w'.cell? ⟨b6, 5, none⟩ = some (.slice Fc4 nc4 dc4) ∧ w'.cell? ⟨b7, 0, none⟩ = some (.int .i64 ((σ').c : Nat)) ∧ w'.cell? ⟨b7, 1, none⟩ = some (.slice Fd1 nd1 dd1))
            (first | with_reducible exact kkc | with_reducible exact kkb | with_reducible exact kka | go_keep)
            (first
            | (go_at_call 15; refine (same_walk hkv8 (HW.out.2.2.1.below hB8).g1 HLN.out).mono ?_; rintro e w9 ⟨rfl, hb9⟩; rw [decide_eq_true (rfl : σ'.l = σ'.l)]; have hB9 := hB8.trans (hb9.mono hB8.size); have kkc := HPW.out w9 hB9)
            | (go_at_call 18; refine (HKY.out w7 hB7).mono ?_; rintro e w8 ⟨v8, rfl, hb8, hkv8⟩; obtain ⟨F8, n8, d8, rfl⟩ := hkv8.form; have hB8 := hB7.trans (hb8.mono hB7.size); have kkb := HPW.out w8 hB8)
            | (go_at_call 15; refine (same_walk (HW.out.2.2.2.1.below (below_drewn (Below.refl _ _) _)) (HW.out.2.2.2.2.below (below_drewn (Below.refl _ _) _)) HOUT.out).mono ?_; rintro e w7 ⟨rfl, hb7⟩; rw [decide_eq_true (rfl : ou = ou)]; have hB7 := (below_drewn (Below.refl W.heap.size W) _).trans hb7; have kka := HPW.out w7 hB7))
          all_goals
            have HN : Hid (Bp w w9 PT11 T8 b6 b7 (l11C ((s0.comes (ks.take (i + 1))).arc).c ((s0.comes (ks.take (i + 1))).arc).p (.slice Fc1 nc1 dc1) (.slice Fc2 nc2 dc2) (.slice Fc3 nc3 dc3) (.slice Fc4 nc4 dc4)) (l8C (s0.comes (ks.take (i + 1))).c (.slice Fd1 nd1 dd1)) ∧ St11 w9 (s0.comes (ks.take (i + 1))).arc (.slice Fc1 nc1 dc1) (.slice Fc2 nc2 dc2) (.slice Fc3 nc3 dc3) (.slice Fc4 nc4 dc4) ∧ St8 w9 (s0.comes (ks.take (i + 1))) (.slice Fd1 nd1 dd1)) := Lib.hid (by rw [HNX.out, HTX.out]; exact ⟨HW.out.1.step hB9, HW.out.2.1.below hB9, HW.out.2.2.1.below hB9⟩)
            clear hB7 hB8 hB9 hb7 hb8 hb9 hkv8 kka kkb kkc HW HPW HKY y0 y1 y2 y3 y4 y5 z0 z1
            go_wp2
            go_roundg (na - i - 1)
            case measure => omega
            case rel => exact ⟨i + 1, _, _, _, _, _, _, _, _, _, _, _, _, _, _, _, by omega, by go_num, HN⟩
    · have hltI : ¬ (i : Int) < (na : Int) := by omega
      have HL := Lib.hid HI.out.1.low
      clear HI
      go_wp2
      go_ret
      exact ⟨rfl, HL.out⟩
theorem lru11_walk (PO : Pol11Ok) (AW : ∀ w, Calls Try.prog 9 #[] w (RetB w true)) (c : Nat) (hc : c < 256) (ha : KV w v ks) (hkb : ∀ k ∈ ks, k < 18446744073709551616) : Calls Try.prog 7 #[.int .u8 (c : Nat), v] w (RetB w true) := by
  by_cases hl : ks.length ≤ 60
  · by_cases hnd : ks.Nodup
    · exact lru11_short PO AW c hc ha hkb hl hnd
    · have HAW := Lib.hid (AW w)
      obtain ⟨A, cap, rfl, _⟩ := ha.mem
      have HVV := Lib.hid (fun W (hb : Below w.heap.size w W) => KVV.one (ha.below hb) 24)
      have HND := Lib.hid (show ¬ [ks].flatten.Nodup by simpa using hnd)
      have HFL := Lib.hid (show [ks].flatten.length ≤ 100000000 by simp; omega)
      obtain ⟨na, hna⟩ : ∃ na, ks.length = na := ⟨_, rfl⟩
      rw [hna] at hl HVV ⊢
      have hlI : ¬ (60 : Int) < (na : Int) := by omega
      clear ha hna AW hkb hnd
      go_enter Try.func7, Try.ntmps7
      go_wp2_with fail
      refine HAW.out.mono ?_
      rintro e w1 ⟨rfl, hb1⟩
      have HL1 := Lib.hid hb1
      clear hb1 HAW
      go_wp2_with fail
      refine (rapart_walk (kss := [ks]) (HVV.out w1 HL1.out) (by simp) HFL.out).mono ?_
      rintro e wy ⟨rfl, hby⟩
      rw [decide_eq_false HND.out]
      have HLY := Lib.hid (HL1.out.trans (((low_one w1 _).trans (hby.mono (by simp))).mono HL1.out.size))
      clear hby HL1 HVV HFL HND
      go_wp2
      go_ret
      exact ⟨rfl, HLY.out⟩
  · have HAW := Lib.hid (AW w)
    obtain ⟨A, cap, rfl, _⟩ := ha.mem
    obtain ⟨na, hna⟩ : ∃ na, ks.length = na := ⟨_, rfl⟩
    rw [hna] at hl ⊢
    have hlI : (60 : Int) < (na : Int) := by omega
    clear ha hna AW hkb
    go_enter Try.func7, Try.ntmps7
    go_wp2_with fail
    refine HAW.out.mono ?_
    rintro e w1 ⟨rfl, hb1⟩
    have HB := Lib.hid hb1
    clear hb1
    go_wp2
    go_ret
    exact ⟨rfl, HB.out⟩
end
end Go.Proofs.Ytemgbiohfgcphaa
