/- Inter-reference recency: Kinds, walked. -/
import Derived.Test.YtjfhapobbglbpaaLiBd
import Derived.Test.YtjfhapobbglbpaaLiF
namespace Go.Proofs.Ytjfhapobbglbpaa
open Go Go.RowKit Go.Deep

/- A cold item's key is in the queue, and no other one's is. -/
theorem L12.Fine.coldQ {s : L12} (h : s.Fine) {x : It} (hx : x ∈ s.s) : decide (x.key ∈ s.q) = decide (x.f = 1) := by
  have h1 := h.at_ x.key
  have h2 := h.kinds x hx
  have hc : 0 < ct x.key x.f s.s := by
    unfold ct
    exact List.count_pos_iff.2 hx
  unfold L12.okA at h1
  by_cases e : x.f = 1
  · rw [decide_eq_true e]
    rw [e] at hc
    exact decide_eq_true (List.count_pos_iff.1 (by omega))
  · rw [decide_eq_false e]
    have h3 : x.f = 0 ∨ x.f = 2 := by omega
    refine decide_eq_false (fun hm => ?_)
    have h4 := List.count_pos_iff.2 hm
    rcases h3 with h3 | h3 <;> rw [h3] at hc <;> omega
theorem keysI_take (xs : List It) (i : Nat) : keysI (xs.take i) = (keysI xs).take i := by
  unfold keysI
  rw [List.map_take]
theorem keysI_next {xs : List It} {i : Nat} (hi : i < xs.length) : keysI (xs.take (i + 1)) = keysI (xs.take i) ++ [xs[i].key] := by
  unfold keysI
  rw [List.take_succ_eq_append_getElem hi, List.map_append]
  rfl
theorem keysI_len (xs : List It) : (keysI xs).length = xs.length := by
  unfold keysI
  rw [List.length_map]
section
variable {w : World} {v : Value} {l : List Act8}
set_option maxHeartbeats 4000000 in
set_option maxRecDepth 4000 in
theorem kinds12_short (PO : Pol12Ok) (AW : ∀ w, Calls Try.prog 9 #[] w (RetB w true)) (c : Nat) (hc : c < 256) (ha : AV w v l) (hl : l.length ≤ 60) : Calls Try.prog 7 #[.int .u8 (c : Nat), v] w (RetB w true) := by
  have HAW := Lib.hid (AW w)
  have HRUN : Hid (∀ W, AV W v l → Calls Try.prog 16 #[.int .u8 (c : Nat), v] W (P12 W ((L12.new (1 + c % 12 : Nat)).runS l))) := Lib.hid (fun W h => run12_walk PO c hc h hl)
  have HOKN := Lib.hid (run12_ok ha c)
  have HAV := Lib.hid ha
  obtain ⟨A, cap, rfl, _⟩ := ha.mem
  obtain ⟨na, hna⟩ : ∃ na, l.length = na := ⟨_, rfl⟩
  rw [hna] at hl HAV HRUN ⊢
  obtain ⟨σ, hσN⟩ : ∃ σN, (L12.new (1 + c % 12 : Nat)).runS l = σN := ⟨_, rfl⟩
  rw [hσN] at HRUN HOKN
  have hql := HOKN.out.ql
  have hsl := HOKN.out.sl
  have HKL := Lib.hid HOKN.out.keysLen
  have HKY : Hid (∀ W u1 u2, St12 W σ u1 u2 → Calls Try.prog 18 #[.agg (l12C σ.c u1 u2)] W (RetK W σ.keys)) := Lib.hid (fun W _ _ h => PO.keys h HOKN.out)
  have HCQ : Hid (∀ x ∈ σ.s, decide (x.key ∈ σ.q) = decide (x.f = 1) ∧ x.f ≤ 2) := Lib.hid (fun x hx => ⟨HOKN.out.fine.coldQ hx, HOKN.out.fine.kinds x hx⟩)
  have HND : Hid ((keysI σ.s).Nodup ∧ σ.q.Nodup ∧ σ.keys.Nodup) := Lib.hid ⟨HOKN.out.fine.stackNd, HOKN.out.fine.qNd, HOKN.out.fine.keysNd⟩
  clear ha hna AW hσN hc HOKN
  have hlI : ¬ (60 : Int) < (na : Int) := by omega
  go_enter Try.func7, Try.ntmps7
  go_wp2_with fail
  refine (HAW.out).mono ?_
  rintro e w1 ⟨rfl, hb1⟩
  have HL1 := Lib.hid hb1
  have HAV1 := Lib.hid (HAV.out.below hb1)
  clear hb1 HAW HAV
  go_wp2_with fail
  refine (HRUN.out w1 HAV1.out).mono ?_
  rintro e w2 ⟨q1, q2, he, hb2, hk2⟩
  obtain ⟨F1, d1, rfl, -⟩ := hk2.g1.mem
  obtain ⟨F2, d2, rfl, -⟩ := hk2.g2.mem
  obtain ⟨n1, hn1⟩ : ∃ m, σ.s.length = m := ⟨_, rfl⟩
  obtain ⟨n2, hn2⟩ : ∃ m, σ.q.length = m := ⟨_, rfl⟩
  have HN := Lib.hid hn1
  have HQL : Hid (σ.q.length ≤ 2097152) := Lib.hid hql
  rw [hn1] at hk2 he hsl
  rw [hn2] at hk2 he
  subst he
  have hbs := Bs12.new (T := PT12) (by decide) (HL1.out.trans (hb2.mono HL1.out.size)) hk2
  have HBS := Lib.hid hbs
  clear hb2 hk2 hbs HRUN HL1 HAV1 hn1 hn2 hql
  obtain ⟨cc, hcc⟩ : ∃ cc, σ.c = cc := ⟨_, rfl⟩
  have HCC := Lib.hid hcc
  have hi5 : (n1 : Int) ≤ 2097152 := by omega
  rw [hcc] at HBS HKY ⊢
  clear hcc
  go_upto_region 5 with fail
  generalize w2.alloc (.cells (l12C cc (.slice F1 n1 d1) (.slice F2 n2 d2)) PT12) = w5 at HBS ⊢
  generalize w2.heap.size = b at HBS ⊢
  have HLD : Hid (∀ W, Below w5.heap.size w5 W → Bs12 w W PT12 b σ (.slice F1 n1 d1) (.slice F2 n2 d2) ∧ (W.cell? ⟨b, 0, none⟩ = some (.int .i64 (cc : Nat)) ∧ W.cell? ⟨b, 1, none⟩ = some (.slice F1 n1 d1) ∧ W.cell? ⟨b, 2, none⟩ = some (.slice F2 n2 d2)) ∧ b < W.heap.size) := Lib.hid (fun W hb => by
    have h1 := HBS.out.step hb
    have h2 := (c3_at h1.box).1
    rw [HCC.out] at h2
    exact ⟨h1, h2, (head_row h1.box).lt⟩)
  go_wp2_with fail
  go_loopg [7, 8] n1 (fun gg s7 s8 wr => ∃ (i : Nat) (v7 : Value), i + gg = n1 ∧ v7 = s7 ∧ s8 = .int .i64 (i : Nat) ∧ Hid (KO w5.heap.size w5 wr v7 (keysI (σ.s.take i))))
  case atStart => exact ⟨0, _, by omega, rfl, rfl, Lib.hid (by rw [List.take_zero]; exact KO.nil (Below.refl _ _))⟩
  case round =>
    obtain ⟨i, v7, hi, rfl, rfl, HI⟩ := hrel
    obtain ⟨hst, ⟨x0, x1, x2⟩, hbb⟩ := HLD.out wr HI.out.low
    have HST := Lib.hid hst
    clear hst
    by_cases hlt : i < n1
    · have hltI : (i : Int) < (n1 : Int) := by omega
      have hil : i < σ.s.length := by rw [HN.out]; exact hlt
      have HHL : Hid ((keysI (σ.s.take i)).length ≤ 2097152) := Lib.hid (by rw [keysI_len, List.length_take]; omega)
      obtain ⟨F', d', e, _, _, h3⟩ := HST.out.st.g1.mem
      injection e with e1 e2 e3
      subst e1 e3
      obtain ⟨g, off, hF, hg, q0, q1⟩ := h3 i hil
      subst hF
      have hnx := keysI_next hil
      obtain ⟨hcq, hf2⟩ := HCQ.out _ (List.getElem_mem hil)
      obtain ⟨kx, hkx⟩ : ∃ k, σ.s[i].key = k := ⟨_, rfl⟩
      obtain ⟨fx, hfx⟩ : ∃ f, σ.s[i].f = f := ⟨_, rfl⟩
      rw [hkx] at q0 hnx hcq
      rw [hfx] at q1 hcq hf2
      clear h3 e2 hkx hfx
      have HNX := Lib.hid hnx
      have HCX := Lib.hid hcq
      have hi1 := HI.out.alloc HI.out.low.size (.cells #[.int .u64 (kx : Nat), .int .i64 (fx : Nat)] PTI12)
      have HOW := Lib.hid (hi1.alloc hi1.low.size (.cells #[.int .u64 (kx : Nat)] 35))
      have HSRC := Lib.hid (KV.one (wr.alloc (.cells #[.int .u64 (kx : Nat), .int .i64 (fx : Nat)] PTI12)) kx)
      have hsz := HOW.out.low.size
      have hf0I : ¬ (fx : Int) < 0 := by omega
      have hf2I : ¬ (2 : Int) < (fx : Int) := by omega
      have HTB : Hid (((wr.alloc (.cells #[.int .u64 (kx : Nat), .int .i64 (fx : Nat)] PTI12)).alloc (.cells #[.int .u64 (kx : Nat)] 35)).heap[wr.heap.size]? = some (.cells #[.int .u64 (kx : Nat), .int .i64 (fx : Nat)] PTI12 (0, 0))) := Lib.hid (((low_one (wr.alloc (.cells #[.int .u64 (kx : Nat), .int .i64 (fx : Nat)] PTI12)) (.cells #[.int .u64 (kx : Nat)] 35)).block wr.heap.size (by simp)).trans (heap_alloc_new wr _))
      clear hnx hcq hi1
      go_wp2_with (at_builtin; refine wpList_append_kv rfl (.tmp 30) (.tmp 33) rfl w5.heap.size (by kernel_rfl) (by kernel_rfl) v7 (keysI (σ.s.take i)) rfl HOW.out _ [kx] rfl (by first | exact HSRC.out | (have h := HSRC.out; simp only [World.size_alloc] at h; exact h)) (by have := HHL.out; simp; omega) hsz ?_)
      intro v5 wA hown5 _ hkt
      rw [← HNX.out] at hown5
      have HF := Lib.hid hown5
      have htb := hkt _ _ _ _ HTB.out (by decide)
      have hbt : wr.heap.size < wA.heap.size := (head_row htb).lt
      obtain ⟨⟨t0, t1⟩, -⟩ := c2_at htb
      obtain ⟨hsA, ⟨y0, y1, y2⟩, hbA⟩ := HLD.out wA HF.out.low
      have HQA := Lib.hid hsA.st.g2
      generalize wr.heap.size = tb at htb hbt t0 t1 HTB ⊢
      clear hown5 HOW HSRC hsz q0 q1 x0 x1 x2 hbb HI HST HNX hsA hkt HTB htb
      have hf3 : fx = 1 ∨ fx = 0 ∨ fx = 2 := by omega
      rcases hf3 with he | he | he
      · have HX : Hid (decide (kx ∈ σ.q) = true) := Lib.hid (HCX.out.trans (decide_eq_true he))
        subst he
        replace t1 : wA.cell? ⟨tb, 1, none⟩ = some (.int .i64 1) := t1
        clear hf0I hf2I hf2
        go_upto_region 11 with fail
        go_region_held3 (fun w' => w'.cell? ⟨b, 2, none⟩ = some (.slice F2 n2 d2) ∧ w'.cell? ⟨tb, 0, none⟩ = some (.int .u64 (kx : Nat)) ∧ w'.cell? ⟨tb, 1, none⟩ = some (.int .i64 1))
          (first | with_reducible exact kk1 | go_keep)
          (first | (go_at_call 20; refine (rhas_walk (ks := σ.q) (HQA.out.below (below_drewn (Below.refl _ _) _)) (by have := HQL.out; omega) kx).mono ?_; rintro e wh ⟨rfl, rfl⟩; rw [HX.out]; have kk1 : (wA.drewN 1).cell? ⟨b, 2, none⟩ = some (.slice F2 n2 d2) ∧ (wA.drewN 1).cell? ⟨tb, 0, none⟩ = some (.int .u64 (kx : Nat)) ∧ (wA.drewN 1).cell? ⟨tb, 1, none⟩ = some (.int .i64 1) := ⟨y2, t0, t1⟩))
        have HF2 := Lib.hid (HF.out.below HF.out.low.size (below_drewn (Below.refl wA.heap.size wA) 1))
        clear HF
        go_wp2
        go_roundg (gk - 1)
        case measure => omega
        case rel => exact ⟨i + 1, v5, by omega, rfl, by go_num, HF2⟩
      · have HX : Hid (decide (kx ∈ σ.q) = false) := Lib.hid (HCX.out.trans (decide_eq_false (by rw [he]; decide)))
        subst he
        replace t1 : wA.cell? ⟨tb, 1, none⟩ = some (.int .i64 0) := t1
        clear hf0I hf2I hf2
        go_upto_region 11 with fail
        go_region_held3 (fun w' => w'.cell? ⟨b, 2, none⟩ = some (.slice F2 n2 d2) ∧ w'.cell? ⟨tb, 0, none⟩ = some (.int .u64 (kx : Nat)) ∧ w'.cell? ⟨tb, 1, none⟩ = some (.int .i64 0))
          (first | with_reducible exact kk1 | go_keep)
          (first | (go_at_call 20; refine (rhas_walk (ks := σ.q) (HQA.out.below (below_drewn (Below.refl _ _) _)) (by have := HQL.out; omega) kx).mono ?_; rintro e wh ⟨rfl, rfl⟩; rw [HX.out]; have kk1 : (wA.drewN 1).cell? ⟨b, 2, none⟩ = some (.slice F2 n2 d2) ∧ (wA.drewN 1).cell? ⟨tb, 0, none⟩ = some (.int .u64 (kx : Nat)) ∧ (wA.drewN 1).cell? ⟨tb, 1, none⟩ = some (.int .i64 0) := ⟨y2, t0, t1⟩))
        have HF2 := Lib.hid (HF.out.below HF.out.low.size (below_drewn (Below.refl wA.heap.size wA) 1))
        clear HF
        go_wp2
        go_roundg (gk - 1)
        case measure => omega
        case rel => exact ⟨i + 1, v5, by omega, rfl, by go_num, HF2⟩
      · have HX : Hid (decide (kx ∈ σ.q) = false) := Lib.hid (HCX.out.trans (decide_eq_false (by rw [he]; decide)))
        subst he
        replace t1 : wA.cell? ⟨tb, 1, none⟩ = some (.int .i64 2) := t1
        clear hf0I hf2I hf2
        go_upto_region 11 with fail
        go_region_held3 (fun w' => w'.cell? ⟨b, 2, none⟩ = some (.slice F2 n2 d2) ∧ w'.cell? ⟨tb, 0, none⟩ = some (.int .u64 (kx : Nat)) ∧ w'.cell? ⟨tb, 1, none⟩ = some (.int .i64 2))
          (first | with_reducible exact kk1 | go_keep)
          (first | (go_at_call 20; refine (rhas_walk (ks := σ.q) (HQA.out.below (below_drewn (Below.refl _ _) _)) (by have := HQL.out; omega) kx).mono ?_; rintro e wh ⟨rfl, rfl⟩; rw [HX.out]; have kk1 : (wA.drewN 1).cell? ⟨b, 2, none⟩ = some (.slice F2 n2 d2) ∧ (wA.drewN 1).cell? ⟨tb, 0, none⟩ = some (.int .u64 (kx : Nat)) ∧ (wA.drewN 1).cell? ⟨tb, 1, none⟩ = some (.int .i64 2) := ⟨y2, t0, t1⟩))
        have HF2 := Lib.hid (HF.out.below HF.out.low.size (below_drewn (Below.refl wA.heap.size wA) 1))
        clear HF
        go_wp2
        go_roundg (gk - 1)
        case measure => omega
        case rel => exact ⟨i + 1, v5, by omega, rfl, by go_num, HF2⟩
    · have hltI : ¬ (i : Int) < (n1 : Int) := by omega
      obtain rfl : i = n1 := by omega
      have HKI : Hid (KV wr v7 (keysI σ.s)) := Lib.hid (by have h := HI.out.kv; rwa [← HN.out, List.take_length] at h)
      have HIL := Lib.hid HI.out.low
      obtain ⟨Fa, ca, ea, -⟩ := HKI.out.mem
      subst ea
      have K1 := Lib.hid (rapart_walk (kss := [keysI σ.s]) (KVV.one HKI.out 25) (by simp) (by simp [keysI_len, HN.out]; omega))
      clear HI HCQ hlt hi
      go_wp2_with fail
      refine K1.out.mono ?_
      rintro e wB ⟨rfl, hb⟩
      rw [decide_eq_true (show [keysI σ.s].flatten.Nodup by simpa using HND.out.1)]
      have HBB : Hid (Below w5.heap.size w5 wB) := Lib.hid (HIL.out.trans (((low_one wr _).trans (hb.mono (by simp))).mono HIL.out.size))
      clear hb K1 HIL HKI x0 x1 x2 hbb HST
      obtain ⟨hsB, ⟨x0, x1, x2⟩, hbb⟩ := HLD.out wB HBB.out
      have K2 := Lib.hid (rapart_walk (kss := [σ.q]) (KVV.one hsB.st.g2 25) (by simp) (by have := HQL.out; simp; omega))
      clear hsB
      go_wp2_with fail
      refine K2.out.mono ?_
      rintro e wC ⟨rfl, hb⟩
      rw [decide_eq_true (show [σ.q].flatten.Nodup by simpa using HND.out.2.1)]
      have HBC : Hid (Below w5.heap.size w5 wC) := Lib.hid (HBB.out.trans (((low_one wB _).trans (hb.mono (by simp))).mono HBB.out.size))
      clear hb K2 HBB x0 x1 x2 hbb
      obtain ⟨hsC, ⟨x0, x1, x2⟩, hbb⟩ := HLD.out wC HBC.out
      have K3 := Lib.hid (HKY.out _ _ _ hsC.st)
      clear hsC
      go_wp2_with fail
      refine K3.out.mono ?_
      rintro e wD ⟨vk, rfl, hb, hk⟩
      obtain ⟨Fk, ck, ek, -⟩ := hk.mem
      subst ek
      have HBD : Hid (Below w5.heap.size w5 wD) := Lib.hid (HBC.out.trans (hb.mono HBC.out.size))
      have K4 := Lib.hid (rapart_walk (kss := [σ.keys]) (KVV.one hk 25) (by simp) (by have := HKL.out; simp; omega))
      clear hb hk K3 HBC x0 x1 x2 hbb
      go_wp2_with fail
      refine K4.out.mono ?_
      rintro e wE ⟨rfl, hb⟩
      rw [decide_eq_true (show [σ.keys].flatten.Nodup by simpa using HND.out.2.2)]
      have HBE : Hid (Below w5.heap.size w5 wE) := Lib.hid (HBD.out.trans (((low_one wD _).trans (hb.mono (by simp))).mono HBD.out.size))
      have HE := Lib.hid (HLD.out wE HBE.out).1.low
      clear hb K4 HBD
      go_wp2
      go_ret
      exact ⟨rfl, HE.out⟩
theorem kinds12_walk (PO : Pol12Ok) (AW : ∀ w, Calls Try.prog 9 #[] w (RetB w true)) (c : Nat) (hc : c < 256) (ha : AV w v l) : Calls Try.prog 7 #[.int .u8 (c : Nat), v] w (RetB w true) := by
  by_cases hl : l.length ≤ 60
  · exact kinds12_short PO AW c hc ha hl
  · have HAW := Lib.hid (fun W => AW W)
    obtain ⟨A, cap, rfl, _⟩ := ha.mem
    obtain ⟨na, hna⟩ : ∃ na, l.length = na := ⟨_, rfl⟩
    rw [hna] at hl ⊢
    have hlI : (60 : Int) < (na : Int) := by omega
    clear ha hna AW
    go_enter Try.func7, Try.ntmps7
    go_wp2_with fail
    refine (HAW.out _).mono ?_
    rintro e w1 ⟨rfl, hb1⟩
    have HB := Lib.hid hb1
    clear hb1
    go_wp2
    go_ret
    exact ⟨rfl, HB.out⟩
end
end Go.Proofs.Ytjfhapobbglbpaa
