/- Words and walks: ElZ ElG. -/
import Derived.Test.YtkhikpnlpcankaaG21
import Derived.Test.YtkhikpnlpcankaaG26
namespace Go.Proofs.Ytkhikpnlpcankaa
open Go Go.RowKit Go.Deep
section
variable {w0 w w1 w' W : World} {xp : Nat} {o1 o2 v : Option Addr} {tp top : Nat} {s : L12}
set_option maxHeartbeats 4000000 in
theorem resize_any (HO : Opens v xp w w1) (h : CS w0 w1 xp o1 o2 s tp) (hf : s.Fine) (ho : s.Ord) (n : Int) (hn1 : -9223372036854775808 ≤ n) (hn2 : n ≤ 9223372036854775807) (hm : (s.sized (capI n)).cool.many (capI n) ≤ (s.sized (capI n)).cool.q.length) :
    Calls Try.prog 16 #[.pointer v, .int .i64 n] w fun e w' => ∃ o, e = .returned o ∧ CSP w0 w1 xp o1 o2 (L12.pevN ((s.sized (capI n)).cool.many (capI n)) (s.sized (capI n)).cool).forget tp w' ∧ KF w0.heap.size w1 w' o ((s.sized (capI n)).cool.q.take ((s.sized (capI n)).cool.many (capI n))) := by
  have HE := Lib.hid HO
  have HB := Lib.hid (ebounded_walk (w := w1) n hn1 hn2)
  obtain ⟨hc1, hc2⟩ := capI_pos n
  obtain ⟨c, hcc⟩ : ∃ c, capI n = c := ⟨_, rfl⟩
  rw [hcc] at HB hm hc1 hc2 ⊢
  have hfs : (s.sized c).Fine := ⟨hf.kinds, hf.at_⟩
  have hos := ho.sized c
  obtain ⟨g1, g2, g3, g4, g5, g6⟩ := hfs.cool
  have hoc := hos.cool hfs
  obtain ⟨σ, hσ⟩ : ∃ σ, (s.sized c).cool = σ := ⟨_, rfl⟩
  rw [hσ] at hm g1 g2 g3 g4 g5 g6 hoc ⊢
  have hσc : σ.c = c := g4
  obtain ⟨m, hmm⟩ : ∃ m, σ.many c = m := ⟨_, rfl⟩
  rw [hmm] at hm ⊢
  obtain ⟨p1, p2, p3, p4, p5, p6⟩ := L12.pevN_is m σ g1 hoc hm
  have HX : Hid (CSP w0 w1 xp o1 o2 (s.sized c) tp (w1.setCell ⟨xp, 2, none⟩ (.int .i64 (c : Nat)))) := Lib.hid (h.capS c)
  have HC : Hid (∀ W, CSP w0 w1 xp o1 o2 (s.sized c) tp W → Calls Try.prog 38 #[ptr xp] W fun e w' => e = .returned (.tuple #[]) ∧ CSP w0 w1 xp o1 o2 σ tp w') := Lib.hid (fun W hp => by
    rw [← hσ]
    refine (cool_walk hp.1 hfs (by show 1 ≤ c; omega) (by show c ≤ _; omega)).mono ?_
    rintro e w' ⟨rfl, q1, q2⟩
    exact ⟨rfl, q1, hp.2.trans q2⟩)
  have HV : Hid (∀ W, CSP w0 w1 xp o1 o2 σ tp W → Calls Try.prog 35 #[ptr xp, .int .i64 (c : Nat)] W fun e w' => ∃ o, e = .returned o ∧ CSP w0 w1 xp o1 o2 (L12.pevN m σ) tp w' ∧ KF w0.heap.size w1 w' o (σ.q.take m)) := Lib.hid (fun W hp => by
    refine (elevict_walk hp.1 g1 hoc (by omega) c (by omega) (by rw [hmm]; exact hm)).mono ?_
    rintro e w' ⟨o, rfl, q1, q2⟩
    rw [hmm] at q1 q2
    obtain ⟨B, b1, b2, b3, b4⟩ := q2
    exact ⟨o, rfl, ⟨q1.1, hp.2.trans q1.2⟩, B, b1, b2, b3, fun g hg => b4 g (hg.keep (hp.2 g hg))⟩)
  have HF : Hid (∀ W o, CSP w0 w1 xp o1 o2 (L12.pevN m σ) tp W → KF w0.heap.size w1 W o (σ.q.take m) → Calls Try.prog 39 #[ptr xp] W fun e w' => e = .returned (.tuple #[]) ∧ CSP w0 w1 xp o1 o2 (L12.pevN m σ).forget tp w' ∧ KF w0.heap.size w1 w' o (σ.q.take m)) := Lib.hid (fun W o hp hk => by
    refine (forget_walk hp.1 p1 (by rw [p4]; omega)).mono ?_
    rintro e w' ⟨rfl, q1, q2⟩
    exact ⟨rfl, ⟨q1, hp.2.trans q2⟩, hk.kn hp.2 q2 q1.below.size⟩)
  have HKC : Hid (∀ W, CSP w0 w1 xp o1 o2 σ tp W → C3 xp o1 o2 c W) := Lib.hid (fun W hp => by have := hp.1.cells; rw [hσc] at this; exact this)
  have hbox := c3_at h.box
  obtain ⟨c0, hc0⟩ : ∃ c0, s.c = c0 := ⟨_, rfl⟩
  rw [hc0] at hbox
  obtain ⟨⟨x0, x1, x2⟩, f0, f1, f2⟩ := hbox
  obtain ⟨W1, hW1⟩ : ∃ W1, w1.setCell ⟨xp, 2, none⟩ (.int .i64 (c : Nat)) = W1 := ⟨_, rfl⟩
  rw [hW1] at HX
  clear h hf ho hm hcc hfs hos g1 g2 g3 g4 g5 g6 hoc hσ hσc hmm p1 p2 p3 p4 p5 p6 HO hc0
  go_enter Try.func16, Try.ntmps16
  go_wp2_with fail
  refine HE.out.mono ?_
  rintro e w2 ⟨rfl, rfl⟩
  go_wp2_with fail
  refine HB.out.mono ?_
  rintro e w3 ⟨rfl, rfl⟩
  go_upto_region 3 with fail
  clear x0 x1 x2 f0 f1 f2 HB
  clear hW1
  go_wp2_with fail
  refine (HC.out _ HX.out).mono ?_
  rintro e w4 ⟨rfl, h4⟩
  obtain ⟨x0, x1, x2⟩ := HKC.out w4 h4
  have H4 := Lib.hid (HV.out w4 h4)
  clear h4 HC HV HKC HX
  go_wp2_with fail
  refine H4.out.mono ?_
  rintro e w5 ⟨o, rfl, h5, k5⟩
  have H5 := Lib.hid (HF.out w5 o h5 k5)
  clear h5 k5 H4 HF x0 x1 x2
  go_wp2_with fail
  refine H5.out.mono ?_
  rintro e w6 ⟨rfl, h6, k6⟩
  have H6 := Lib.hid (And.intro h6 k6)
  clear h6 k6 H5
  go_wp2
  go_ret
  exact ⟨o, rfl, H6.out⟩
theorem eresize_walk (h : EC w0 w xp s top) (n : Int) (hn1 : -9223372036854775808 ≤ n) (hn2 : n ≤ 9223372036854775807) :
    Calls Try.prog 16 #[ptr xp, .int .i64 n] w (EPo w0 w xp (s.resize n) top (s.resizeOut n)) := by
  obtain ⟨sp, kp, hx⟩ := h.mem
  obtain ⟨e1, e2, e3⟩ := L12.resize_is h.ok h.ord n
  refine (resize_any (opens_is xp w) hx h.ok.fine h.ord n hn1 hn2 e3).mono ?_
  rintro e w' ⟨o, rfl, ⟨g1, g2⟩, g3⟩
  rw [← e1] at g1
  rw [← e2] at g3
  exact ⟨o, rfl, ⟨⟨(h.ok.resize' n).1, h.ord.resize h.ok n, h.small, sp, kp, g1⟩, g2⟩, g3.kv⟩
set_option maxHeartbeats 1000000 in
theorem enew_walk (hb : Below w0.heap.size w0 w) (n : Int) (hn1 : -9223372036854775808 ≤ n) (hn2 : n ≤ 9223372036854775807) :
    Calls Try.prog 6 #[.int .i64 n] w fun e w' => ∃ xp, e = .returned (ptr xp) ∧ EP w0 w xp (L12.new n) 0 w' := by
  have HN : Hid (Calls Try.prog 21 #[.int .i64 1] w fun e w' => ∃ sp, e = .returned (ptr sp) ∧ SK w0 w' sp 1 (fun _ => []) 0 [] ∧ Kn w w') := Lib.hid (by
    refine (si_new hb (K := allN w) (fun k hk => (allN_mem.1 hk).lt) 1).mono ?_
    rintro e w2 ⟨sp, rfl, h, hk⟩
    have h' : SI w0 w2 sp 1 (fun _ => []) 8 Tb.new 0 (allN w) := h
    exact ⟨sp, rfl, ⟨8, Tb.new, (h'.less (K' := []) (by simp)).congr (fun t ht => by obtain rfl : t = 0 := by omega
                                                                                     rfl), R8.start⟩, fun g hg => hk g (allN_mem.2 hg)⟩)
  have HM : Hid (∀ W sp, SK w0 W sp 1 (fun _ => []) 0 [] → Kn w W → Calls Try.prog 21 #[.int .i64 3] W fun e w' => ∃ kp, e = .returned (ptr kp) ∧ Tw w0 w' (fun w K => SK w0 w sp 1 (fun _ => []) 0 K) (fun w K => SK w0 w kp 3 (fun _ => []) 0 K) [] ∧ Kn w w') := Lib.hid (fun W sp hs hkw => by
    obtain ⟨F, f1, f2⟩ := hs.foot
    refine (si_new hs.below (K := F ++ allN W) (fun k hk => by
      rcases List.mem_append.1 hk with q | q
      · exact (f1.sty k q).lt
      · exact (allN_mem.1 q).lt) 3).mono ?_
    rintro e w2 ⟨kp, rfl, h, hk⟩
    have h' : SI w0 w2 kp 3 (fun _ => []) 8 Tb.new 0 (F ++ allN W) := h
    have h2 : SK w0 w2 kp 3 (fun _ => []) 0 (F ++ allN W) := ⟨8, Tb.new, h'.congr (fun t ht => by rcases three ht with rfl | rfl | rfl <;> rfl), R8.start⟩
    obtain ⟨G, g1, g2⟩ := h2.foot
    refine ⟨kp, rfl, ⟨F, G, f1.move (fun k q => hk k (by simp [q])), g1, fun k q q2 => g2 k q2 (by simp [q]), fun _ _ => by simp, fun _ _ => by simp, h2.below, by simp⟩, fun g hg => ?_⟩
    have h3 := hkw g hg
    exact (hk g (by simp [allN_mem.2 (hg.keep h3)])).trans h3)
  have HB := Lib.hid (fun (W : World) => ebounded_walk (w := W) n hn1 hn2)
  have HOK := Lib.hid (L12.ok_new n)
  have HOR := Lib.hid (L12.ord_new n)
  have hsz := hb.size
  obtain ⟨c, hc⟩ : ∃ c, capI n = c := ⟨_, rfl⟩
  have HE : Hid (L12.new n = ⟨c, [], []⟩) := Lib.hid (by rw [← hc]; rfl)
  rw [hc] at HB
  rw [HE.out] at HOK HOR ⊢
  clear hc HE hb
  go_enter Try.func6, Try.ntmps6
  go_wp2_with fail
  refine HN.out.mono ?_
  rintro e w2 ⟨sp, rfl, h, hk⟩
  have H2 := Lib.hid (HM.out w2 sp h hk)
  clear h hk HN HM
  go_wp2_with fail
  refine H2.out.mono ?_
  rintro e w3 ⟨kp, rfl, h, hk⟩
  have H3 := Lib.hid h
  have HK := Lib.hid hk
  clear h hk H2
  go_wp2_with fail
  refine (HB.out w3).mono ?_
  rintro e w4 ⟨rfl, rfl⟩
  have hlow := low_one w3 (.cells (cacheC (some ⟨sp, 0, none⟩) (some ⟨kp, 0, none⟩) c) CaT)
  have hz3 := H3.out.below.size
  have hA := heap_alloc_new w3 (.cells (cacheC (some ⟨sp, 0, none⟩) (some ⟨kp, 0, none⟩) c) CaT)
  have HF : Hid (EP w0 w w3.heap.size ⟨c, [], []⟩ 0 (w3.alloc (.cells (cacheC (some ⟨sp, 0, none⟩) (some ⟨kp, 0, none⟩) c) CaT))) := Lib.hid ⟨⟨HOK.out, HOR.out, by decide, sp, kp, hA, .inl ⟨sp, kp, rfl, rfl, by
      obtain ⟨F, G, h1, h2, h3, h4, h5, h6, h7⟩ := H3.out
      have h2' : Ft w0 w3 (fun w K => SK w0 w kp 3 (qK (⟨c, [], []⟩ : L12)) 0 K) G := ⟨h2.old, h2.sty, fun w' K' a b d => (h2.keep w' K' a b d).congr (fun t ht => by rcases three ht with rfl | rfl | rfl <;> rfl)⟩
      refine ⟨F, G, h1.move (fun k q => hlow.block k (h1.sty k q).lt), h2'.move (fun k q => hlow.block k (h2.sty k q).lt), h3, fun k q q2 => ?_, fun k q q2 => ?_, h6.trans (hlow.mono h6.size), fun k q => ?_⟩
      · simp only [List.mem_singleton] at q2
        have := (h1.sty k q).lt
        omega
      · simp only [List.mem_singleton] at q2
        have := (h2.sty k q).lt
        omega
      · simp only [List.mem_singleton] at q
        subst q
        exact (head_row hA).lt⟩, hz3, by decide⟩, HK.out.trans (Kn.below hlow)⟩
  clear hlow hz3 hA
  go_wp2
  go_ret
  exact ⟨_, rfl, HF.out⟩
end
section
variable {w0 w w1 w' W : World} {xp : Nat} {o1 o2 v : Option Addr} {c : Nat} {S : List Nat} {l : Nat → List Nat} {tp top : Nat} {s : L12}
theorem KO.slice {B : Nat} {u : Value} {ks : List Nat} (h : KO B w w' u ks) : ∃ F d, u = .slice F ks.length d := by
  obtain ⟨F, d, e, _⟩ := h.kv.mem
  exact ⟨F, d, e⟩
theorem queue_walk (h : CX w0 w xp o1 o2 c S l tp) (hb : Below w.heap.size w W) {ks : List Nat} (hk : (l 1).reverse = ks) :
    Calls Try.prog 26 #[ptr xp] W fun e w' => ∃ F d, e = .returned (.slice F ks.length d) ∧ Below W.heap.size W w' ∧ KO W.heap.size W w' (.slice F ks.length d) ks := by
  have hX := h.still hb
  have HK : Hid (Calls Try.prog 30 #[.pointer o2, .int .i64 1] W fun e w' => ∃ F d, e = .returned (.slice F ks.length d) ∧ KO W.heap.size W w' (.slice F ks.length d) (l 1)) := Lib.hid (by
    refine (t_keys2 hX.t2 hX.small (t := 1) (by decide)).mono ?_
    rintro e w' ⟨u, rfl, _, g2⟩
    obtain ⟨F, d, rfl⟩ := g2.slice
    have e1 : (l 1).length = ks.length := by rw [← hk, List.length_reverse]
    rw [e1] at g2 ⊢
    exact ⟨F, d, rfl, g2⟩)
  have hlen : (l 1).length ≤ 100000000 := by have := hX.t2.sum.2; have := hX.small; omega
  have HR : Hid (∀ w2 F d, KO W.heap.size W w2 (.slice F ks.length d) (l 1) → Calls Try.prog 43 #[.slice F ks.length d] w2 fun e w' => e = .returned (.tuple #[]) ∧ KO W.heap.size W w' (.slice F ks.length d) ks) := Lib.hid (fun w2 F d ho => by
    refine (revK12_walk ho ho.low.size hlen).mono ?_
    rintro e w' ⟨rfl, g1, _⟩
    rw [hk] at g1
    exact ⟨rfl, g1⟩)
  obtain ⟨x0, x1, x2⟩ := hX.cells
  clear h hb hX hlen hk
  go_enter Try.func26, Try.ntmps26
  go_wp2_with fail
  refine HK.out.mono ?_
  rintro e w2 ⟨F, d, rfl, h2⟩
  have H2 := Lib.hid (HR.out w2 F d h2)
  clear h2 HK HR x0 x1 x2
  go_wp2_with fail
  refine H2.out.mono ?_
  rintro e w3 ⟨rfl, h3⟩
  have H3 := Lib.hid h3
  clear h3 H2
  go_wp2
  go_ret
  exact ⟨F, d, rfl, H3.out.low, H3.out⟩
set_option maxHeartbeats 4000000 in
theorem keys_any (HO : Opens v xp w w1) (h : CS w0 w1 xp o1 o2 s tp) :
    Calls Try.prog 12 #[.pointer v] w (fun e w' => ∃ u, e = .returned u ∧ Below w1.heap.size w1 w' ∧ KV w' u s.keys) := by
  have HE := Lib.hid HO
  obtain ⟨x0, x1, x2⟩ := h.cells
  have HKC : Hid (∀ W, Below w1.heap.size w1 W → C3 xp o1 o2 s.c W) := Lib.hid (fun W hb => (h.still hb).cells)
  have HK0 : Hid (∀ W, Below w1.heap.size w1 W → Calls Try.prog 30 #[.pointer o2, .int .i64 2] W fun e w' => ∃ F n d, e = .returned (.slice F n d) ∧ Below w1.heap.size w1 w' ∧ KV w' (.slice F n d) (hotK s.s) ∧ Below W.heap.size W w') := Lib.hid (fun W hb => by
    refine (t_keys2 (h.still hb).t2 h.small (t := 2) (by decide)).mono ?_
    rintro e w' ⟨u, rfl, g1, g2⟩
    obtain ⟨F, d, rfl⟩ := g2.slice
    exact ⟨F, _, d, rfl, hb.trans (g1.mono hb.size), g2.kv, g1⟩)
  have HK1 : Hid (∀ W, Below w1.heap.size w1 W → Calls Try.prog 26 #[ptr xp] W fun e w' => ∃ F n d, e = .returned (.slice F n d) ∧ Below w1.heap.size w1 w' ∧ KV w' (.slice F n d) s.q ∧ Below W.heap.size W w') := Lib.hid (fun W hb => by
    refine (queue_walk h hb (ks := s.q) (List.reverse_reverse _)).mono ?_
    rintro e w' ⟨F, d, rfl, g1, g2⟩
    exact ⟨F, _, d, rfl, hb.trans (g1.mono hb.size), g2.kv, g1⟩)
  have hkl : s.keys.length ≤ 100000000 := by
    have h1 := h.sums
    have h2 := h.small
    rw [L12.keys_len]
    omega
  have HF : Hid ([hotK s.s, s.q].flatten = s.keys ∧ s.keys.length ≤ 100000000) := Lib.hid ⟨by simp [L12.keys], hkl⟩
  clear h hkl HO
  go_enter Try.func12, Try.ntmps12
  go_wp2_with fail
  refine HE.out.mono ?_
  rintro e w2 ⟨rfl, rfl⟩
  go_wp2_with fail
  refine (HK0.out _ (Below.refl _ _)).mono ?_
  rintro e w5 ⟨F5, n5, d5, rfl, hb5, hv5, hb5b⟩
  have H5 := Lib.hid (HK1.out w5 hb5)
  have HV5 := Lib.hid hv5
  clear hv5 hb5 hb5b HK0 HK1 HKC x0 x1 x2
  go_wp2_with fail
  refine H5.out.mono ?_
  rintro e w6 ⟨F6, n6, d6, rfl, hb6, hv6, hb6b⟩
  have HC := Lib.hid (concat_walk (KVV.two (HV5.out.below hb6b) hv6 26) (by simp) (by rw [HF.out.1]; exact HF.out.2))
  have hlow := low_one w6 (.cells #[.slice F5 n5 d5, .slice F6 n6 d6] 26)
  have HB := Lib.hid (And.intro hb6 hlow)
  clear hv6 hb6 hb6b hlow H5 HV5
  go_wp2_with fail
  refine HC.out.mono ?_
  rintro e w7 ⟨v7, rfl, hk7⟩
  rw [HF.out.1] at hk7
  have HL : Hid (Below w2.heap.size w2 w7 ∧ KV w7 v7 s.keys) := Lib.hid ⟨(HB.out.1.trans (HB.out.2.mono HB.out.1.size)).trans (hk7.low.mono (Nat.le_trans HB.out.1.size HB.out.2.size)), hk7.kv⟩
  clear hk7 HC HB
  go_wp2
  go_ret
  exact ⟨_, rfl, HL.out.1, HL.out.2⟩
theorem ekeys_walk (h : EC w0 w xp s top) :
    Calls Try.prog 12 #[ptr xp] w (RetK w s.keys) := by
  obtain ⟨sp, kp, hx⟩ := h.mem
  exact keys_any (opens_is xp w) hx
theorem t_rooms1 {K : List Nat} (h : T2 w0 w o1 o2 S l tp K) : Calls Try.prog 28 #[.pointer o1] w fun e w' => ∃ a b : Nat, e = .returned (.tuple #[.int .i64 (a : Nat), .int .i64 (b : Nat)]) ∧ Below w.heap.size w w' ∧ a ≤ 2 * tp + 8 ∧ b ≤ 3 * tp + 8 ∧ (o1 = none → a = 0 ∧ b = 0) := by
  rcases h with ⟨sp, kp, rfl, rfl, h⟩ | ⟨rfl, rfl, rfl, e4, h⟩
  · exact (m_rooms h.one).mono (fun e w' ⟨a, b, he, g1, g2, g3, g4, g5⟩ => ⟨a, b, he, g1, g4, g5, fun q => by cases q⟩)
  · exact (nRooms w).mono (fun e w' ⟨he, hb⟩ => ⟨0, 0, he, hb, Nat.zero_le _, Nat.zero_le _, fun _ => ⟨rfl, rfl⟩⟩)
theorem t_rooms2 {K : List Nat} (h : T2 w0 w o1 o2 S l tp K) : Calls Try.prog 28 #[.pointer o2] w fun e w' => ∃ a b : Nat, e = .returned (.tuple #[.int .i64 (a : Nat), .int .i64 (b : Nat)]) ∧ Below w.heap.size w w' ∧ (l 1).length + (l 2).length ≤ a ∧ (l 1).length + (l 2).length ≤ b ∧ a ≤ 2 * tp + 8 ∧ b ≤ 3 * tp + 8 ∧ (o1 = none → a = 0 ∧ b = 0) := by
  rcases h with ⟨sp, kp, rfl, rfl, h⟩ | ⟨rfl, rfl, rfl, e4, h⟩
  · refine (m_rooms h.swap.one).mono (fun e w' ⟨a, b, he, g1, g2, g3, g4, g5⟩ => ⟨a, b, he, g1, ?_, ?_, g4, g5, fun q => by cases q⟩) <;>
    · simp only [sumE, qm_len] at g2 g3
      omega
  · rw [e4 1 (by decide), e4 2 (by decide)]
    exact (nRooms w).mono (fun e w' ⟨he, hb⟩ => ⟨0, 0, he, hb, Nat.le_refl _, Nat.le_refl _, Nat.zero_le _, Nat.zero_le _, fun _ => ⟨rfl, rfl⟩⟩)
theorem rooms_any (HO : Opens v xp w w1) (h : CS w0 w1 xp o1 o2 s tp) :
    Calls Try.prog 10 #[.pointer v] w fun e w' => ∃ a b : Nat, e = .returned (.tuple #[.int .i64 (a : Nat), .int .i64 (b : Nat)]) ∧ Below w1.heap.size w1 w' ∧ s.keys.length ≤ a ∧ s.keys.length ≤ b ∧ a ≤ 4 * tp + 16 ∧ b ≤ 6 * tp + 16 ∧ (o1 = none → a = 0 ∧ b = 0) := by
  have HE := Lib.hid HO
  have hkl : s.keys.length = (qK s 1).length + (qK s 2).length := by
    rw [L12.keys_len]
    have e1 : (qK s 1).length = s.q.length := List.length_reverse
    have e2 : (qK s 2).length = nk 2 s.s := kk_len
    omega
  have hs2 := h.small
  have HR1 : Hid (Calls Try.prog 28 #[.pointer o1] w1 fun e w' => ∃ a b : Nat, e = .returned (.tuple #[.int .i64 (a : Nat), .int .i64 (b : Nat)]) ∧ Below w1.heap.size w1 w' ∧ a ≤ 2 * tp + 8 ∧ b ≤ 3 * tp + 8 ∧ (o1 = none → a = 0 ∧ b = 0)) := Lib.hid (t_rooms1 h.t2)
  have HR2 : Hid (∀ W, Below w1.heap.size w1 W → Calls Try.prog 28 #[.pointer o2] W fun e w' => ∃ a b : Nat, e = .returned (.tuple #[.int .i64 (a : Nat), .int .i64 (b : Nat)]) ∧ Below w1.heap.size w1 w' ∧ s.keys.length ≤ a ∧ s.keys.length ≤ b ∧ a ≤ 2 * tp + 8 ∧ b ≤ 3 * tp + 8 ∧ (o1 = none → a = 0 ∧ b = 0)) := Lib.hid (fun W hb => by
    refine (t_rooms2 (h.still hb).t2).mono ?_
    rintro e w' ⟨a, b, rfl, g1, g2, g3, g4⟩
    exact ⟨a, b, rfl, hb.trans (g1.mono hb.size), by omega, by omega, g4⟩)
  have HKC : Hid (∀ W, Below w1.heap.size w1 W → C3 xp o1 o2 s.c W) := Lib.hid (fun W hb => (h.still hb).cells)
  obtain ⟨x0, x1, x2⟩ := h.cells
  clear h hkl HO
  go_enter Try.func10, Try.ntmps10
  go_wp2_with fail
  refine HE.out.mono ?_
  rintro e w2 ⟨rfl, rfl⟩
  go_wp2_with fail
  refine HR1.out.mono ?_
  rintro e w3 ⟨a1, b1, rfl, hb3, ha1, hb1, hz1⟩
  clear x0 x1 x2
  obtain ⟨x0, x1, x2⟩ := HKC.out w3 hb3
  have H3 := Lib.hid (HR2.out w3 hb3)
  have HZ1 := Lib.hid hz1
  clear hb3 HR1 HR2 HKC hz1
  go_wp2_with fail
  refine H3.out.mono ?_
  rintro e w4 ⟨a2, b2, rfl, hb4, hka, hkb, ha2, hb2, hz2⟩
  have HP : Hid (∃ a b : Nat, Ending.returned (.tuple #[.int .i64 ((a1 : Int) + (a2 : Int)), .int .i64 ((b1 : Int) + (b2 : Int))]) = .returned (.tuple #[.int .i64 (a : Nat), .int .i64 (b : Nat)]) ∧ Below w2.heap.size w2 w4 ∧ s.keys.length ≤ a ∧ s.keys.length ≤ b ∧ a ≤ 4 * tp + 16 ∧ b ≤ 6 * tp + 16 ∧ (o1 = none → a = 0 ∧ b = 0)) := Lib.hid ⟨a1 + a2, b1 + b2, by simp, hb4, by omega, by omega, by omega, by omega, fun q => by
    have q1 := HZ1.out q
    have q2 := hz2 q
    omega⟩
  have hwa : IntKind.i64.wrap ((a1 : Int) + (a2 : Int)) = (a1 : Int) + (a2 : Int) := IntWalk.i64_in _ (by omega)
  have hwb : IntKind.i64.wrap ((b1 : Int) + (b2 : Int)) = (b1 : Int) + (b2 : Int) := IntWalk.i64_in _ (by omega)
  have ga : (a1 : Int) + (a2 : Int) ≤ 100000 := by omega
  have gb : (b1 : Int) + (b2 : Int) ≤ 100000 := by omega
  have ga0 : (0 : Int) ≤ (a1 : Int) + (a2 : Int) := by omega
  have gb0 : (0 : Int) ≤ (b1 : Int) + (b2 : Int) := by omega
  clear hb4 H3 HZ1 hz2 hka hkb x0 x1 x2 ha1 hb1 ha2 hb2
  go_wp2
  exact bodyPost_ret (v := .tuple #[.int .i64 ((a1 : Int) + (a2 : Int)), .int .i64 ((b1 : Int) + (b2 : Int))]) (by simp [results, Try.results10, go_sem]) rfl HP.out
theorem erooms_walk (h : EC w0 w xp s top) :
    Calls Try.prog 10 #[ptr xp] w fun e w' => ∃ a b : Nat, e = .returned (.tuple #[.int .i64 (a : Nat), .int .i64 (b : Nat)]) ∧ Below w.heap.size w w' ∧ s.keys.length ≤ a ∧ s.keys.length ≤ b ∧ a ≤ 12 * top + 32 ∧ b ≤ 12 * top + 32 := by
  obtain ⟨sp, kp, hx⟩ := h.mem
  refine (rooms_any (opens_is xp w) hx).mono ?_
  rintro e w' ⟨a, b, he, g1, g2, g3, g4, g5, _⟩
  exact ⟨a, b, he, g1, g2, g3, by omega, by omega⟩
end
end Go.Proofs.Ytkhikpnlpcankaa
