/- Words and walks: ElX ElA. -/
import Derived.Test.YtkhikpnlpcankaaGreatG1
import Derived.Test.YtkhikpnlpcankaaGreatG36
namespace Go.Proofs.YtkhikpnlpcankaaGreat
open Go Go.RowKit Go.Deep
section
variable {w0 w w1 w' W : World} {xp : Nat} {o1 o2 v : Option Addr} {tp top : Nat} {s : L12} {k : Nat}
abbrev Opens (v : Option Addr) (xp : Nat) (w w1 : World) : Prop := Calls Tryz.prog 41 #[.pointer v] w fun e w' => e = .returned (ptr xp) ∧ w' = w1
theorem opens_is (xp : Nat) (w : World) : Opens (some ⟨xp, 0, none⟩) xp w w := (eopen_walk xp).mono (fun _ _ ⟨he, hw⟩ => ⟨he, hw.symm⟩)
def L12.none_ : L12 := ⟨0, [], []⟩
theorem has_any (HO : Opens v xp w w1) (h : CS w0 w1 xp o1 o2 s tp) (h64 : k < 18446744073709551616) :
    Calls Tryz.prog 16 #[.pointer v, .int .u64 (k : Nat)] w fun e w' => e = .returned (.bool (decide (k ∈ s.keys))) ∧ Below w1.heap.size w1 w' := by
  have hcase : ∃ (q : Int) (b : Bool), (Calls Tryz.prog 46 #[.pointer o2, .int .u64 (k : Nat)] w1 fun e w' => e = .returned (.tuple #[.int .i64 q, .bool b]) ∧ Below w1.heap.size w1 w') ∧
      (q = 0 ∧ b = true ∧ decide (k ∈ s.keys) = false ∨ q = 1 ∧ b = true ∧ decide (k ∈ s.keys) = true ∨ q = 2 ∧ b = true ∧ decide (k ∈ s.keys) = true ∨ q = 0 ∧ b = false ∧ decide (k ∈ s.keys) = false) := by
    by_cases q1 : k ∈ qK s 1
    · exact ⟨1, true, t_find2 h.t2 h.small (t := 1) (by decide) q1, .inr (.inl ⟨rfl, rfl, decide_eq_true ((L12.keys_qK s k).2 (.inl q1))⟩)⟩
    · by_cases q2 : k ∈ qK s 2
      · exact ⟨2, true, t_find2 h.t2 h.small (t := 2) (by decide) q2, .inr (.inr (.inl ⟨rfl, rfl, decide_eq_true ((L12.keys_qK s k).2 (.inr q2))⟩))⟩
      · have hn : decide (k ∈ s.keys) = false := decide_eq_false (fun q => ((L12.keys_qK s k).1 q).elim q1 q2)
        by_cases q0 : k ∈ qK s 0
        · exact ⟨0, true, t_find2 h.t2 h.small (t := 0) (by decide) q0, .inl ⟨rfl, rfl, hn⟩⟩
        · exact ⟨0, false, t_find2_no h.t2 h.small k h64 (fun t ht => by rcases three ht with rfl | rfl | rfl <;> assumption), .inr (.inr (.inr ⟨rfl, rfl, hn⟩))⟩
  obtain ⟨q, b, hF, hqb⟩ := hcase
  have HF := Lib.hid hF
  have HE := Lib.hid HO
  obtain ⟨x0, x1, x2⟩ := h.cells
  obtain ⟨r, hr⟩ : ∃ r, decide (k ∈ s.keys) = r := ⟨_, rfl⟩
  rw [hr] at hqb ⊢
  clear h hF HO hr
  rcases hqb with ⟨rfl, rfl, rfl⟩ | ⟨rfl, rfl, rfl⟩ | ⟨rfl, rfl, rfl⟩ | ⟨rfl, rfl, rfl⟩
  all_goals
    go_enter Tryz.func16, Tryz.ntmps16
    go_wp2_with fail
    refine HE.out.mono ?_
    rintro e w2 ⟨rfl, rfl⟩
    go_wp2_with fail
    refine HF.out.mono ?_
    rintro e w2 ⟨rfl, hb⟩
    have HP := Lib.hid hb
    clear hb x0 x1 x2
    go_wp2
    go_ret
    exact ⟨rfl, HP.out⟩
theorem ehas_walk (h : EC w0 w xp s top) (k : Nat) (h64 : k < 18446744073709551616) :
    Calls Tryz.prog 16 #[ptr xp, .int .u64 (k : Nat)] w (RetB w (decide (k ∈ s.keys))) := by
  obtain ⟨sp, kp, hx⟩ := h.mem
  exact has_any (opens_is xp w) hx h64
theorem ghosts_any (HO : Opens v xp w w1) (h : CS w0 w1 xp o1 o2 s tp) :
    Calls Tryz.prog 18 #[.pointer v] w fun e w' => e = .returned (.int .i64 (s.ghosts : Nat)) ∧ Below w1.heap.size w1 w' := by
  have HL := Lib.hid (cs_len h (t := 0) (n := s.ghosts) (by decide) kk_len w1 (Below.refl _ _))
  have HE := Lib.hid HO
  obtain ⟨x0, x1, x2⟩ := h.cells
  clear h HO
  go_enter Tryz.func18, Tryz.ntmps18
  go_wp2_with fail
  refine HE.out.mono ?_
  rintro e w2 ⟨rfl, rfl⟩
  go_wp2_with fail
  refine HL.out.mono ?_
  rintro e w2 ⟨rfl, hb⟩
  have HP := Lib.hid hb
  clear hb x0 x1 x2
  go_wp2
  go_ret
  exact ⟨rfl, HP.out⟩
theorem eghosts_walk (h : EC w0 w xp s top) :
    Calls Tryz.prog 18 #[ptr xp] w fun e w' => e = .returned (.int .i64 (s.ghosts : Nat)) ∧ Below w.heap.size w w' := by
  obtain ⟨sp, kp, hx⟩ := h.mem
  exact ghosts_any (opens_is xp w) hx
theorem drop_any (HO : Opens v xp w w1) (h : CS w0 w1 xp o1 o2 s tp) (hf : s.Fine) (h64 : k < 18446744073709551616) :
    Calls Tryz.prog 35 #[.pointer v, .int .u64 (k : Nat)] w fun e w' => e = .returned (.tuple #[]) ∧ CSP w0 w1 xp o1 o2 (s.drop k) tp w' := by
  have HE := Lib.hid HO
  have HG := Lib.hid (gone_walk h h64)
  have HP : Hid (∀ W, CSP w0 w1 xp o1 o2 (s.gone k) tp W → Calls Tryz.prog 70 #[ptr xp] W fun e w' => e = .returned (.tuple #[]) ∧ CSP w0 w1 xp o1 o2 (s.drop k) tp w') := Lib.hid (fun W hp => by
    refine (prune_walk hp.1 hf.less0).mono ?_
    rintro e w' ⟨rfl, g1, g2⟩
    exact ⟨rfl, g1, hp.2.trans g2⟩)
  clear h hf HO
  go_enter Tryz.func35, Tryz.ntmps35
  go_wp2_with fail
  refine HE.out.mono ?_
  rintro e w2 ⟨rfl, rfl⟩
  go_wp2_with fail
  refine HG.out.mono ?_
  rintro e w3 ⟨rfl, h3⟩
  have H3 := Lib.hid (HP.out w3 h3)
  clear h3 HG HP
  go_wp2_with fail
  refine H3.out.mono ?_
  rintro e w4 ⟨rfl, h4⟩
  have H4 := Lib.hid h4
  clear h4 H3
  go_wp2
  exact bodyPost_end (v := .tuple #[]) (by simp [results, Tryz.results35, go_sem]) rfl ⟨rfl, H4.out⟩
theorem edrop_walk (h : EC w0 w xp s top) (k : Nat) (h64 : k < 18446744073709551616) :
    Calls Tryz.prog 35 #[ptr xp, .int .u64 (k : Nat)] w fun e w' => e = .returned (.tuple #[]) ∧ EP w0 w xp (s.drop k) top w' := by
  obtain ⟨sp, kp, hx⟩ := h.mem
  refine (drop_any (opens_is xp w) hx h.ok.fine h64).mono ?_
  rintro e w' ⟨rfl, g1, g2⟩
  exact ⟨rfl, ⟨(h.ok.drop k).1, h.ord.drop k, h.small, sp, kp, g1⟩, g2⟩
set_option maxHeartbeats 1000000 in
theorem use_walk {sp kp : Nat} (h : CS w0 w xp (some ⟨sp, 0, none⟩) (some ⟨kp, 0, none⟩) s tp) (hf : s.Fine) (hc1 : 1 ≤ s.c) (hc : s.c ≤ 1048576) (h64 : k < 18446744073709551616)
    (hr1 : k ∈ keysI s.s ∨ s.s.length + 1 ≤ tp) (hr2 : (∃ t, t < 3 ∧ k ∈ qK s t) ∨ nk 0 s.s + s.q.length + nk 2 s.s + 1 ≤ tp) (b : Bool) :
    Calls Tryz.prog 65 #[ptr xp, .int .u64 (k : Nat), .bool b] w fun e w' => e = .returned (.tuple #[]) ∧ CSP w0 w xp (some ⟨sp, 0, none⟩) (some ⟨kp, 0, none⟩) (s.use k b) tp w' := by
  have HL1 := Lib.hid (lay1_walk h h64 (hr1.imp id (fun q => by rw [show (keysI s.s).length = s.s.length from List.length_map _]; exact q)))
  have hr3 : (∃ t, t < 3 ∧ k ∈ qK s t) ∨ (qK s 0).length + (qK s 1).length + (qK s 2).length + 1 ≤ tp := hr2.imp id (fun q => by
    have e0 : (qK s 0).length = nk 0 s.s := kk_len
    have e1 : (qK s 1).length = s.q.length := List.length_reverse
    have e2 : (qK s 2).length = nk 2 s.s := kk_len
    omega)
  have hlc : (s.lay k b).c = s.c := by cases b <;> rfl
  have HL2 : Hid (∀ W, CP w0 w xp (some ⟨sp, 0, none⟩) (some ⟨kp, 0, none⟩) s.c (k :: wo k (keysI s.s)) (qK s) tp W → Calls Tryz.prog 110 #[ptr kp, .int .i64 (L12.bit b : Nat), .int .u64 (k : Nat)] W fun e w' => e = .returned (.tuple #[]) ∧ CSP w0 w xp (some ⟨sp, 0, none⟩) (some ⟨kp, 0, none⟩) (s.lay k b) tp w') := Lib.hid (fun W hp => by
    refine (lay2_walk hp.1 h64 (u := L12.bit b) (by cases b <;> decide) hr3).mono ?_
    rintro e w' ⟨rfl, g1, g2⟩
    refine ⟨rfl, ?_, hp.2.trans g2⟩
    have g3 := g1.congr (fun t ht => L12.qK_lay s k b ht) (L12.lay_keys s k b).symm
    show CX w0 w' xp (some ⟨sp, 0, none⟩) (some ⟨kp, 0, none⟩) (s.lay k b).c _ _ tp
    rw [hlc]
    exact g3)
  have HC : Hid (∀ W, CSP w0 w xp (some ⟨sp, 0, none⟩) (some ⟨kp, 0, none⟩) (s.lay k b) tp W → Calls Tryz.prog 71 #[ptr xp] W fun e w' => e = .returned (.tuple #[]) ∧ CSP w0 w xp (some ⟨sp, 0, none⟩) (some ⟨kp, 0, none⟩) (s.lay k b).cool tp w') := Lib.hid (fun W hp => by
    refine (cool_walk hp.1 (hf.lay h64 b) (by omega) (by omega)).mono ?_
    rintro e w' ⟨rfl, g1, g2⟩
    exact ⟨rfl, g1, hp.2.trans g2⟩)
  have HP : Hid (∀ W, CSP w0 w xp (some ⟨sp, 0, none⟩) (some ⟨kp, 0, none⟩) (s.lay k b).cool tp W → Calls Tryz.prog 70 #[ptr xp] W fun e w' => e = .returned (.tuple #[]) ∧ CSP w0 w xp (some ⟨sp, 0, none⟩) (some ⟨kp, 0, none⟩) (s.use k b) tp w') := Lib.hid (fun W hp => by
    refine (prune_walk hp.1 (hf.lay h64 b).cool.1).mono ?_
    rintro e w' ⟨rfl, g1, g2⟩
    exact ⟨rfl, g1, hp.2.trans g2⟩)
  have HKC : Hid (∀ W, CP w0 w xp (some ⟨sp, 0, none⟩) (some ⟨kp, 0, none⟩) s.c (k :: wo k (keysI s.s)) (qK s) tp W → C3 xp (some ⟨sp, 0, none⟩) (some ⟨kp, 0, none⟩) s.c W) := Lib.hid (fun W hp => hp.1.cells)
  obtain ⟨x0, x1, x2⟩ := h.cells
  clear h hf hr1 hr2 hr3 hlc
  cases b
  all_goals
    go_enter Tryz.func65, Tryz.ntmps65
    go_wp2_with fail
    refine HL1.out.mono ?_
    rintro e w2 ⟨rfl, h2⟩
    clear x0 x1 x2
    obtain ⟨x0, x1, x2⟩ := HKC.out w2 h2
    have H2 := Lib.hid (HL2.out w2 h2)
    clear h2 HL1 HL2 HKC
    go_wp2_with fail
    refine H2.out.mono ?_
    rintro e w3 ⟨rfl, h3⟩
    have H3 := Lib.hid (HC.out w3 h3)
    clear h3 H2 HC x0 x1 x2
    go_wp2_with fail
    refine H3.out.mono ?_
    rintro e w4 ⟨rfl, h4⟩
    have H4 := Lib.hid (HP.out w4 h4)
    clear h4 H3 HP
    go_wp2_with fail
    refine H4.out.mono ?_
    rintro e w5 ⟨rfl, h5⟩
    have H5 := Lib.hid h5
    clear h5 H4
    go_wp2
    exact bodyPost_end (v := .tuple #[]) (by simp [results, Tryz.results65, go_sem]) rfl ⟨rfl, H5.out⟩
theorem touch_no (HO : Opens v xp w w1) (h : CS w0 w1 xp o1 o2 s tp) (h64 : k < 18446744073709551616) (hk : k ∉ s.keys) :
    Calls Tryz.prog 34 #[.pointer v, .int .u64 (k : Nat)] w fun e w' => e = .returned (.tuple #[]) ∧ Below w1.heap.size w1 w' := by
  have HE := Lib.hid HO
  have HH := Lib.hid (has_any (opens_is xp w1) h h64)
  rw [decide_eq_false hk] at HH
  clear h HO hk
  go_enter Tryz.func34, Tryz.ntmps34
  go_wp2_with fail
  refine HE.out.mono ?_
  rintro e w2 ⟨rfl, rfl⟩
  go_wp2_with fail
  refine HH.out.mono ?_
  rintro e w3 ⟨rfl, hb⟩
  have HP := Lib.hid hb
  clear hb
  go_wp2
  exact bodyPost_end (v := .tuple #[]) (by simp [results, Tryz.results34, go_sem]) rfl ⟨rfl, HP.out⟩
theorem touch_in {sp kp : Nat} (h : CS w0 w xp (some ⟨sp, 0, none⟩) (some ⟨kp, 0, none⟩) s tp) (hf : s.Fine) (hc1 : 1 ≤ s.c) (hc : s.c ≤ 1048576) (hk : k ∈ s.keys) (h64 : k < 18446744073709551616) (hr1 : k ∈ keysI s.s ∨ s.s.length + 1 ≤ tp) :
    Calls Tryz.prog 34 #[ptr xp, .int .u64 (k : Nat)] w fun e w' => e = .returned (.tuple #[]) ∧ CSP w0 w xp (some ⟨sp, 0, none⟩) (some ⟨kp, 0, none⟩) (s.use k (decide (0 < tot k s.s))) tp w' := by
  have HE := Lib.hid (opens_is xp w)
  have HH := Lib.hid (has_any (opens_is xp w) h h64)
  rw [decide_eq_true hk] at HH
  have hin : ∃ t, t < 3 ∧ k ∈ qK s t := ((L12.keys_qK s k).1 hk).elim (fun q => ⟨1, by decide, q⟩) (fun q => ⟨2, by decide, q⟩)
  have HF : Hid (∀ W, Below w.heap.size w W → Calls Tryz.prog 46 #[.pointer (some ⟨sp, 0, none⟩), .int .u64 (k : Nat)] W fun e w' => e = .returned (.tuple #[.int .i64 0, .bool (decide (0 < tot k s.s))]) ∧ Below w.heap.size w w') := Lib.hid (fun W hb => by
    refine (t_find1 (h.still hb).t2 h.small k h64).mono ?_
    rintro e w' ⟨rfl, hb'⟩
    exact ⟨by rw [show decide (k ∈ keysI s.s) = decide (0 < tot k s.s) from decide_eq_decide.2 tot_in], hb.trans (hb'.mono hb.size)⟩)
  have HU : Hid (∀ W, Below w.heap.size w W → Calls Tryz.prog 65 #[ptr xp, .int .u64 (k : Nat), .bool (decide (0 < tot k s.s))] W fun e w' => e = .returned (.tuple #[]) ∧ CSP w0 w xp (some ⟨sp, 0, none⟩) (some ⟨kp, 0, none⟩) (s.use k (decide (0 < tot k s.s))) tp w') := Lib.hid (fun W hb => by
    refine (use_walk (h.still hb) hf hc1 hc h64 hr1 (.inl hin) _).mono ?_
    rintro e w' ⟨rfl, g1, g2⟩
    exact ⟨rfl, g1, (Kn.below hb).trans g2⟩)
  have HKC : Hid (∀ W, Below w.heap.size w W → C3 xp (some ⟨sp, 0, none⟩) (some ⟨kp, 0, none⟩) s.c W) := Lib.hid (fun W hb => (h.still hb).cells)
  generalize decide (0 < tot k s.s) = b at HF HU ⊢
  clear h hf hk hr1 hin
  go_enter Tryz.func34, Tryz.ntmps34
  go_wp2_with fail
  refine HE.out.mono ?_
  rintro e w2 ⟨rfl, rfl⟩
  go_wp2_with fail
  refine HH.out.mono ?_
  rintro e w3 ⟨rfl, hb⟩
  obtain ⟨x0, x1, x2⟩ := HKC.out w3 hb
  have H3 := Lib.hid (HF.out w3 hb)
  clear hb HF HKC HH
  go_wp2_with fail
  refine H3.out.mono ?_
  rintro e w4 ⟨rfl, hb⟩
  have H4 := Lib.hid (HU.out w4 hb)
  clear hb H3 HU x0 x1 x2
  go_wp2_with fail
  refine H4.out.mono ?_
  rintro e w5 ⟨rfl, h5⟩
  have H5 := Lib.hid h5
  clear h5 H4
  go_wp2
  exact bodyPost_end (v := .tuple #[]) (by simp [results, Tryz.results34, go_sem]) rfl ⟨rfl, H5.out⟩
theorem L12.Fine.len (h : s.Fine) : s.s.length = nk 0 s.s + nk 1 s.s + nk 2 s.s := by
  have h1 := h.kinds
  generalize s.s = l at h1 ⊢
  induction l with
  | nil => rfl
  | cons x l ih =>
    have h2 := ih (fun y hy => h1 y (List.mem_cons_of_mem _ hy))
    have h3 := h1 x (List.mem_cons_self ..)
    rw [List.length_cons, nk_cons, nk_cons, nk_cons]
    rcases (by omega : x.f = 0 ∨ x.f = 1 ∨ x.f = 2) with e | e | e <;> simp only [e] <;> simp <;> omega
theorem L12.Ord.cold (ho : s.Ord) : nk 1 s.s ≤ s.q.length := by
  have := ho.sub.length_le
  rw [kk_len, List.length_reverse] at this
  exact this
theorem etouch_walk (h : EC w0 w xp s top) (k : Nat) (h64 : k < 18446744073709551616) :
    Calls Tryz.prog 34 #[ptr xp, .int .u64 (k : Nat)] w fun e w' => e = .returned (.tuple #[]) ∧ EP w0 w xp (s.touch k) top w' := by
  obtain ⟨sp, kp, hx⟩ := h.mem
  by_cases hk : k ∈ s.keys
  · have hr1 : k ∈ keysI s.s ∨ s.s.length + 1 ≤ 2 * top := by
      by_cases q : k ∈ keysI s.s
      · exact .inl q
      · refine .inr ?_
        have hs := hx.sums
        have h1 := h.ok.fine.len
        have ht0 : ct k 2 s.s = 0 ∧ ct k 1 s.s = 0 := by
          have := tot_ct (a := k) h.ok.fine.kinds
          have := mt tot_in.2 q
          omega
        have hq : k ∈ s.q := L12.q_in.2 (by have := L12.keys_in.1 hk; omega)
        have hnq : k ∉ kk 1 s.s := fun q2 => by have := kk_in.1 q2; omega
        have hsub := h.ord.sub
        have h3 : (kk 1 s.s).length < s.q.reverse.length := by
          refine Nat.lt_of_le_of_ne hsub.length_le (fun e => hnq ?_)
          rw [hsub.eq_of_length e]
          exact List.mem_reverse.2 hq
        rw [kk_len, List.length_reverse] at h3
        omega
    refine (touch_in hx h.ok.fine h.ok.pos h.ok.cap hk h64 hr1).mono ?_
    rintro e w' ⟨rfl, g1, g2⟩
    have et : s.touch k = s.use k (decide (0 < tot k s.s)) := by rw [L12.touch_is h.ok h64, if_pos hk]
    refine ⟨rfl, ⟨(h.ok.touch h64).1, h.ord.touch h.ok h64, h.small, sp, kp, ?_⟩, g2⟩
    rw [et]
    exact g1
  · refine (touch_no (opens_is xp w) hx h64 hk).mono ?_
    rintro e w' ⟨rfl, hb⟩
    have et : s.touch k = s := by rw [L12.touch_is h.ok h64, if_neg hk]
    rw [et]
    exact ⟨rfl, h.still hb, Kn.below hb⟩
end
abbrev elO0 : Oper := { dst := some 24, op := Op.move (Operand.tmp 0), type := 24, pos := "elirs.go:51", after := #[], guard := none }
abbrev elO1 : Oper := { dst := some 25, op := Op.move (Operand.tmp 1), type := 32, pos := "elirs.go:51", after := #[], guard := none }
abbrev elO2 : Oper := { dst := some 26, op := Op.move (Operand.tmp 5), type := 4, pos := "elirs.go:51", after := #[], guard := none }
abbrev elO3 : Oper := { dst := some 27, op := Op.move (Operand.tmp 26), type := 4, pos := "elirs.go:51", after := #[{ on := 2, ground := Ground.data }], guard := none }
abbrev elO4 : Oper := { dst := some 28, op := Op.move (Operand.tmp 0), type := 24, pos := "elirs.go:51", after := #[{ on := 3, ground := Ground.guard }], guard := some (3, false) }
abbrev elO5 : Oper := { dst := some 29, op := Op.nilCheck (Operand.tmp 28), type := 0, pos := "elirs.go:51", after := #[{ on := 4, ground := Ground.data }, { on := 3, ground := Ground.guard }], guard := some (3, false) }
abbrev elO6 : Oper := { dst := some 30, op := Op.fieldAddr 67 (Operand.tmp 29) 1, type := 0, pos := "elirs.go:51", after := #[{ on := 5, ground := Ground.data }, { on := 3, ground := Ground.guard }], guard := some (3, false) }
abbrev elO7 : Oper := { dst := some 31, op := Op.load 63 (Operand.tmp 30), type := 63, pos := "elirs.go:51", after := #[{ on := 6, ground := Ground.data }, { on := 3, ground := Ground.guard }], guard := some (3, false) }
abbrev elO8 : Oper := { dst := some 32, op := Op.call { callee := Callee.value (Operand.func 47), args := #[Operand.tmp 31, Operand.const (Value.int IntKind.i64 2)], argTypes := #[63, 3] }, type := 3, pos := "elirs.go:51", after := #[{ on := 7, ground := Ground.data }, { on := 3, ground := Ground.chain }, { on := 3, ground := Ground.guard }], guard := some (3, false) }
abbrev elO9 : Oper := { dst := some 33, op := Op.move (Operand.tmp 0), type := 24, pos := "elirs.go:51", after := #[{ on := 3, ground := Ground.guard }], guard := some (3, false) }
abbrev elO10 : Oper := { dst := some 34, op := Op.nilCheck (Operand.tmp 33), type := 0, pos := "elirs.go:51", after := #[{ on := 9, ground := Ground.data }, { on := 3, ground := Ground.guard }], guard := some (3, false) }
abbrev elO11 : Oper := { dst := some 35, op := Op.fieldAddr 67 (Operand.tmp 34) 2, type := 0, pos := "elirs.go:51", after := #[{ on := 10, ground := Ground.data }, { on := 3, ground := Ground.guard }], guard := some (3, false) }
abbrev elO12 : Oper := { dst := some 36, op := Op.load 3 (Operand.tmp 35), type := 3, pos := "elirs.go:51", after := #[{ on := 11, ground := Ground.data }, { on := 3, ground := Ground.guard }], guard := some (3, false) }
abbrev elO13 : Oper := { dst := some 37, op := Op.call { callee := Callee.value (Operand.func 66), args := #[Operand.tmp 36], argTypes := #[3] }, type := 3, pos := "elirs.go:51", after := #[{ on := 12, ground := Ground.data }, { on := 8, ground := Ground.chain }, { on := 3, ground := Ground.guard }], guard := some (3, false) }
abbrev elO14 : Oper := { dst := some 38, op := Op.binOp BinOp.lss 3 (Operand.tmp 32) (Operand.tmp 37) 3, type := 4, pos := "elirs.go:51", after := #[{ on := 8, ground := Ground.data }, { on := 13, ground := Ground.data }, { on := 3, ground := Ground.guard }], guard := some (3, false) }
abbrev elO15 : Oper := { dst := some 39, op := Op.pick (Operand.tmp 27) (Operand.const (Value.bool true)) (Operand.tmp 38), type := 4, pos := "elirs.go:51", after := #[{ on := 3, ground := Ground.data }, { on := 14, ground := Ground.data }], guard := none }
abbrev elO16 : Oper := { dst := some 40, op := Op.call { callee := Callee.value (Operand.func 65), args := #[Operand.tmp 24, Operand.tmp 25, Operand.tmp 39], argTypes := #[24, 32, 4] }, type := 0, pos := "elirs.go:51", after := #[{ on := 0, ground := Ground.data }, { on := 1, ground := Ground.data }, { on := 15, ground := Ground.data }, { on := 13, ground := Ground.chain }], guard := none }
namespace L12
variable {s : L12} {k : Nat}
theorem gone_many (hn : k ∉ s.keys) (n : Nat) : (s.gone k).many n = s.many n ∧ (s.gone k).q = s.q ∧ nk 0 (s.gone k).s ≤ nk 0 s.s := by
  have hq : k ∉ s.q := fun q => hn (keys_in.2 (by have := q_in.1 q; omega))
  have h2 : ct k 2 s.s = 0 := Nat.eq_zero_of_not_pos (fun q => hn (keys_in.2 (by omega)))
  have e : (s.gone k).q = s.q := wo_none8 hq
  have n2 : nk 2 (wi k s.s) + ct k 2 s.s = nk 2 s.s := nk_wi
  have n0 : nk 0 (wi k s.s) + ct k 0 s.s = nk 0 s.s := nk_wi
  refine ⟨?_, e, by show nk 0 (wi k s.s) ≤ _; omega⟩
  unfold L12.many
  rw [e, show nk 2 (s.gone k).s = nk 2 (wi k s.s) from rfl]
  omega
theorem use_c (s : L12) (k : Nat) (b : Bool) : (s.use k b).c = s.c := by
  show (L12.coolN _ (s.lay k b)).c = _
  rw [coolN_cl]
  cases b <;> rfl
end L12
section
variable {w0 w w1 w' W : World} {xp : Nat} {o1 o2 v : Option Addr} {tp top : Nat} {s : L12} {k : Nat}
set_option maxHeartbeats 4000000 in
theorem admit_no (h : CS w0 w xp o1 o2 s tp) (h64 : k < 18446744073709551616) (hk : k ∈ s.keys) :
    Calls Tryz.prog 30 #[ptr xp, .int .u64 (k : Nat)] w fun e w' => e = .returned (.slice none 0 0) ∧ Below w.heap.size w w' := by
  have HH := Lib.hid (has_any (opens_is xp w) h h64)
  rw [decide_eq_true hk] at HH
  clear h hk
  go_enter Tryz.func30, Tryz.ntmps30
  go_wp2_with fail
  refine HH.out.mono ?_
  rintro e w2 ⟨rfl, hb⟩
  have HP := Lib.hid hb
  clear hb HH
  go_wp2
  go_ret
  exact ⟨rfl, HP.out⟩
set_option maxHeartbeats 8000000 in
theorem admit_in {sp kp : Nat} (h : CS w0 w xp (some ⟨sp, 0, none⟩) (some ⟨kp, 0, none⟩) s tp) (hok : s.Ok) (ho : s.Ord) (htp : 2 * s.c ≤ tp) (h64 : k < 18446744073709551616) (hk : k ∉ s.keys) :
    Calls Tryz.prog 30 #[ptr xp, .int .u64 (k : Nat)] w fun e w' => ∃ o, e = .returned o ∧ CSP w0 w xp (some ⟨sp, 0, none⟩) (some ⟨kp, 0, none⟩) (s.adm k) tp w' ∧ KV w' o (s.admitOut k) := by
  have HH := Lib.hid (has_any (opens_is xp w) h h64)
  rw [decide_eq_false hk] at HH
  obtain ⟨eA, eO⟩ := L12.adm_is hok ho h64 hk
  obtain ⟨g1, g2, g3⟩ := L12.gone_many hk (s.c - 1)
  have hfg : (s.gone k).Fine := hok.fine.less0
  have hog := ho.gone k
  have hp := hok.pos
  have hcap := hok.cap
  have hhot := hok.hot
  have hlen := hok.len
  have hgn := hok.gone
  have hrl := roomH_lt hp
  have hm : (s.gone k).many (s.c - 1) ≤ (s.gone k).q.length := by
    rw [g1, g2]
    unfold L12.many
    omega
  rw [← g1] at eA eO
  obtain ⟨m, hmm⟩ : ∃ m, (s.gone k).many (s.c - 1) = m := ⟨_, rfl⟩
  obtain ⟨p1, p2, p3, p4, p5, p6⟩ := L12.pevN_is m (s.gone k) hfg hog (by rw [← hmm]; exact hm)
  obtain ⟨t, ht⟩ : ∃ t, L12.pevN m (s.gone k) = t := ⟨_, rfl⟩
  have HG : Hid (∀ W, Below w.heap.size w W → Calls Tryz.prog 63 #[ptr xp, .int .u64 (k : Nat)] W fun e w' => e = .returned (.bool (decide (0 < tot k s.s))) ∧ CSP w0 w xp (some ⟨sp, 0, none⟩) (some ⟨kp, 0, none⟩) (s.gone k) tp w') := Lib.hid (fun W hb => by
    refine (gone_walk (h.still hb) h64).mono ?_
    rintro e w' ⟨rfl, g1, g2⟩
    exact ⟨rfl, g1, (Kn.below hb).trans g2⟩)
  obtain ⟨c, hcc⟩ : ∃ c, s.c = c := ⟨_, rfl⟩
  have hgc : (s.gone k).c = c := hcc
  have HEV : Hid (∀ W n, (n : Int) = (c : Int) - 1 → CSP w0 w xp (some ⟨sp, 0, none⟩) (some ⟨kp, 0, none⟩) (s.gone k) tp W → Calls Tryz.prog 64 #[ptr xp, .int .i64 n] W fun e w' => ∃ o, e = .returned o ∧ CSP w0 w xp (some ⟨sp, 0, none⟩) (some ⟨kp, 0, none⟩) t tp w' ∧ KF w0.heap.size W w' o (s.admitOut k) ∧ Kn W w') := Lib.hid (fun W n hn hp => by
    obtain rfl : n = ((s.c - 1 : Nat) : Int) := by omega
    refine (elevict_walk hp.1 hfg hog (by omega) (s.c - 1) (by omega) hm).mono ?_
    rintro e w' ⟨o, rfl, q1, q2⟩
    rw [hmm] at q1 q2
    rw [ht] at q1
    rw [eO, hmm, ← g2]
    exact ⟨o, rfl, ⟨q1.1, hp.2.trans q1.2⟩, q2, q1.2⟩)
  rw [ht] at p1 p2 p3 p4 p5 p6
  rw [g2] at p5
  have htc : t.c = c := p4.trans hgc
  have ht2 : nk 2 t.s = nk 2 s.s := p3.trans (by
    have h2 : ct k 2 s.s = 0 := Nat.eq_zero_of_not_pos (fun q => hk (L12.keys_in.2 (by omega)))
    have n2 : nk 2 (wi k s.s) + ct k 2 s.s = nk 2 s.s := nk_wi
    show nk 2 (wi k s.s) = _
    omega)
  have ht0 : nk 0 t.s ≤ c := by
    have := p6 (by rw [hgc]; omega)
    omega
  have htq : nk 2 t.s + t.q.length + 1 ≤ c := by
    rw [p5, List.length_drop, ht2, ← hmm, g1]
    unfold L12.many
    omega
  have hU : ∀ (b : Bool) (W : World), CSP w0 w xp (some ⟨sp, 0, none⟩) (some ⟨kp, 0, none⟩) t tp W → Calls Tryz.prog 65 #[ptr xp, .int .u64 (k : Nat), .bool b] W fun e w' => e = .returned (.tuple #[]) ∧ CSP w0 w xp (some ⟨sp, 0, none⟩) (some ⟨kp, 0, none⟩) (t.use k b) tp w' ∧ Kn W w' := fun b W hp => by
    have h1 := p1.len
    have h2 := p2.cold
    refine (use_walk hp.1 p1 (by omega) (by omega) h64 (.inr (by omega)) (.inr (by omega)) b).mono ?_
    rintro e w' ⟨rfl, q1, q2⟩
    exact ⟨rfl, ⟨q1, hp.2.trans q2⟩, q2⟩
  have HU := Lib.hid hU
  obtain ⟨n2, hn2⟩ : ∃ n2, nk 2 t.s = n2 := ⟨_, rfl⟩
  obtain ⟨r, hr⟩ : ∃ r, roomH c = r := ⟨_, rfl⟩
  have HL : Hid (∀ W W', CSP w0 w xp (some ⟨sp, 0, none⟩) (some ⟨kp, 0, none⟩) t tp W → Below W.heap.size W W' → Calls Tryz.prog 47 #[.pointer (some ⟨kp, 0, none⟩), .int .i64 2] W' fun e w' => e = .returned (.int .i64 (n2 : Nat)) ∧ Below W.heap.size W w') := Lib.hid (fun W W' hp hb => cs_len hp.1 (t := 2) (by decide) (by rw [← hn2]; exact kk_len) W' hb)
  have HR : Hid (∀ W, Calls Tryz.prog 66 #[.int .i64 (c : Nat)] W fun e w' => e = .returned (.int .i64 (r : Nat)) ∧ W = w') := Lib.hid (fun W => by rw [← hr]; exact ehot_walk c (by omega) (by omega))
  have HKC : Hid (∀ W, Below w.heap.size w W → C3 xp (some ⟨sp, 0, none⟩) (some ⟨kp, 0, none⟩) c W) := Lib.hid (fun W hb => by rw [← hcc]; exact (h.still hb).cells)
  have HKG : Hid (∀ W, CSP w0 w xp (some ⟨sp, 0, none⟩) (some ⟨kp, 0, none⟩) (s.gone k) tp W → C3 xp (some ⟨sp, 0, none⟩) (some ⟨kp, 0, none⟩) c W) := Lib.hid (fun W hp => by have := hp.1.cells; rw [hgc] at this; exact this)
  have HKT : Hid (∀ W W', CSP w0 w xp (some ⟨sp, 0, none⟩) (some ⟨kp, 0, none⟩) t tp W → Below W.heap.size W W' → C3 xp (some ⟨sp, 0, none⟩) (some ⟨kp, 0, none⟩) c W') := Lib.hid (fun W W' hp hb => by have := (hp.1.still hb).cells; rw [htc] at this; exact this)
  have HKU : Hid (∀ b W, CSP w0 w xp (some ⟨sp, 0, none⟩) (some ⟨kp, 0, none⟩) (t.use k b) tp W → C3 xp (some ⟨sp, 0, none⟩) (some ⟨kp, 0, none⟩) c W) := Lib.hid (fun b W hp => by have := hp.1.cells; rw [L12.use_c, htc] at this; exact this)
  obtain ⟨ag, hag⟩ : ∃ ag, decide (0 < tot k s.s) = ag := ⟨_, rfl⟩
  rw [hmm, ht, hag, hn2, hcc, hr] at eA
  have HFI : Hid (∀ (b : Bool) (W W2 : World) (o : Value), b = (ag || decide (n2 < r)) → CSP w0 w xp (some ⟨sp, 0, none⟩) (some ⟨kp, 0, none⟩) (t.use k b) tp W → ∀ W1, KF w0.heap.size W1 W2 o (s.admitOut k) → Kn W1 W2 → Kn W2 W → ∃ o', Ending.returned o = .returned o' ∧ CSP w0 w xp (some ⟨sp, 0, none⟩) (some ⟨kp, 0, none⟩) (s.adm k) tp W ∧ KV W o' (s.admitOut k)) := Lib.hid (fun b W W2 o hb hp W1 hkf k1 k2 => by
    refine ⟨o, rfl, ?_, (hkf.kn k1 k2 hp.1.below.size).kv⟩
    rw [eA, ← hb]
    exact hp)
  rw [hag] at HG
  have hcI : (c : Int) ≤ 1048576 := by omega
  have hc1 : (1 : Int) ≤ (c : Int) := by omega
  have hrI : (r : Int) ≤ 1048576 := by rw [← hr]; unfold roomH; omega
  have hn2I : (n2 : Int) ≤ 1048576 := by omega
  have hw : IntKind.i64.wrap ((c : Int) - 1) = (c : Int) - 1 := IntWalk.i64_in _ (by omega)
  generalize s.gone k = sg at HG HEV HKG
  clear hU h hok ho htp hk eA eO g1 g2 g3 hfg hog hp hcap hhot hlen hgn hrl hm hmm p1 p2 p3 p4 p5 p6 ht hcc hgc htc ht2 ht0 htq hn2 hr hag
  cases ag
  · go_enter Tryz.func30, Tryz.ntmps30
    go_wp2_with fail
    refine HH.out.mono ?_
    rintro e w2 ⟨rfl, hb⟩
    have H2 := Lib.hid (HG.out w2 hb)
    clear hb HH HG
    go_wp2_with fail
    refine H2.out.mono ?_
    rintro e w3 ⟨rfl, h3⟩
    obtain ⟨x0, x1, x2⟩ := HKG.out w3 h3
    have H3 := Lib.hid (HEV.out w3 _ rfl h3)
    clear h3 H2 HEV HKG
    go_wp2_with fail
    refine H3.out.mono ?_
    rintro e w4 ⟨o, rfl, h4, f4, k4⟩
    have H4 := Lib.hid h4
    have F4 := Lib.hid (And.intro f4 k4)
    have HKT4 := Lib.hid (HKT.out w4)
    clear H3 x0 x1 x2 f4 k4
    obtain ⟨x0, x1, x2⟩ := HKT.out w4 w4 h4 (Below.refl _ _)
    clear h4
    go_upto_region 5 with fail
    go_region_held3 (fun w' => w'.cell? ⟨xp, 0, none⟩ = some (.pointer (some ⟨sp, 0, none⟩)) ∧ w'.cell? ⟨xp, 1, none⟩ = some (.pointer (some ⟨kp, 0, none⟩)) ∧ w'.cell? ⟨xp, 2, none⟩ = some (.int .i64 (c : Nat))) (first | with_reducible exact kk5 | with_reducible exact kk7 | go_keep)
      (first
        | (go_at_call 47; refine (HL.out _ _ H4.out (below_drewn (Below.refl _ _) _)).mono ?_; rintro e w5 ⟨rfl, hb5⟩; have kk5 := HKT4.out w5 H4.out hb5)
        | (go_at_call 66; refine (HR.out _).mono ?_; rintro e w6 ⟨rfl, rfl⟩)
        | (go_at_call 65; refine (HU.out _ _ (CP.still H4.out hb5)).mono ?_; rintro e w7 ⟨rfl, h7, k7⟩; have kk7 := HKU.out _ w7 h7))
    have HE := Lib.hid (HFI.out _ _ _ o (by simp) h7 _ F4.out.1 F4.out.2 ((Kn.below hb5).trans k7))
    clear h7 k7 kk5 kk7 hb5 x0 x1 x2
    go_wp2
    go_ret
    exact HE.out
  · go_enter Tryz.func30, Tryz.ntmps30
    go_wp2_with fail
    refine HH.out.mono ?_
    rintro e w2 ⟨rfl, hb⟩
    have H2 := Lib.hid (HG.out w2 hb)
    clear hb HH HG
    go_wp2_with fail
    refine H2.out.mono ?_
    rintro e w3 ⟨rfl, h3⟩
    obtain ⟨x0, x1, x2⟩ := HKG.out w3 h3
    have H3 := Lib.hid (HEV.out w3 _ rfl h3)
    clear h3 H2 HEV HKG
    go_wp2_with fail
    refine H3.out.mono ?_
    rintro e w4 ⟨o, rfl, h4, f4, k4⟩
    have H4 := Lib.hid h4
    have F4 := Lib.hid (And.intro f4 k4)
    clear H3 x0 x1 x2 f4 k4
    obtain ⟨x0, x1, x2⟩ := HKT.out w4 w4 h4 (Below.refl _ _)
    clear h4
    go_upto_region 5 with fail
    refine wp_region_held_drew (S := fun _ => True) (by kernel_rfl) trivial (fun hH => ?_)
    have hb_0 := (Below.refl w4.heap.size w4).drew
    obtain ⟨W0, hW0⟩ : ∃ X, w4.drew = X := ⟨_, rfl⟩
    rw [hW0] at hb_0 ⊢
    refine wpAnyH_take (i := 0) (oi := elO0) (v := ptr xp) rfl (by kernel_rfl) (by kernel_rfl) (by kernel_rfl) (fun _ _ _ h => h) (Or.inl ⟨by rfl, fun W hW => ?h0⟩) hH ?_
    case h0 => dsimp only [elO0]; go_simp
    simp only [Act.put, List.setIfInBounds_toArray, List.set_cons_zero, List.set_cons_succ]
    refine wpAnyH_take (i := 1) (oi := elO1) (v := .int .u64 (k : Nat)) rfl (by kernel_rfl) (by kernel_rfl) (by kernel_rfl) (fun _ _ _ h => h) (Or.inl ⟨by rfl, fun W hW => ?h1⟩) hH ?_
    case h1 => dsimp only [elO1]; go_simp
    simp only [Act.put, List.setIfInBounds_toArray, List.set_cons_zero, List.set_cons_succ]
    refine wpAnyH_take (i := 2) (oi := elO2) (v := .bool true) rfl (by kernel_rfl) (by kernel_rfl) (by kernel_rfl) (fun _ _ _ h => h) (Or.inl ⟨by rfl, fun W hW => ?h2⟩) hH ?_
    case h2 => dsimp only [elO2]; go_simp
    simp only [Act.put, List.setIfInBounds_toArray, List.set_cons_zero, List.set_cons_succ]
    refine wpAnyH_take (i := 3) (oi := elO3) (v := .bool true) rfl (by kernel_rfl) (by kernel_rfl) (by kernel_rfl) (fun _ _ _ h => h) (Or.inl ⟨by rfl, fun W hW => ?h3⟩) hH ?_
    case h3 => dsimp only [elO3]; go_simp
    simp only [Act.put, List.setIfInBounds_toArray, List.set_cons_zero, List.set_cons_succ]
    refine wpAnyH_take (i := 4) (oi := elO4) (v := undef) rfl (by kernel_rfl) (by kernel_rfl) (by kernel_rfl) (fun _ _ _ h => h) (Or.inr ⟨by rfl, rfl⟩) hH ?_
    simp only [Act.put, List.setIfInBounds_toArray, List.set_cons_zero, List.set_cons_succ]
    refine wpAnyH_take (i := 5) (oi := elO5) (v := undef) rfl (by kernel_rfl) (by kernel_rfl) (by kernel_rfl) (fun _ _ _ h => h) (Or.inr ⟨by rfl, rfl⟩) hH ?_
    simp only [Act.put, List.setIfInBounds_toArray, List.set_cons_zero, List.set_cons_succ]
    refine wpAnyH_take (i := 6) (oi := elO6) (v := undef) rfl (by kernel_rfl) (by kernel_rfl) (by kernel_rfl) (fun _ _ _ h => h) (Or.inr ⟨by rfl, rfl⟩) hH ?_
    simp only [Act.put, List.setIfInBounds_toArray, List.set_cons_zero, List.set_cons_succ]
    refine wpAnyH_take (i := 7) (oi := elO7) (v := undef) rfl (by kernel_rfl) (by kernel_rfl) (by kernel_rfl) (fun _ _ _ h => h) (Or.inr ⟨by rfl, rfl⟩) hH ?_
    simp only [Act.put, List.setIfInBounds_toArray, List.set_cons_zero, List.set_cons_succ]
    refine wpAnyH_take (i := 8) (oi := elO8) (v := undef) rfl (by kernel_rfl) (by kernel_rfl) (by kernel_rfl) (fun _ _ _ h => h) (Or.inr ⟨by rfl, rfl⟩) hH ?_
    simp only [Act.put, List.setIfInBounds_toArray, List.set_cons_zero, List.set_cons_succ]
    refine wpAnyH_take (i := 9) (oi := elO9) (v := undef) rfl (by kernel_rfl) (by kernel_rfl) (by kernel_rfl) (fun _ _ _ h => h) (Or.inr ⟨by rfl, rfl⟩) hH ?_
    simp only [Act.put, List.setIfInBounds_toArray, List.set_cons_zero, List.set_cons_succ]
    refine wpAnyH_take (i := 10) (oi := elO10) (v := undef) rfl (by kernel_rfl) (by kernel_rfl) (by kernel_rfl) (fun _ _ _ h => h) (Or.inr ⟨by rfl, rfl⟩) hH ?_
    simp only [Act.put, List.setIfInBounds_toArray, List.set_cons_zero, List.set_cons_succ]
    refine wpAnyH_take (i := 11) (oi := elO11) (v := undef) rfl (by kernel_rfl) (by kernel_rfl) (by kernel_rfl) (fun _ _ _ h => h) (Or.inr ⟨by rfl, rfl⟩) hH ?_
    simp only [Act.put, List.setIfInBounds_toArray, List.set_cons_zero, List.set_cons_succ]
    refine wpAnyH_take (i := 12) (oi := elO12) (v := undef) rfl (by kernel_rfl) (by kernel_rfl) (by kernel_rfl) (fun _ _ _ h => h) (Or.inr ⟨by rfl, rfl⟩) hH ?_
    simp only [Act.put, List.setIfInBounds_toArray, List.set_cons_zero, List.set_cons_succ]
    refine wpAnyH_take (i := 13) (oi := elO13) (v := undef) rfl (by kernel_rfl) (by kernel_rfl) (by kernel_rfl) (fun _ _ _ h => h) (Or.inr ⟨by rfl, rfl⟩) hH ?_
    simp only [Act.put, List.setIfInBounds_toArray, List.set_cons_zero, List.set_cons_succ]
    refine wpAnyH_take (i := 14) (oi := elO14) (v := undef) rfl (by kernel_rfl) (by kernel_rfl) (by kernel_rfl) (fun _ _ _ h => h) (Or.inr ⟨by rfl, rfl⟩) hH ?_
    simp only [Act.put, List.setIfInBounds_toArray, List.set_cons_zero, List.set_cons_succ]
    refine wpAnyH_take (i := 15) (oi := elO15) (v := .bool true) rfl (by kernel_rfl) (by kernel_rfl) (by kernel_rfl) (fun _ _ _ h => h) (Or.inl ⟨by rfl, fun W hW => ?h15⟩) hH ?_
    case h15 => dsimp only [elO15]; go_simp
    simp only [Act.put, List.setIfInBounds_toArray, List.set_cons_zero, List.set_cons_succ]
    refine wpAnyH_ready (rs := [16]) (by kernel_rfl) (by simp) ?_
    refine AllReadyH.cons (o := elO16) rfl (fun K hK => ?_) AllReadyH.nil
    dsimp only [elO16]
    go_simp
    refine (HU.out _ _ (CP.still H4.out hb_0)).mono ?_
    rintro e w7 ⟨rfl, h7, k7⟩
    refine hK.out _ _ trivial (fun hH => ?_)
    try simp only [Act.put, List.setIfInBounds_toArray, List.set_cons_zero, List.set_cons_succ]
    refine wpAnyH_done (by kernel_rfl) ?_ _
    have HE := Lib.hid (HFI.out _ _ _ o (by simp) h7 _ F4.out.1 F4.out.2 ((Kn.below hb_0).trans k7))
    clear hH hK HU HL HR HKC HKT HKU HFI h7 k7 x0 x1 x2
    go_wp2
    go_ret
    exact HE.out
theorem eadmit_walk (h : EC w0 w xp s top) (hc : s.c ≤ top) (k : Nat) (h64 : k < 18446744073709551616) :
    Calls Tryz.prog 30 #[ptr xp, .int .u64 (k : Nat)] w (EPo w0 w xp (s.adm k) top (s.admitOut k)) := by
  obtain ⟨sp, kp, hx⟩ := h.mem
  by_cases hk : k ∈ s.keys
  · refine (admit_no hx h64 hk).mono ?_
    rintro e w' ⟨rfl, hb⟩
    have e1 : s.adm k = s := by unfold L12.adm; rw [if_pos hk]
    have e2 : s.admitOut k = [] := by unfold L12.admitOut; rw [if_pos hk]
    rw [e1, e2]
    exact ⟨_, rfl, ⟨h.still hb, Kn.below hb⟩, KV.nil _⟩
  · refine (admit_in hx h.ok h.ord (by omega) h64 hk).mono ?_
    rintro e w' ⟨o, rfl, ⟨g1, g2⟩, g3⟩
    exact ⟨o, rfl, ⟨⟨h.ok.adm k h64, h.ord.adm h.ok h64, h.small, sp, kp, g1⟩, g2⟩, g3⟩
end
end Go.Proofs.YtkhikpnlpcankaaGreat
