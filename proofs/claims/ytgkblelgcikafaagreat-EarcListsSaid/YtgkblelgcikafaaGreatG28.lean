/- Words and walks: EaX. -/
import Derived.Test.YtgkblelgcikafaaGreatG27
namespace Go.Proofs.YtgkblelgcikafaaGreat
open Go Go.RowKit Go.Deep
theorem below_drew17 {B : Nat} {w0 w : World} (h : Below B w0 w) : Below B w0 w.drew := ⟨h.os, h.tape, h.output, h.size, h.block⟩
section
variable {w0 w w' : World} {xp top : Nat} {s : L11} {k : Nat}
theorem adm_up (hk : k ∉ s.keys) (h : k ∈ s.b1) : s.adm k = ((s.up k).cut (s.c - 1) false).hit k ∧ s.admitOut k = (s.up k).cutOut (s.c - 1) false := by
  unfold L11.adm L11.admitOut
  rw [if_neg hk, if_neg hk, if_pos h, if_pos h]
  exact ⟨rfl, rfl⟩
theorem adm_dn (hk : k ∉ s.keys) (h1 : k ∉ s.b1) (h : k ∈ s.b2) : s.adm k = ((s.dn k).cut (s.c - 1) true).hit k ∧ s.admitOut k = (s.dn k).cutOut (s.c - 1) true := by
  unfold L11.adm L11.admitOut
  rw [if_neg hk, if_neg hk, if_neg h1, if_neg h1, if_pos h, if_pos h]
  exact ⟨rfl, rfl⟩
theorem adm_new (hk : k ∉ s.keys) (h1 : k ∉ s.b1) (h2 : k ∉ s.b2) : s.adm k = s.room.came k ∧ s.admitOut k = s.roomOut := by
  unfold L11.adm L11.admitOut
  rw [if_neg hk, if_neg hk, if_neg h1, if_neg h1, if_neg h2, if_neg h2]
  exact ⟨rfl, rfl⟩
theorem adm_in (hk : k ∈ s.keys) : s.adm k = s ∧ s.admitOut k = [] := by
  unfold L11.adm L11.admitOut
  rw [if_pos hk, if_pos hk]
  exact ⟨rfl, rfl⟩
theorem Pl.keys {q : Int} {b : Bool} (h : Pl s k q b) (hf : s.Fine) : (b = true ∧ (q = 0 ∨ q = 1)) ↔ k ∈ s.keys := by
  have h1 := h.has hf
  rw [← decide_eq_true_iff (p := k ∈ s.keys), h1]
  cases b <;> simp
set_option maxHeartbeats 8000000 in
set_option maxRecDepth 4000 in
theorem eadmit_no (h : EC w0 w xp s top) (hc : s.c ≤ top) (h64 : k < 18446744073709551616) (hpl : Pl s k 0 false) (hk : k ∉ s.keys) (h1 : k ∉ s.b1) (h2 : k ∉ s.b2) :
    Calls Tryz.prog 20 #[ptr xp, .int .u64 (k : Nat)] w (EPo w0 w xp (s.adm k) top (s.admitOut k)) := by
  obtain ⟨sp, hx⟩ := h.mem
  have hm : 2 * top ≤ 10000 := by have := h.small; omega
  have hsum := CX.sum (show CX w0 w xp sp s.c s.p (quad s.t1 s.t2 s.b1 s.b2) (2 * top) from hx)
  have hge := h.ge
  have hok := h.ok
  have hpos := hok.pos
  have hcap := hok.cap
  have hpc := hok.pc
  have hokA := h.ok.adm k h64
  have hcA := L11.adm_c s k
  obtain ⟨n2, hn2⟩ : ∃ n2, s.b1.length = n2 := ⟨_, rfl⟩
  obtain ⟨n3, hn3⟩ : ∃ n3, s.b2.length = n3 := ⟨_, rfl⟩
  obtain ⟨c, hcc⟩ : ∃ c, s.c = c := ⟨_, rfl⟩
  obtain ⟨p, hpp⟩ : ∃ p, s.p = p := ⟨_, rfl⟩
  have hE := Lib.hid (fun (W : World) => eopen_walk (w := W) xp)
  have HFI : Hid (∀ W, Below w.heap.size w W → Calls Tryz.prog 43 #[ptr sp, .int .u64 (k : Nat)] W fun e w' => e = .returned (.tuple #[.int .i64 0, .bool false]) ∧ Below w.heap.size w w') := Lib.hid (fun W hb => (hpl.find (hx.still hb) hm h64).mono (fun e w' ⟨he, hb'⟩ => ⟨he, hb.trans (hb'.mono hb.size)⟩))
  have HL2 : Hid (∀ W, Below w.heap.size w W → Calls Tryz.prog 41 #[ptr sp, .int .i64 2] W fun e w' => e = .returned (.int .i64 (n2 : Nat)) ∧ Below w.heap.size w w') := Lib.hid (fun W hb => x_len hx hb (t := 2) (by decide) hn2)
  have HL3 : Hid (∀ W, Below w.heap.size w W → Calls Tryz.prog 41 #[ptr sp, .int .i64 3] W fun e w' => e = .returned (.int .i64 (n3 : Nat)) ∧ Below w.heap.size w w') := Lib.hid (fun W hb => x_len hx hb (t := 3) (by decide) hn3)
  have HXX : Hid (∀ W, Below w.heap.size w W → CX w0 W xp sp s.c s.p (q11 s) (2 * top)) := Lib.hid (fun W hb => hx.still hb)
  have HKC : Hid (∀ W, Below w.heap.size w W → C3 xp sp c p W) := Lib.hid (fun W hb => by have := (hx.still hb).cells; rw [hcc, hpp] at this; exact this)
  obtain ⟨x0, x1, x2⟩ := hx.cells
  rw [hcc] at x1
  rw [hpp] at x2
  have h2I : (n2 : Int) ≤ 10000 := by omega
  have h3I : (n3 : Int) ≤ 10000 := by omega
  have h20 : (0 : Int) ≤ (n2 : Int) := by omega
  have h30 : (0 : Int) ≤ (n3 : Int) := by omega
  have hcI : (c : Int) ≤ 1048576 := by omega
  have hc1 : (1 : Int) ≤ (c : Int) := by omega
  have hpI : (p : Int) ≤ 1048576 := by omega
  have hp0 : (0 : Int) ≤ (p : Int) := by omega
  obtain ⟨eA, eO⟩ := adm_new hk h1 h2
  have HRM : Hid (∀ W, Below w.heap.size w W → Calls Tryz.prog 44 #[ptr xp] W fun e w' => ∃ o, e = .returned o ∧ CP w0 w xp sp s.c s.p (q11 s.room) (2 * top) w' ∧ KV w' o s.roomOut) := Lib.hid (fun W hb => (emakeRoom_walk (hx.still hb) hok hm).mono (fun e w' ⟨o, he, g1, g2⟩ => ⟨o, he, ⟨g1.1, (Kn.below hb).trans g1.2⟩, g2⟩))
  have hr := hok.room
  have h0 : s.room.cnt k = 0 := by
    have h3 := hr.cnt k
    rw [L11.none_in hk h1 h2] at h3
    omega
  have hnot : k ∉ s.room.t1 ∧ k ∉ s.room.t2 ∧ k ∉ s.room.b1 ∧ k ∉ s.room.b2 := by
    unfold L11.cnt at h0
    exact ⟨fun q => by have := count_in.1 q; omega, fun q => by have := count_in.1 q; omega, fun q => by have := count_in.1 q; omega, fun q => by have := count_in.1 q; omega⟩
  have hall := hokA.all
  have hlen : s.room.t1.length + s.room.t2.length + s.room.b1.length + s.room.b2.length + 1 ≤ 2 * top := by
    have e : (s.adm k).all = s.room.t1.length + s.room.t2.length + s.room.b1.length + s.room.b2.length + 1 := by
      rw [eA]
      show (k :: wo k s.room.t1).length + s.room.t2.length + s.room.b1.length + s.room.b2.length = _
      rw [wo_none8 hnot.1, List.length_cons]
      omega
    rw [e, hcA] at hall
    omega
  have HPU : Hid (∀ W, CP w0 w xp sp s.c s.p (q11 s.room) (2 * top) W → ∀ o, KV W o s.roomOut → Calls Tryz.prog 45 #[ptr sp, .int .i64 0, .int .u64 (k : Nat)] W fun e w' => e = .returned (.bool true) ∧ EPo w0 w xp (s.adm k) top (s.admitOut k) (.returned o) w') := Lib.hid (fun W hW o ho => by
    refine (x_push0 (show CX w0 W xp sp s.c s.p (quad s.room.t1 s.room.t2 s.room.b1 s.room.b2) (2 * top) from hW.1) hm h64 hnot hlen).mono ?_
    rintro e w' ⟨rfl, g1, g2⟩
    refine ⟨rfl, o, rfl, ⟨EC.make hokA h.small h.ge (sp := sp) ?_, hW.2.trans g2⟩, by rw [eO]; exact ho.kn g2⟩
    have eP : (s.adm k).p = s.p := by rw [eA]; exact hr.p
    have eQ : q11 (s.adm k) = quad (k :: s.room.t1) s.room.t2 s.room.b1 s.room.b2 := by
      rw [eA]
      show quad (k :: wo k s.room.t1) s.room.t2 s.room.b1 s.room.b2 = _
      rw [wo_none8 hnot.1]
    rw [hcA, eP, eQ]
    exact g1)
  have HKP : Hid (∀ l W, CP w0 w xp sp s.c s.p l (2 * top) W → C3 xp sp c p W) := Lib.hid (fun l W hW => by have := hW.1.cells; rw [hcc, hpp] at this; exact this)
  generalize EPo w0 w xp (s.adm k) top (s.admitOut k) = R at HPU ⊢
  generalize q11 s.room = l2 at HRM HPU
  generalize s.roomOut = out at HRM HPU
  clear h hx hsum hm hn2 hn3 hcc hpp hok hpos hcap hpc hokA hcA eA eO hall hlen hnot h0 hr hk h1 h2 hc hpl HXX
  go_enter Tryz.func20, Tryz.ntmps20
  go_wp2_with fail
  refine (hE.out w).mono ?_
  rintro e w1 ⟨rfl, rfl⟩
  go_upto_region 2 with fail
  go_region_held3 (fun w' => w'.cell? ⟨xp, 0, none⟩ = some (ptr sp) ∧ w'.cell? ⟨xp, 1, none⟩ = some (.int .i64 (c : Nat)) ∧ w'.cell? ⟨xp, 2, none⟩ = some (.int .i64 (p : Nat))) (first | with_reducible exact kk5 | with_reducible exact kk6 | go_keep)
    (first
      | (go_at_call 41; refine (HL3.out _ hb5).mono ?_; rintro e w6 ⟨rfl, hb6⟩; have kk6 := HKC.out w6 hb6)
      | (go_at_call 41; refine (HL2.out _ (below_drewn (Below.refl _ _) _)).mono ?_; rintro e w5 ⟨rfl, hb5⟩; have kk5 := HKC.out w5 hb5))
  have HFF := Lib.hid (HFI.out w6 hb6)
  obtain ⟨y0, y1, y2⟩ := kk6
  clear hb5 hb6 kk5 HL2 HL3 x0 x1 x2 HFI
  go_wp2_with fail
  refine HFF.out.mono ?_
  rintro e w7 ⟨rfl, hb7⟩
  have HB7 := Lib.hid hb7
  clear hb7 HFF y0 y1 y2
  obtain ⟨y0, y1, y2⟩ := HKC.out w7 HB7.out
  go_wp2_with fail
  refine (HRM.out w7 HB7.out).mono ?_
  rintro e w8 ⟨o, rfl, h8, ho8⟩
  obtain ⟨z0, z1, z2⟩ := HKP.out _ w8 h8
  have HP8 := Lib.hid (HPU.out w8 h8 o ho8)
  clear h8 ho8 HRM HPU HKP HKC y0 y1 y2 HB7
  go_wp2_with fail
  refine HP8.out.mono ?_
  rintro e w9 ⟨rfl, hR⟩
  have HR := Lib.hid hR
  clear hR HP8 z0 z1 z2
  go_wp2
  exact HR.out
set_option maxHeartbeats 8000000 in
set_option maxRecDepth 4000 in
theorem eadmit_in (h : EC w0 w xp s top) (hc : s.c ≤ top) (h64 : k < 18446744073709551616) {q : Int} (hq : q = 0 ∨ q = 1) (hpl : Pl s k q true) (hk : k ∈ s.keys) :
    Calls Tryz.prog 20 #[ptr xp, .int .u64 (k : Nat)] w (EPo w0 w xp (s.adm k) top (s.admitOut k)) := by
  obtain ⟨sp, hx⟩ := h.mem
  have hm : 2 * top ≤ 10000 := by have := h.small; omega
  have hsum := CX.sum (show CX w0 w xp sp s.c s.p (quad s.t1 s.t2 s.b1 s.b2) (2 * top) from hx)
  have hge := h.ge
  have hok := h.ok
  have hpos := hok.pos
  have hcap := hok.cap
  have hpc := hok.pc
  have hokA := h.ok.adm k h64
  have hcA := L11.adm_c s k
  obtain ⟨n2, hn2⟩ : ∃ n2, s.b1.length = n2 := ⟨_, rfl⟩
  obtain ⟨n3, hn3⟩ : ∃ n3, s.b2.length = n3 := ⟨_, rfl⟩
  obtain ⟨c, hcc⟩ : ∃ c, s.c = c := ⟨_, rfl⟩
  obtain ⟨p, hpp⟩ : ∃ p, s.p = p := ⟨_, rfl⟩
  have hE := Lib.hid (fun (W : World) => eopen_walk (w := W) xp)
  have HFI : Hid (∀ W, Below w.heap.size w W → Calls Tryz.prog 43 #[ptr sp, .int .u64 (k : Nat)] W fun e w' => e = .returned (.tuple #[.int .i64 q, .bool true]) ∧ Below w.heap.size w w') := Lib.hid (fun W hb => (hpl.find (hx.still hb) hm h64).mono (fun e w' ⟨he, hb'⟩ => ⟨he, hb.trans (hb'.mono hb.size)⟩))
  have HL2 : Hid (∀ W, Below w.heap.size w W → Calls Tryz.prog 41 #[ptr sp, .int .i64 2] W fun e w' => e = .returned (.int .i64 (n2 : Nat)) ∧ Below w.heap.size w w') := Lib.hid (fun W hb => x_len hx hb (t := 2) (by decide) hn2)
  have HL3 : Hid (∀ W, Below w.heap.size w W → Calls Tryz.prog 41 #[ptr sp, .int .i64 3] W fun e w' => e = .returned (.int .i64 (n3 : Nat)) ∧ Below w.heap.size w w') := Lib.hid (fun W hb => x_len hx hb (t := 3) (by decide) hn3)
  have HXX : Hid (∀ W, Below w.heap.size w W → CX w0 W xp sp s.c s.p (q11 s) (2 * top)) := Lib.hid (fun W hb => hx.still hb)
  have HKC : Hid (∀ W, Below w.heap.size w W → C3 xp sp c p W) := Lib.hid (fun W hb => by have := (hx.still hb).cells; rw [hcc, hpp] at this; exact this)
  obtain ⟨x0, x1, x2⟩ := hx.cells
  rw [hcc] at x1
  rw [hpp] at x2
  have h2I : (n2 : Int) ≤ 10000 := by omega
  have h3I : (n3 : Int) ≤ 10000 := by omega
  have h20 : (0 : Int) ≤ (n2 : Int) := by omega
  have h30 : (0 : Int) ≤ (n3 : Int) := by omega
  have hcI : (c : Int) ≤ 1048576 := by omega
  have hc1 : (1 : Int) ≤ (c : Int) := by omega
  have hpI : (p : Int) ≤ 1048576 := by omega
  have hp0 : (0 : Int) ≤ (p : Int) := by omega
  obtain ⟨eA, eO⟩ := adm_in hk
  rw [eA, eO]
  have HF : Hid (∀ W, Below w.heap.size w W → EPo w0 w xp s top [] (.returned (.slice none 0 0)) W) := Lib.hid (fun W hb => ⟨_, rfl, ⟨h.still hb, Kn.below hb⟩, KV.nil _⟩)
  clear h hx hsum hm hn2 hn3 hcc hpp hok hpos hcap hpc hokA hcA eA eO hk hc hpl HXX
  rcases hq with rfl | rfl
  all_goals
    go_enter Tryz.func20, Tryz.ntmps20
    go_wp2_with fail
    refine (hE.out w).mono ?_
    rintro e w1 ⟨rfl, rfl⟩
    go_upto_region 2 with fail
    go_region_held3 (fun w' => w'.cell? ⟨xp, 0, none⟩ = some (ptr sp) ∧ w'.cell? ⟨xp, 1, none⟩ = some (.int .i64 (c : Nat)) ∧ w'.cell? ⟨xp, 2, none⟩ = some (.int .i64 (p : Nat))) (first | with_reducible exact kk5 | with_reducible exact kk6 | go_keep)
      (first
        | (go_at_call 41; refine (HL3.out _ hb5).mono ?_; rintro e w6 ⟨rfl, hb6⟩; have kk6 := HKC.out w6 hb6)
        | (go_at_call 41; refine (HL2.out _ (below_drewn (Below.refl _ _) _)).mono ?_; rintro e w5 ⟨rfl, hb5⟩; have kk5 := HKC.out w5 hb5))
    have HFF := Lib.hid (HFI.out w6 hb6)
    obtain ⟨y0, y1, y2⟩ := kk6
    clear hb5 hb6 kk5 HL2 HL3 x0 x1 x2 HFI
    go_wp2_with fail
    refine HFF.out.mono ?_
    rintro e w7 ⟨rfl, hb7⟩
    have HB7 := Lib.hid hb7
    clear hb7 HFF y0 y1 y2
    have HR := Lib.hid (HF.out w7 HB7.out)
    clear HF HKC HB7
    go_wp2
    go_ret
    exact HR.out
set_option maxHeartbeats 8000000 in
set_option maxRecDepth 4000 in
theorem eadmit_up (h : EC w0 w xp s top) (hc : s.c ≤ top) (h64 : k < 18446744073709551616) (hpl : Pl s k 2 true) (hk : k ∉ s.keys) (h1 : k ∈ s.b1) :
    Calls Tryz.prog 20 #[ptr xp, .int .u64 (k : Nat)] w (EPo w0 w xp (s.adm k) top (s.admitOut k)) := by
  obtain ⟨sp, hx⟩ := h.mem
  have hm : 2 * top ≤ 10000 := by have := h.small; omega
  have hsum := CX.sum (show CX w0 w xp sp s.c s.p (quad s.t1 s.t2 s.b1 s.b2) (2 * top) from hx)
  have hge := h.ge
  have hok := h.ok
  have hpos := hok.pos
  have hcap := hok.cap
  have hpc := hok.pc
  have hokA := h.ok.adm k h64
  have hcA := L11.adm_c s k
  obtain ⟨n2, hn2⟩ : ∃ n2, s.b1.length = n2 := ⟨_, rfl⟩
  obtain ⟨n3, hn3⟩ : ∃ n3, s.b2.length = n3 := ⟨_, rfl⟩
  obtain ⟨c, hcc⟩ : ∃ c, s.c = c := ⟨_, rfl⟩
  obtain ⟨p, hpp⟩ : ∃ p, s.p = p := ⟨_, rfl⟩
  have hE := Lib.hid (fun (W : World) => eopen_walk (w := W) xp)
  have HFI : Hid (∀ W, Below w.heap.size w W → Calls Tryz.prog 43 #[ptr sp, .int .u64 (k : Nat)] W fun e w' => e = .returned (.tuple #[.int .i64 2, .bool true]) ∧ Below w.heap.size w w') := Lib.hid (fun W hb => (hpl.find (hx.still hb) hm h64).mono (fun e w' ⟨he, hb'⟩ => ⟨he, hb.trans (hb'.mono hb.size)⟩))
  have HL2 : Hid (∀ W, Below w.heap.size w W → Calls Tryz.prog 41 #[ptr sp, .int .i64 2] W fun e w' => e = .returned (.int .i64 (n2 : Nat)) ∧ Below w.heap.size w w') := Lib.hid (fun W hb => x_len hx hb (t := 2) (by decide) hn2)
  have HL3 : Hid (∀ W, Below w.heap.size w W → Calls Tryz.prog 41 #[ptr sp, .int .i64 3] W fun e w' => e = .returned (.int .i64 (n3 : Nat)) ∧ Below w.heap.size w w') := Lib.hid (fun W hb => x_len hx hb (t := 3) (by decide) hn3)
  have HXX : Hid (∀ W, Below w.heap.size w W → CX w0 W xp sp s.c s.p (q11 s) (2 * top)) := Lib.hid (fun W hb => hx.still hb)
  have HKC : Hid (∀ W, Below w.heap.size w W → C3 xp sp c p W) := Lib.hid (fun W hb => by have := (hx.still hb).cells; rw [hcc, hpp] at this; exact this)
  obtain ⟨x0, x1, x2⟩ := hx.cells
  rw [hcc] at x1
  rw [hpp] at x2
  have h2I : (n2 : Int) ≤ 10000 := by omega
  have h3I : (n3 : Int) ≤ 10000 := by omega
  have h20 : (0 : Int) ≤ (n2 : Int) := by omega
  have h30 : (0 : Int) ≤ (n3 : Int) := by omega
  have hcI : (c : Int) ≤ 1048576 := by omega
  have hc1 : (1 : Int) ≤ (c : Int) := by omega
  have hpI : (p : Int) ≤ 1048576 := by omega
  have hp0 : (0 : Int) ≤ (p : Int) := by omega
  obtain ⟨eA, eO⟩ := adm_up hk h1
  obtain ⟨pz, hpz⟩ : ∃ pz, (s.up k).p = pz := ⟨_, rfl⟩
  have hlen0 : 0 < n2 := by
    have := List.length_pos_of_mem h1
    omega
  have hpzv : pz = min (p + max (n3 / n2) 1) c := by
    rw [← hpz, ← hpp, ← hn2, ← hn3, ← hcc]
    rfl
  have hpzc : pz ≤ s.c := by omega
  have HEV : Hid (∀ W, CP w0 w xp sp s.c pz (q11 s) (2 * top) W → Calls Tryz.prog 46 #[ptr xp, .int .i64 ((c : Int) - 1), .bool false] W fun e w' => ∃ o, e = .returned o ∧ CP w0 w xp sp s.c pz (q11 ((s.aim pz).cut (s.c - 1) false)) (2 * top) w' ∧ KV w' o (s.admitOut k)) := Lib.hid (fun W hW => by
    have := evict1_walk (s := s.aim pz) (g := false) hW.1 (hok.fine.aim pz) hm (show pz ≤ 1048576 by omega) hpos hcap
    rw [show (((s.aim pz).c : Int) - 1) = (c : Int) - 1 from by rw [← hcc]; rfl] at this
    refine this.mono ?_
    intro e w' hq
    obtain ⟨o, he, g1, g2⟩ := hq.from_ hW.2
    refine ⟨o, he, g1, ?_⟩
    rw [eO, show (s.up k).cutOut (s.c - 1) false = (s.aim pz).cutOut (s.c - 1) false from by rw [← hpz]; rfl]
    exact g2)
  have HMV : Hid (∀ W, CP w0 w xp sp s.c pz (q11 ((s.aim pz).cut (s.c - 1) false)) (2 * top) W → ∀ o, KV W o (s.admitOut k) → Calls Tryz.prog 47 #[ptr sp, .int .i64 1, .int .u64 (k : Nat)] W fun e w' => e = .returned (.bool true) ∧ EPo w0 w xp (s.adm k) top (s.admitOut k) (.returned o) w') := Lib.hid (fun W hW o ho => by
    have hin : k ∈ q11 ((s.aim pz).cut (s.c - 1) false) 2 := List.mem_append_right _ h1
    refine (x_mv1 hW.1 hm (t := 2) (by decide) hin).mono ?_
    rintro e w' ⟨rfl, g1, g2⟩
    refine ⟨rfl, o, rfl, ⟨EC.make hokA h.small h.ge (sp := sp) ?_, hW.2.trans g2⟩, ho.kn g2⟩
    have eP : (s.adm k).p = pz := by rw [eA]; exact hpz
    rw [hcA, eP, eA]
    refine g1.congr ?_
    rw [← hpz]
    exact L11.up_hit hok.fine h1 (s.c - 1))
  have HKP : Hid (∀ l W, CP w0 w xp sp s.c pz l (2 * top) W → C3 xp sp c pz W) := Lib.hid (fun l W hW => by have := hW.1.cells; rw [hcc] at this; exact this)
  have HST : Hid (∀ W, Below w.heap.size w W → CP w0 w xp sp s.c pz (q11 s) (2 * top) (W.setCell ⟨xp, 2, none⟩ (.int .i64 (pz : Nat))).drew) := Lib.hid (fun W hb => CP.still ⟨((hx.still hb).aimS hge pz).1, (Kn.below hb).trans ((hx.still hb).aimS hge pz).2⟩ (below_drew17 (Below.refl _ _)))
  have HFZ : Hid (∀ W, Below w.heap.size w W → W.frozen? ⟨xp, 0, none⟩ = false ∧ W.frozen? ⟨xp, 1, none⟩ = false ∧ W.frozen? ⟨xp, 2, none⟩ = false ∧ xp < W.heap.size) := Lib.hid (fun W hb => ⟨(c3_at (hx.still hb).box).2.1, (c3_at (hx.still hb).box).2.2.1, (c3_at (hx.still hb).box).2.2.2, (hx.still hb).lt⟩)
  generalize EPo w0 w xp (s.adm k) top (s.admitOut k) = R at HMV ⊢
  generalize s.admitOut k = out at HEV HMV
  generalize q11 ((s.aim pz).cut (s.c - 1) false) = l2 at HEV HMV
  generalize q11 s = l1 at HEV HST
  clear h hx hsum hm hn2 hn3 hpp hok hpos hcap hpc hokA hcA eA eO hpz hk h1 hpl HXX hge
  obtain ⟨q, hq⟩ : ∃ q, n3 / n2 = q := ⟨_, rfl⟩
  have hqle : q ≤ n3 := by rw [← hq]; exact Nat.div_le_self _ _
  have hqI : ((n3 : Nat) : Int).tdiv (n2 : Nat) = (q : Int) := by rw [Int.tdiv_eq_ediv_of_nonneg (by omega), ← hq]; rfl
  have hqJ : ((n3 : Nat) : Int) / ((n2 : Nat) : Int) = (q : Int) := by rw [← hq]; rfl
  rw [hq] at hpzv
  obtain ⟨mx, hmx⟩ : ∃ mx, max q 1 = mx := ⟨_, rfl⟩
  rw [hmx] at hpzv
  have hqI2 : (q : Int) ≤ 1048576 := by omega
  have hden : ¬ ((n2 : Nat) : Int) = 0 := by omega
  have hdenb : (((n2 : Nat) : Int) == 0) = false := by rw [beq_eq_false_iff_ne]; omega
  clear hq hlen0 hc hpzc hcc
  go_enter Tryz.func20, Tryz.ntmps20
  go_wp2_with fail
  refine (hE.out w).mono ?_
  rintro e w1 ⟨rfl, rfl⟩
  go_upto_region 2 with fail
  go_region_held3 (fun w' => w'.cell? ⟨xp, 0, none⟩ = some (ptr sp) ∧ w'.cell? ⟨xp, 1, none⟩ = some (.int .i64 (c : Nat)) ∧ w'.cell? ⟨xp, 2, none⟩ = some (.int .i64 (p : Nat))) (first | with_reducible exact kk5 | with_reducible exact kk6 | go_keep)
    (first
      | (go_at_call 41; refine (HL3.out _ hb5).mono ?_; rintro e w6 ⟨rfl, hb6⟩; have kk6 := HKC.out w6 hb6)
      | (go_at_call 41; refine (HL2.out _ (below_drewn (Below.refl _ _) _)).mono ?_; rintro e w5 ⟨rfl, hb5⟩; have kk5 := HKC.out w5 hb5))
  have HFF := Lib.hid (HFI.out w6 hb6)
  obtain ⟨y0, y1, y2⟩ := kk6
  clear hb5 hb6 kk5 HL2 HL3 x0 x1 x2 HFI
  go_upto_region 3 with fail
  go_cut [7, 8] (fun s7 s8 wx => s7 = .int .i64 2 ∧ s8 = .bool true ∧ Below w.heap.size w wx)
  case first =>
    go_wp2_with fail
    refine HFF.out.mono ?_
    rintro e w7 ⟨rfl, hb7⟩
    have HB7 := Lib.hid hb7
    clear hb7
    go_wp2_with fail
    go_meet
    exact ⟨rfl, rfl, HB7.out⟩
  case rest =>
    obtain ⟨w7, hw7⟩ : ∃ x, x = wc := ⟨_, rfl⟩
    subst hw7
    obtain ⟨rfl, rfl, hb7⟩ := hcut
    have HB7 := Lib.hid hb7
    clear hb7 HFF y0 y1 y2
    obtain ⟨y0, y1, y2⟩ := HKC.out w7 HB7.out
    obtain ⟨yf0, yf1, yf2, ylt⟩ := HFZ.out w7 HB7.out
    have HS7 := Lib.hid (HST.out w7 HB7.out)
    clear HST HFZ HKC HB7
    rename_i KK hKK
    refine hKK _ _ (wp_seq_k ?_)
    intro KS hKS
    go_cut [7] (fun s7 wx => s7 = .int .i64 2 ∧ wx = (w7.setCell ⟨xp, 2, none⟩ (.int .i64 (pz : Nat))).drew)
    case first =>
      go_upto_region 10 with fail
      rcases (by omega : q = 0 ∨ q = 1 ∨ 2 ≤ q) with hq0 | hq0 | hq0
      · have hqv : (q : Int) < 1 := by omega
        obtain rfl : mx = 1 := by omega
        clear hmx hq0
        rcases Nat.lt_trichotomy (p + 1) c with hlt | hlt | hlt
        · have hz : (pz : Int) = (p : Int) + 1 := by omega
          have hmm : (p : Int) + 1 < (c : Int) := by omega
          have HZ := Lib.hid hz
          clear hz hlt hpzv
          go_region
          all_goals
            go_wp2_with fail
            go_meet
            refine ⟨rfl, ?_⟩
            (rw [HZ.out]) <;> first | rfl | simp | simp [hmm]
        · have hz : (pz : Int) = (p : Int) + 1 := by omega
          have hmm : (p : Int) + 1 = (c : Int) := by omega
          have HZ := Lib.hid hz
          clear hz hlt hpzv
          go_region
          all_goals
            go_wp2_with fail
            go_meet
            refine ⟨rfl, ?_⟩
            (rw [HZ.out]) <;> first | rfl | simp | simp [hmm]
        · have hz : (pz : Int) = (c : Int) := by omega
          have hmm : (c : Int) < (p : Int) + 1 := by omega
          have HZ := Lib.hid hz
          clear hz hlt hpzv
          go_region
          all_goals
            go_wp2_with fail
            go_meet
            refine ⟨rfl, ?_⟩
            (rw [HZ.out]) <;> first | rfl | simp | simp [hmm]
      · subst hq0
        obtain rfl : mx = 1 := by omega
        clear hmx
        rcases Nat.lt_trichotomy (p + 1) c with hlt | hlt | hlt
        · have hz : (pz : Int) = (p : Int) + 1 := by omega
          have hmm : (p : Int) + 1 < (c : Int) := by omega
          have HZ := Lib.hid hz
          clear hz hlt hpzv
          go_region
          all_goals
            go_wp2_with fail
            go_meet
            refine ⟨rfl, ?_⟩
            (rw [HZ.out]) <;> first | rfl | simp | simp [hmm]
        · have hz : (pz : Int) = (p : Int) + 1 := by omega
          have hmm : (p : Int) + 1 = (c : Int) := by omega
          have HZ := Lib.hid hz
          clear hz hlt hpzv
          go_region
          all_goals
            go_wp2_with fail
            go_meet
            refine ⟨rfl, ?_⟩
            (rw [HZ.out]) <;> first | rfl | simp | simp [hmm]
        · have hz : (pz : Int) = (c : Int) := by omega
          have hmm : (c : Int) < (p : Int) + 1 := by omega
          have HZ := Lib.hid hz
          clear hz hlt hpzv
          go_region
          all_goals
            go_wp2_with fail
            go_meet
            refine ⟨rfl, ?_⟩
            (rw [HZ.out]) <;> first | rfl | simp | simp [hmm]
      · have hqv : (1 : Int) < (q : Int) := by omega
        obtain rfl : q = mx := by omega
        clear hmx hq0
        rcases Nat.lt_trichotomy (p + q) c with hlt | hlt | hlt
        · have hz : (pz : Int) = (p : Int) + (q : Int) := by omega
          have hmm : (p : Int) + (q : Int) < (c : Int) := by omega
          have HZ := Lib.hid hz
          clear hz hlt hpzv
          go_region
          all_goals
            go_wp2_with fail
            go_meet
            refine ⟨rfl, ?_⟩
            (rw [HZ.out]) <;> first | rfl | simp | simp [hmm]
        · have hz : (pz : Int) = (p : Int) + (q : Int) := by omega
          have hmm : (p : Int) + (q : Int) = (c : Int) := by omega
          have HZ := Lib.hid hz
          clear hz hlt hpzv
          go_region
          all_goals
            go_wp2_with fail
            go_meet
            refine ⟨rfl, ?_⟩
            (rw [HZ.out]) <;> first | rfl | simp | simp [hmm]
        · have hz : (pz : Int) = (c : Int) := by omega
          have hmm : (c : Int) < (p : Int) + (q : Int) := by omega
          have HZ := Lib.hid hz
          clear hz hlt hpzv
          go_region
          all_goals
            go_wp2_with fail
            go_meet
            refine ⟨rfl, ?_⟩
            (rw [HZ.out]) <;> first | rfl | simp | simp [hmm]
    case rest =>
      obtain ⟨wx, hwx⟩ : ∃ x, x = wc := ⟨_, rfl⟩
      subst hwx
      obtain ⟨rfl, hcut⟩ := hcut
      have HX : Hid (CP w0 w xp sp s.c pz l1 (2 * top) wx) := Lib.hid (by rw [hcut]; exact HS7.out)
      clear hcut HS7 y0 y1 y2 yf0 yf1 yf2 ylt hqI hqJ hden hdenb hpzv hmx
      obtain ⟨x0, x1, x2⟩ := HKP.out _ wx HX.out
      have HE8 := Lib.hid (HEV.out wx HX.out)
      clear HEV HX
      go_wp2_with fail
      refine HE8.out.mono ?_
      rintro e w8 ⟨o, rfl, h8, ho8⟩
      obtain ⟨z0, z1, z2⟩ := HKP.out _ w8 h8
      have HM8 := Lib.hid (HMV.out w8 h8 o ho8)
      clear h8 ho8 HE8 HMV HKP x0 x1 x2
      go_wp2_with fail
      refine HM8.out.mono ?_
      rintro e w9 ⟨rfl, hR⟩
      have HR := Lib.hid hR
      clear hR HM8 z0 z1 z2
      go_wp2
      exact HR.out
set_option maxHeartbeats 8000000 in
set_option maxRecDepth 4000 in
theorem eadmit_dn (h : EC w0 w xp s top) (hc : s.c ≤ top) (h64 : k < 18446744073709551616) (hpl : Pl s k 3 true) (hk : k ∉ s.keys) (h0 : k ∉ s.b1) (h1 : k ∈ s.b2) :
    Calls Tryz.prog 20 #[ptr xp, .int .u64 (k : Nat)] w (EPo w0 w xp (s.adm k) top (s.admitOut k)) := by
  obtain ⟨sp, hx⟩ := h.mem
  have hm : 2 * top ≤ 10000 := by have := h.small; omega
  have hsum := CX.sum (show CX w0 w xp sp s.c s.p (quad s.t1 s.t2 s.b1 s.b2) (2 * top) from hx)
  have hge := h.ge
  have hok := h.ok
  have hpos := hok.pos
  have hcap := hok.cap
  have hpc := hok.pc
  have hokA := h.ok.adm k h64
  have hcA := L11.adm_c s k
  obtain ⟨n2, hn2⟩ : ∃ n2, s.b1.length = n2 := ⟨_, rfl⟩
  obtain ⟨n3, hn3⟩ : ∃ n3, s.b2.length = n3 := ⟨_, rfl⟩
  obtain ⟨c, hcc⟩ : ∃ c, s.c = c := ⟨_, rfl⟩
  obtain ⟨p, hpp⟩ : ∃ p, s.p = p := ⟨_, rfl⟩
  have hE := Lib.hid (fun (W : World) => eopen_walk (w := W) xp)
  have HFI : Hid (∀ W, Below w.heap.size w W → Calls Tryz.prog 43 #[ptr sp, .int .u64 (k : Nat)] W fun e w' => e = .returned (.tuple #[.int .i64 3, .bool true]) ∧ Below w.heap.size w w') := Lib.hid (fun W hb => (hpl.find (hx.still hb) hm h64).mono (fun e w' ⟨he, hb'⟩ => ⟨he, hb.trans (hb'.mono hb.size)⟩))
  have HL2 : Hid (∀ W, Below w.heap.size w W → Calls Tryz.prog 41 #[ptr sp, .int .i64 2] W fun e w' => e = .returned (.int .i64 (n2 : Nat)) ∧ Below w.heap.size w w') := Lib.hid (fun W hb => x_len hx hb (t := 2) (by decide) hn2)
  have HL3 : Hid (∀ W, Below w.heap.size w W → Calls Tryz.prog 41 #[ptr sp, .int .i64 3] W fun e w' => e = .returned (.int .i64 (n3 : Nat)) ∧ Below w.heap.size w w') := Lib.hid (fun W hb => x_len hx hb (t := 3) (by decide) hn3)
  have HXX : Hid (∀ W, Below w.heap.size w W → CX w0 W xp sp s.c s.p (q11 s) (2 * top)) := Lib.hid (fun W hb => hx.still hb)
  have HKC : Hid (∀ W, Below w.heap.size w W → C3 xp sp c p W) := Lib.hid (fun W hb => by have := (hx.still hb).cells; rw [hcc, hpp] at this; exact this)
  obtain ⟨x0, x1, x2⟩ := hx.cells
  rw [hcc] at x1
  rw [hpp] at x2
  have h2I : (n2 : Int) ≤ 10000 := by omega
  have h3I : (n3 : Int) ≤ 10000 := by omega
  have h20 : (0 : Int) ≤ (n2 : Int) := by omega
  have h30 : (0 : Int) ≤ (n3 : Int) := by omega
  have hcI : (c : Int) ≤ 1048576 := by omega
  have hc1 : (1 : Int) ≤ (c : Int) := by omega
  have hpI : (p : Int) ≤ 1048576 := by omega
  have hp0 : (0 : Int) ≤ (p : Int) := by omega
  obtain ⟨eA, eO⟩ := adm_dn hk h0 h1
  obtain ⟨pz, hpz⟩ : ∃ pz, (s.dn k).p = pz := ⟨_, rfl⟩
  have hlen0 : 0 < n3 := by
    have := List.length_pos_of_mem h1
    omega
  have hpzv : pz = p - max (n2 / n3) 1 := by
    rw [← hpz, ← hpp, ← hn2, ← hn3]
    rfl
  have hpzc : pz ≤ s.c := by omega
  have HEV : Hid (∀ W, CP w0 w xp sp s.c pz (q11 s) (2 * top) W → Calls Tryz.prog 46 #[ptr xp, .int .i64 ((c : Int) - 1), .bool true] W fun e w' => ∃ o, e = .returned o ∧ CP w0 w xp sp s.c pz (q11 ((s.aim pz).cut (s.c - 1) true)) (2 * top) w' ∧ KV w' o (s.admitOut k)) := Lib.hid (fun W hW => by
    have := evict1_walk (s := s.aim pz) (g := true) hW.1 (hok.fine.aim pz) hm (show pz ≤ 1048576 by omega) hpos hcap
    rw [show (((s.aim pz).c : Int) - 1) = (c : Int) - 1 from by rw [← hcc]; rfl] at this
    refine this.mono ?_
    intro e w' hq
    obtain ⟨o, he, g1, g2⟩ := hq.from_ hW.2
    refine ⟨o, he, g1, ?_⟩
    rw [eO, show (s.dn k).cutOut (s.c - 1) true = (s.aim pz).cutOut (s.c - 1) true from by rw [← hpz]; rfl]
    exact g2)
  have HMV : Hid (∀ W, CP w0 w xp sp s.c pz (q11 ((s.aim pz).cut (s.c - 1) true)) (2 * top) W → ∀ o, KV W o (s.admitOut k) → Calls Tryz.prog 47 #[ptr sp, .int .i64 1, .int .u64 (k : Nat)] W fun e w' => e = .returned (.bool true) ∧ EPo w0 w xp (s.adm k) top (s.admitOut k) (.returned o) w') := Lib.hid (fun W hW o ho => by
    have hin : k ∈ q11 ((s.aim pz).cut (s.c - 1) true) 3 := List.mem_append_right _ h1
    refine (x_mv1 hW.1 hm (t := 3) (by decide) hin).mono ?_
    rintro e w' ⟨rfl, g1, g2⟩
    refine ⟨rfl, o, rfl, ⟨EC.make hokA h.small h.ge (sp := sp) ?_, hW.2.trans g2⟩, ho.kn g2⟩
    have eP : (s.adm k).p = pz := by rw [eA]; exact hpz
    rw [hcA, eP, eA]
    refine g1.congr ?_
    rw [← hpz]
    exact L11.dn_hit hok.fine h1 (s.c - 1))
  have HKP : Hid (∀ l W, CP w0 w xp sp s.c pz l (2 * top) W → C3 xp sp c pz W) := Lib.hid (fun l W hW => by have := hW.1.cells; rw [hcc] at this; exact this)
  have HST : Hid (∀ W, Below w.heap.size w W → CP w0 w xp sp s.c pz (q11 s) (2 * top) (W.setCell ⟨xp, 2, none⟩ (.int .i64 (pz : Nat))).drew) := Lib.hid (fun W hb => CP.still ⟨((hx.still hb).aimS hge pz).1, (Kn.below hb).trans ((hx.still hb).aimS hge pz).2⟩ (below_drew17 (Below.refl _ _)))
  have HFZ : Hid (∀ W, Below w.heap.size w W → W.frozen? ⟨xp, 0, none⟩ = false ∧ W.frozen? ⟨xp, 1, none⟩ = false ∧ W.frozen? ⟨xp, 2, none⟩ = false ∧ xp < W.heap.size) := Lib.hid (fun W hb => ⟨(c3_at (hx.still hb).box).2.1, (c3_at (hx.still hb).box).2.2.1, (c3_at (hx.still hb).box).2.2.2, (hx.still hb).lt⟩)
  generalize EPo w0 w xp (s.adm k) top (s.admitOut k) = R at HMV ⊢
  generalize s.admitOut k = out at HEV HMV
  generalize q11 ((s.aim pz).cut (s.c - 1) true) = l2 at HEV HMV
  generalize q11 s = l1 at HEV HST
  clear h hx hsum hm hn2 hn3 hpp hok hpos hcap hpc hokA hcA eA eO hpz hk h0 h1 hpl HXX hge
  obtain ⟨q, hq⟩ : ∃ q, n2 / n3 = q := ⟨_, rfl⟩
  have hqle : q ≤ n2 := by rw [← hq]; exact Nat.div_le_self _ _
  have hqI : ((n2 : Nat) : Int).tdiv (n3 : Nat) = (q : Int) := by rw [Int.tdiv_eq_ediv_of_nonneg (by omega), ← hq]; rfl
  have hqJ : ((n2 : Nat) : Int) / ((n3 : Nat) : Int) = (q : Int) := by rw [← hq]; rfl
  rw [hq] at hpzv
  obtain ⟨mx, hmx⟩ : ∃ mx, max q 1 = mx := ⟨_, rfl⟩
  rw [hmx] at hpzv
  have hqI2 : (q : Int) ≤ 1048576 := by omega
  have hden : ¬ ((n3 : Nat) : Int) = 0 := by omega
  have hdenb : (((n3 : Nat) : Int) == 0) = false := by rw [beq_eq_false_iff_ne]; omega
  clear hq hlen0 hc hpzc hcc
  go_enter Tryz.func20, Tryz.ntmps20
  go_wp2_with fail
  refine (hE.out w).mono ?_
  rintro e w1 ⟨rfl, rfl⟩
  go_upto_region 2 with fail
  go_region_held3 (fun w' => w'.cell? ⟨xp, 0, none⟩ = some (ptr sp) ∧ w'.cell? ⟨xp, 1, none⟩ = some (.int .i64 (c : Nat)) ∧ w'.cell? ⟨xp, 2, none⟩ = some (.int .i64 (p : Nat))) (first | with_reducible exact kk5 | with_reducible exact kk6 | go_keep)
    (first
      | (go_at_call 41; refine (HL3.out _ hb5).mono ?_; rintro e w6 ⟨rfl, hb6⟩; have kk6 := HKC.out w6 hb6)
      | (go_at_call 41; refine (HL2.out _ (below_drewn (Below.refl _ _) _)).mono ?_; rintro e w5 ⟨rfl, hb5⟩; have kk5 := HKC.out w5 hb5))
  have HFF := Lib.hid (HFI.out w6 hb6)
  obtain ⟨y0, y1, y2⟩ := kk6
  clear hb5 hb6 kk5 HL2 HL3 x0 x1 x2 HFI
  go_upto_region 3 with fail
  go_cut [7, 8] (fun s7 s8 wx => s7 = .int .i64 3 ∧ s8 = .bool true ∧ Below w.heap.size w wx)
  case first =>
    go_wp2_with fail
    refine HFF.out.mono ?_
    rintro e w7 ⟨rfl, hb7⟩
    have HB7 := Lib.hid hb7
    clear hb7
    go_wp2_with fail
    go_meet
    exact ⟨rfl, rfl, HB7.out⟩
  case rest =>
    obtain ⟨w7, hw7⟩ : ∃ x, x = wc := ⟨_, rfl⟩
    subst hw7
    obtain ⟨rfl, rfl, hb7⟩ := hcut
    have HB7 := Lib.hid hb7
    clear hb7 HFF y0 y1 y2
    obtain ⟨y0, y1, y2⟩ := HKC.out w7 HB7.out
    obtain ⟨yf0, yf1, yf2, ylt⟩ := HFZ.out w7 HB7.out
    have HS7 := Lib.hid (HST.out w7 HB7.out)
    clear HST HFZ HKC HB7
    rename_i KK hKK
    refine hKK _ _ (wp_seq_k ?_)
    intro KS hKS
    go_cut [7] (fun s7 wx => s7 = .int .i64 3 ∧ wx = (w7.setCell ⟨xp, 2, none⟩ (.int .i64 (pz : Nat))).drew)
    case first =>
      go_upto_region 12 with fail
      rcases (by omega : q = 0 ∨ q = 1 ∨ 2 ≤ q) with hq0 | hq0 | hq0
      · have hqv : (q : Int) < 1 := by omega
        obtain rfl : mx = 1 := by omega
        clear hmx hq0
        rcases Nat.lt_trichotomy p 1 with hlt | hlt | hlt
        · have hz : (pz : Int) = 0 := by omega
          have hmm : (p : Int) - 1 < 0 := by omega
          have HZ := Lib.hid hz
          clear hz hlt hpzv
          go_region
          all_goals
            go_wp2_with fail
            go_meet
            refine ⟨rfl, ?_⟩
            (rw [HZ.out]) <;> first | rfl | simp | simp [hmm]
        · have hz : (pz : Int) = 0 := by omega
          have hmm : (p : Int) - 1 = 0 := by omega
          have HZ := Lib.hid hz
          clear hz hlt hpzv
          go_region
          all_goals
            go_wp2_with fail
            go_meet
            refine ⟨rfl, ?_⟩
            (rw [HZ.out]) <;> first | rfl | simp | simp [hmm]
        · have hz : (pz : Int) = (p : Int) - 1 := by omega
          have hmm : (0 : Int) < (p : Int) - 1 := by omega
          have HZ := Lib.hid hz
          clear hz hlt hpzv
          go_region
          all_goals
            go_wp2_with fail
            go_meet
            refine ⟨rfl, ?_⟩
            (rw [HZ.out]) <;> first | rfl | simp | simp [hmm]
      · subst hq0
        obtain rfl : mx = 1 := by omega
        clear hmx
        rcases Nat.lt_trichotomy p 1 with hlt | hlt | hlt
        · have hz : (pz : Int) = 0 := by omega
          have hmm : (p : Int) - 1 < 0 := by omega
          have HZ := Lib.hid hz
          clear hz hlt hpzv
          go_region
          all_goals
            go_wp2_with fail
            go_meet
            refine ⟨rfl, ?_⟩
            (rw [HZ.out]) <;> first | rfl | simp | simp [hmm]
        · have hz : (pz : Int) = 0 := by omega
          have hmm : (p : Int) - 1 = 0 := by omega
          have HZ := Lib.hid hz
          clear hz hlt hpzv
          go_region
          all_goals
            go_wp2_with fail
            go_meet
            refine ⟨rfl, ?_⟩
            (rw [HZ.out]) <;> first | rfl | simp | simp [hmm]
        · have hz : (pz : Int) = (p : Int) - 1 := by omega
          have hmm : (0 : Int) < (p : Int) - 1 := by omega
          have HZ := Lib.hid hz
          clear hz hlt hpzv
          go_region
          all_goals
            go_wp2_with fail
            go_meet
            refine ⟨rfl, ?_⟩
            (rw [HZ.out]) <;> first | rfl | simp | simp [hmm]
      · have hqv : (1 : Int) < (q : Int) := by omega
        obtain rfl : q = mx := by omega
        clear hmx hq0
        rcases Nat.lt_trichotomy p q with hlt | hlt | hlt
        · have hz : (pz : Int) = 0 := by omega
          have hmm : (p : Int) - (q : Int) < 0 := by omega
          have HZ := Lib.hid hz
          clear hz hlt hpzv
          go_region
          all_goals
            go_wp2_with fail
            go_meet
            refine ⟨rfl, ?_⟩
            (rw [HZ.out]) <;> first | rfl | simp | simp [hmm]
        · have hz : (pz : Int) = 0 := by omega
          have hmm : (p : Int) - (q : Int) = 0 := by omega
          have HZ := Lib.hid hz
          clear hz hlt hpzv
          go_region
          all_goals
            go_wp2_with fail
            go_meet
            refine ⟨rfl, ?_⟩
            (rw [HZ.out]) <;> first | rfl | simp | simp [hmm]
        · have hz : (pz : Int) = (p : Int) - (q : Int) := by omega
          have hmm : (0 : Int) < (p : Int) - (q : Int) := by omega
          have HZ := Lib.hid hz
          clear hz hlt hpzv
          go_region
          all_goals
            go_wp2_with fail
            go_meet
            refine ⟨rfl, ?_⟩
            (rw [HZ.out]) <;> first | rfl | simp | simp [hmm]
    case rest =>
      obtain ⟨wx, hwx⟩ : ∃ x, x = wc := ⟨_, rfl⟩
      subst hwx
      obtain ⟨rfl, hcut⟩ := hcut
      have HX : Hid (CP w0 w xp sp s.c pz l1 (2 * top) wx) := Lib.hid (by rw [hcut]; exact HS7.out)
      clear hcut HS7 y0 y1 y2 yf0 yf1 yf2 ylt hqI hqJ hden hdenb hpzv hmx
      obtain ⟨x0, x1, x2⟩ := HKP.out _ wx HX.out
      have HE8 := Lib.hid (HEV.out wx HX.out)
      clear HEV HX
      go_wp2_with fail
      refine HE8.out.mono ?_
      rintro e w8 ⟨o, rfl, h8, ho8⟩
      obtain ⟨z0, z1, z2⟩ := HKP.out _ w8 h8
      have HM8 := Lib.hid (HMV.out w8 h8 o ho8)
      clear h8 ho8 HE8 HMV HKP x0 x1 x2
      go_wp2_with fail
      refine HM8.out.mono ?_
      rintro e w9 ⟨rfl, hR⟩
      have HR := Lib.hid hR
      clear hR HM8 z0 z1 z2
      go_wp2
      exact HR.out
theorem eadmit_walk (h : EC w0 w xp s top) (hc : s.c ≤ top) (k : Nat) (h64 : k < 18446744073709551616) :
    Calls Tryz.prog 20 #[ptr xp, .int .u64 (k : Nat)] w (EPo w0 w xp (s.adm k) top (s.admitOut k)) := by
  obtain ⟨q, b, hp⟩ := pl_any s k
  have hkk := hp.keys h.ok.fine
  obtain ⟨-, -, p3⟩ := h.ok.fine.where_ (k := k)
  cases hp with
  | t1 q => exact eadmit_in h hc h64 (.inl rfl) (.t1 q) (hkk.1 ⟨rfl, .inl rfl⟩)
  | t2 q => exact eadmit_in h hc h64 (.inr rfl) (.t2 q) (hkk.1 ⟨rfl, .inr rfl⟩)
  | b1 q => exact eadmit_up h hc h64 (.b1 q) (fun e => by have := hkk.2 e; omega) q
  | b2 q => exact eadmit_dn h hc h64 (.b2 q) (fun e => by have := hkk.2 e; omega) (fun e => p3 e q) q
  | no q => exact eadmit_no h hc h64 (.no q) (fun e => by have := (hkk.2 e).1; cases this) q.2.2.1 q.2.2.2
end
end Go.Proofs.YtgkblelgcikafaaGreat
