/- Words and walks: Box PoA PoB PoE ArB Ar. -/
import Derived.Test.YtkhikpnlpcankaaG0
import Derived.WalkKit
import Derived.RowKit3
import Derived.Below
import Derived.Lib.Hide
import Derived.Deep.OwnRows
import Derived.Deep.Draws
import Derived.Deep.QuietTactic
import Derived.BigQuiet
import Derived.BigRegion
import Derived.Outline
import Derived.WalkSpells
import Derived.WalkLawsBesides
namespace Go.Proofs.Ytkhikpnlpcankaa
open Go Go.RowKit Go.Deep
section
variable {w w1 : World} {g : Nat} {t : TypeId}
theorem set_one {c : Array Value} {i : Nat} {v : Value} (h : w.heap[g]? = some (.cells c t (0, 0))) : (w.setCell ⟨g, i, none⟩ v).heap[g]? = some (.cells (c.setIfInBounds i v) t (0, 0)) := by
  simp [World.setCell, Array.getElem?_modify, h]
theorem c2_at {a0 a1 : Value} (h : w.heap[g]? = some (.cells #[a0, a1] t (0, 0))) :
    (w.cell? ⟨g, 0, none⟩ = some a0 ∧ w.cell? ⟨g, 1, none⟩ = some a1) ∧ w.frozen? ⟨g, 0, none⟩ = false ∧ w.frozen? ⟨g, 1, none⟩ = false :=
  ⟨⟨(head_row h).cell (i := 0) (by simp), (head_row h).cell (i := 1) (by simp)⟩, (head_row h).frozen 0, (head_row h).frozen 1⟩
theorem c3_at {a0 a1 a2 : Value} (h : w.heap[g]? = some (.cells #[a0, a1, a2] t (0, 0))) :
    (w.cell? ⟨g, 0, none⟩ = some a0 ∧ w.cell? ⟨g, 1, none⟩ = some a1 ∧ w.cell? ⟨g, 2, none⟩ = some a2) ∧ w.frozen? ⟨g, 0, none⟩ = false ∧ w.frozen? ⟨g, 1, none⟩ = false ∧ w.frozen? ⟨g, 2, none⟩ = false :=
  ⟨⟨(head_row h).cell (i := 0) (by simp), (head_row h).cell (i := 1) (by simp), (head_row h).cell (i := 2) (by simp)⟩, (head_row h).frozen 0, (head_row h).frozen 1, (head_row h).frozen 2⟩
theorem c3_set {a0 a1 a2 : Value} (h : w.heap[g]? = some (.cells #[a0, a1, a2] t (0, 0))) (b0 b1 b2 : Value) :
    (((w.setCell ⟨g, 0, none⟩ b0).setCell ⟨g, 1, none⟩ b1).setCell ⟨g, 2, none⟩ b2).heap[g]? = some (.cells #[b0, b1, b2] t (0, 0)) ∧ Only [g] w (((w.setCell ⟨g, 0, none⟩ b0).setCell ⟨g, 1, none⟩ b1).setCell ⟨g, 2, none⟩ b2) :=
  ⟨set_one (set_one (set_one h)), (((Only.refl [g] w).setCell (by simp) _).setCell (by simp) _).setCell (by simp) _⟩
end
theorem low_one (w : World) (o : Obj) : Below w.heap.size w (w.alloc o) := (Below.refl _ _).alloc (Nat.le_refl _) o
theorem low_two (w : World) (o o2 : Obj) : Below w.heap.size w ((w.alloc o).alloc o2) := (low_one w o).alloc (by simp) o2
def isU : Value → Bool
  | .int .u64 _ => true
  | _ => false
def NoU (cs : Array Value) : Prop := cs.toList.all (fun u => !isU u) = true
theorem NoU.at_ {cs : Array Value} (h : NoU cs) {i : Nat} {k : Int} (hi : cs[i]? = some (.int .u64 k)) : False := by
  have hm : Value.int .u64 k ∈ cs.toList := by simpa using Array.mem_of_getElem? hi
  have := List.all_eq_true.1 h _ hm
  simp [isU] at this
def Bx (w : World) (g : Nat) : Prop := ∃ cs t, w.heap[g]? = some (.cells cs t (0, 0)) ∧ NoU cs ∧ t ≠ 28
section
variable {w w' : World} {v : Value} {ks : List Nat} {S : List Nat}
theorem KV.only (h : KV w v ks) (ho : Only S w w') (hS : ∀ g ∈ S, Bx w g) : KV w' v ks := by
  have hout : ∀ (j : Nat) (u : Value) (ad : Addr), (u64L ks)[j]? = some u → ad.block < w.heap.size → w.cell? (ad.add j) = some u → ad.block ∉ S := fun j u ad hu h4 h5 hm => by
    have hb : (ad.add j).block = ad.block := ad_block ad j
    obtain ⟨cs, t, hg, hn, _⟩ := hS _ hm
    obtain ⟨x, rfl⟩ : ∃ x : Nat, u = .int .u64 (x : Nat) := by
      obtain ⟨hj, hju⟩ := List.getElem?_eq_some_iff.1 hu
      exact ⟨ks[j]'(by simpa [u64L] using hj), by rw [← hju]; simp [u64L]⟩
    unfold World.cell? at h5
    rw [hb, hg] at h5
    have h6 : (if (ad.add j).spot.isSome then none else cs[(ad.add j).off]?) = some (Value.int .u64 (x : Nat)) := h5
    split at h6
    · cases h6
    · exact hn.at_ h6
  obtain ⟨hl, ⟨F, c, e, h1, h2, h3⟩, hnp⟩ := h
  refine ⟨hl, ⟨F, c, e, h1, h2, fun j u hu => ?_⟩, fun m c' ad e1 => ?_⟩
  rotate_left
  · have hp := hnp m c' ad e1
    rw [e] at e1
    injection e1 with e1 e2 e3
    obtain ⟨ad', e4, h4, h5⟩ := h3 0 _ (List.getElem?_eq_getElem (by rw [u64L_len]; omega))
    rw [e1] at e4
    injection e4 with e4
    subst e4
    exact hp.keep (ho.block _ hp.lt (hout 0 _ ad (List.getElem?_eq_getElem (by rw [u64L_len]; omega)) h4 h5))
  obtain ⟨ad, e2, h4, h5⟩ := h3 j u hu
  have hb : (ad.add j).block = ad.block := ad_block ad j
  refine ⟨ad, e2, Nat.lt_of_lt_of_le h4 ho.size, ?_⟩
  refine Eq.trans (World.cell?_of_block (w := w) ?_) h5
  rw [hb]
  exact ho.block _ h4 (hout j u ad hu h4 h5)
theorem KO.only {B : Nat} {w0 : World} (h : KO B w0 w v ks) (ho : Only S w w') (hS : ∀ g ∈ S, Bx w g ∧ B ≤ g) (hB : B ≤ w.heap.size) : KO B w0 w' v ks := by
  refine ⟨h.low.trans (ho.below (fun g hg => (hS g hg).2) hB), h.own.1, ?_⟩
  rcases h.own.2 with q | ⟨g, cap, cur, e1, e2, e3, e4⟩
  · exact .inl q
  · refine .inr ⟨g, cap, cur, e1, e2, (ho.block g (Array.getElem?_eq_some_iff.1 e3).1 (fun hm => ?_)).trans e3, e4⟩
    obtain ⟨⟨cs, t, hg, _, ht⟩, _⟩ := hS g hm
    rw [e3] at hg
    injection hg with hg
    injection hg with _ hg
    exact ht hg.symm
theorem Bx.keep {g : Nat} (h : Bx w g) (e : w'.heap[g]? = w.heap[g]?) : Bx w' g := by
  obtain ⟨cs, t, h1, h2⟩ := h
  exact ⟨cs, t, e.trans h1, h2⟩
theorem Ks.only {w0 : World} {l : List (Value × List Nat)} (h : Ks w0 w l) (ho : Only S w w') (hS : ∀ g ∈ S, Bx w g ∧ w0.heap.size ≤ g) : Ks w0 w' l :=
  ⟨h.low.trans (ho.below (fun g hg => (hS g hg).2) h.low.size), fun p hp => (h.all p hp).only ho (fun g hg => (hS g hg).1)⟩
end
structure Bo (w w1 : World) (T : TypeId) (b r : Nat) (cs zs : Array Value) : Prop where
  low : Below w.heap.size w w1
  box : w1.heap[b]? = some (.cells cs T (0, 0))
  res : w1.heap[r]? = some (.cells zs T (0, 0))
  ge : w.heap.size ≤ b ∧ w.heap.size ≤ r ∧ b ≠ r
  nu : NoU cs ∧ NoU zs
  ty : T ≠ 28
theorem Bo.start (w : World) (T : TypeId) (cs zs : Array Value) (h1 : NoU cs) (h2 : NoU zs) (hT : T ≠ 28) : Bo w ((w.alloc (.cells cs T)).alloc (.cells zs T)) T w.heap.size (w.heap.size + 1) cs zs := by
  refine ⟨low_two w _ _, ?_, ?_, ⟨by omega, by omega, by omega⟩, ⟨h1, h2⟩, hT⟩
  · rw [Below.heap_alloc _ _ _ (by simp)]
    exact heap_alloc_new w _
  · have := heap_alloc_new (w.alloc (.cells cs T)) (.cells zs T)
    simpa using this
section
variable {w w1 w2 : World} {T : TypeId} {b r : Nat} {cs zs : Array Value} {v : Value} {ks : List Nat}
theorem Bo.step (h : Bo w w1 T b r cs zs) (hb : Below w1.heap.size w1 w2) : Bo w w2 T b r cs zs :=
  ⟨h.low.trans (hb.mono h.low.size), (hb.block b (head_row h.box).lt).trans h.box, (hb.block r (head_row h.res).lt).trans h.res, h.ge, h.nu, h.ty⟩
theorem Bo.fin (h : Bo w w1 T b r cs zs) (ho : Only [b, r] w1 w2) : Below w.heap.size w w2 := h.low.trans (ho.below (by simp; exact ⟨h.ge.1, h.ge.2.1⟩) h.low.size)
theorem Bo.bx (h : Bo w w1 T b r cs zs) : ∀ g ∈ [b, r], Bx w1 g ∧ w.heap.size ≤ g := fun g hg => by
  simp only [List.mem_cons, List.not_mem_nil, or_false] at hg
  rcases hg with rfl | rfl
  · exact ⟨⟨_, _, h.box, h.nu.1, h.ty⟩, h.ge.1⟩
  · exact ⟨⟨_, _, h.res, h.nu.2, h.ty⟩, h.ge.2.1⟩
theorem Bo.kv (h : Bo w w1 T b r cs zs) (ho : Only [b, r] w1 w2) (hk : KV w1 v ks) : KV w2 v ks := hk.only ho (fun g hg => (h.bx g hg).1)
theorem Bo.alloc (h : Bo w w1 T b r cs zs) (cs2 : Array Value) (hn : NoU cs2) : Bo w (w1.alloc (.cells cs2 T)) T w1.heap.size r cs2 zs := by
  have h2 := h.step (low_one w1 (.cells cs2 T))
  have hr := (head_row h.res).lt
  exact ⟨h2.low, heap_alloc_new w1 _, h2.res, ⟨h.low.size, h.ge.2.1, by omega⟩, ⟨hn, h.nu.2⟩, h.ty⟩
theorem Bo.set (h : Bo w w1 T b r cs zs) (i : Nat) (x : Value) (hn : NoU (cs.setIfInBounds i x)) : Bo w (w1.setCell ⟨b, i, none⟩ x) T b r (cs.setIfInBounds i x) zs ∧ Only [b, r] w1 (w1.setCell ⟨b, i, none⟩ x) := by
  have ho : Only [b] w1 (w1.setCell ⟨b, i, none⟩ x) := (Only.refl _ _).setCell (by simp) _
  have ho2 : Only [b, r] w1 (w1.setCell ⟨b, i, none⟩ x) := (Only.refl _ _).setCell (by simp) _
  exact ⟨⟨h.fin ho2, set_one h.box, (ho.block r (head_row h.res).lt (by simpa using fun e => h.ge.2.2 e.symm)).trans h.res, h.ge, ⟨hn, h.nu.2⟩, h.ty⟩, ho2⟩
end
structure Bp (w w1 : World) (T U : TypeId) (b r : Nat) (cs zs : Array Value) : Prop where
  low : Below w.heap.size w w1
  box : w1.heap[b]? = some (.cells cs T (0, 0))
  res : w1.heap[r]? = some (.cells zs U (0, 0))
  ge : w.heap.size ≤ b ∧ w.heap.size ≤ r ∧ b ≠ r
  nu : NoU cs ∧ NoU zs
  ty : T ≠ 28 ∧ U ≠ 28
section
variable {w w1 w2 : World} {T U : TypeId} {b r : Nat} {cs zs : Array Value} {v : Value} {ks : List Nat}
theorem Bp.step (h : Bp w w1 T U b r cs zs) (hb : Below w1.heap.size w1 w2) : Bp w w2 T U b r cs zs :=
  ⟨h.low.trans (hb.mono h.low.size), (hb.block b (head_row h.box).lt).trans h.box, (hb.block r (head_row h.res).lt).trans h.res, h.ge, h.nu, h.ty⟩
theorem Bp.fin (h : Bp w w1 T U b r cs zs) (ho : Only [b, r] w1 w2) : Below w.heap.size w w2 := h.low.trans (ho.below (by simp; exact ⟨h.ge.1, h.ge.2.1⟩) h.low.size)
theorem Bp.bx (h : Bp w w1 T U b r cs zs) : ∀ g ∈ [b, r], Bx w1 g ∧ w.heap.size ≤ g := fun g hg => by
  simp only [List.mem_cons, List.not_mem_nil, or_false] at hg
  rcases hg with rfl | rfl
  · exact ⟨⟨_, _, h.box, h.nu.1, h.ty.1⟩, h.ge.1⟩
  · exact ⟨⟨_, _, h.res, h.nu.2, h.ty.2⟩, h.ge.2.1⟩
theorem Bp.kv (h : Bp w w1 T U b r cs zs) (ho : Only [b, r] w1 w2) (hk : KV w1 v ks) : KV w2 v ks := hk.only ho (fun g hg => (h.bx g hg).1)
end
def capI (n : Int) : Nat := if n < 1 then 1 else if 1048576 < n then 1048576 else n.toNat
theorem capI_pos (n : Int) : 1 ≤ capI n ∧ capI n ≤ 1048576 := by
  unfold capI
  split
  · omega
  · split
    · omega
    · omega
structure Act8 where
  kind : Nat
  key : Nat
  n : Nat
structure Act8.Ok (x : Act8) : Prop where
  kind : x.kind < 256
  key : x.key < 18446744073709551616
  n : x.n < 65536
abbrev act8C (x : Act8) : Array Value := #[.int .u8 (x.kind : Nat), .int .u64 (x.key : Nat), .int .u16 (x.n : Nat)]
def kindA (x : Act8) (there : Bool) : Nat := if x.kind % 10 = 0 then 3 else if x.kind % 10 = 1 then 4 else if x.kind % 10 = 2 then 1 else if x.kind % 10 = 3 then 2 else if there then 1 else 2
def sizeA (x : Act8) : Nat := 1 + x.n % 14
theorem kindA_is (x : Act8) (b : Bool) : kindA x b = 1 ∨ kindA x b = 2 ∨ kindA x b = 3 ∨ kindA x b = 4 := by
  unfold kindA
  repeat' split
  all_goals simp
theorem sizeA_is (x : Act8) : 1 ≤ sizeA x ∧ sizeA x ≤ 14 := by unfold sizeA; omega
section
variable {w : World}
theorem rcap_walk (n : Int) (hn1 : -9223372036854775808 ≤ n) (hn2 : n ≤ 9223372036854775807) :
    Calls Try.prog 19 #[.int .i64 n] w fun e w' => e = .returned (.int .i64 (capI n : Nat)) ∧ w = w' := by
  obtain ⟨c, hc⟩ : ∃ c, capI n = c := ⟨_, rfl⟩
  have HC := Lib.hid hc
  rw [hc]
  clear hc
  by_cases h1 : n < 1
  · have H : Hid ((1 : Int) = (c : Int)) := Lib.hid (by rw [← HC.out, capI, if_pos h1]; rfl)
    go_enter Try.func19, Try.ntmps19
    go_wp2
    go_ret
    exact ⟨by rw [H.out]; rfl, rfl⟩
  · by_cases h2 : 1048576 < n
    · have H : Hid ((1048576 : Int) = (c : Int)) := Lib.hid (by rw [← HC.out, capI, if_neg h1, if_pos h2]; rfl)
      go_enter Try.func19, Try.ntmps19
      go_wp2
      go_ret
      exact ⟨by rw [H.out]; rfl, rfl⟩
    · have H : Hid (n = (c : Int)) := Lib.hid (by rw [← HC.out, capI, if_neg h1, if_neg h2]; omega)
      go_enter Try.func19, Try.ntmps19
      go_wp2
      go_ret
      exact ⟨by rw [← H.out]; rfl, rfl⟩
theorem rkind_walk (x : Act8) (wf : x.Ok) (b : Bool) :
    Calls Try.prog 23 #[.agg (act8C x), .bool b] w fun e w' => e = .returned (.int .i64 (kindA x b : Nat)) ∧ Below w.heap.size w w' := by
  have hk := wf.kind
  have hb0 : Below w.heap.size w (w.alloc (.cells (act8C x) 31)) := (Below.refl _ _).alloc (Nat.le_refl _) _
  have HB0 := Lib.hid hb0
  have HK : Hid (kindA x b = if x.kind % 10 = 0 then 3 else if x.kind % 10 = 1 then 4 else if x.kind % 10 = 2 then 1 else if x.kind % 10 = 3 then 2 else if b then 1 else 2) := Lib.hid rfl
  generalize kindA x b = q at HK ⊢
  obtain ⟨r, hr⟩ : ∃ r, x.kind % 10 = r := ⟨_, rfl⟩
  have hr10 : r < 10 := by omega
  have e2 : (x.kind : Int).tmod 10 = (r : Int) := by rw [Int.tmod_eq_emod_of_nonneg (by omega)]; omega
  rw [hr] at HK
  clear hr wf hb0
  rcases (by omega : r = 0 ∨ r = 1 ∨ r = 2 ∨ r = 3 ∨ 4 ≤ r) with rfl | rfl | rfl | rfl | h4
  · have H : Hid (q = 3) := Lib.hid (by rw [HK.out]; rfl)
    go_enter Try.func23, Try.ntmps23
    go_wp2
    go_ret
    exact ⟨by rw [H.out]; rfl, HB0.out⟩
  · have H : Hid (q = 4) := Lib.hid (by rw [HK.out]; rfl)
    go_enter Try.func23, Try.ntmps23
    go_wp2
    go_ret
    exact ⟨by rw [H.out]; rfl, HB0.out⟩
  · have H : Hid (q = 1) := Lib.hid (by rw [HK.out]; rfl)
    go_enter Try.func23, Try.ntmps23
    go_wp2
    go_ret
    exact ⟨by rw [H.out]; rfl, HB0.out⟩
  · have H : Hid (q = 2) := Lib.hid (by rw [HK.out]; rfl)
    go_enter Try.func23, Try.ntmps23
    go_wp2
    go_ret
    exact ⟨by rw [H.out]; rfl, HB0.out⟩
  · have f0 : ((r : Int) == 0) = false := by rw [beq_eq_false_iff_ne]; omega
    have f1 : ((r : Int) == 1) = false := by rw [beq_eq_false_iff_ne]; omega
    have f2 : ((r : Int) == 2) = false := by rw [beq_eq_false_iff_ne]; omega
    have f3 : ((r : Int) == 3) = false := by rw [beq_eq_false_iff_ne]; omega
    have H : Hid (q = if b then 1 else 2) := Lib.hid (by rw [HK.out, if_neg (by omega), if_neg (by omega), if_neg (by omega), if_neg (by omega)])
    cases b
    · go_enter Try.func23, Try.ntmps23
      go_wp2
      go_ret
      exact ⟨by rw [H.out]; rfl, HB0.out⟩
    · go_enter Try.func23, Try.ntmps23
      go_wp2
      go_ret
      exact ⟨by rw [H.out]; rfl, HB0.out⟩
theorem rsize_walk (x : Act8) (wf : x.Ok) :
    Calls Try.prog 24 #[.agg (act8C x)] w fun e w' => e = .returned (.int .i64 (sizeA x : Nat)) ∧ Below w.heap.size w w' := by
  have hk := wf.n
  have hb0 : Below w.heap.size w (w.alloc (.cells (act8C x) 31)) := (Below.refl _ _).alloc (Nat.le_refl _) _
  have HB0 := Lib.hid hb0
  obtain ⟨r, hr⟩ : ∃ r, x.n % 14 = r := ⟨_, rfl⟩
  have HK : Hid ((1 : Int) + (r : Int) = (sizeA x : Nat)) := Lib.hid (by unfold sizeA; omega)
  have hr10 : r < 14 := by omega
  have e2 : (x.n : Int).tmod 14 = (r : Int) := by rw [Int.tmod_eq_emod_of_nonneg (by omega)]; omega
  generalize sizeA x = q at HK ⊢
  clear hr wf hb0
  go_enter Try.func24, Try.ntmps24
  go_wp2
  go_ret
  exact ⟨by rw [← HK.out]; rfl, HB0.out⟩
end
def ActAt (w : World) (g o : Nat) (x : Act8) : Prop := w.cell? ⟨g, o, none⟩ = some (.int .u8 (x.kind : Nat)) ∧ w.cell? ⟨g, o + 1, none⟩ = some (.int .u64 (x.key : Nat)) ∧ w.cell? ⟨g, o + 2, none⟩ = some (.int .u16 (x.n : Nat))
structure AV (w : World) (v : Value) (l : List Act8) : Prop where
  mem : ∃ A c, v = .slice A l.length c ∧ ∀ i (h : i < l.length), l[i].Ok ∧ ∃ g off, A = some ⟨g, off, none⟩ ∧ g < w.heap.size ∧ ActAt w g (off + i * 3) l[i]
theorem ActAt.keep {w w' : World} {g o : Nat} {x : Act8} (h : ActAt w g o x) (e : w'.heap[g]? = w.heap[g]?) : ActAt w' g o x :=
  ⟨(World.cell?_of_block (w := w) (a := ⟨g, o, none⟩) e).trans h.1, (World.cell?_of_block (w := w) (a := ⟨g, o + 1, none⟩) e).trans h.2.1, (World.cell?_of_block (w := w) (a := ⟨g, o + 2, none⟩) e).trans h.2.2⟩
theorem AV.below {w w' : World} {v : Value} {l : List Act8} (h : AV w v l) (hb : Below w.heap.size w w') : AV w' v l := by
  obtain ⟨A, c, e, h1⟩ := h.mem
  refine ⟨A, c, e, fun i hi => ?_⟩
  obtain ⟨ok, g, off, e2, hg, hc⟩ := h1 i hi
  exact ⟨ok, g, off, e2, Nat.lt_of_lt_of_le hg hb.size, hc.keep (hb.block g hg)⟩
structure Evs (was is out : List Nat) (q key size : Nat) : Prop where
  e1 : ∀ k ∈ out, k ∈ was ∧ k ∉ is
  e2 : ∀ k ∈ was, k ∈ out ∨ k ∈ is ∨ q = 3 ∧ k = key
  e3 : out.Nodup
  e4 : (is.length : Int) = (was.length : Int) - (out.length : Int) + (if q = 2 ∧ key ∉ was then 1 else 0) - (if q = 3 ∧ key ∈ was then 1 else 0)
  e5 : q = 4 → (out.length : Int) = max ((was.length : Int) - (size : Int)) 0
end Go.Proofs.Ytkhikpnlpcankaa
namespace Go.Proofs.Ytkhikpnlpcankaa
open Go Go.ChangeShapes Go.WideShapes Go.RowKit Go.Deep
section
variable {H : Type} {enc : TypeId × Value → H} {w : World} {base : Nat} {sp : Nat → Bool} {held : Bool}
theorem open_act8_cells {n : Nat} {cs : List Value} {x : DataW H × List MemPlace} (h : DataW.trod enc Try.prog w base sp held n 31 cs = some x) :
    ∃ a : Act8, a.Ok ∧ cs = [.int .u8 (a.kind : Nat), .int .u64 (a.key : Nat), .int .u16 (a.n : Nat)] := by
  have hs := Try.underlying31
  have k1 : Try.prog.cellsOf 5 = 1 := by kernel_rfl
  have k2 : Try.prog.cellsOf 28 = 1 := by kernel_rfl
  have k3 : Try.prog.cellsOf 29 = 1 := by kernel_rfl
  have k0 : Try.prog.cellsOf 31 = 3 := by kernel_rfl
  obtain ⟨xs, m, _, hx, hl, hlen, hg⟩ := DataW.trod_struct hs h
  rw [k0] at hl
  rcases cs with _ | ⟨c0, _ | ⟨c1, _ | ⟨c2, _ | ⟨c3, cs⟩⟩⟩⟩
  case cons.cons.cons.nil =>
    have g0 : DataW.trod enc Try.prog w base sp held m 5 (List.take (Try.prog.cellsOf 5) (List.drop 0 [c0, c1, c2])) = xs[0]? := hg 0 _ rfl
    have g1 : DataW.trod enc Try.prog w base sp held m 28 (List.take (Try.prog.cellsOf 28) (List.drop 1 [c0, c1, c2])) = xs[1]? := hg 1 _ rfl
    have g2 : DataW.trod enc Try.prog w base sp held m 29 (List.take (Try.prog.cellsOf 29) (List.drop 2 [c0, c1, c2])) = xs[2]? := hg 2 _ rfl
    rw [k1] at g0
    rw [k2] at g1
    rw [k3] at g2
    simp only [List.drop, List.take] at g0 g1 g2
    have e : ∀ j, j < 3 → ∃ z, xs[j]? = some z := fun j hj => ⟨_, List.getElem?_eq_getElem (by rw [hlen]; simpa using hj)⟩
    obtain ⟨z0, f0⟩ := e 0 (by decide)
    obtain ⟨z1, f1⟩ := e 1 (by decide)
    obtain ⟨z2, f2⟩ := e 2 (by decide)
    obtain ⟨a0, q0, _, w0⟩ := DataW.trod_int Try.underlying5 (g0.trans f0)
    obtain ⟨a1, q1, _, w1⟩ := DataW.trod_int Try.underlying28 (g1.trans f1)
    obtain ⟨a2, q2, _, w2⟩ := DataW.trod_int Try.underlying29 (g2.trans f2)
    simp only [List.cons.injEq, and_true] at q0 q1 q2
    subst q0 q1 q2
    obtain ⟨b0, rfl, hb0⟩ := u8_nat w0
    obtain ⟨b1, rfl, hb1⟩ := u64_nat w1
    simp only [Lit.wf, Bool.and_eq_true, decide_eq_true_eq] at w2
    have m3 : IntKind.u16.min = 0 := rfl
    have m4 : IntKind.u16.max = 65535 := rfl
    obtain ⟨b2, rfl⟩ : ∃ b2 : Nat, a2 = b2 := ⟨a2.toNat, by omega⟩
    exact ⟨⟨b0, b1, b2⟩, ⟨hb0, hb1, by show b2 < 65536; omega⟩, rfl⟩
  all_goals simp at hl
set_option maxRecDepth 8000 in
theorem open_acts8 {r : Reach} {b0 : Nat} {v : Value} {d : DataW H} {p : List MemPlace} (hv : Value.okWide Try.prog w r b0 22 v) (h : DataW.Trod enc Try.prog w 0 (fun _ => true) held 22 v d p)
    (hlt : ∀ x ∈ p, x.block < w.heap.size) : ∃ l : List Act8, AV w v l := by
  obtain ⟨A, n, c, rfl⟩ := okWide_slice Try.underlying22 hv
  have k0 : Try.prog.cellsOf 31 = 3 := by kernel_rfl
  obtain ⟨fuel, hf⟩ := h
  rcases open_slice Try.underlying22 hf with ⟨h0, _⟩ | ⟨a, len, cap, m, q, D, Pl, hcs, hb, hl, hm, hmm, hx, hi⟩
  · simp only [Value.cells, List.cons.injEq, and_true] at h0
    injection h0 with h1 h2 h3
    subst h1 h2 h3
    exact ⟨[], ⟨none, 0, rfl, fun i hi => by simp at hi⟩⟩
  · have hcs' : Value.slice A n c = .slice (some a) len cap := by simpa [Value.cells] using hcs
    injection hcs' with h1 h2 h3
    subst h1 h2 h3
    rw [if_pos rfl] at hmm
    subst hmm
    rw [k0] at hx hi
    have key : ∀ i, i < n → ∃ y : Act8, y.Ok ∧ ∀ j, j < 3 → w.cell? (a.add (i * 3 + j)) = [Value.int .u8 (y.kind : Nat), .int .u64 (y.key : Nat), .int .u16 (y.n : Nat)][j]? := fun i hin => by
      obtain ⟨cs', hc, ht⟩ := hi i (by omega)
      obtain ⟨y, hy, rfl⟩ := open_act8_cells ht
      obtain ⟨_, _, hat⟩ := World.cells?_some hc
      exact ⟨y, hy, fun j hj => by rw [← Go.Deep.add_add]; exact hat j hj⟩
    refine ⟨List.ofFn (fun i : Fin n => (key i i.2).choose), ⟨some a, m, by simp, fun i hi => ?_⟩⟩
    have hin : i < n := by simpa using hi
    have hch := (key i hin).choose_spec
    simp only [List.getElem_ofFn]
    generalize (key i hin).choose = y at hch
    obtain ⟨hy, hc⟩ := hch
    obtain ⟨g, off, spot⟩ := a
    have hspot : spot = none := by
      obtain ⟨y0, _, hy0⟩ := key 0 (by omega)
      have := World.cell?_spot ((hy0 0 (by decide)).trans rfl)
      simpa [Addr.add] using this
    subst hspot
    have hg : g < w.heap.size := by
      have : MemPlace.cell g off ∈ p := by
        rw [(Prod.mk.inj hx).2]
        refine List.mem_append_left _ ?_
        unfold MemPlace.row
        simp only [List.mem_map, List.mem_range]
        exact ⟨0, by omega, by simp⟩
      exact hlt _ this
    have e : ∀ j, (⟨g, off, none⟩ : Addr).add j = ⟨g, off + j, none⟩ := fun j => by simp [Addr.add_lit]
    simp only [e] at hc
    exact ⟨hy, g, off, rfl, hg, by simpa using hc 0 (by decide), by simpa [Nat.add_assoc] using hc 1 (by decide), by simpa [Nat.add_assoc] using hc 2 (by decide)⟩
end
end Go.Proofs.Ytkhikpnlpcankaa
namespace Go.Proofs.Ytkhikpnlpcankaa
open Go Go.RowKit Go.Deep
structure Nd where
  key : Int
  val : Int
  flag : Int
  tag : Int
  prev : Int
  next : Int
deriving DecidableEq
def Nd.zero : Nd := ⟨0, 0, 0, 0, 0, 0⟩
abbrev Nd.v (x : Nd) : Value := .agg #[.int .u64 x.key, .int .u64 x.val, .int .i64 x.flag, .int .i64 x.tag, .int .i32 x.prev, .int .i32 x.next]
def cellOf (x : Nd) (t : Bool) (j : Nat) : Value :=
  match j with
  | 0 => .int .u64 x.key
  | 1 => .int .u64 x.val
  | 2 => .int .i64 x.flag
  | 3 => .int .i64 x.tag
  | 4 => .int .i32 x.prev
  | 5 => .int .i32 x.next
  | _ => .bool t
def slotV (nd : Nat → Nd) (tk : Nat → Bool) (p : Nat) : Value := cellOf (nd (p / 7)) (tk (p / 7)) (p % 7)
theorem slotV_at (nd : Nat → Nd) (tk : Nat → Bool) (i j : Nat) (hj : j < 7) : slotV nd tk (i * 7 + j) = cellOf (nd i) (tk i) j := by
  unfold slotV
  rw [show (i * 7 + j) / 7 = i by omega, show (i * 7 + j) % 7 = j by omega]
theorem split7 (p i : Nat) : p / 7 ≠ i ∨ p = i * 7 ∨ p = i * 7 + 1 ∨ p = i * 7 + 2 ∨ p = i * 7 + 3 ∨ p = i * 7 + 4 ∨ p = i * 7 + 5 ∨ p = i * 7 + 6 := by omega
theorem slotV_other {nd nd' : Nat → Nd} {tk tk' : Nat → Bool} {p i : Nat} (h : p / 7 ≠ i) (h1 : ∀ j, j ≠ i → nd' j = nd j) (h2 : ∀ j, j ≠ i → tk' j = tk j) : slotV nd' tk' p = slotV nd tk p := by
  unfold slotV; rw [h1 _ h, h2 _ h]
theorem slotV_at0 (nd : Nat → Nd) (tk : Nat → Bool) (i : Nat) : slotV nd tk (i * 7) = cellOf (nd i) (tk i) 0 := slotV_at nd tk i 0 (by decide)
theorem row_node {w : World} {s : Nat} {t : TypeId} {n : Nat} {nd : Nat → Nd} {tk : Nat → Bool} (h : w.rowIs s t (n * 7) (slotV nd tk)) (i : Nat) (x : Nd) :
    ((((((w.setCell ⟨s, i * 7, none⟩ (.int .u64 x.key)).setCell ⟨s, i * 7 + 1, none⟩ (.int .u64 x.val)).setCell ⟨s, i * 7 + 2, none⟩ (.int .i64 x.flag)).setCell ⟨s, i * 7 + 3, none⟩ (.int .i64 x.tag)).setCell
      ⟨s, i * 7 + 4, none⟩ (.int .i32 x.prev)).setCell ⟨s, i * 7 + 5, none⟩ (.int .i32 x.next)).rowIs s t (n * 7) (slotV (upd nd i x) tk) := by
  refine ((((((h.set _ _).set _ _).set _ _).set _ _).set _ _).set _ _).congr fun p _ => ?_
  have key : ∀ j, j < 7 → slotV (upd nd i x) tk (i * 7 + j) = cellOf x (tk i) j := fun j hj => by rw [slotV_at _ _ _ _ hj, upd_same]
  rcases split7 p i with h1 | rfl | rfl | rfl | rfl | rfl | rfl | rfl
  · rw [slotV_other (nd := nd) (tk := tk) h1 (fun j hj => upd_other _ _ _ hj) (fun _ _ => rfl)]
    rw [if_neg (by omega), if_neg (by omega), if_neg (by omega), if_neg (by omega), if_neg (by omega), if_neg (by omega)]
  · rw [show i * 7 = i * 7 + 0 from rfl, key 0 (by decide)]; simp [cellOf]
  · rw [key 1 (by decide)]; simp [cellOf]
  · rw [key 2 (by decide)]; simp [cellOf]
  · rw [key 3 (by decide)]; simp [cellOf]
  · rw [key 4 (by decide)]; simp [cellOf]
  · rw [key 5 (by decide)]; simp [cellOf]
  · rw [key 6 (by decide), slotV_at _ _ _ _ (by decide)]; simp [cellOf]
theorem row_taken {w : World} {s : Nat} {t : TypeId} {n : Nat} {nd : Nat → Nd} {tk : Nat → Bool} (h : w.rowIs s t (n * 7) (slotV nd tk)) (i : Nat) (b : Bool) :
    (w.setCell ⟨s, i * 7 + 6, none⟩ (.bool b)).rowIs s t (n * 7) (slotV nd (upd tk i b)) := by
  refine (h.set _ _).congr fun p _ => ?_
  rcases split7 p i with h1 | rfl | rfl | rfl | rfl | rfl | rfl | rfl
  · rw [slotV_other (nd := nd) (tk := tk) h1 (fun _ _ => rfl) (fun j hj => upd_other _ _ _ hj), if_neg (by omega)]
  · rw [if_neg (by omega), slotV_at0, slotV_at0]; rfl
  · rw [if_neg (by omega), slotV_at _ _ _ _ (by decide), slotV_at _ _ _ _ (by decide)]; rfl
  · rw [if_neg (by omega), slotV_at _ _ _ _ (by decide), slotV_at _ _ _ _ (by decide)]; rfl
  · rw [if_neg (by omega), slotV_at _ _ _ _ (by decide), slotV_at _ _ _ _ (by decide)]; rfl
  · rw [if_neg (by omega), slotV_at _ _ _ _ (by decide), slotV_at _ _ _ _ (by decide)]; rfl
  · rw [if_neg (by omega), slotV_at _ _ _ _ (by decide), slotV_at _ _ _ _ (by decide)]; rfl
  · rw [if_pos rfl, slotV_at _ _ _ _ (by decide), upd_same]; rfl
structure St where
  n : Nat
  used : Nat
  freed : List Nat
  node : Nat → Nd
def St.tk (st : St) (i : Nat) : Bool := decide (1 ≤ i ∧ i ≤ st.used ∧ i ∉ st.freed)
structure St.Ok (st : St) : Prop where
  two : 2 ≤ st.n
  room : st.used < st.n
  nodup : st.freed.Nodup
  mem : ∀ i ∈ st.freed, 1 ≤ i ∧ i ≤ st.used
  zero : ∀ i, st.tk i = false → st.node i = Nd.zero
abbrev headOf (s f n k u : Nat) : Array Value := #[.slice (some ⟨s, 0, none⟩) n n, .slice (some ⟨f, 0, none⟩) k n, .int .i64 u]
structure Ar (w : World) (b s f : Nat) (st : St) : Prop where
  head : w.heap[b]? = some (.cells (headOf s f st.n st.freed.length st.used) 95 (0, 0))
  slots : w.rowIs s 108 (st.n * 7) (slotV st.node st.tk)
  freed : ∃ F : Nat → Value, w.rowIs f 21 st.n F ∧ ∀ i (h : i < st.freed.length), F i = .int .i32 (st.freed[i] : Nat)
section
variable {w w' : World} {b s f : Nat} {st : St}
theorem Ar.ltb (h : Ar w b s f st) : b < w.heap.size := (head_row h.head).lt
theorem Ar.lts (h : Ar w b s f st) : s < w.heap.size := h.slots.lt
theorem Ar.ltf (h : Ar w b s f st) : f < w.heap.size := by obtain ⟨F, hF, _⟩ := h.freed; exact hF.lt
theorem Ar.bs (h : Ar w b s f st) : b ≠ s := block_ne (head_row h.head) h.slots (by decide)
theorem Ar.bf (h : Ar w b s f st) : b ≠ f := by obtain ⟨F, hF, _⟩ := h.freed; exact block_ne (head_row h.head) hF (by decide)
theorem Ar.sf (h : Ar w b s f st) : s ≠ f := by obtain ⟨F, hF, _⟩ := h.freed; exact block_ne h.slots hF (by decide)
theorem Ar.c0 (h : Ar w b s f st) : w.cell? ⟨b, 0, none⟩ = some (.slice (some ⟨s, 0, none⟩) st.n st.n) := (head_row h.head).cell (i := 0) (by simp)
theorem Ar.c1 (h : Ar w b s f st) : w.cell? ⟨b, 1, none⟩ = some (.slice (some ⟨f, 0, none⟩) st.freed.length st.n) := (head_row h.head).cell (i := 1) (by simp)
theorem Ar.c2 (h : Ar w b s f st) : w.cell? ⟨b, 2, none⟩ = some (.int .i64 st.used) := (head_row h.head).cell (i := 2) (by simp)
theorem Ar.fz (h : Ar w b s f st) (i : Nat) : w.frozen? ⟨b, i, none⟩ = false := (head_row h.head).frozen i
theorem Ar.sl (h : Ar w b s f st) {i j : Nat} (hi : i < st.n) (hj : j < 7) : w.cell? ⟨s, i * 7 + j, none⟩ = some (cellOf (st.node i) (st.tk i) j) := by
  rw [← slotV_at _ _ _ _ hj]; exact h.slots.cell (by omega)
theorem Ar.fr (h : Ar w b s f st) {i : Nat} (hi : i < st.freed.length) (hn : st.freed.length ≤ st.n) : w.cell? ⟨f, i, none⟩ = some (.int .i32 (st.freed[i] : Nat)) := by
  obtain ⟨F, hF, he⟩ := h.freed
  rw [hF.cell (by omega), he i hi]
theorem Ar.keep {S : List Nat} (h : Ar w b s f st) (k : Only S w w') (hb : b ∉ S) (hs : s ∉ S) (hf : f ∉ S) : Ar w' b s f st := by
  refine ⟨(k.block b h.ltb hb).trans h.head, k.row h.slots hs, ?_⟩
  obtain ⟨F, hF, he⟩ := h.freed
  exact ⟨F, k.row hF hf, he⟩
theorem Ar.below (h : Ar w b s f st) (k : Below w.heap.size w w') : Ar w' b s f st := h.keep (Only.of_below (S := []) k) (by simp) (by simp) (by simp)
end
theorem nodup_len : ∀ (m : Nat) (l : List Nat), l.Nodup → (∀ i ∈ l, 1 ≤ i ∧ i ≤ m) → l.length ≤ m
  | 0, l, _, h => by
    cases l with
    | nil => simp
    | cons a r => have := h a (by simp); omega
  | m + 1, l, hn, h => by
    have h1 := nodup_len m (l.erase (m + 1)) (hn.erase _) (fun i hi => by
      have h2 := h i (List.mem_of_mem_erase hi)
      have h3 : i ≠ m + 1 := fun e => by
        rw [e] at hi
        exact hn.not_mem_erase hi
      omega)
    by_cases hm : m + 1 ∈ l
    · rw [List.length_erase_of_mem hm] at h1; omega
    · rw [List.erase_of_not_mem hm] at h1; omega
theorem freed_le {st : St} (h : st.Ok) : st.freed.length ≤ st.used := nodup_len _ _ h.nodup h.mem
theorem is_yes {w : World} {b s f : Nat} {st : St} (h : Ar w b s f st) (hn : st.n ≤ 1000000000) (i : Nat) (hi : i < st.n) (ht : st.tk i = true) :
    Calls Try.prog 62 #[.pointer (some ⟨b, 0, none⟩), .int .i32 i] w fun e w' => e = .returned (.bool true) ∧ w = w' := by
  have h0 := h.c0
  have hc := h.sl (j := 6) hi (by decide)
  simp only [cellOf, ht] at hc
  have hp : 0 < i := by simp only [St.tk, decide_eq_true_eq] at ht; omega
  have H := Lib.hid h
  have HT := Lib.hid ht
  clear h ht
  go_enter Try.func62, Try.ntmps62
  go_wp2
  go_ret
  exact ⟨rfl, rfl⟩
theorem is_out {w : World} {b s f : Nat} {st : St} (h : Ar w b s f st) (i : Int) (h32 : i ≤ 2147483647) (hi : i ≤ 0 ∨ (st.n : Int) ≤ i) :
    Calls Try.prog 62 #[.pointer (some ⟨b, 0, none⟩), .int .i32 i] w fun e w' => e = .returned (.bool false) ∧ w = w' := by
  have h0 := h.c0
  have H := Lib.hid h
  clear h
  by_cases hp : 0 < i
  · have hi' : (st.n : Int) ≤ i := by omega
    clear hi
    go_enter Try.func62, Try.ntmps62
    go_wp2
    go_ret
    exact ⟨rfl, rfl⟩
  · have hi' : i ≤ 0 := by omega
    clear hi
    go_enter Try.func62, Try.ntmps62
    go_wp2
    go_ret
    exact ⟨rfl, rfl⟩
theorem is_not {w : World} {b s f : Nat} {st : St} (h : Ar w b s f st) (hn : st.n ≤ 1000000000) (i : Nat) (hi : i < st.n) (h0i : 0 < i) (ht : st.tk i = false) :
    Calls Try.prog 62 #[.pointer (some ⟨b, 0, none⟩), .int .i32 i] w fun e w' => e = .returned (.bool false) ∧ w = w' := by
  have h0 := h.c0
  have hc := h.sl (j := 6) hi (by decide)
  simp only [cellOf, ht] at hc
  have H := Lib.hid h
  have HT := Lib.hid ht
  clear h ht
  go_enter Try.func62, Try.ntmps62
  go_wp2
  go_ret
  exact ⟨rfl, rfl⟩
def St.is (st : St) (i : Int) : Bool := decide (0 < i) && st.tk i.toNat
theorem St.is_nat {st : St} {i : Int} (ho : st.Ok) (h : st.is i = true) : ∃ k : Nat, i = k ∧ k < st.n ∧ 0 < k ∧ st.tk k = true := by
  unfold St.is at h
  simp only [Bool.and_eq_true, decide_eq_true_eq] at h
  obtain ⟨h1, h2⟩ := h
  refine ⟨i.toNat, by omega, ?_, by omega, h2⟩
  have := ho.room
  simp only [St.tk, decide_eq_true_eq] at h2
  omega
theorem is_true {w : World} {b s f : Nat} {st : St} (h : Ar w b s f st) (ho : st.Ok) (hn : st.n ≤ 1000000000) (i : Int) (hi : st.is i = true) :
    Calls Try.prog 62 #[.pointer (some ⟨b, 0, none⟩), .int .i32 i] w fun e w' => e = .returned (.bool true) ∧ w = w' := by
  obtain ⟨k, rfl, h1, h2, h3⟩ := St.is_nat ho hi
  exact is_yes h hn k h1 h3
theorem is_false {w : World} {b s f : Nat} {st : St} (h : Ar w b s f st) (hn : st.n ≤ 1000000000) (i : Int) (h32 : i ≤ 2147483647) (hi : st.is i = false) :
    Calls Try.prog 62 #[.pointer (some ⟨b, 0, none⟩), .int .i32 i] w fun e w' => e = .returned (.bool false) ∧ w = w' := by
  by_cases h1 : i ≤ 0 ∨ (st.n : Int) ≤ i
  · exact is_out h i h32 h1
  · obtain ⟨k, rfl⟩ : ∃ k : Nat, i = k := ⟨i.toNat, by omega⟩
    refine is_not h hn k (by omega) (by omega) ?_
    unfold St.is at hi
    rw [decide_eq_true (by omega), Bool.true_and] at hi
    simpa using hi
def St.at_ (st : St) (i : Int) : Nd := if st.is i then st.node i.toNat else Nd.zero
theorem at_false {w : World} {b s f : Nat} {st : St} (h : Ar w b s f st) (hn : st.n ≤ 1000000000) (i : Int) (h32 : i ≤ 2147483647) (hi : st.is i = false) :
    Calls Try.prog 51 #[.pointer (some ⟨b, 0, none⟩), .int .i32 i] w fun e w' => e = .returned Nd.zero.v ∧ Below w.heap.size w w' := by
  have H := Lib.hid (h.below ((Below.refl _ _).alloc (Nat.le_refl _) (.cells #[.int .u64 0, .int .u64 0, .int .i64 0, .int .i64 0, .int .i32 0, .int .i32 0] 84)))
  have HI := Lib.hid hi
  clear h hi
  go_enter Try.func51, Try.ntmps51
  go_wp2_with fail
  refine (is_false H.out hn i h32 HI.out).mono ?_
  rintro e w' ⟨rfl, rfl⟩
  go_wp2
  exact bodyPost_ret (v := Nd.zero.v) (by simp [results, Try.results51, go_sem, Nd.zero]) rfl ⟨rfl, (Below.refl _ _).alloc (Nat.le_refl _) _⟩
theorem at_true {w : World} {b s f : Nat} {st : St} (h : Ar w b s f st) (hn : st.n ≤ 1000000000) (i : Nat) (hi : st.tk i = true) (hin : i < st.n) :
    Calls Try.prog 51 #[.pointer (some ⟨b, 0, none⟩), .int .i32 i] w fun e w' => e = .returned (st.node i).v ∧ Below w.heap.size w w' := by
  have h' := h.below ((Below.refl _ _).alloc (Nat.le_refl _) (.cells #[.int .u64 0, .int .u64 0, .int .i64 0, .int .i64 0, .int .i32 0, .int .i32 0] 84))
  have H := Lib.hid h'
  have HI := Lib.hid hi
  have h0 := h.c0
  have l0 := h.ltb
  have l1 := h.lts
  have x0 := h.sl (j := 0) hin (by decide)
  have x1 := h.sl (j := 1) hin (by decide)
  have x2 := h.sl (j := 2) hin (by decide)
  have x3 := h.sl (j := 3) hin (by decide)
  have x4 := h.sl (j := 4) hin (by decide)
  have x5 := h.sl (j := 5) hin (by decide)
  simp only [cellOf, Nat.add_zero] at x0 x1 x2 x3 x4 x5
  clear h hi h'
  go_enter Try.func51, Try.ntmps51
  go_wp2_with fail
  refine (is_yes H.out hn i hin HI.out).mono ?_
  rintro e w' ⟨rfl, rfl⟩
  go_wp2
  exact bodyPost_ret (v := (st.node i).v) (by simp [results, Try.results51, go_sem]) rfl ⟨rfl, (Below.refl _ _).alloc (Nat.le_refl _) _⟩
theorem at_walk {w : World} {b s f : Nat} {st : St} (h : Ar w b s f st) (ho : st.Ok) (hn : st.n ≤ 1000000000) (i : Int) (h32 : i ≤ 2147483647) :
    Calls Try.prog 51 #[.pointer (some ⟨b, 0, none⟩), .int .i32 i] w fun e w' => e = .returned (st.at_ i).v ∧ Below w.heap.size w w' := by
  cases hi : st.is i
  · have e : st.at_ i = Nd.zero := by unfold St.at_; rw [hi]; rfl
    rw [e]
    exact at_false h hn i h32 hi
  · obtain ⟨k, rfl, h1, h2, h3⟩ := St.is_nat ho hi
    have e : st.at_ k = st.node k := by unfold St.at_; rw [hi]; rfl
    rw [e]
    exact at_true h hn k h3 h1
theorem is_walk {w : World} {b s f : Nat} {st : St} (h : Ar w b s f st) (ho : st.Ok) (hn : st.n ≤ 1000000000) (i : Int) (h32 : i ≤ 2147483647) :
    Calls Try.prog 62 #[.pointer (some ⟨b, 0, none⟩), .int .i32 i] w fun e w' => e = .returned (.bool (st.is i)) ∧ w = w' := by
  cases hi : st.is i
  · exact is_false h hn i h32 hi
  · exact is_true h ho hn i hi
end Go.Proofs.Ytkhikpnlpcankaa
