/- Words and walks: SqS SqF SqG SqO Box PoA PoB PoE. -/
import Derived.Test.YtkhikpnlpcankaaGreatG0
namespace Go.Proofs.YtkhikpnlpcankaaGreat
open Go Go.RowKit Go.Deep
section
variable {w : World} {v : Value} {ks : List Nat}
theorem same_walk {a b : Value} {js : List Nat} (ha : KV w a ks) (hb : KV w b js) (hl : ks.length ≤ 100000000) :
    Calls Tryz.prog 11 #[a, b] w fun e w' => e = .returned (.bool (decide (ks = js))) ∧ Below w.heap.size w w' := by
  obtain ⟨F, c, rfl, _, _, h1⟩ := ha.mem
  obtain ⟨G, d, rfl, _, _, h2⟩ := hb.mem
  obtain ⟨r, hr⟩ : ∃ r, decide (ks = js) = r := ⟨_, rfl⟩
  have HR := Lib.hid hr
  rw [hr]
  by_cases hlen : ks.length = js.length
  · have H1 := Lib.hid h1
    have H2 := Lib.hid h2
    have HL := Lib.hid hlen
    rw [← hlen]
    clear ha hb h1 h2 hr hlen
    obtain ⟨n, hn⟩ : ∃ n, ks.length = n := ⟨_, rfl⟩
    rw [hn] at hl ⊢
    have HN := Lib.hid hn
    clear hn
    go_enter Tryz.func11, Tryz.ntmps11
    go_wp2_with fail
    go_loopg [5] n (fun gg s5 wr => ∃ i : Nat, i + gg = n ∧ s5 = .int .i64 (i : Nat) ∧ Hid (Below w.heap.size w wr ∧ ∀ j (hj : j < ks.length) (hj2 : j < js.length), j < i → ks[j] = js[j]))
    case atStart => exact ⟨0, by omega, rfl, Lib.hid ⟨Below.refl _ _, fun j _ _ hj => by omega⟩⟩
    case round =>
      obtain ⟨i, hi, rfl, HB⟩ := hrel
      by_cases hlt : i < n
      · have hltI : (i : Int) < (n : Int) := by omega
        have hk : i < ks.length := by rw [HN.out]; exact hlt
        have hj : i < js.length := by rw [← HL.out]; exact hk
        obtain ⟨b1, hF, l1, q1⟩ := H1.out i hk
        obtain ⟨b2, hG, l2, q2⟩ := H2.out i hj
        subst hF hG
        have q1 := (HB.out.1.cell (p := b1.add i) (by rw [ad_block]; exact l1)).trans q1
        have q2 := (HB.out.1.cell (p := b2.add i) (by rw [ad_block]; exact l2)).trans q2
        have HB2 := Lib.hid HB.out.1
        by_cases he : ks[i] = js[i]
        · have HNX : Hid (∀ j (hj : j < ks.length) (hj2 : j < js.length), j < i + 1 → ks[j] = js[j]) := Lib.hid (fun j h h' hji => by
            rcases Nat.lt_or_ge j i with h2 | h2
            · exact HB.out.2 j h h' h2
            · have : j = i := by omega
              subst this
              exact he)
          rw [he] at q1
          generalize js[i] = x at q1 q2
          clear l1 l2 he HB
          go_wp2_with fail
          go_quiet (fail)
          go_wp2
          go_roundg (gk - 1)
          case measure => omega
          case rel => exact ⟨i + 1, by omega, by go_num, Lib.hid ⟨below_drewn HB2.out _, HNX.out⟩⟩
        · have HF : Hid (r = false) := Lib.hid (by
            rw [← HR.out]
            refine decide_eq_false (fun e => he ?_)
            subst e
            rfl)
          have hne : (((ks[i] : Nat) : Int) != ((js[i] : Nat) : Int)) = true := by
            rw [bne_iff_ne]
            omega
          have hne2 : (((ks[i] : Nat) : Int) == ((js[i] : Nat) : Int)) = false := by
            rw [beq_eq_false_iff_ne]
            omega
          generalize ks[i] = x at q1 hne hne2
          generalize js[i] = y at q2 hne hne2
          clear l1 l2 he HB
          go_wp2_with fail
          go_quiet (fail)
          go_wp2
          go_ret
          exact ⟨congrArg (fun x : Bool => Ending.returned (Value.bool x)) HF.out.symm, below_drewn HB2.out _⟩
      · have hltI : ¬ (i : Int) < (n : Int) := by omega
        have HT : Hid (r = true) := Lib.hid (by
          rw [← HR.out]
          refine decide_eq_true (List.ext_getElem HL.out (fun j h h' => HB.out.2 j h h' ?_))
          have := HN.out
          omega)
        go_wp2
        go_ret
        exact ⟨congrArg (fun x : Bool => Ending.returned (Value.bool x)) HT.out.symm, HB.out.1⟩
  · have HF : Hid (r = false) := Lib.hid (by
      rw [← hr]
      exact decide_eq_false (fun e => hlen (congrArg List.length e)))
    have hne : (((ks.length : Nat) : Int) != ((js.length : Nat) : Int)) = true := by
      rw [bne_iff_ne]
      omega
    have hne2 : (((ks.length : Nat) : Int) == ((js.length : Nat) : Int)) = false := by
      rw [beq_eq_false_iff_ne]
      omega
    clear h1 h2 hr ha hb
    generalize ks.length = x at *
    generalize js.length = y at *
    go_enter Tryz.func11, Tryz.ntmps11
    go_wp2
    go_ret
    exact ⟨congrArg (fun x : Bool => Ending.returned (Value.bool x)) HF.out.symm, Below.refl _ _⟩
end
section
variable {w : World} {v : Value} {ks : List Nat}
def fr (k : Nat) (ks : List Nat) : List Nat := k :: wo k ks
theorem fr_len (k : Nat) (ks : List Nat) : (fr k ks).length ≤ ks.length + 1 := by
  have := wo_len k ks
  simp [fr]
  omega
end
structure KVV (w : World) (v : Value) (kss : List (List Nat)) : Prop where
  mem : ∃ F c, v = .slice F kss.length c ∧ ∀ i (h : i < kss.length), ∃ ad u, F = some ad ∧ ad.block < w.heap.size ∧ w.cell? (ad.add i) = some u ∧ KV w u kss[i]
theorem KVV.below {w w' : World} {v : Value} {kss : List (List Nat)} (h : KVV w v kss) (hb : Below w.heap.size w w') : KVV w' v kss := by
  obtain ⟨F, c, e, h2⟩ := h.mem
  refine ⟨F, c, e, fun i h3 => ?_⟩
  obtain ⟨ad, u, e2, h5, h6, h7⟩ := h2 i h3
  exact ⟨ad, u, e2, Nat.lt_of_lt_of_le h5 hb.size, (hb.cell (p := ad.add i) (by rw [ad_block]; exact h5)).trans h6, h7.below hb⟩
def gone (kss : List (List Nat)) (i j : Nat) : List Nat := (kss.take i).flatten ++ (kss.getD i []).take j
section
variable {w : World} {v : Value} {kss : List (List Nat)}
end
def RetK (w : World) (ks : List Nat) (e : Ending) (w' : World) : Prop := ∃ v, e = .returned v ∧ Below w.heap.size w w' ∧ KV w' v ks
def RetB (w : World) (b : Bool) (e : Ending) (w' : World) : Prop := e = .returned (.bool b) ∧ Below w.heap.size w w'
def RetTwo (w : World) (ks js : List Nat) (e : Ending) (w' : World) : Prop := ∃ v u, e = .returned (.tuple #[v, u]) ∧ Below w.heap.size w w' ∧ KV w' v ks ∧ KV w' u js
def RetBack (w : World) (ks : List Nat) (e : Ending) (w' : World) : Prop := ∃ v, e = .returned (.tuple #[.int .u64 ((ks.getLastD 0 : Nat) : Int), v, .bool (decide (0 < ks.length))]) ∧ Below w.heap.size w w' ∧ KV w' v ks.dropLast
theorem OwnK.ret {w w' : World} {ks : List Nat} {e : Ending} (h : OwnK w ks e w') : RetK w ks e w' := by
  obtain ⟨v, rfl, h⟩ := h
  exact ⟨v, rfl, h.low, h.kv⟩
structure Ks (w0 w : World) (l : List (Value × List Nat)) : Prop where
  low : Below w0.heap.size w0 w
  all : ∀ p ∈ l, KV w p.1 p.2
section
variable {w0 w w' : World} {l : List (Value × List Nat)} {v : Value} {ks : List Nat}
theorem Ks.kv (h : Ks w0 w l) (hm : (v, ks) ∈ l) : KV w v ks := h.all _ hm
theorem Ks.step (h : Ks w0 w l) (hb : Below w.heap.size w w') : Ks w0 w' l := ⟨h.low.trans (hb.mono h.low.size), fun p hp => (h.all p hp).below hb⟩
theorem Ks.add (h : Ks w0 w l) (hb : Below w.heap.size w w') (hk : KV w' v ks) : Ks w0 w' ((v, ks) :: l) := ⟨(h.step hb).low, fun p hp => by
  rcases List.mem_cons.1 hp with rfl | hp
  · exact hk
  · exact (h.step hb).all p hp⟩
theorem Ks.drewn (h : Ks w0 w l) (n : Nat) : Ks w0 (w.drewN n) l := ⟨below_drewn h.low n, fun p hp => (h.all p hp).drewn n⟩
theorem Ks.alloc (h : Ks w0 w l) (o : Obj) : Ks w0 (w.alloc o) l := h.step ((Below.refl _ _).alloc (Nat.le_refl _) o)
theorem Ks.start (h : KV w v ks) : Ks w w [(v, ks)] := ⟨Below.refl _ _, fun p hp => by
  rw [List.mem_singleton] at hp
  subst hp
  exact h⟩
theorem Ks.none (w : World) : Ks w w [] := ⟨Below.refl _ _, fun p hp => by cases hp⟩
end
theorem KVV.lit {w : World} (vs : List Value) (kss : List (List Nat)) (hl : vs.length = kss.length) (h : ∀ i (h1 : i < vs.length) (h2 : i < kss.length), KV w vs[i] kss[i]) (t : TypeId) :
    KVV (w.alloc (.cells vs.toArray t)) (.slice (some ⟨w.heap.size, 0, none⟩) kss.length kss.length) kss := by
  refine ⟨_, _, rfl, fun i hi => ⟨_, vs[i]'(by omega), rfl, by simp, ?_, (h i (by omega) hi).below ((Below.refl _ _).alloc (Nat.le_refl _) _)⟩⟩
  have := (head_row (heap_alloc_new w (.cells vs.toArray t))).cell (i := i) (by simp; omega)
  rw [Addr.add_lit, Nat.zero_add, this]
  simp [List.getElem?_eq_getElem (show i < vs.length by omega)]
theorem KVV.one {w : World} {v : Value} {ks : List Nat} (h : KV w v ks) (t : TypeId) : KVV (w.alloc (.cells #[v] t)) (.slice (some ⟨w.heap.size, 0, none⟩) 1 1) [ks] :=
  KVV.lit [v] [ks] rfl (fun i h1 h2 => by
    obtain rfl : i = 0 := by simp at h1; exact h1
    exact h) t
theorem KVV.two {w : World} {v u : Value} {ks js : List Nat} (h : KV w v ks) (h2 : KV w u js) (t : TypeId) : KVV (w.alloc (.cells #[v, u] t)) (.slice (some ⟨w.heap.size, 0, none⟩) 2 2) [ks, js] :=
  KVV.lit [v, u] [ks, js] rfl (fun i h3 h4 => by
    match i with
    | 0 => exact h
    | 1 => exact h2
    | i + 2 => exact absurd h3 (by simp)) t
theorem KV.lit {w : World} (ks : List Nat) (hl : ks.length ≤ 1000) : KV (w.alloc (.cells (u64L ks).toArray 32)) (.slice (some ⟨w.heap.size, 0, none⟩) ks.length ks.length) ks :=
  KV.of_own (World.ownsRow_lit (base := 0) w (u64L ks).toArray ks.length (Nat.zero_le _) (by unfold maxLen; omega) (by simp [u64L]))
theorem KVV.none (w : World) : KVV w (.slice none 0 0) [] := ⟨_, _, rfl, fun i hi => by simp at hi⟩
theorem wo_nodup {ks : List Nat} (h : ks.Nodup) (k : Nat) : (wo k ks).Nodup := List.Pairwise.filter _ h
theorem not_wo (ks : List Nat) (k : Nat) : k ∉ wo k ks := by simp [wo]
theorem fr_nodup {ks : List Nat} (h : ks.Nodup) (k : Nat) : (fr k ks).Nodup := List.nodup_cons.2 ⟨not_wo ks k, wo_nodup h k⟩
section
variable {w w1 : World} {g : Nat} {t : TypeId}
theorem set_one {c : Array Value} {i : Nat} {v : Value} (h : w.heap[g]? = some (.cells c t (0, 0))) : (w.setCell ⟨g, i, none⟩ v).heap[g]? = some (.cells (c.setIfInBounds i v) t (0, 0)) := by
  simp [World.setCell, Array.getElem?_modify, h]
theorem c2_at {a0 a1 : Value} (h : w.heap[g]? = some (.cells #[a0, a1] t (0, 0))) :
    (w.cell? ⟨g, 0, none⟩ = some a0 ∧ w.cell? ⟨g, 1, none⟩ = some a1) ∧ w.frozen? ⟨g, 0, none⟩ = false ∧ w.frozen? ⟨g, 1, none⟩ = false :=
  ⟨⟨(head_row h).cell (i := 0) (by simp), (head_row h).cell (i := 1) (by simp)⟩, (head_row h).frozen 0, (head_row h).frozen 1⟩
theorem c3_at {a0 a1 a2 : Value} (h : w.heap[g]? = some (.cells #[a0, a1, a2] t (0, 0))) :
    (w.cell? ⟨g, 0, none⟩ = some a0 ∧ w.cell? ⟨g, 1, none⟩ = some a1 ∧ w.cell? ⟨g, 2, none⟩ = some a2) ∧ w.frozen? ⟨g, 0, none⟩ = false ∧ w.frozen? ⟨g, 1, none⟩ = false ∧ w.frozen? ⟨g, 2, none⟩ = false :=
  ⟨⟨(head_row h).cell (i := 0) (by simp), (head_row h).cell (i := 1) (by simp), (head_row h).cell (i := 2) (by simp)⟩, (head_row h).frozen 0, (head_row h).frozen 1, (head_row h).frozen 2⟩
theorem c3_set {a0 a1 a2 : Value} (h : w.heap[g]? = some (.cells #[a0, a1, a2] t (0, 0))) (b0 b1 b2 : Value) :
    (((w.setCell ⟨g, 0, none⟩ b0).setCell ⟨g, 1, none⟩ b1).setCell ⟨g, 2, none⟩ b2).heap[g]? = some (.cells #[b0, b1, b2] t (0, 0)) ∧ Only [g] w (((w.setCell ⟨g, 0, none⟩ b0).setCell ⟨g, 1, none⟩ b1).setCell ⟨g, 2, none⟩ b2) :=
  ⟨set_one (set_one (set_one h)), (((Only.refl [g] w).setCell (by simp) _).setCell (by simp) _).setCell (by simp) _⟩
end
theorem low_one (w : World) (o : Obj) : Below w.heap.size w (w.alloc o) := (Below.refl _ _).alloc (Nat.le_refl _) o
theorem low_two (w : World) (o o2 : Obj) : Below w.heap.size w ((w.alloc o).alloc o2) := (low_one w o).alloc (by simp) o2
def isU : Value → Bool
  | .int .u64 _ => true
  | _ => false
def NoU (cs : Array Value) : Prop := cs.toList.all (fun u => !isU u) = true
theorem NoU.at_ {cs : Array Value} (h : NoU cs) {i : Nat} {k : Int} (hi : cs[i]? = some (.int .u64 k)) : False := by
  have hm : Value.int .u64 k ∈ cs.toList := by simpa using Array.mem_of_getElem? hi
  have := List.all_eq_true.1 h _ hm
  simp [isU] at this
def Bx (w : World) (g : Nat) : Prop := ∃ cs t, w.heap[g]? = some (.cells cs t (0, 0)) ∧ NoU cs ∧ t ≠ 32
section
variable {w w' : World} {v : Value} {ks : List Nat} {S : List Nat}
theorem KV.only (h : KV w v ks) (ho : Only S w w') (hS : ∀ g ∈ S, Bx w g) : KV w' v ks := by
  have hout : ∀ (j : Nat) (u : Value) (ad : Addr), (u64L ks)[j]? = some u → ad.block < w.heap.size → w.cell? (ad.add j) = some u → ad.block ∉ S := fun j u ad hu h4 h5 hm => by
    have hb : (ad.add j).block = ad.block := ad_block ad j
    obtain ⟨cs, t, hg, hn, _⟩ := hS _ hm
    obtain ⟨x, rfl⟩ : ∃ x : Nat, u = .int .u64 (x : Nat) := by
      obtain ⟨hj, hju⟩ := List.getElem?_eq_some_iff.1 hu
      exact ⟨ks[j]'(by simpa [u64L] using hj), by rw [← hju]; simp [u64L]⟩
    unfold World.cell? at h5
    rw [hb, hg] at h5
    have h6 : (if (ad.add j).spot.isSome then none else cs[(ad.add j).off]?) = some (Value.int .u64 (x : Nat)) := h5
    split at h6
    · cases h6
    · exact hn.at_ h6
  obtain ⟨hl, ⟨F, c, e, h1, h2, h3⟩, hnp⟩ := h
  refine ⟨hl, ⟨F, c, e, h1, h2, fun j u hu => ?_⟩, fun m c' ad e1 => ?_⟩
  rotate_left
  · have hp := hnp m c' ad e1
    rw [e] at e1
    injection e1 with e1 e2 e3
    obtain ⟨ad', e4, h4, h5⟩ := h3 0 _ (List.getElem?_eq_getElem (by rw [u64L_len]; omega))
    rw [e1] at e4
    injection e4 with e4
    subst e4
    exact hp.keep (ho.block _ hp.lt (hout 0 _ ad (List.getElem?_eq_getElem (by rw [u64L_len]; omega)) h4 h5))
  obtain ⟨ad, e2, h4, h5⟩ := h3 j u hu
  have hb : (ad.add j).block = ad.block := ad_block ad j
  refine ⟨ad, e2, Nat.lt_of_lt_of_le h4 ho.size, ?_⟩
  refine Eq.trans (World.cell?_of_block (w := w) ?_) h5
  rw [hb]
  exact ho.block _ h4 (hout j u ad hu h4 h5)
theorem KO.only {B : Nat} {w0 : World} (h : KO B w0 w v ks) (ho : Only S w w') (hS : ∀ g ∈ S, Bx w g ∧ B ≤ g) (hB : B ≤ w.heap.size) : KO B w0 w' v ks := by
  refine ⟨h.low.trans (ho.below (fun g hg => (hS g hg).2) hB), h.own.1, ?_⟩
  rcases h.own.2 with q | ⟨g, cap, cur, e1, e2, e3, e4⟩
  · exact .inl q
  · refine .inr ⟨g, cap, cur, e1, e2, (ho.block g (Array.getElem?_eq_some_iff.1 e3).1 (fun hm => ?_)).trans e3, e4⟩
    obtain ⟨⟨cs, t, hg, _, ht⟩, _⟩ := hS g hm
    rw [e3] at hg
    injection hg with hg
    injection hg with _ hg
    exact ht hg.symm
theorem Bx.keep {g : Nat} (h : Bx w g) (e : w'.heap[g]? = w.heap[g]?) : Bx w' g := by
  obtain ⟨cs, t, h1, h2⟩ := h
  exact ⟨cs, t, e.trans h1, h2⟩
theorem Ks.only {w0 : World} {l : List (Value × List Nat)} (h : Ks w0 w l) (ho : Only S w w') (hS : ∀ g ∈ S, Bx w g ∧ w0.heap.size ≤ g) : Ks w0 w' l :=
  ⟨h.low.trans (ho.below (fun g hg => (hS g hg).2) h.low.size), fun p hp => (h.all p hp).only ho (fun g hg => (hS g hg).1)⟩
end
structure Bo (w w1 : World) (T : TypeId) (b r : Nat) (cs zs : Array Value) : Prop where
  low : Below w.heap.size w w1
  box : w1.heap[b]? = some (.cells cs T (0, 0))
  res : w1.heap[r]? = some (.cells zs T (0, 0))
  ge : w.heap.size ≤ b ∧ w.heap.size ≤ r ∧ b ≠ r
  nu : NoU cs ∧ NoU zs
  ty : T ≠ 32
theorem Bo.start (w : World) (T : TypeId) (cs zs : Array Value) (h1 : NoU cs) (h2 : NoU zs) (hT : T ≠ 32) : Bo w ((w.alloc (.cells cs T)).alloc (.cells zs T)) T w.heap.size (w.heap.size + 1) cs zs := by
  refine ⟨low_two w _ _, ?_, ?_, ⟨by omega, by omega, by omega⟩, ⟨h1, h2⟩, hT⟩
  · rw [Below.heap_alloc _ _ _ (by simp)]
    exact heap_alloc_new w _
  · have := heap_alloc_new (w.alloc (.cells cs T)) (.cells zs T)
    simpa using this
theorem Bo.start3 (w : World) (T TA : TypeId) (cs xs zs : Array Value) (h1 : NoU cs) (h2 : NoU zs) (hT : T ≠ 32) :
    Bo w (((w.alloc (.cells cs T)).alloc (.cells xs TA)).alloc (.cells zs T)) T w.heap.size (w.heap.size + 1 + 1) cs zs ∧ (((w.alloc (.cells cs T)).alloc (.cells xs TA)).alloc (.cells zs T)).heap[w.heap.size + 1]? = some (.cells xs TA (0, 0)) := by
  refine ⟨⟨(low_two w _ _).alloc (by simp; omega) _, ?_, ?_, ⟨by omega, by omega, by omega⟩, ⟨h1, h2⟩, hT⟩, ?_⟩
  · rw [Below.heap_alloc _ _ _ (by simp; omega), Below.heap_alloc _ _ _ (by simp)]
    exact heap_alloc_new w _
  · have := heap_alloc_new ((w.alloc (.cells cs T)).alloc (.cells xs TA)) (.cells zs T)
    simpa using this
  · rw [Below.heap_alloc _ _ _ (by simp)]
    have := heap_alloc_new (w.alloc (.cells cs T)) (.cells xs TA)
    simpa using this
section
variable {w w1 w2 : World} {T : TypeId} {b r : Nat} {cs zs : Array Value} {v : Value} {ks : List Nat}
theorem Bo.step (h : Bo w w1 T b r cs zs) (hb : Below w1.heap.size w1 w2) : Bo w w2 T b r cs zs :=
  ⟨h.low.trans (hb.mono h.low.size), (hb.block b (head_row h.box).lt).trans h.box, (hb.block r (head_row h.res).lt).trans h.res, h.ge, h.nu, h.ty⟩
theorem Bo.kt (h : Bo w w1 T b r cs zs) (hk : Kt 32 w1 w2) (hlow : Below w.heap.size w w2) : Bo w w2 T b r cs zs := ⟨hlow, hk _ _ _ _ h.box h.ty, hk _ _ _ _ h.res h.ty, h.ge, h.nu, h.ty⟩
theorem Bo.fin (h : Bo w w1 T b r cs zs) (ho : Only [b, r] w1 w2) : Below w.heap.size w w2 := h.low.trans (ho.below (by simp; exact ⟨h.ge.1, h.ge.2.1⟩) h.low.size)
theorem Bo.bx (h : Bo w w1 T b r cs zs) : ∀ g ∈ [b, r], Bx w1 g ∧ w.heap.size ≤ g := fun g hg => by
  simp only [List.mem_cons, List.not_mem_nil, or_false] at hg
  rcases hg with rfl | rfl
  · exact ⟨⟨_, _, h.box, h.nu.1, h.ty⟩, h.ge.1⟩
  · exact ⟨⟨_, _, h.res, h.nu.2, h.ty⟩, h.ge.2.1⟩
theorem Bo.kv (h : Bo w w1 T b r cs zs) (ho : Only [b, r] w1 w2) (hk : KV w1 v ks) : KV w2 v ks := hk.only ho (fun g hg => (h.bx g hg).1)
theorem Bo.ko (h : Bo w w1 T b r cs zs) (ho : Only [b, r] w1 w2) (hk : KO w.heap.size w w1 v ks) : KO w.heap.size w w2 v ks := hk.only ho h.bx h.low.size
theorem Bo.alloc (h : Bo w w1 T b r cs zs) (cs2 : Array Value) (hn : NoU cs2) : Bo w (w1.alloc (.cells cs2 T)) T w1.heap.size r cs2 zs := by
  have h2 := h.step (low_one w1 (.cells cs2 T))
  have hr := (head_row h.res).lt
  exact ⟨h2.low, heap_alloc_new w1 _, h2.res, ⟨h.low.size, h.ge.2.1, by omega⟩, ⟨hn, h.nu.2⟩, h.ty⟩
theorem Bo.set (h : Bo w w1 T b r cs zs) (i : Nat) (x : Value) (hn : NoU (cs.setIfInBounds i x)) : Bo w (w1.setCell ⟨b, i, none⟩ x) T b r (cs.setIfInBounds i x) zs ∧ Only [b, r] w1 (w1.setCell ⟨b, i, none⟩ x) := by
  have ho : Only [b] w1 (w1.setCell ⟨b, i, none⟩ x) := (Only.refl _ _).setCell (by simp) _
  have ho2 : Only [b, r] w1 (w1.setCell ⟨b, i, none⟩ x) := (Only.refl _ _).setCell (by simp) _
  exact ⟨⟨h.fin ho2, set_one h.box, (ho.block r (head_row h.res).lt (by simpa using fun e => h.ge.2.2 e.symm)).trans h.res, h.ge, ⟨hn, h.nu.2⟩, h.ty⟩, ho2⟩
end
structure Bp (w w1 : World) (T U : TypeId) (b r : Nat) (cs zs : Array Value) : Prop where
  low : Below w.heap.size w w1
  box : w1.heap[b]? = some (.cells cs T (0, 0))
  res : w1.heap[r]? = some (.cells zs U (0, 0))
  ge : w.heap.size ≤ b ∧ w.heap.size ≤ r ∧ b ≠ r
  nu : NoU cs ∧ NoU zs
  ty : T ≠ 32 ∧ U ≠ 32
section
variable {w w1 w2 : World} {T U : TypeId} {b r : Nat} {cs zs : Array Value} {v : Value} {ks : List Nat}
theorem Bp.step (h : Bp w w1 T U b r cs zs) (hb : Below w1.heap.size w1 w2) : Bp w w2 T U b r cs zs :=
  ⟨h.low.trans (hb.mono h.low.size), (hb.block b (head_row h.box).lt).trans h.box, (hb.block r (head_row h.res).lt).trans h.res, h.ge, h.nu, h.ty⟩
theorem Bp.fin (h : Bp w w1 T U b r cs zs) (ho : Only [b, r] w1 w2) : Below w.heap.size w w2 := h.low.trans (ho.below (by simp; exact ⟨h.ge.1, h.ge.2.1⟩) h.low.size)
theorem Bp.bx (h : Bp w w1 T U b r cs zs) : ∀ g ∈ [b, r], Bx w1 g ∧ w.heap.size ≤ g := fun g hg => by
  simp only [List.mem_cons, List.not_mem_nil, or_false] at hg
  rcases hg with rfl | rfl
  · exact ⟨⟨_, _, h.box, h.nu.1, h.ty.1⟩, h.ge.1⟩
  · exact ⟨⟨_, _, h.res, h.nu.2, h.ty.2⟩, h.ge.2.1⟩
theorem Bp.kv (h : Bp w w1 T U b r cs zs) (ho : Only [b, r] w1 w2) (hk : KV w1 v ks) : KV w2 v ks := hk.only ho (fun g hg => (h.bx g hg).1)
end
def capI (n : Int) : Nat := if n < 1 then 1 else if 1048576 < n then 1048576 else n.toNat
theorem capI_pos (n : Int) : 1 ≤ capI n ∧ capI n ≤ 1048576 := by
  unfold capI
  split
  · omega
  · split
    · omega
    · omega
theorem capI_nat (n : Nat) (h1 : 1 ≤ n) (h2 : n ≤ 1048576) : capI (n : Int) = n := by
  unfold capI
  rw [if_neg (by omega), if_neg (by omega)]
  omega
structure Act8 where
  kind : Nat
  key : Nat
  n : Nat
structure Act8.Ok (x : Act8) : Prop where
  kind : x.kind < 256
  key : x.key < 18446744073709551616
  n : x.n < 65536
abbrev act8C (x : Act8) : Array Value := #[.int .u8 (x.kind : Nat), .int .u64 (x.key : Nat), .int .u16 (x.n : Nat)]
def kindA (x : Act8) (there : Bool) : Nat := if x.kind % 10 = 0 then 3 else if x.kind % 10 = 1 then 4 else if x.kind % 10 = 2 then 1 else if x.kind % 10 = 3 then 2 else if there then 1 else 2
def sizeA (x : Act8) : Nat := 1 + x.n % 14
theorem kindA_is (x : Act8) (b : Bool) : kindA x b = 1 ∨ kindA x b = 2 ∨ kindA x b = 3 ∨ kindA x b = 4 := by
  unfold kindA
  repeat' split
  all_goals simp
theorem sizeA_is (x : Act8) : 1 ≤ sizeA x ∧ sizeA x ≤ 14 := by unfold sizeA; omega
section
variable {w : World}
theorem rcap_walk (n : Int) (hn1 : -9223372036854775808 ≤ n) (hn2 : n ≤ 9223372036854775807) :
    Calls Tryz.prog 33 #[.int .i64 n] w fun e w' => e = .returned (.int .i64 (capI n : Nat)) ∧ w = w' := by
  obtain ⟨c, hc⟩ : ∃ c, capI n = c := ⟨_, rfl⟩
  have HC := Lib.hid hc
  rw [hc]
  clear hc
  by_cases h1 : n < 1
  · have H : Hid ((1 : Int) = (c : Int)) := Lib.hid (by rw [← HC.out, capI, if_pos h1]; rfl)
    go_enter Tryz.func33, Tryz.ntmps33
    go_wp2
    go_ret
    exact ⟨by rw [H.out]; rfl, rfl⟩
  · by_cases h2 : 1048576 < n
    · have H : Hid ((1048576 : Int) = (c : Int)) := Lib.hid (by rw [← HC.out, capI, if_neg h1, if_pos h2]; rfl)
      go_enter Tryz.func33, Tryz.ntmps33
      go_wp2
      go_ret
      exact ⟨by rw [H.out]; rfl, rfl⟩
    · have H : Hid (n = (c : Int)) := Lib.hid (by rw [← HC.out, capI, if_neg h1, if_neg h2]; omega)
      go_enter Tryz.func33, Tryz.ntmps33
      go_wp2
      go_ret
      exact ⟨by rw [← H.out]; rfl, rfl⟩
theorem rkind_walk (x : Act8) (wf : x.Ok) (b : Bool) :
    Calls Tryz.prog 21 #[.agg (act8C x), .bool b] w fun e w' => e = .returned (.int .i64 (kindA x b : Nat)) ∧ Below w.heap.size w w' := by
  have hk := wf.kind
  have hb0 : Below w.heap.size w (w.alloc (.cells (act8C x) 35)) := (Below.refl _ _).alloc (Nat.le_refl _) _
  have HB0 := Lib.hid hb0
  have HK : Hid (kindA x b = if x.kind % 10 = 0 then 3 else if x.kind % 10 = 1 then 4 else if x.kind % 10 = 2 then 1 else if x.kind % 10 = 3 then 2 else if b then 1 else 2) := Lib.hid rfl
  generalize kindA x b = q at HK ⊢
  obtain ⟨r, hr⟩ : ∃ r, x.kind % 10 = r := ⟨_, rfl⟩
  have hr10 : r < 10 := by omega
  have e2 : (x.kind : Int).tmod 10 = (r : Int) := by rw [Int.tmod_eq_emod_of_nonneg (by omega)]; omega
  rw [hr] at HK
  clear hr wf hb0
  rcases (by omega : r = 0 ∨ r = 1 ∨ r = 2 ∨ r = 3 ∨ 4 ≤ r) with rfl | rfl | rfl | rfl | h4
  · have H : Hid (q = 3) := Lib.hid (by rw [HK.out]; rfl)
    go_enter Tryz.func21, Tryz.ntmps21
    go_wp2
    go_ret
    exact ⟨by rw [H.out]; rfl, HB0.out⟩
  · have H : Hid (q = 4) := Lib.hid (by rw [HK.out]; rfl)
    go_enter Tryz.func21, Tryz.ntmps21
    go_wp2
    go_ret
    exact ⟨by rw [H.out]; rfl, HB0.out⟩
  · have H : Hid (q = 1) := Lib.hid (by rw [HK.out]; rfl)
    go_enter Tryz.func21, Tryz.ntmps21
    go_wp2
    go_ret
    exact ⟨by rw [H.out]; rfl, HB0.out⟩
  · have H : Hid (q = 2) := Lib.hid (by rw [HK.out]; rfl)
    go_enter Tryz.func21, Tryz.ntmps21
    go_wp2
    go_ret
    exact ⟨by rw [H.out]; rfl, HB0.out⟩
  · have f0 : ((r : Int) == 0) = false := by rw [beq_eq_false_iff_ne]; omega
    have f1 : ((r : Int) == 1) = false := by rw [beq_eq_false_iff_ne]; omega
    have f2 : ((r : Int) == 2) = false := by rw [beq_eq_false_iff_ne]; omega
    have f3 : ((r : Int) == 3) = false := by rw [beq_eq_false_iff_ne]; omega
    have H : Hid (q = if b then 1 else 2) := Lib.hid (by rw [HK.out, if_neg (by omega), if_neg (by omega), if_neg (by omega), if_neg (by omega)])
    cases b
    · go_enter Tryz.func21, Tryz.ntmps21
      go_wp2
      go_ret
      exact ⟨by rw [H.out]; rfl, HB0.out⟩
    · go_enter Tryz.func21, Tryz.ntmps21
      go_wp2
      go_ret
      exact ⟨by rw [H.out]; rfl, HB0.out⟩
theorem rsize_walk (x : Act8) (wf : x.Ok) :
    Calls Tryz.prog 27 #[.agg (act8C x)] w fun e w' => e = .returned (.int .i64 (sizeA x : Nat)) ∧ Below w.heap.size w w' := by
  have hk := wf.n
  have hb0 : Below w.heap.size w (w.alloc (.cells (act8C x) 35)) := (Below.refl _ _).alloc (Nat.le_refl _) _
  have HB0 := Lib.hid hb0
  obtain ⟨r, hr⟩ : ∃ r, x.n % 14 = r := ⟨_, rfl⟩
  have HK : Hid ((1 : Int) + (r : Int) = (sizeA x : Nat)) := Lib.hid (by unfold sizeA; omega)
  have hr10 : r < 14 := by omega
  have e2 : (x.n : Int).tmod 14 = (r : Int) := by rw [Int.tmod_eq_emod_of_nonneg (by omega)]; omega
  generalize sizeA x = q at HK ⊢
  clear hr wf hb0
  go_enter Tryz.func27, Tryz.ntmps27
  go_wp2
  go_ret
  exact ⟨by rw [← HK.out]; rfl, HB0.out⟩
end
def ActAt (w : World) (g o : Nat) (x : Act8) : Prop := w.cell? ⟨g, o, none⟩ = some (.int .u8 (x.kind : Nat)) ∧ w.cell? ⟨g, o + 1, none⟩ = some (.int .u64 (x.key : Nat)) ∧ w.cell? ⟨g, o + 2, none⟩ = some (.int .u16 (x.n : Nat))
structure AV (w : World) (v : Value) (l : List Act8) : Prop where
  mem : ∃ A c, v = .slice A l.length c ∧ ∀ i (h : i < l.length), l[i].Ok ∧ ∃ g off, A = some ⟨g, off, none⟩ ∧ g < w.heap.size ∧ ActAt w g (off + i * 3) l[i]
theorem ActAt.keep {w w' : World} {g o : Nat} {x : Act8} (h : ActAt w g o x) (e : w'.heap[g]? = w.heap[g]?) : ActAt w' g o x :=
  ⟨(World.cell?_of_block (w := w) (a := ⟨g, o, none⟩) e).trans h.1, (World.cell?_of_block (w := w) (a := ⟨g, o + 1, none⟩) e).trans h.2.1, (World.cell?_of_block (w := w) (a := ⟨g, o + 2, none⟩) e).trans h.2.2⟩
theorem AV.below {w w' : World} {v : Value} {l : List Act8} (h : AV w v l) (hb : Below w.heap.size w w') : AV w' v l := by
  obtain ⟨A, c, e, h1⟩ := h.mem
  refine ⟨A, c, e, fun i hi => ?_⟩
  obtain ⟨ok, g, off, e2, hg, hc⟩ := h1 i hi
  exact ⟨ok, g, off, e2, Nat.lt_of_lt_of_le hg hb.size, hc.keep (hb.block g hg)⟩
structure Evs (was is out : List Nat) (q key size : Nat) : Prop where
  e1 : ∀ k ∈ out, k ∈ was ∧ k ∉ is
  e2 : ∀ k ∈ was, k ∈ out ∨ k ∈ is ∨ q = 3 ∧ k = key
  e3 : out.Nodup
  e4 : (is.length : Int) = (was.length : Int) - (out.length : Int) + (if q = 2 ∧ key ∉ was then 1 else 0) - (if q = 3 ∧ key ∈ was then 1 else 0)
  e5 : q = 4 → (out.length : Int) = max ((was.length : Int) - (size : Int)) 0
end Go.Proofs.YtkhikpnlpcankaaGreat
namespace Go.Proofs.YtkhikpnlpcankaaGreat
open Go Go.ChangeShapes Go.WideShapes Go.RowKit Go.Deep
section
variable {H : Type} {enc : TypeId × Value → H} {w : World} {base : Nat} {sp : Nat → Bool} {held : Bool}
theorem open_act8_cells {n : Nat} {cs : List Value} {x : DataW H × List MemPlace} (h : DataW.trod enc Tryz.prog w base sp held n 35 cs = some x) :
    ∃ a : Act8, a.Ok ∧ cs = [.int .u8 (a.kind : Nat), .int .u64 (a.key : Nat), .int .u16 (a.n : Nat)] := by
  have hs := Tryz.underlying35
  have k1 : Tryz.prog.cellsOf 5 = 1 := by kernel_rfl
  have k2 : Tryz.prog.cellsOf 32 = 1 := by kernel_rfl
  have k3 : Tryz.prog.cellsOf 33 = 1 := by kernel_rfl
  have k0 : Tryz.prog.cellsOf 35 = 3 := by kernel_rfl
  obtain ⟨xs, m, _, hx, hl, hlen, hg⟩ := DataW.trod_struct hs h
  rw [k0] at hl
  rcases cs with _ | ⟨c0, _ | ⟨c1, _ | ⟨c2, _ | ⟨c3, cs⟩⟩⟩⟩
  case cons.cons.cons.nil =>
    have g0 : DataW.trod enc Tryz.prog w base sp held m 5 (List.take (Tryz.prog.cellsOf 5) (List.drop 0 [c0, c1, c2])) = xs[0]? := hg 0 _ rfl
    have g1 : DataW.trod enc Tryz.prog w base sp held m 32 (List.take (Tryz.prog.cellsOf 32) (List.drop 1 [c0, c1, c2])) = xs[1]? := hg 1 _ rfl
    have g2 : DataW.trod enc Tryz.prog w base sp held m 33 (List.take (Tryz.prog.cellsOf 33) (List.drop 2 [c0, c1, c2])) = xs[2]? := hg 2 _ rfl
    rw [k1] at g0
    rw [k2] at g1
    rw [k3] at g2
    simp only [List.drop, List.take] at g0 g1 g2
    have e : ∀ j, j < 3 → ∃ z, xs[j]? = some z := fun j hj => ⟨_, List.getElem?_eq_getElem (by rw [hlen]; simpa using hj)⟩
    obtain ⟨z0, f0⟩ := e 0 (by decide)
    obtain ⟨z1, f1⟩ := e 1 (by decide)
    obtain ⟨z2, f2⟩ := e 2 (by decide)
    obtain ⟨a0, q0, _, w0⟩ := DataW.trod_int Tryz.underlying5 (g0.trans f0)
    obtain ⟨a1, q1, _, w1⟩ := DataW.trod_int Tryz.underlying32 (g1.trans f1)
    obtain ⟨a2, q2, _, w2⟩ := DataW.trod_int Tryz.underlying33 (g2.trans f2)
    simp only [List.cons.injEq, and_true] at q0 q1 q2
    subst q0 q1 q2
    obtain ⟨b0, rfl, hb0⟩ := u8_nat w0
    obtain ⟨b1, rfl, hb1⟩ := u64_nat w1
    simp only [Lit.wf, Bool.and_eq_true, decide_eq_true_eq] at w2
    have m3 : IntKind.u16.min = 0 := rfl
    have m4 : IntKind.u16.max = 65535 := rfl
    obtain ⟨b2, rfl⟩ : ∃ b2 : Nat, a2 = b2 := ⟨a2.toNat, by omega⟩
    exact ⟨⟨b0, b1, b2⟩, ⟨hb0, hb1, by show b2 < 65536; omega⟩, rfl⟩
  all_goals simp at hl
set_option maxRecDepth 8000 in
theorem open_acts8 {r : Reach} {b0 : Nat} {v : Value} {d : DataW H} {p : List MemPlace} (hv : Value.okWide Tryz.prog w r b0 22 v) (h : DataW.Trod enc Tryz.prog w 0 (fun _ => true) held 22 v d p)
    (hlt : ∀ x ∈ p, x.block < w.heap.size) : ∃ l : List Act8, AV w v l := by
  obtain ⟨A, n, c, rfl⟩ := okWide_slice Tryz.underlying22 hv
  have k0 : Tryz.prog.cellsOf 35 = 3 := by kernel_rfl
  obtain ⟨fuel, hf⟩ := h
  rcases open_slice Tryz.underlying22 hf with ⟨h0, _⟩ | ⟨a, len, cap, m, q, D, Pl, hcs, hb, hl, hm, hmm, hx, hi⟩
  · simp only [Value.cells, List.cons.injEq, and_true] at h0
    injection h0 with h1 h2 h3
    subst h1 h2 h3
    exact ⟨[], ⟨none, 0, rfl, fun i hi => by simp at hi⟩⟩
  · have hcs' : Value.slice A n c = .slice (some a) len cap := by simpa [Value.cells] using hcs
    injection hcs' with h1 h2 h3
    subst h1 h2 h3
    rw [if_pos rfl] at hmm
    subst hmm
    rw [k0] at hx hi
    have key : ∀ i, i < n → ∃ y : Act8, y.Ok ∧ ∀ j, j < 3 → w.cell? (a.add (i * 3 + j)) = [Value.int .u8 (y.kind : Nat), .int .u64 (y.key : Nat), .int .u16 (y.n : Nat)][j]? := fun i hin => by
      obtain ⟨cs', hc, ht⟩ := hi i (by omega)
      obtain ⟨y, hy, rfl⟩ := open_act8_cells ht
      obtain ⟨_, _, hat⟩ := World.cells?_some hc
      exact ⟨y, hy, fun j hj => by rw [← Go.Deep.add_add]; exact hat j hj⟩
    refine ⟨List.ofFn (fun i : Fin n => (key i i.2).choose), ⟨some a, m, by simp, fun i hi => ?_⟩⟩
    have hin : i < n := by simpa using hi
    have hch := (key i hin).choose_spec
    simp only [List.getElem_ofFn]
    generalize (key i hin).choose = y at hch
    obtain ⟨hy, hc⟩ := hch
    obtain ⟨g, off, spot⟩ := a
    have hspot : spot = none := by
      obtain ⟨y0, _, hy0⟩ := key 0 (by omega)
      have := World.cell?_spot ((hy0 0 (by decide)).trans rfl)
      simpa [Addr.add] using this
    subst hspot
    have hg : g < w.heap.size := by
      have : MemPlace.cell g off ∈ p := by
        rw [(Prod.mk.inj hx).2]
        refine List.mem_append_left _ ?_
        unfold MemPlace.row
        simp only [List.mem_map, List.mem_range]
        exact ⟨0, by omega, by simp⟩
      exact hlt _ this
    have e : ∀ j, (⟨g, off, none⟩ : Addr).add j = ⟨g, off + j, none⟩ := fun j => by simp [Addr.add_lit]
    simp only [e] at hc
    exact ⟨hy, g, off, rfl, hg, by simpa using hc 0 (by decide), by simpa [Nat.add_assoc] using hc 1 (by decide), by simpa [Nat.add_assoc] using hc 2 (by decide)⟩
end
end Go.Proofs.YtkhikpnlpcankaaGreat
