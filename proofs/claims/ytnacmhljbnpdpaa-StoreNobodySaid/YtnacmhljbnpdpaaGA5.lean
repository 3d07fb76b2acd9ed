/- Words and walks for layer 6: LsM LsA LsN. -/
import Derived.Test.YtnacmhljbnpdpaaGA4
import Derived.RangeFuncBox
import Derived.RangeFuncLeaves
import Derived.RangeFuncNested
import Derived.RangeFuncBound
import Derived.RangeFuncCalls
import Derived.Shelf.Abstract
import Derived.Shelf.RegionOpen
import Derived.OwnWalkIn
import Derived.TacticsInMore
import Derived.LoopNIn
import Derived.LoopIn
import Derived.Maps.AppendAt
/- Package ilist: each call by one contract, over the lists alone. -/
namespace Go.Proofs.Ytnacmhljbnpdpaa
open Go Go.RowKit Go.Deep

structure Alike (A B : St) : Prop where
  n : A.n = B.n
  used : A.used = B.used
  freed : A.freed = B.freed
  rest : ∀ j, (A.node j).key = (B.node j).key ∧ (A.node j).val = (B.node j).val ∧ (A.node j).flag = (B.node j).flag
theorem Alike.refl (A : St) : Alike A A := ⟨rfl, rfl, rfl, fun _ => ⟨rfl, rfl, rfl⟩⟩
theorem Alike.trans {A B C : St} (h : Alike A B) (k : Alike B C) : Alike A C :=
  ⟨h.n.trans k.n, h.used.trans k.used, h.freed.trans k.freed, fun j => ⟨(h.rest j).1.trans (k.rest j).1, (h.rest j).2.1.trans (k.rest j).2.1, (h.rest j).2.2.trans (k.rest j).2.2⟩⟩
theorem Alike.tk {A B : St} (h : Alike A B) (i : Nat) : A.tk i = B.tk i := by unfold St.tk; rw [h.used, h.freed]
theorem Alike.is {A B : St} (h : Alike A B) (i : Int) : A.is i = B.is i := by unfold St.is; rw [h.tk]
section
variable (x : LSt) (t i a c : Nat) (v : Int)
theorem setAfter_base : (x.setAfter t i v).st.n = x.st.n ∧ (x.setAfter t i v).st.used = x.st.used ∧ (x.setAfter t i v).st.freed = x.st.freed := by unfold LSt.setAfter; split <;> exact ⟨rfl, rfl, rfl⟩
theorem setBefore_base : (x.setBefore t i v).st.n = x.st.n ∧ (x.setBefore t i v).st.used = x.st.used ∧ (x.setBefore t i v).st.freed = x.st.freed := by unfold LSt.setBefore; split <;> exact ⟨rfl, rfl, rfl⟩
theorem join_base : (x.join t a c).st.n = x.st.n ∧ (x.join t a c).st.used = x.st.used ∧ (x.join t a c).st.freed = x.st.freed := by
  unfold LSt.join
  obtain ⟨h1, h2, h3⟩ := setAfter_base x t a c
  obtain ⟨g1, g2, g3⟩ := setBefore_base (x.setAfter t a c) t c a
  exact ⟨g1.trans h1, g2.trans h2, g3.trans h3⟩
theorem rest_parts {x y : LSt} {j : Nat} (h : x.rest j = y.rest j) : (x.st.node j).key = (y.st.node j).key ∧ (x.st.node j).val = (y.st.node j).val ∧ (x.st.node j).flag = (y.st.node j).flag := by
  unfold LSt.rest at h
  simpa using h
theorem push_alike : Alike (x.push t i a c).st x.st := by
  obtain ⟨h1, h2, h3⟩ := join_base (x.setNd i { x.st.node i with tag := t + 1 }) t a i
  obtain ⟨g1, g2, g3⟩ := join_base ((x.setNd i { x.st.node i with tag := t + 1 }).join t a i) t i c
  exact ⟨g1.trans h1, g2.trans h2, g3.trans h3, fun j => rest_parts (tg_push x t i j a c).2⟩
theorem remove_alike : Alike (x.remove t i a c).st x.st := by
  obtain ⟨h1, h2, h3⟩ := join_base x t a c
  exact ⟨h1, h2, h3, fun j => rest_parts (tg_remove x t i j a c).2⟩
end

/- Lists told plainly: which has a slot, and what an act does. -/
def hasT (n : Nat) (tag : Int) : Bool := decide (0 ≤ tag) && decide (tag < n)
def tagI (n : Nat) (l : Nat → List Nat) (i : Int) : Int :=
  match (List.range n).find? (fun t => decide (0 < i) && decide (i.toNat ∈ l t)) with
  | some t => t
  | none => -1
def pushOk (n : Nat) (l : Nat → List Nat) (A : St) (tag i : Int) : Bool := hasT n tag && A.is i && decide (tagI n l i < 0)
def pushL (front : Bool) (n : Nat) (l : Nat → List Nat) (A : St) (tag i : Int) : Nat → List Nat :=
  if pushOk n l A tag i then upd l tag.toNat (if front then i.toNat :: l tag.toNat else l tag.toNat ++ [i.toNat]) else l
def remL (n : Nat) (l : Nat → List Nat) (i : Int) : Nat → List Nat :=
  if 0 ≤ tagI n l i then upd l (tagI n l i).toNat ((l (tagI n l i).toNat).erase i.toNat) else l
def moveOk (n : Nat) (l : Nat → List Nat) (tag i : Int) : Bool := hasT n tag && decide (0 ≤ tagI n l i)
def moveL (n : Nat) (l : Nat → List Nat) (tag i : Int) : Nat → List Nat :=
  if moveOk n l tag i then upd (remL n l i) tag.toNat (i.toNat :: remL n l i tag.toNat) else l

theorem tagI_out {n : Nat} {l : Nat → List Nat} {i : Int} (h : ∀ t, t < n → ¬ (0 < i ∧ i.toNat ∈ l t)) : tagI n l i = -1 := by
  unfold tagI
  rw [List.find?_eq_none.2 (fun t ht => by simpa using h t (by simpa using ht))]
theorem tagI_in {n : Nat} {l : Nat → List Nat} {i : Int} {t : Nat} (ht : t < n) (h0 : 0 < i) (hi : i.toNat ∈ l t) (ha : ∀ u, u < n → i.toNat ∈ l u → u = t) : tagI n l i = t := by
  unfold tagI
  cases hf : (List.range n).find? (fun t => decide (0 < i) && decide (i.toNat ∈ l t)) with
  | none =>
    have := List.find?_eq_none.1 hf t (by simpa using ht)
    simp [h0, hi] at this
  | some u =>
    have h1 := List.find?_some hf
    have h2 := List.mem_of_find?_eq_some hf
    simp at h1 h2
    rw [ha u h2 h1.2]

section
variable {w0 w w1 w2 w' : World} {p b e n t k : Nat} {x : LSt} {l : Nat → List Nat} {A : St} {K : List Nat}
theorem LOk.tagI (h : LOk x l) (ho : x.st.Ok) (i : Int) : tagI x.n l i = (x.st.at_ i).tag - 1 := by
  cases his : x.st.is i
  · have e : x.st.at_ i = Nd.zero := by unfold St.at_; rw [his]; rfl
    rw [e, tagI_out]
    · rfl
    · rintro t ht ⟨h0, hm⟩
      have := h.taken t ht _ hm
      unfold St.is at his
      rw [this, decide_eq_true h0] at his
      cases his
  · obtain ⟨k, rfl, h1, h2, h3⟩ := St.is_nat ho his
    have e : x.st.at_ k = x.st.node k := by unfold St.at_; rw [his]; rfl
    rw [e]
    by_cases hz : x.tg k = 0
    · have e2 : (x.st.node k).tag = 0 := hz
      rw [e2, tagI_out]
      · rfl
      · rintro t ht ⟨_, hm⟩
        exact h.out hz t ht (by simpa using hm)
    · obtain ⟨t, ht, hm, hg⟩ := h.in_ (by omega) hz
      have e2 : (x.st.node k).tag = t + 1 := hg
      rw [e2, tagI_in ht (by omega) (by simpa using hm) (fun u hu hm' => h.apart hu ht (by simpa using hm') hm)]
      omega
theorem LOk.tagged (h : LOk x l) (ho : x.st.Ok) (h8 : x.n ≤ 8) (i : Int) : 0 ≤ (x.st.at_ i).tag ∧ (x.st.at_ i).tag ≤ 8 := by
  cases his : x.st.is i
  · have e : x.st.at_ i = Nd.zero := by unfold St.at_; rw [his]; rfl
    rw [e]
    exact ⟨Int.le_refl _, by decide⟩
  · obtain ⟨k, rfl, h1, h2, h3⟩ := St.is_nat ho his
    have e : x.st.at_ k = x.st.node k := by unfold St.at_; rw [his]; rfl
    rw [e]
    exact h.bounds h8 (by omega)

/- Lists that the law's own memory has: n of them, l tells what each has; A: their arena, but for how its nodes are linked. -/
def HL (w0 w : World) (p b n : Nat) (l : Nat → List Nat) (A : St) (K : List Nat) : Prop := ∃ x, HeldL w0 w p b x K ∧ LOk x l ∧ x.n = n ∧ Alike x.st A
theorem HL.still (h : HL w0 w p b n l A K) (hb : Below w.heap.size w w') : HL w0 w' p b n l A K ∧ Kept K w w' := by
  obtain ⟨x, h1, h2, h3, h4⟩ := h
  exact ⟨⟨x, (h1.still hb).1, h2, h3, h4⟩, (h1.still hb).2⟩
theorem HL.below (h : HL w0 w p b n l A K) : Below w0.heap.size w0 w := by
  obtain ⟨x, h1, _⟩ := h
  exact h1.below
theorem HL.old (h : HL w0 w p b n l A K) : ∀ k ∈ K, k < w.heap.size := by
  obtain ⟨x, h1, _⟩ := h
  exact h1.old
theorem HL.other (h : HL w0 w p b n l A K) (hb : Below w.heap.size w w') {K' : List Nat} (hk : ∀ k ∈ K', (k ∈ K ∨ w.heap.size ≤ k) ∧ k < w'.heap.size) : HL w0 w' p b n l A K' := by
  obtain ⟨x, h1, h2, h3, h4⟩ := h
  exact ⟨x, h1.other hb hk, h2, h3, h4⟩
theorem HL.num (h : HL w0 w p b n l A K) : 1 ≤ n ∧ n ≤ 8 := by
  obtain ⟨x, h1, _, rfl, _⟩ := h
  exact ⟨h1.one, h1.eight⟩
theorem HL.len (h : HL w0 w p b n l A K) (ht : t < n) : (l t).length ≤ 1000000 := by
  obtain ⟨x, h1, h2, rfl, _⟩ := h
  exact h2.len h1.ok h1.small ht
theorem HL.nodup (h : HL w0 w p b n l A K) (ht : t < n) : (l t).Nodup := by
  obtain ⟨x, h1, h2, rfl, _⟩ := h
  exact h2.nodup t ht
theorem HL.apart (h : HL w0 w p b n l A K) {i u : Nat} (ht : t < n) (hu : u < n) (hi : i ∈ l t) (hi' : i ∈ l u) : t = u := by
  obtain ⟨x, h1, h2, rfl, _⟩ := h
  exact h2.apart ht hu hi hi'
theorem HL.taken (h : HL w0 w p b n l A K) {i : Nat} (ht : t < n) (hi : i ∈ l t) : A.tk i = true := by
  obtain ⟨x, h1, h2, rfl, h4⟩ := h
  rw [← h4.tk]
  exact h2.taken t ht i hi
theorem HL.tagI_at (h : HL w0 w p b n l A K) {i : Nat} (ht : t < n) (hi : i ∈ l t) : tagI n l i = t := by
  have h0 := tk_bounds (h.taken ht hi)
  exact tagI_in ht (by omega) (by simpa using hi) (fun u hu hm => h.apart hu ht (by simpa using hm) hi)

theorem hl_has (h : HL w0 w p b n l A K) (tag : Int) :
    Calls Try.prog 73 #[.pointer (some ⟨p, 0, none⟩), .int .i64 tag] w fun e w' => e = .returned (.bool (hasT n tag)) ∧ w = w' := by
  obtain ⟨x, h1, h2, rfl, h4⟩ := h
  exact lhas_walk h1 tag
theorem hasT_nat {n : Nat} {tag : Int} (h : hasT n tag = true) : ∃ t : Nat, tag = t ∧ t < n := by
  unfold hasT at h
  simp only [Bool.and_eq_true, decide_eq_true_eq] at h
  exact ⟨tag.toNat, by omega, by omega⟩
theorem hasT_of {n t : Nat} (h : t < n) : hasT n t = true := by
  unfold hasT
  simp only [Bool.and_eq_true, decide_eq_true_eq]
  omega
def frontL (n : Nat) (l : Nat → List Nat) (tag : Int) : Nat := if hasT n tag then (l tag.toNat).headD 0 else 0
def backL (n : Nat) (l : Nat → List Nat) (tag : Int) : Nat := if hasT n tag then (l tag.toNat).getLastD 0 else 0
def lenL (n : Nat) (l : Nat → List Nat) (tag : Int) : Nat := if hasT n tag then (l tag.toNat).length else 0
theorem hl_front (h : HL w0 w p b n l A K) (tag : Int) :
    Calls Try.prog 54 #[.pointer (some ⟨p, 0, none⟩), .int .i64 tag] w fun e w' => e = .returned (.int .i32 (frontL n l tag)) ∧ w = w' := by
  obtain ⟨x, h1, h2, rfl, h4⟩ := h
  have hh := front_walk h1 tag
  have e : x.front tag = (frontL x.n l tag : Nat) := by
    unfold LSt.front frontL
    cases ht : x.has tag
    · have ht' : hasT x.n tag = false := ht
      rw [ht']; rfl
    · have ht' : hasT x.n tag = true := ht
      obtain ⟨t, rfl, htn⟩ := LSt.has_nat ht
      rw [ht', if_pos rfl, if_pos rfl]
      have hs := seg_head _ _ (h2.seg t htn)
      unfold LSt.nx at hs
      rw [if_pos rfl] at hs
      exact hs
  rw [e] at hh
  exact hh
theorem hl_back (h : HL w0 w p b n l A K) (tag : Int) :
    Calls Try.prog 55 #[.pointer (some ⟨p, 0, none⟩), .int .i64 tag] w fun e w' => e = .returned (.int .i32 (backL n l tag)) ∧ w = w' := by
  obtain ⟨x, h1, h2, rfl, h4⟩ := h
  have hh := back_walk h1 tag
  have e : x.back tag = (backL x.n l tag : Nat) := by
    unfold LSt.back backL
    cases ht : x.has tag
    · have ht' : hasT x.n tag = false := ht
      rw [ht']; rfl
    · have ht' : hasT x.n tag = true := ht
      obtain ⟨t, rfl, htn⟩ := LSt.has_nat ht
      rw [ht', if_pos rfl, if_pos rfl]
      have hs := seg_last _ _ (h2.seg t htn)
      unfold LSt.pv at hs
      rw [if_pos rfl] at hs
      exact hs
  rw [e] at hh
  exact hh
theorem hl_len (h : HL w0 w p b n l A K) (tag : Int) :
    Calls Try.prog 64 #[.pointer (some ⟨p, 0, none⟩), .int .i64 tag] w fun e w' => e = .returned (.int .i64 (lenL n l tag)) ∧ w = w' := by
  obtain ⟨x, h1, h2, rfl, h4⟩ := h
  have hh := count_walk h1 tag
  have e : x.count tag = (lenL x.n l tag : Nat) := by
    unfold LSt.count lenL
    cases ht : x.has tag
    · have ht' : hasT x.n tag = false := ht
      rw [ht']; rfl
    · have ht' : hasT x.n tag = true := ht
      obtain ⟨t, rfl, htn⟩ := LSt.has_nat ht
      rw [ht', if_pos rfl, if_pos rfl]
      exact h2.count t htn
  rw [e] at hh
  exact hh
theorem hl_tag (h : HL w0 w p b n l A K) (i : Int) (h32 : i ≤ 2147483647) :
    Calls Try.prog 37 #[.pointer (some ⟨p, 0, none⟩), .int .i32 i] w fun e w' => e = .returned (.int .i64 (tagI n l i)) ∧ Below w.heap.size w w' := by
  obtain ⟨x, h1, h2, rfl, h4⟩ := h
  rw [h2.tagI h1.ok]
  exact tag_walk h1 i h32 (h2.tagged h1.ok h1.eight i)
theorem LOk.near (h : LOk x l) (ht : t < x.n) (hk : k < (l t).length) : (x.st.node (l t)[k]).next = (((l t).drop (k + 1)).headD 0 : Nat) ∧ (x.st.node (l t)[k]).prev = (((l t).take k).getLastD 0 : Nat) := by
  have hs := h.seg t ht
  have hi : (l t)[k] ≠ 0 := h.pos ht (List.getElem_mem hk)
  have e : l t = (l t).take k ++ (l t)[k] :: (l t).drop (k + 1) := by simp
  obtain ⟨i, hie⟩ : ∃ i, (l t)[k] = i := ⟨_, rfl⟩
  rw [hie] at e hi ⊢
  rw [e, seg_append] at hs
  have h1 := seg_last _ _ hs.1
  have h2 := seg_head _ _ hs.2
  unfold LSt.pv at h1
  unfold LSt.nx at h2
  rw [if_neg hi] at h1 h2
  exact ⟨h2, h1⟩
theorem hl_after (h : HL w0 w p b n l A K) (ht : t < n) (hk : k < (l t).length) :
    Calls Try.prog 85 #[.pointer (some ⟨p, 0, none⟩), .int .i32 ((l t)[k] : Nat)] w fun e w' => e = .returned (.int .i32 (((l t).drop (k + 1)).headD 0 : Nat)) ∧ Below w.heap.size w w' := by
  obtain ⟨x, h1, h2, rfl, h4⟩ := h
  obtain ⟨g1, g2, g3, g4⟩ := h1.taken (h2.taken t ht _ (List.getElem_mem hk))
  have hh := after_walk h1 ((l t)[k] : Nat) (by omega)
  rw [g4, (h2.near ht hk).1] at hh
  exact hh
theorem LOk.alone (h : LOk x l) (ho : x.st.Ok) (i : Int) (ht : _root_.Go.Proofs.Ytnacmhljbnpdpaa.tagI x.n l i = -1) : (x.st.at_ i).next = 0 ∧ (x.st.at_ i).prev = 0 := by
  rw [h.tagI ho] at ht
  cases his : x.st.is i
  · have e : x.st.at_ i = Nd.zero := by unfold St.at_; rw [his]; rfl
    rw [e]
    exact ⟨rfl, rfl⟩
  · obtain ⟨k, rfl, h1, h2, h3⟩ := St.is_nat ho his
    have e : x.st.at_ k = x.st.node k := by unfold St.at_; rw [his]; rfl
    rw [e] at ht ⊢
    have hz : x.tg k = 0 := by show (x.st.node k).tag = 0; omega
    obtain ⟨_, g2, g3⟩ := h.none k (by omega) (h.out hz)
    exact ⟨g3, g2⟩
theorem hl_after_none (h : HL w0 w p b n l A K) (i : Int) (h32 : i ≤ 2147483647) (ht : tagI n l i = -1) :
    Calls Try.prog 85 #[.pointer (some ⟨p, 0, none⟩), .int .i32 i] w fun e w' => e = .returned (.int .i32 0) ∧ Below w.heap.size w w' := by
  obtain ⟨x, h1, h2, rfl, h4⟩ := h
  have hh := after_walk h1 i h32
  rw [(h2.alone h1.ok i ht).1] at hh
  exact hh
theorem hl_pushFront (h : HL w0 w p b n l A K) (tag i : Int) (h32 : i ≤ 2147483647) :
    Calls Try.prog 57 #[.pointer (some ⟨p, 0, none⟩), .int .i64 tag, .int .i32 i] w fun e w' => e = .returned (.bool (pushOk n l A tag i)) ∧ HL w0 w' p b n (pushL true n l A tag i) A K ∧ Kept K w w' := by
  have h0 := h
  obtain ⟨x, h1, h2, rfl, h4⟩ := h
  have hT := h2.tagged h1.ok h1.eight i
  have htg := h2.tagI h1.ok i
  unfold pushL
  cases hok : pushOk x.n l A tag i
  · refine (pushFront_no h1 tag i h32 hT ?_).mono ?_
    · unfold pushOk at hok
      rw [← h4.is, htg] at hok
      rw [← hok]
      show (x.has tag && x.st.is i && _) = (x.has tag && x.st.is i && _)
      congr 1
      simp only [decide_eq_decide]
      omega
    · rintro e w' ⟨rfl, hb⟩
      rw [if_neg (by simp)]
      exact ⟨rfl, h0.still hb⟩
  · unfold pushOk at hok
    rw [← h4.is, htg] at hok
    simp only [Bool.and_eq_true, decide_eq_true_eq] at hok
    obtain ⟨⟨hh, hi⟩, hz⟩ := hok
    obtain ⟨t, rfl, ht⟩ := hasT_nat hh
    obtain ⟨k, rfl, k1, k2, k3⟩ := St.is_nat h1.ok hi
    have e0 := (h1.taken k3).2.2.2
    rw [e0] at hz hT
    have hzk : (x.st.node k).tag = 0 := by omega
    have hs := h2.seg t ht
    have hcnt := h2.count t ht
    have hlen := h2.len h1.ok h1.small ht
    rw [if_pos rfl]
    refine (pushFront_done h1 t k ht k3 hzk (by omega) ((l t).headD 0) (by
      have g := seg_head _ _ hs
      unfold LSt.nx at g
      rw [if_pos rfl] at g
      exact g) ?_).mono ?_
    · rcases headD_mem' (l t) 0 with g | g
      · exact .inl g
      · exact .inr (h2.taken t ht _ g)
    · rintro e w' ⟨rfl, g1, g2⟩
      refine ⟨rfl, ⟨_, g1, ?_, push_n _ _ _ _ _, (push_alike _ _ _ _ _).trans h4⟩, g2⟩
      have := push_ok h2 ht k3 hzk (l1 := []) (l2 := l t) rfl rfl rfl
      simpa using this
theorem hl_pushBack (h : HL w0 w p b n l A K) (tag i : Int) (h32 : i ≤ 2147483647) :
    Calls Try.prog 58 #[.pointer (some ⟨p, 0, none⟩), .int .i64 tag, .int .i32 i] w fun e w' => e = .returned (.bool (pushOk n l A tag i)) ∧ HL w0 w' p b n (pushL false n l A tag i) A K ∧ Kept K w w' := by
  have h0 := h
  obtain ⟨x, h1, h2, rfl, h4⟩ := h
  have hT := h2.tagged h1.ok h1.eight i
  have htg := h2.tagI h1.ok i
  unfold pushL
  cases hok : pushOk x.n l A tag i
  · refine (pushBack_no h1 tag i h32 hT ?_).mono ?_
    · unfold pushOk at hok
      rw [← h4.is, htg] at hok
      rw [← hok]
      show (x.has tag && x.st.is i && _) = (x.has tag && x.st.is i && _)
      congr 1
      simp only [decide_eq_decide]
      omega
    · rintro e w' ⟨rfl, hb⟩
      rw [if_neg (by simp)]
      exact ⟨rfl, h0.still hb⟩
  · unfold pushOk at hok
    rw [← h4.is, htg] at hok
    simp only [Bool.and_eq_true, decide_eq_true_eq] at hok
    obtain ⟨⟨hh, hi⟩, hz⟩ := hok
    obtain ⟨t, rfl, ht⟩ := hasT_nat hh
    obtain ⟨k, rfl, k1, k2, k3⟩ := St.is_nat h1.ok hi
    have e0 := (h1.taken k3).2.2.2
    rw [e0] at hz hT
    have hzk : (x.st.node k).tag = 0 := by omega
    have hs := h2.seg t ht
    have hcnt := h2.count t ht
    have hlen := h2.len h1.ok h1.small ht
    rw [if_pos rfl]
    refine (pushBack_done h1 t k ht k3 hzk (by omega) ((l t).getLastD 0) (by
      have g := seg_last _ _ hs
      unfold LSt.pv at g
      rw [if_pos rfl] at g
      exact g) ?_).mono ?_
    · rcases getLastD_mem' (l t) 0 with g | g
      · exact .inl g
      · exact .inr (h2.taken t ht _ g)
    · rintro e w' ⟨rfl, g1, g2⟩
      refine ⟨rfl, ⟨_, g1, ?_, push_n _ _ _ _ _, (push_alike _ _ _ _ _).trans h4⟩, g2⟩
      have := push_ok h2 ht k3 hzk (l1 := l t) (l2 := []) (by simp) rfl rfl
      simpa using this
theorem hl_remove (h : HL w0 w p b n l A K) (i : Int) (h32 : i ≤ 2147483647) :
    Calls Try.prog 60 #[.pointer (some ⟨p, 0, none⟩), .int .i32 i] w fun e w' => e = .returned (.bool (decide (0 ≤ tagI n l i))) ∧ HL w0 w' p b n (remL n l i) A K ∧ Kept K w w' := by
  have h0 := h
  obtain ⟨x, h1, h2, rfl, h4⟩ := h
  have hT := h2.tagged h1.ok h1.eight i
  have htg := h2.tagI h1.ok i
  unfold remL
  by_cases hz : (x.st.at_ i).tag = 0
  · refine (remove_not h1 i h32 hz).mono ?_
    rintro e w' ⟨rfl, hb⟩
    rw [if_neg (by rw [htg, hz]; decide), decide_eq_false (by rw [htg, hz]; decide)]
    exact ⟨rfl, h0.still hb⟩
  · have hi : x.st.is i = true := by
      cases his : x.st.is i
      · have e : x.st.at_ i = Nd.zero := by unfold St.at_; rw [his]; rfl
        rw [e] at hz
        exact absurd rfl hz
      · rfl
    obtain ⟨k, rfl, k1, k2, k3⟩ := St.is_nat h1.ok hi
    have e0 := (h1.taken k3).2.2.2
    rw [e0] at hz hT htg
    obtain ⟨t, ht, hm, hg⟩ := h2.in_ (i := k) (by omega) hz
    have hg' : (x.st.node k).tag = t + 1 := hg
    have hti : tagI x.n l k = t := by rw [htg, hg']; omega
    rw [hti, if_pos (by omega), decide_eq_true (by omega)]
    obtain ⟨l1, l2, hn1, hl, her⟩ := List.exists_erase_eq hm
    have hs := h2.seg t ht
    rw [hl, seg_append] at hs
    have s1 := seg_last _ _ hs.1
    have s2 := seg_head _ _ hs.2
    unfold LSt.pv at s1
    unfold LSt.nx at s2
    rw [if_neg (by omega)] at s1 s2
    have hcnt := h2.count t ht
    have hlen := h2.len h1.ok h1.small ht
    have hlen1 : 1 ≤ (l t).length := by rw [hl]; simp; omega
    refine (remove_yes h1 t k ht k3 hg' (by omega) (l1.getLastD 0) (l2.headD 0) s1 s2 ?_ ?_).mono ?_
    · rcases getLastD_mem' l1 0 with g | g
      · exact .inl g
      · exact .inr (h2.taken t ht _ (by rw [hl]; exact List.mem_append.2 (.inl g)))
    · rcases headD_mem' l2 0 with g | g
      · exact .inl g
      · exact .inr (h2.taken t ht _ (by rw [hl]; exact List.mem_append.2 (.inr (List.mem_cons.2 (.inr g)))))
    · rintro e w' ⟨rfl, g1, g2⟩
      refine ⟨rfl, ⟨_, g1, ?_, remove_n _ _ _ _ _, (remove_alike _ _ _ _ _).trans h4⟩, g2⟩
      have := remove_ok h2 ht hl rfl rfl
      rw [← her] at this
      exact this
theorem tagI_rem (h : HL w0 w p b n l A K) {i : Nat} (ht : t < n) (hi : i ∈ l t) : tagI n (remL n l i) i = -1 := by
  have e := h.tagI_at ht hi
  unfold remL
  rw [e, if_pos (by omega)]
  refine tagI_out ?_
  rintro u hu ⟨_, hm⟩
  have e1 : ((t : Int)).toNat = t := by omega
  have e2 : ((i : Int)).toNat = i := by omega
  rw [e1, e2] at hm
  by_cases hut : u = t
  · subst hut
    rw [upd_same] at hm
    exact (h.nodup hu).not_mem_erase hm
  · rw [upd_other _ _ _ hut] at hm
    exact hut (h.apart hu ht hm hi)
theorem hl_moveFront (h : HL w0 w p b n l A K) (tag i : Int) (h32 : i ≤ 2147483647) :
    Calls Try.prog 59 #[.pointer (some ⟨p, 0, none⟩), .int .i64 tag, .int .i32 i] w fun e w' => e = .returned (.bool (moveOk n l tag i)) ∧ HL w0 w' p b n (moveL n l tag i) A K ∧ Kept K w w' := by
  have H := Lib.hid h
  unfold moveL moveOk
  cases hh : hasT n tag
  · have HH := Lib.hid hh
    clear h hh
    go_enter Try.func59, Try.ntmps59
    go_wp2_with fail
    refine (hl_has H.out tag).mono ?_
    rintro e w1 ⟨rfl, rfl⟩
    rw [HH.out]
    go_wp2
    go_ret
    exact ⟨rfl, H.out, fun _ _ => rfl⟩
  · have HH := Lib.hid hh
    by_cases ht : 0 ≤ tagI n l i
    · have HR : Hid (Calls Try.prog 60 #[.pointer (some ⟨p, 0, none⟩), .int .i32 i] w fun e w' => e = .returned (.bool true) ∧ HL w0 w' p b n (remL n l i) A K ∧ Kept K w w') := by
        have g := hl_remove h i h32
        rw [decide_eq_true ht] at g
        exact Lib.hid g
      obtain ⟨t, rfl, htn⟩ := hasT_nat hh
      obtain ⟨k, u, rfl, hu, hku⟩ : ∃ k u : Nat, i = k ∧ u < n ∧ k ∈ l u := by
        unfold tagI at ht
        cases hf : (List.range n).find? (fun t => decide (0 < i) && decide (i.toNat ∈ l t)) with
        | none => rw [hf] at ht; simp at ht
        | some u =>
          have g1 := List.find?_some hf
          have g2 := List.mem_of_find?_eq_some hf
          simp at g1 g2
          exact ⟨i.toNat, u, by omega, g2, g1.2⟩
      have e1 := tagI_rem h hu hku
      have his : A.is k = true := by
        have g := h.taken hu hku
        have g' := tk_bounds g
        unfold St.is
        rw [decide_eq_true (by omega)]
        simpa using g
      have eo : pushOk n (remL n l k) A t k = true := by
        unfold pushOk
        rw [hh, his, e1]; rfl
      have HP : Hid (∀ w1, HL w0 w1 p b n (remL n l k) A K → Calls Try.prog 57 #[.pointer (some ⟨p, 0, none⟩), .int .i64 t, .int .i32 k] w1 fun e w' => e = .returned (.bool true) ∧ HL w0 w' p b n (upd (remL n l k) t (k :: remL n l k t)) A K ∧ Kept K w1 w') := Lib.hid (fun w1 g => by
        have g1 := hl_pushFront g t k h32
        unfold pushL at g1
        rw [eo] at g1
        exact g1)
      rw [decide_eq_true ht]
      simp only [Bool.and_self, if_true]
      have e2 : ((t : Int)).toNat = t := by omega
      have e3 : ((k : Int)).toNat = k := by omega
      rw [e2, e3]
      clear h hh ht hku hu e1 his eo e2 e3 htn
      go_enter Try.func59, Try.ntmps59
      go_wp2_with fail
      refine (hl_has H.out t).mono ?_
      rintro e w1 ⟨rfl, rfl⟩
      rw [HH.out]
      go_wp2_with fail
      refine HR.out.mono ?_
      rintro e w1 ⟨rfl, h1, h2⟩
      have H1 := Lib.hid h1
      have K1 := Lib.hid h2
      clear h1 h2
      go_wp2_with fail
      refine (HP.out w1 H1.out).mono ?_
      rintro e w2 ⟨rfl, h1, h2⟩
      have H2 := Lib.hid h1
      have K2 := Lib.hid (K1.out.trans h2)
      clear h1 h2
      go_wp2
      go_ret
      exact ⟨rfl, H2.out, K2.out⟩
    · have HR : Hid (Calls Try.prog 60 #[.pointer (some ⟨p, 0, none⟩), .int .i32 i] w fun e w' => e = .returned (.bool false) ∧ HL w0 w' p b n l A K ∧ Kept K w w') := by
        have g := hl_remove h i h32
        unfold remL at g
        rw [decide_eq_false ht, if_neg ht] at g
        exact Lib.hid g
      rw [decide_eq_false ht]
      clear h hh ht
      go_enter Try.func59, Try.ntmps59
      go_wp2_with fail
      refine (hl_has H.out tag).mono ?_
      rintro e w1 ⟨rfl, rfl⟩
      rw [HH.out]
      go_wp2_with fail
      refine HR.out.mono ?_
      rintro e w1 ⟨rfl, h1, h2⟩
      have H1 := Lib.hid h1
      have K1 := Lib.hid h2
      clear h1 h2
      go_wp2
      go_ret
      exact ⟨rfl, H1.out, K1.out⟩
end
end Go.Proofs.Ytnacmhljbnpdpaa
/- Package ilist: each, a range over a function; All. -/
namespace Go.Proofs.Ytnacmhljbnpdpaa
open Go Go.RowKit Go.Deep Go.Shelf

attribute [local go_sem] Oper.semAt_some

def allL (n : Nat) (l : Nat → List Nat) (tag : Int) : List Nat := if hasT n tag then l tag.toNat else []
section
variable {w0 w w1 w2 w' : World} {p b n : Nat} {l : Nat → List Nat} {A : St} {K : List Nat}
theorem allL_len (n : Nat) (l : Nat → List Nat) (tag : Int) : lenL n l tag = (allL n l tag).length := by unfold lenL allL; split <;> rfl
theorem allL_front (n : Nat) (l : Nat → List Nat) (tag : Int) : frontL n l tag = (allL n l tag).headD 0 := by unfold frontL allL; split <;> rfl
theorem hl_afterAll (h : HL w0 w p b n l A K) (tag : Int) (xs : List Nat) (hx : allL n l tag = xs) (k : Nat) (hk : k < xs.length) :
    Calls Try.prog 85 #[.pointer (some ⟨p, 0, none⟩), .int .i32 (xs[k] : Nat)] w fun e w' => e = .returned (.int .i32 ((xs.drop (k + 1)).headD 0 : Nat)) ∧ Below w.heap.size w w' := by
  unfold allL at hx
  split at hx
  · rename_i ht
    obtain ⟨t, rfl, htn⟩ := hasT_nat ht
    have e : ((t : Int)).toNat = t := by omega
    rw [e] at hx
    subst hx
    exact hl_after h htn hk
  · subst hx; simp at hk
theorem HL.allLen (h : HL w0 w p b n l A K) (tag : Int) : (allL n l tag).length ≤ 1000000 := by
  unfold allL
  split
  · rename_i ht
    obtain ⟨t, rfl, htn⟩ := hasT_nat ht
    exact h.len (by omega)
  · simp

theorem grown_below {B : Nat} {J : List Nat → World → Prop} (hJ : AbidesFrom B J) {pre : List Nat} {w w' : World} (h : J pre w) (hb : Below w.heap.size w w') : J pre w' :=
  hJ pre w w' none h ⟨hb.os, hb.tape, hb.output, hb.size, fun k hk _ => hb.block k hk⟩ (fun r e => by cases e)

/- What lay below n, and block B, is as it was. -/
def KeepsTwo (n B : Nat) (X Y : World) : Prop := Below n X Y ∧ Y.heap[B]? = X.heap[B]?

set_option maxRecDepth 100000 in
set_option maxHeartbeats 1000000 in
theorem each1_in (m : Nat) (hm : 1 ≤ m) (r B1 B2 : Nat) (tag : Int) (xs : List Nat) (hxs : allL n l tag = xs) (J Jx : List Nat → World → Prop) (W : World) (hJ : AbidesFrom W.heap.size J)
    (hY : ∀ pre x W, J pre W → pre.length < xs.length → YieldAt Fence.wide (m - 1) Try.prog r #[.int .i32 (x : Nat)] W fun e W' =>
      (e = .returned (.bool true) ∧ J (pre ++ [x]) W' ∧ KeepsTwo w.heap.size B1 W W') ∨ (e = .returned (.bool false) ∧ Jx (pre ++ [x]) W'))
    (h : HL w0 w p b n l A K) (hW : Below w.heap.size w W) (hB1 : W.cell? ⟨B1, 0, none⟩ = some (.pointer (some ⟨p, 0, none⟩))) (hB2 : W.cell? ⟨B2, 0, none⟩ = some (.int .i64 tag)) (hl1 : B1 < W.heap.size) (h0 : J [] W) :
    CallsIn Fence.wide m Try.prog 84 #[.func (.yield r) #[] #[], .pointer (some ⟨B1, 0, none⟩), .pointer (some ⟨B2, 0, none⟩)] W fun e W' => (∃ v, e = .returned v) ∧
      ((∃ ys, ys = xs ∧ J ys W') ∨ (∃ pre, pre <+: xs ∧ Jx pre W')) := by
  have H := Lib.hid h
  have HW := Lib.hid hW
  have HX := Lib.hid hxs
  have hlen : xs.length ≤ 1000000 := hxs ▸ h.allLen tag
  have HF : Hid (Calls Try.prog 54 #[.pointer (some ⟨p, 0, none⟩), .int .i64 tag] W fun e w' => e = .returned (.int .i32 (xs.headD 0 : Nat)) ∧ W = w') := by
    have g := hl_front (h.still hW).1 tag
    rw [allL_front, hxs] at g
    exact Lib.hid g
  have HLn : Hid (Calls Try.prog 64 #[.pointer (some ⟨p, 0, none⟩), .int .i64 tag] W fun e w' => e = .returned (.int .i64 (xs.length : Nat)) ∧ W = w') := by
    have g := hl_len (h.still hW).1 tag
    rw [allL_len, hxs] at g
    exact Lib.hid g
  have HJ := Lib.hid hJ
  clear h hW hxs hJ
  refine callsIn_of_wp Try.func84 rfl trivial ?_ rfl
  simp only [Try.ntmps84, List.size_toArray, List.length_cons, List.length_nil, Nat.reduceAdd, Nat.reduceSub, Array.replicate_succ, Array.replicate_zero, List.push_toArray, List.append_toArray, List.nil_append, List.cons_append]
  gi_wp2_with (first
    | (refine ⟨trivial, ?_⟩; gi_at_call 54; refine (callsIn_wide.2 HF.out).mono ?_; rintro e w1 ⟨rfl, rfl⟩)
    | (refine ⟨trivial, ?_⟩; gi_at_call 64; refine (callsIn_wide.2 HLn.out).mono ?_; rintro e w1 ⟨rfl, rfl⟩))
  gi_loopw [4, 11] (fun s4 s11 wr => ∃ k : Nat, k ≤ xs.length ∧ s4 = .int .i32 ((xs.drop k).headD 0 : Nat) ∧ s11 = .int .i64 k ∧ Hid (J (xs.take k) wr ∧ Below w.heap.size w wr ∧ wr.cell? ⟨B1, 0, none⟩ = some (.pointer (some ⟨p, 0, none⟩)) ∧ B1 < wr.heap.size))
    (fun s4 s11 wr => xs.length - (intOf s11).toNat)
  case atStart =>
    exact ⟨0, by omega, by simp, rfl, Lib.hid ⟨h0, HW.out, hB1, hl1⟩⟩
  case round =>
    obtain ⟨k, hk, rfl, rfl, HI⟩ := hrel
    by_cases hlt : k < xs.length
    · have hd : (xs.drop k).headD 0 = xs[k] := by simp [hlt]
      rw [hd]
      obtain ⟨fn, tmps, assign, body, hy, hR⟩ := hY (xs.take k) xs[k] wr HI.out.1 (by simp; omega)
      have c1 := HI.out.2.2.1
      have ltI : (k : Int) < (xs.length : Int) := by omega
      clear hd
      gi_wp2_with fail
      refine hR.mono ?_
      rintro e W3 (⟨rfl, hJ3, hk3⟩ | ⟨rfl, hJx3⟩)
      · have c3 := (World.cell?_of_block (w := wr) (a := ⟨B1, 0, none⟩) hk3.2).trans c1
        have hW3 := HI.out.2.1.trans hk3.1
        have HL3 := Lib.hid (hl_afterAll (H.out.still hW3).1 tag xs HX.out k hlt)
        have hl3 : B1 < W3.heap.size := Nat.lt_of_lt_of_le HI.out.2.2.2 hk3.1.size
        have HW3 := Lib.hid hW3
        have HJ3 := Lib.hid hJ3
        clear c1 hk3 hW3 hJ3
        gi_wp2_with (refine ⟨trivial, ?_⟩; gi_at_call 85; refine (callsIn_wide.2 HL3.out).mono ?_; rintro e W4 ⟨rfl, hb4⟩)
        go_roundw
        case rel =>
          refine ⟨k + 1, by omega, by simp, by go_num, Lib.hid ⟨?_, HW3.out.trans (hb4.mono HW3.out.size), (hb4.cell (p := ⟨B1, 0, none⟩) hl3).trans c3, Nat.lt_of_lt_of_le hl3 hb4.size⟩⟩
          have := grown_below HJ.out HJ3.out hb4
          rwa [← List.take_succ_eq_append_getElem hlt] at this
        case measure => simp only [intOf]; omega
      · gi_wp2
        refine bodyPost_ret (results_none rfl _ _ _) rfl ?_
        refine ⟨⟨_, rfl⟩, .inr ⟨xs.take k ++ [xs[k]], ?_, hJx3⟩⟩
        rw [← List.take_succ_eq_append_getElem hlt]
        exact List.take_prefix _ _
    · have ltI : ¬ (k : Int) < (xs.length : Int) := by omega
      gi_wp2
      go_end0
      have hJe := HI.out.1
      rw [List.take_of_length_le (by omega)] at hJe
      exact ⟨⟨_, rfl⟩, .inl hJe⟩

theorem each_in (m : Nat) (tag : Int) (P0 : Option Addr) (w : World) :
    CallsIn Fence.wide m Try.prog 66 #[.pointer P0, .int .i64 tag] w fun e w' => e = .returned (.func (.func 84) #[] #[.pointer (some ⟨w.heap.size, 0, none⟩), .pointer (some ⟨w.heap.size + 1, 0, none⟩)]) ∧
      w' = (w.alloc (.cells #[.pointer P0] 67)).alloc (.cells #[.int .i64 tag] 3) := by
  refine callsIn_of_wp Try.func66 rfl trivial ?_ rfl
  simp only [Try.ntmps66, List.size_toArray, List.length_cons, List.length_nil, Nat.reduceAdd, Nat.reduceSub, Array.replicate_succ, Array.replicate_zero, List.push_toArray, List.append_toArray, List.nil_append, List.cons_append]
  gi_wp2
  go_ret
  exact ⟨rfl, rfl⟩

theorem each_stops (m : Nat) (hm : 1 ≤ m) (B1 B2 : Nat) (tag : Int) (xs : List Nat) (hxs : allL n l tag = xs) (h : HL w0 w p b n l A K) (hw : Below w.heap.size w w1) (hB1 : w1.cell? ⟨B1, 0, none⟩ = some (.pointer (some ⟨p, 0, none⟩))) (hB2 : w1.cell? ⟨B2, 0, none⟩ = some (.int .i64 tag)) (hl1 : B1 < w1.heap.size) (hl2 : B2 < w1.heap.size) :
    SeqStopsK Fence.wide m Try.prog 84 #[.pointer (some ⟨B1, 0, none⟩), .pointer (some ⟨B2, 0, none⟩)] (fun x : Nat => #[Value.int .i32 (x : Nat)]) (KeepsTwo w.heap.size B1) (fun ys => ys = xs) (fun pre => pre <+: xs) xs.length w1 := fun r J Jx W hW hJ _ hY h0 =>
  each1_in m hm r B1 B2 tag xs hxs J Jx W hJ hY h (hw.trans (hW.mono hw.size)) ((hW.cell (p := ⟨B1, 0, none⟩) hl1).trans hB1) ((hW.cell (p := ⟨B2, 0, none⟩) hl2).trans hB2) (Nat.lt_of_lt_of_le hl1 hW.size) h0

theorem info_i32 : (Try.prog.info? 21).map (fun i => (i.zero, i.size, i.bytes)) = some (some (.int .i32 0), 1, 4) := by kernel_rfl
def slots (xs : List Nat) : List Value := xs.map (fun x => Value.int .i32 (x : Nat))

set_option maxRecDepth 100000 in
set_option maxHeartbeats 2000000 in
theorem all_in (P0 : Option Addr) (tag : Int) (xs : List Nat) (hlen : xs.length ≤ 1000000)
    (hseq : ∀ w1, Below w.heap.size w w1 → w1.cell? ⟨w.heap.size + 1, 0, none⟩ = some (.pointer P0) → w1.cell? ⟨w.heap.size + 1 + 1, 0, none⟩ = some (.int .i64 tag) → w.heap.size + 1 < w1.heap.size → w.heap.size + 1 + 1 < w1.heap.size →
      SeqStopsK Fence.wide 4 Try.prog 84 #[.pointer (some ⟨w.heap.size + 1, 0, none⟩), .pointer (some ⟨w.heap.size + 1 + 1, 0, none⟩)] (fun x : Nat => #[Value.int .i32 (x : Nat)]) (KeepsTwo w.heap.size (w.heap.size + 1)) (fun ys => ys = xs) (fun pre => pre <+: xs) xs.length w1) :
    CallsIn Fence.wide 5 Try.prog 40 #[.pointer P0, .int .i64 tag] w fun e W' => ∃ v, e = .returned v ∧ W'.ownsRow w.heap.size 21 1 v xs.length (slots xs) ∧ Below w.heap.size w W' := by
  obtain ⟨i0, hi, hz0, hz1, hz2⟩ := info_parts info_i32
  have HSQ := Lib.hid hseq
  clear hseq
  refine callsIn_of_wp_marks Try.func40 rfl trivial ?_ rfl
  simp only [Try.ntmps40, List.size_toArray, List.length_cons, List.length_nil, Nat.reduceAdd, Nat.reduceSub, Array.replicate_succ, Array.replicate_zero, List.push_toArray, List.append_toArray, List.nil_append, List.cons_append]
  gi_wp2_with (refine ⟨trivial, ?_⟩; gi_at_call 66; refine (each_in _ tag P0 _).mono ?_; rintro e w' ⟨rfl, rfl⟩)
  have bO := Boxed.new w 82 (.slice none 0 0)
  have bN := Boxed.new (w.alloc (.cells #[.slice none 0 0] 82)) 67 (.pointer P0)
  have bT := Boxed.new ((w.alloc (.cells #[.slice none 0 0] 82)).alloc (.cells #[.pointer P0] 67)) 3 (.int .i64 tag)
  rw [World.size_alloc] at bN
  rw [World.size_alloc, World.size_alloc] at bT
  have hB0 : Below w.heap.size w (((w.alloc (.cells #[.slice none 0 0] 82)).alloc (.cells #[.pointer P0] 67)).alloc (.cells #[.int .i64 tag] 3)) := (((Below.refl _ w).alloc (Nat.le_refl _) _).alloc (by simp) _).alloc (by simp; omega) _
  refine wpIn_rangeFunc_ownG rfl (by decide) (gf := 84) (lb := #[.pointer (some ⟨w.heap.size + 1, 0, none⟩), .pointer (some ⟨w.heap.size + 1 + 1, 0, none⟩)]) rfl trivial (enters_of Try.func84 (by kernel_rfl) rfl)
    (HSQ.out _ hB0 (bN.alloc _).cell bT.cell (by simp) (by simp)) (fun h k => ⟨h.1.trans k.1, k.2.trans h.2⟩)
    (fun W j o o' hj ho hc hk => ⟨belowK_b (w := ((w.alloc (.cells #[.slice none 0 0] 82)).alloc (.cells #[.pointer P0] 67)).alloc (.cells #[.int .i64 tag] 3)) (by simp; omega) W j o o' hj ho hc hk,
      (grownBy_putObj' W j o').block _ (by have := (Array.getElem?_eq_some_iff.1 ho).1; simp at hj; omega) (by simp at hj; simp; omega)⟩) (Below.refl _ _) (fun _ => rfl)
    (fun pre W => (∃ v, Boxed W w.heap.size 82 v ∧ W.ownsRow w.heap.size 21 1 v pre.length (slots pre) ∧ True) ∧ Boxed W (w.heap.size + 1) 67 (.pointer P0) ∧ Below w.heap.size w W)
    (fun _ _ _ => False)
    (OwnFrom.and (Own.from (holdsRow_own w.heap.size w.heap.size 82 21 1 (fun pre => pre.length) (fun pre => slots pre) (fun _ _ => True)) _) (OwnFrom.and (Own.from (boxed_own _ _ _) _) (ownFrom_below (Nat.le_refl _) (by simp; omega))))
    (fun _ _ _ _ _ hs _ _ => hs)
    ⟨⟨_, (bO.alloc _).alloc _, World.ownsRow_nil _ _ _ _, trivial⟩, bN.alloc _, hB0⟩
    (fun x => { tmps := #[.pointer P0, .int .i64 tag, undef, undef, .slice none 0 0, .pointer (some ⟨w.heap.size, 0, none⟩), .int .i32 (x : Nat), .pointer P0, .int .i64 tag, .func (.func 84) #[] #[.pointer (some ⟨w.heap.size + 1, 0, none⟩), .pointer (some ⟨w.heap.size + 1 + 1, 0, none⟩)], .int .i32 (x : Nat), undef, undef, undef, undef, undef], defers := [] }) ?assign ?body ?done ?stop
  case assign =>
    intro l x W K hK
    gi_wp2
    exact hK
  case body =>
    rintro l pre x W ⟨⟨v, hv, hrow, _⟩, hbx, hB⟩ hlt
    have hc := hv.cell
    have hx1 : slots pre ++ [.int .i32 (x : Nat)] = slots (pre ++ [x]) := by simp [slots]
    gi_wp2_with (gi_at_builtin; refine wpListIn_append_own _ rfl _ _ 82 rfl w.heap.size 21 i0 (.int .i32 0) 1 4 Try.underlying82 hi hz0 hz1 hz2 rfl (by decide) _ _ _ rfl (hrow.alloc _) ⟨W.heap.size, 0, none⟩ 1 1 [.int .i32 (x : Nat)] rfl rfl (cell_one_new _ _ _) (by simp [Value.oneCell']) (by unfold maxLen; omega) (by omega) (by have := hB.size; simp; omega) ?_; intro v' w1 hown' hgrow _; obtain ⟨g', cap', rfl⟩ := ownsRow_succ hown'; obtain ⟨hv1, hv2, hr2, hk2, hb2⟩ := hv.appended (by decide) hrow hB.size (Nat.le_refl _) hown' hgrow; have hc1 := hv1.cell; have hf1 := hv1.frozen; have hbx1 := (hbx.alloc _).kept hgrow (hbx.not_row (by decide) hrow); have hbx2 : Boxed (w1.setCell ⟨w.heap.size, 0, none⟩ (.slice (some ⟨g', 0, none⟩) (pre.length + 1) cap')) (w.heap.size + 1) 67 (.pointer P0) := (Below.heap_setCell _ _ _ _ (by simp)).trans hbx1)
    exact ⟨hk2.from _, ⟨hb2, hbx2.trans hbx.symm⟩, ⟨_, hv2, by rw [← hx1]; simpa using hr2, trivial⟩, hbx2, hB.trans hb2⟩
  case done =>
    rintro D ys W hD rfl ⟨⟨v, hv, hrow, _⟩, _, hB⟩ hK
    have hc := hv.cell
    gi_wp2
    refine ⟨by simp, .inl ⟨_, _, rfl, run_takeDeferred hK, ?_⟩⟩
    exact ⟨_, results_tmp rfl _ _ _, v, rfl, ownsRow_putObj hrow _ hK rfl, hB.trans (belowK_b (w := w) (Nat.le_refl _) W D _ _ (by simp at hD; omega) hK rfl rfl)⟩
  case stop =>
    rintro D c pre W _ _ h _
    exact h.elim

theorem all_walk (h : HL w0 w p b n l A K) (tag : Int) :
    Calls Try.prog 40 #[.pointer (some ⟨p, 0, none⟩), .int .i64 tag] w fun e W' => ∃ v, e = .returned v ∧ W'.ownsRow w.heap.size 21 1 v (allL n l tag).length (slots (allL n l tag)) ∧ Below w.heap.size w W' :=
  callsIn_wide.1 (all_in _ tag _ (h.allLen tag) (fun _ g1 g2 g3 g4 g5 => each_stops 4 (by decide) _ _ tag _ rfl h g1 g2 g3 g4 g5))
end
end Go.Proofs.Ytnacmhljbnpdpaa
/- Package ilist: New. -/
namespace Go.Proofs.Ytnacmhljbnpdpaa
open Go Go.RowKit Go.Deep

theorem make_ends (n : Nat) (hn : n ≤ 1000000000) (w : World) :
    ∃ cs : Array Value, (Instr.makeSlice 107 (.int .i64 n) (.int .i64 n)).run Try.prog w = .ok (.slice (some ⟨w.heap.size, 0, none⟩) n n) (w.alloc (.cells cs 126)) ∧
      cs.size = n * 3 ∧ ∀ p, p < cs.size → cs[p]? = some (enV (fun _ => ⟨0, 0, 0⟩) p) := by
  have hinfo : (Try.prog.info? 126).map (fun i => (i.zero, i.size, i.bytes)) = some (some (.agg #[.int .i32 0, .int .i32 0, .int .i64 0]), 3, 16) := by kernel_rfl
  obtain ⟨i, hi, hz0, hz1, hz2⟩ := info_parts hinfo
  have hr := run_make (P := Try.prog) w 107 126 i _ (by kernel_rfl) hi hz0 .i64 .i64 n n (by omega) (by omega) (by rw [hz2]; omega) (by omega)
  refine ⟨_, by simpa using hr, ?_⟩
  rw [hz1]
  refine ⟨size_madeCells _ _, fun p hp => ?_⟩
  rw [size_madeCells] at hp
  have hp7 : p % 3 < 3 := Nat.mod_lt _ (by decide)
  simp only [madeCells, Value.cells, Array.getElem?_map]
  rw [Array.getElem?_range, if_pos hp]
  simp only [Option.map_some, Option.some.injEq, enV]
  generalize p % 3 = j at hp7
  match j, hp7 with
  | 0, _ => rfl
  | 1, _ => rfl
  | 2, _ => rfl

def numT (tags : Int) : Nat := if tags < 1 then 1 else if 8 < tags then 8 else tags.toNat
theorem numT_bounds (tags : Int) : 1 ≤ numT tags ∧ numT tags ≤ 8 := by
  unfold numT
  split
  · omega
  · split <;> omega
section
variable {w0 w : World} {b : Nat} {A : St} {K : List Nat}
theorem new_ends_l (h : Held w0 w b A K) (hs : A.n ≤ 1000000) (hz : ∀ j, j ≠ 0 → (A.node j).tag = 0 ∧ (A.node j).prev = 0 ∧ (A.node j).next = 0) (n : Nat) (h1 : 1 ≤ n) (h8 : n ≤ 8) {cs : Array Value} (hc : cs.size = n * 3) (hcs : ∀ p, p < cs.size → cs[p]? = some (enV (fun _ => ⟨0, 0, 0⟩) p)) :
    HL w0 ((w.alloc (.cells cs 126)).alloc (.cells (lsCells b w.heap.size n) 109)) (w.heap.size + 1) b n (fun _ => []) A K ∧ Kept K w ((w.alloc (.cells cs 126)).alloc (.cells (lsCells b w.heap.size n) 109)) := by
  have hb : Below w.heap.size w ((w.alloc (.cells cs 126)).alloc (.cells (lsCells b w.heap.size n) 109)) := ((Below.refl _ _).alloc (Nat.le_refl _) _).alloc (by simp) _
  have hsz := h.below.size
  have hw2 : ((w.alloc (.cells cs 126)).alloc (.cells (lsCells b w.heap.size n) 109)).heap.size = w.heap.size + 2 := by simp
  have hrow := World.rowIs_alloc w cs 126 _ hcs
  rw [hc] at hrow
  have hl := heap_alloc_new (w.alloc (.cells cs 126)) (.cells (lsCells b w.heap.size n) 109)
  rw [World.size_alloc] at hl
  refine ⟨⟨⟨A, n, fun _ => ⟨0, 0, 0⟩⟩, ⟨hs, h1, h8, w.heap.size, ?_, by omega, hsz, by omega, ?_, ?_, hl, hrow.alloc _⟩, ?_, rfl, Alike.refl A⟩, (h.still hb).2⟩
  · refine h.other hb (fun k hk => ?_)
    rw [hw2]
    rcases List.mem_cons.1 hk with rfl | hk
    · exact ⟨.inr (by omega), by omega⟩
    · rcases List.mem_cons.1 hk with rfl | hk
      · exact ⟨.inr (Nat.le_refl _), by omega⟩
      · exact ⟨.inl hk, by have := h.old k hk; omega⟩
  · intro hk; have := h.old _ hk; omega
  · intro hk; have := h.old _ hk; omega
  · exact ⟨fun t _ i hi => by simp at hi, fun _ _ => List.nodup_nil, fun t _ i hi => by simp at hi, fun i hi _ => hz i hi, fun t _ => ⟨rfl, rfl⟩, fun _ _ => rfl⟩

theorem ilnew_walk (h : Held w0 w b A K) (hs : A.n ≤ 1000000) (hz : ∀ j, j ≠ 0 → (A.node j).tag = 0 ∧ (A.node j).prev = 0 ∧ (A.node j).next = 0) (tags : Int) :
    Calls Try.prog 44 #[.pointer (some ⟨b, 0, none⟩), .int .i64 tags] w fun e w' => e = .returned (.pointer (some ⟨w.heap.size + 1, 0, none⟩)) ∧ HL w0 w' (w.heap.size + 1) b (numT tags) (fun _ => []) A K ∧ Kept K w w' := by
  unfold numT
  by_cases h1 : tags < 1
  · rw [if_pos h1]
    obtain ⟨cs, hmk, hsz, hcs⟩ := make_ends 1 (by omega) w
    have hmk' : (Instr.makeSlice 107 (.int .i64 1) (.int .i64 1)).run Try.prog w = .ok (.slice (some ⟨w.heap.size, 0, none⟩) 1 1) (w.alloc (.cells cs 126)) := hmk
    clear hmk
    have HE := Lib.hid (new_ends_l h hs hz 1 (by omega) (by omega) hsz hcs)
    clear h hs hz hcs hsz
    go_enter Try.func44, Try.ntmps44
    go_wp2
    go_ret
    exact ⟨rfl, HE.out⟩
  · rw [if_neg h1]
    by_cases h8 : 8 < tags
    · rw [if_pos h8]
      obtain ⟨cs, hmk, hsz, hcs⟩ := make_ends 8 (by omega) w
      have hmk' : (Instr.makeSlice 107 (.int .i64 8) (.int .i64 8)).run Try.prog w = .ok (.slice (some ⟨w.heap.size, 0, none⟩) 8 8) (w.alloc (.cells cs 126)) := hmk
      clear hmk
      have HE := Lib.hid (new_ends_l h hs hz 8 (by omega) (by omega) hsz hcs)
      clear h hs hz hcs hsz
      go_enter Try.func44, Try.ntmps44
      go_wp2
      go_ret
      exact ⟨rfl, HE.out⟩
    · rw [if_neg h8]
      obtain ⟨n, rfl⟩ : ∃ n : Nat, tags = n := ⟨tags.toNat, by omega⟩
      have e : ((n : Int)).toNat = n := by omega
      rw [e]
      obtain ⟨cs, hmk, hsz, hcs⟩ := make_ends n (by omega) w
      have HE := Lib.hid (new_ends_l h hs hz n (by omega) (by omega) hsz hcs)
      have g1 : (1 : Int) ≤ (n : Int) := by omega
      have g2 : (n : Int) ≤ 8 := by omega
      clear h hs hz hcs hsz e
      go_enter Try.func44, Try.ntmps44
      go_wp2
      go_ret
      exact ⟨rfl, HE.out⟩
end
end Go.Proofs.Ytnacmhljbnpdpaa
