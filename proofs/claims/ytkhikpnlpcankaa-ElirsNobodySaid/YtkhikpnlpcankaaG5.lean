/- Words and walks: Seg LsS. -/
import Derived.Test.YtkhikpnlpcankaaG1
import Derived.Test.YtkhikpnlpcankaaG4
namespace Go.Proofs.Ytkhikpnlpcankaa
open Go Go.RowKit Go.Deep
def Seg (nx pv : Nat → Int) : Nat → List Nat → Nat → Prop
  | a, [], c => nx a = c ∧ pv c = a
  | a, i :: l, c => nx a = i ∧ pv i = a ∧ Seg nx pv i l c
section
variable {nx pv nx' pv' : Nat → Int} {c i p q : Nat} {l2 : List Nat}
theorem seg_append : ∀ (l1 : List Nat) (a : Nat), Seg nx pv a (l1 ++ i :: l2) c ↔ Seg nx pv a l1 i ∧ Seg nx pv i l2 c
  | [], a => by simp [Seg, and_assoc]
  | y :: r, a => by simp [Seg, seg_append r y, and_assoc]
theorem seg_split : ∀ (l1 : List Nat) (a : Nat), Seg nx pv a (l1 ++ l2) c ↔ Seg nx pv a l1 (l2.headD c) ∧ Seg nx pv (l1.getLastD a) l2 c
  | [], a => by
    cases l2 with
    | nil => simp [Seg]
    | cons y r => simp only [List.nil_append, List.getLastD_nil, List.headD_cons, Seg]; exact ⟨fun h => ⟨⟨h.1, h.2.1⟩, h⟩, fun h => h.2⟩
  | y :: r, a => by
    simp only [List.cons_append, Seg, seg_split r y, List.getLastD_cons, and_assoc]
theorem seg_congr : ∀ (l : List Nat) (a : Nat), (∀ j, j = a ∨ j ∈ l → nx' j = nx j) → (∀ j, j = c ∨ j ∈ l → pv' j = pv j) → Seg nx pv a l c → Seg nx' pv' a l c
  | [], a, h1, h2, h => ⟨(h1 a (.inl rfl)).trans h.1, (h2 c (.inl rfl)).trans h.2⟩
  | y :: r, a, h1, h2, h => ⟨(h1 a (.inl rfl)).trans h.1, (h2 y (.inr (by simp))).trans h.2.1, seg_congr r y (fun j hj => h1 j (.inr (by simpa using hj))) (fun j hj => h2 j (hj.imp id (fun g => by simp [g]))) h.2.2⟩
theorem getLastD_mem' : ∀ (l : List Nat) (a : Nat), l.getLastD a = a ∨ l.getLastD a ∈ l
  | [], a => .inl rfl
  | y :: r, a => .inr (by rw [List.getLastD_cons]; exact List.mem_cons.2 (getLastD_mem' r y))
theorem headD_mem' : ∀ (l : List Nat) (a : Nat), l.headD a = a ∨ l.headD a ∈ l
  | [], a => .inl rfl
  | y :: r, a => .inr (by simp)
theorem seg_last : ∀ (l : List Nat) (a : Nat), Seg nx pv a l c → pv c = (l.getLastD a : Nat)
  | [], _, h => h.2
  | y :: r, _, h => by rw [List.getLastD_cons]; exact seg_last r y h.2.2
theorem seg_head : ∀ (l : List Nat) (a : Nat), Seg nx pv a l c → nx a = (l.headD c : Nat)
  | [], _, h => h.1
  | _ :: _, _, h => h.1
theorem seg_left : ∀ (l : List Nat) (a : Nat), Seg nx pv a l i → (a :: l).Nodup → (∀ j, (j = a ∨ j ∈ l) → j ≠ l.getLastD a → nx' j = nx j) → nx' (l.getLastD a) = q → (∀ j ∈ l, pv' j = pv j) → pv' q = (l.getLastD a : Nat) → Seg nx' pv' a l q
  | [], a, _, _, _, h2, _, h4 => ⟨h2, h4⟩
  | y :: r, a, h, hn, h1, h2, h3, h4 => by
    rw [List.getLastD_cons] at h1 h2 h4
    have hn' := List.nodup_cons.1 hn
    have ha : a ≠ r.getLastD y := fun e => hn'.1 (by rw [e]; exact List.mem_cons.2 (getLastD_mem' r y))
    exact ⟨(h1 a (.inl rfl) ha).trans h.1, (h3 y (by simp)).trans h.2.1, seg_left r y h.2.2 hn'.2 (fun j hj => h1 j (.inr (by simpa using hj))) h2 (fun j hj => h3 j (by simp [hj])) h4⟩
theorem seg_right (l : List Nat) (h : Seg nx pv i l c) (hn : (c :: l).Nodup) (h1 : ∀ j ∈ l, nx' j = nx j) (h2 : nx' p = (l.headD c : Nat)) (h3 : pv' (l.headD c) = p) (h4 : ∀ j, (j = c ∨ j ∈ l) → j ≠ l.headD c → pv' j = pv j) : Seg nx' pv' p l c := by
  cases l with
  | nil => exact ⟨h2, h3⟩
  | cons y r =>
    simp only [List.headD_cons] at h2 h3 h4
    have hn1 := List.nodup_cons.1 hn
    have hn2 := List.nodup_cons.1 hn1.2
    refine ⟨h2, h3, seg_congr r y (fun j hj => h1 j (by simpa using hj)) (fun j hj => h4 j (hj.imp id (fun g => by simp [g])) ?_) h.2.2⟩
    rintro rfl
    rcases hj with rfl | hj
    · exact hn1.1 (by simp)
    · exact hn2.1 hj
end
def LSt.nx (x : LSt) (t j : Nat) : Int := if j = 0 then (x.en t).front else (x.st.node j).next
def LSt.pv (x : LSt) (t j : Nat) : Int := if j = 0 then (x.en t).back else (x.st.node j).prev
def LSt.tg (x : LSt) (j : Nat) : Int := (x.st.node j).tag
def LSt.rest (x : LSt) (j : Nat) : Int × Int × Int := ((x.st.node j).key, (x.st.node j).val, (x.st.node j).flag)
section
variable (x : LSt) (t u i j a c : Nat) (v : Int)
theorem nx_setAfter : (x.setAfter t i v).nx u j = if j = i ∧ (i = 0 → u = t) then v else x.nx u j := by
  unfold LSt.setAfter LSt.nx
  by_cases hi : i = 0
  · subst hi
    rw [if_pos rfl]
    by_cases hj : j = 0
    · subst hj
      by_cases hu : u = t
      · subst hu; simp [LSt.setEn, upd]
      · simp [LSt.setEn, upd, hu]
    · simp [LSt.setEn, hj]
  · rw [if_neg hi]
    by_cases hj : j = i
    · subst hj; simp [LSt.setNd, St.set, upd, hi]
    · simp [LSt.setNd, St.set, upd, hi, hj]
theorem pv_setAfter : (x.setAfter t i v).pv u j = x.pv u j := by
  unfold LSt.setAfter
  by_cases hi : i = 0
  · rw [if_pos hi]
    unfold LSt.pv LSt.setEn
    by_cases hu : u = t
    · subst hu; simp [upd]
    · simp [upd, hu]
  · rw [if_neg hi]
    unfold LSt.pv LSt.setNd St.set
    by_cases hj : j = i
    · subst hj; simp [upd]
    · simp [upd, hj]
theorem pv_setBefore : (x.setBefore t i v).pv u j = if j = i ∧ (i = 0 → u = t) then v else x.pv u j := by
  unfold LSt.setBefore LSt.pv
  by_cases hi : i = 0
  · subst hi
    rw [if_pos rfl]
    by_cases hj : j = 0
    · subst hj
      by_cases hu : u = t
      · subst hu; simp [LSt.setEn, upd]
      · simp [LSt.setEn, upd, hu]
    · simp [LSt.setEn, hj]
  · rw [if_neg hi]
    by_cases hj : j = i
    · subst hj; simp [LSt.setNd, St.set, upd, hi]
    · simp [LSt.setNd, St.set, upd, hi, hj]
theorem nx_setBefore : (x.setBefore t i v).nx u j = x.nx u j := by
  unfold LSt.setBefore
  by_cases hi : i = 0
  · rw [if_pos hi]
    unfold LSt.nx LSt.setEn
    by_cases hu : u = t
    · subst hu; simp [upd]
    · simp [upd, hu]
  · rw [if_neg hi]
    unfold LSt.nx LSt.setNd St.set
    by_cases hj : j = i
    · subst hj; simp [upd]
    · simp [upd, hj]
theorem tg_setAfter : (x.setAfter t i v).tg j = x.tg j ∧ (x.setAfter t i v).rest j = x.rest j := by
  unfold LSt.setAfter LSt.tg LSt.rest
  split
  · exact ⟨rfl, rfl⟩
  · by_cases hj : j = i
    · subst hj; simp [LSt.setNd, St.set, upd]
    · simp [LSt.setNd, St.set, upd, hj]
theorem tg_setBefore : (x.setBefore t i v).tg j = x.tg j ∧ (x.setBefore t i v).rest j = x.rest j := by
  unfold LSt.setBefore LSt.tg LSt.rest
  split
  · exact ⟨rfl, rfl⟩
  · by_cases hj : j = i
    · subst hj; simp [LSt.setNd, St.set, upd]
    · simp [LSt.setNd, St.set, upd, hj]
theorem nx_join : (x.join t a c).nx u j = if j = a ∧ (a = 0 → u = t) then (c : Int) else x.nx u j := by unfold LSt.join; rw [nx_setBefore, nx_setAfter]
theorem pv_join : (x.join t a c).pv u j = if j = c ∧ (c = 0 → u = t) then (a : Int) else x.pv u j := by unfold LSt.join; rw [pv_setBefore, pv_setAfter]
theorem tg_join : (x.join t a c).tg j = x.tg j ∧ (x.join t a c).rest j = x.rest j := by
  unfold LSt.join
  rw [(tg_setBefore _ _ _ _ _).1, (tg_setBefore _ _ _ _ _).2, (tg_setAfter _ _ _ _ _).1, (tg_setAfter _ _ _ _ _).2]
  exact ⟨rfl, rfl⟩
theorem nx_count (E : Int) : (x.setEn t { x.en t with count := E }).nx u j = x.nx u j := by
  unfold LSt.nx LSt.setEn
  by_cases hu : u = t
  · subst hu; simp [upd]
  · simp [upd, hu]
theorem pv_count (E : Int) : (x.setEn t { x.en t with count := E }).pv u j = x.pv u j := by
  unfold LSt.pv LSt.setEn
  by_cases hu : u = t
  · subst hu; simp [upd]
  · simp [upd, hu]
theorem nx_push (hi : i ≠ 0) : (x.push t i a c).nx u j = if j = i then (c : Int) else if j = a ∧ (a = 0 → u = t) then (i : Int) else x.nx u j := by
  unfold LSt.push
  have hc := nx_count (x.push3 t i a c) t u j ((x.en t).count + 1)
  rw [hc]
  unfold LSt.push3
  rw [nx_join, nx_join]
  have e : (x.setNd i { x.st.node i with tag := t + 1 }).nx u j = x.nx u j := by
    unfold LSt.nx LSt.setNd St.set
    by_cases hj : j = i
    · subst hj; simp [upd]
    · simp [upd, hj]
  rw [e]
  simp [hi]
theorem pv_push (hi : i ≠ 0) : (x.push t i a c).pv u j = if j = c ∧ (c = 0 → u = t) then (i : Int) else if j = i then (a : Int) else x.pv u j := by
  unfold LSt.push
  have hc := pv_count (x.push3 t i a c) t u j ((x.en t).count + 1)
  rw [hc]
  unfold LSt.push3
  rw [pv_join, pv_join]
  have e : (x.setNd i { x.st.node i with tag := t + 1 }).pv u j = x.pv u j := by
    unfold LSt.pv LSt.setNd St.set
    by_cases hj : j = i
    · subst hj; simp [upd]
    · simp [upd, hj]
  rw [e]
  simp [hi]
theorem tg_push : (x.push t i a c).tg j = (if j = i then (t : Int) + 1 else x.tg j) ∧ (x.push t i a c).rest j = x.rest j := by
  have h1 : (x.push t i a c).tg j = (x.push3 t i a c).tg j := rfl
  have h2 : (x.push t i a c).rest j = (x.push3 t i a c).rest j := rfl
  rw [h1, h2]
  unfold LSt.push3
  rw [(tg_join _ _ _ _ _).1, (tg_join _ _ _ _ _).2, (tg_join _ _ _ _ _).1, (tg_join _ _ _ _ _).2]
  unfold LSt.tg LSt.rest LSt.setNd St.set
  by_cases hj : j = i
  · subst hj; simp [upd]
  · simp [upd, hj]
theorem push_n : (x.push t i a c).n = x.n := push3_n x t i a c
theorem push_tk : (x.push t i a c).st.tk j = x.st.tk j := by
  show (x.push3 t i a c).st.tk j = _
  unfold LSt.push3
  rw [join_tk, join_tk]; rfl
theorem push_count : ((x.push t i a c).en u).count = if u = t then (x.en t).count + 1 else (x.en u).count := by
  unfold LSt.push
  show En.count (upd _ t _ u) = _
  unfold upd
  split
  · rfl
  · exact push3_count x t i a c u
def LSt.remove (x : LSt) (t i a c : Nat) : LSt :=
  let x2 := (x.join t a c).setNd i { x.st.node i with tag := 0, prev := 0, next := 0 }
  x2.setEn t { x2.en t with count := (x.en t).count - 1 }
theorem nx_remove (hi : i ≠ 0) : (x.remove t i a c).nx u j = if j = i then 0 else if j = a ∧ (a = 0 → u = t) then (c : Int) else x.nx u j := by
  unfold LSt.remove
  have hc := nx_count ((x.join t a c).setNd i { x.st.node i with tag := 0, prev := 0, next := 0 }) t u j ((x.en t).count - 1)
  refine hc.trans ?_
  rw [← nx_join x t u j a c]
  unfold LSt.nx LSt.setNd St.set
  by_cases hj : j = i
  · subst hj; simp [upd, hi]
  · simp [upd, hj]
theorem pv_remove (hi : i ≠ 0) : (x.remove t i a c).pv u j = if j = i then 0 else if j = c ∧ (c = 0 → u = t) then (a : Int) else x.pv u j := by
  unfold LSt.remove
  have hc := pv_count ((x.join t a c).setNd i { x.st.node i with tag := 0, prev := 0, next := 0 }) t u j ((x.en t).count - 1)
  refine hc.trans ?_
  rw [← pv_join x t u j a c]
  unfold LSt.pv LSt.setNd St.set
  by_cases hj : j = i
  · subst hj; simp [upd, hi]
  · simp [upd, hj]
theorem tg_remove : (x.remove t i a c).tg j = (if j = i then 0 else x.tg j) ∧ (x.remove t i a c).rest j = x.rest j := by
  have h1 : (x.remove t i a c).tg j = ((x.join t a c).setNd i { x.st.node i with tag := 0, prev := 0, next := 0 }).tg j := rfl
  have h2 : (x.remove t i a c).rest j = ((x.join t a c).setNd i { x.st.node i with tag := 0, prev := 0, next := 0 }).rest j := rfl
  rw [h1, h2, ← (tg_join x t j a c).1, ← (tg_join x t j a c).2]
  have h3 := (tg_join x t i a c).2
  unfold LSt.rest at h3
  simp only [Prod.mk.injEq] at h3
  unfold LSt.tg LSt.rest LSt.setNd St.set
  by_cases hj : j = i
  · subst hj; simp [upd, h3]
  · simp [upd, hj]
theorem remove_n : (x.remove t i a c).n = x.n := join_n x t a c
theorem remove_tk : (x.remove t i a c).st.tk j = x.st.tk j := join_tk x t j a c
theorem remove_count : ((x.remove t i a c).en u).count = if u = t then (x.en t).count - 1 else (x.en u).count := by
  unfold LSt.remove
  show En.count (upd _ t _ u) = _
  unfold upd
  split
  · rfl
  · exact join_count x t u a c
end
structure LOk (x : LSt) (l : Nat → List Nat) : Prop where
  taken : ∀ t, t < x.n → ∀ i ∈ l t, x.st.tk i = true
  nodup : ∀ t, t < x.n → (l t).Nodup
  tag : ∀ t, t < x.n → ∀ i ∈ l t, x.tg i = t + 1
  none : ∀ i, i ≠ 0 → (∀ t, t < x.n → i ∉ l t) → x.tg i = 0 ∧ (x.st.node i).prev = 0 ∧ (x.st.node i).next = 0
  seg : ∀ t, t < x.n → Seg (x.nx t) (x.pv t) 0 (l t) 0
  count : ∀ t, t < x.n → (x.en t).count = (l t).length
section
variable {x : LSt} {l : Nat → List Nat} {t i : Nat}
theorem LOk.pos (h : LOk x l) (ht : t < x.n) (hi : i ∈ l t) : i ≠ 0 := by
  have := tk_bounds (h.taken t ht i hi)
  omega
theorem LOk.zero (h : LOk x l) (ht : t < x.n) : (0 :: l t).Nodup := List.nodup_cons.2 ⟨fun h0 => h.pos ht h0 rfl, h.nodup t ht⟩
theorem LOk.apart (h : LOk x l) {u : Nat} (ht : t < x.n) (hu : u < x.n) (hi : i ∈ l t) (hi' : i ∈ l u) : t = u := by
  have h1 := h.tag t ht i hi
  have h2 := h.tag u hu i hi'
  omega
theorem LOk.out (h : LOk x l) (ht : x.tg i = 0) : ∀ t, t < x.n → i ∉ l t := fun t hn hi => by
  have := h.tag t hn i hi
  omega
theorem LOk.bounds (h : LOk x l) (h8 : x.n ≤ 8) {i : Nat} (hi : i ≠ 0) : 0 ≤ x.tg i ∧ x.tg i ≤ 8 := by
  by_cases hm : ∃ t, t < x.n ∧ i ∈ l t
  · obtain ⟨t, ht, hi⟩ := hm
    have := h.tag t ht i hi
    omega
  · have := (h.none i hi (fun t ht hi => hm ⟨t, ht, hi⟩)).1
    omega
theorem LOk.in_ (h : LOk x l) (hi : i ≠ 0) (ht : x.tg i ≠ 0) : ∃ t, t < x.n ∧ i ∈ l t ∧ x.tg i = t + 1 := by
  by_cases hm : ∃ t, t < x.n ∧ i ∈ l t
  · obtain ⟨t, ht, hi⟩ := hm
    exact ⟨t, ht, hi, h.tag t ht i hi⟩
  · exact absurd (h.none i hi (fun t ht hi => hm ⟨t, ht, hi⟩)).1 ht
theorem LOk.len (h : LOk x l) (ho : x.st.Ok) (hs : x.st.n ≤ 1000000) (ht : t < x.n) : (l t).length ≤ 1000000 := by
  have h1 := nodup_len x.st.used (l t) (h.nodup t ht) (fun i hi => by
    have := tk_bounds (h.taken t ht i hi)
    omega)
  have := ho.room
  omega
theorem push_ok (h : LOk x l) (ht : t < x.n) (hi : x.st.tk i = true) (hz : x.tg i = 0) {l1 l2 : List Nat} (hl : l t = l1 ++ l2) {a c : Nat} (ha : a = l1.getLastD 0) (hc : c = l2.headD 0) :
    LOk (x.push t i a c) (upd l t (l1 ++ i :: l2)) := by
  have hi0 : i ≠ 0 := by have := tk_bounds hi; omega
  have hout := h.out hz
  have hnot : i ∉ l t := hout t ht
  have hma : a = 0 ∨ a ∈ l t := by
    rcases getLastD_mem' l1 0 with g | g
    · exact .inl (ha.trans g)
    · exact .inr (by rw [hl, ha]; exact List.mem_append.2 (.inl g))
  have hmc : c = 0 ∨ c ∈ l t := by
    rcases headD_mem' l2 0 with g | g
    · exact .inl (hc.trans g)
    · exact .inr (by rw [hl, hc]; exact List.mem_append.2 (.inr g))
  have hai : a ≠ i := fun e => hma.elim (fun g => hi0 (e ▸ g)) (fun g => hnot (e ▸ g))
  have hci : c ≠ i := fun e => hmc.elim (fun g => hi0 (e ▸ g)) (fun g => hnot (e ▸ g))
  have hmem : ∀ j, j ∈ l1 ++ i :: l2 ↔ j = i ∨ j ∈ l t := fun j => by rw [hl]; simp [or_left_comm]
  refine ⟨fun u hu j hj => ?_, fun u hu => ?_, fun u hu j hj => ?_, fun j hj0 hj => ?_, fun u hu => ?_, fun u hu => ?_⟩
  · rw [push_n] at hu
    rw [push_tk]
    by_cases e : u = t
    · subst e
      rw [upd_same, hmem] at hj
      rcases hj with rfl | hj
      · exact hi
      · exact h.taken u hu j hj
    · rw [upd_other _ _ _ e] at hj
      exact h.taken u hu j hj
  · rw [push_n] at hu
    by_cases e : u = t
    · subst e
      rw [upd_same]
      have h1 := h.nodup u hu
      rw [hl] at h1 hnot
      have h2 : (l1 ++ i :: l2).Perm (i :: (l1 ++ l2)) := List.perm_middle
      exact h2.nodup_iff.2 (List.nodup_cons.2 ⟨hnot, h1⟩)
    · rw [upd_other _ _ _ e]
      exact h.nodup u hu
  · rw [push_n] at hu
    rw [(tg_push x t i j a c).1]
    by_cases e : u = t
    · subst e
      rw [upd_same, hmem] at hj
      rcases hj with rfl | hj
      · rw [if_pos rfl]
      · have hji : j ≠ i := fun g => hnot (g ▸ hj)
        rw [if_neg hji]
        exact h.tag u hu j hj
    · rw [upd_other _ _ _ e] at hj
      have hji : j ≠ i := fun g => hout u hu (g ▸ hj)
      rw [if_neg hji]
      exact h.tag u hu j hj
  · rw [push_n] at hj
    have hjt := hj t ht
    rw [upd_same, hmem] at hjt
    have hji : j ≠ i := fun e => hjt (.inl e)
    have hall : ∀ u, u < x.n → j ∉ l u := fun u hu => by
      by_cases e : u = t
      · subst e; exact fun g => hjt (.inr g)
      · have := hj u hu
        rwa [upd_other _ _ _ e] at this
    obtain ⟨g1, g2, g3⟩ := h.none j hj0 hall
    rw [(tg_push x t i j a c).1, if_neg hji]
    have hja : ¬ (j = a ∧ (a = 0 → t = t)) := fun ⟨e, _⟩ => by
      rcases hma with g | g
      · exact hj0 (e.trans g)
      · exact hall t ht (e ▸ g)
    have hjc : ¬ (j = c ∧ (c = 0 → t = t)) := fun ⟨e, _⟩ => by
      rcases hmc with g | g
      · exact hj0 (e.trans g)
      · exact hall t ht (e ▸ g)
    have e1 := pv_push x t t i j a c hi0
    have e2 := nx_push x t t i j a c hi0
    rw [if_neg hjc, if_neg hji] at e1
    rw [if_neg hji, if_neg hja] at e2
    unfold LSt.pv at e1
    unfold LSt.nx at e2
    rw [if_neg hj0, if_neg hj0] at e1 e2
    exact ⟨g1, e1.trans g2, e2.trans g3⟩
  · rw [push_n] at hu
    by_cases e : u = t
    · subst e
      rw [upd_same, seg_append]
      have hs := h.seg u hu
      have hz0 := h.zero hu
      rw [hl] at hs hz0 hnot
      rw [seg_split] at hs
      have hsub1 : (0 :: l1).Nodup := hz0.sublist (by simp)
      have hsub2 : (0 :: l2).Nodup := hz0.sublist (by simp)
      rw [← ha, ← hc] at hs
      refine ⟨seg_left l1 0 hs.1 hsub1 (fun j hj hne => ?_) ?_ (fun j hj => ?_) ?_, seg_right l2 hs.2 hsub2 (fun j hj => ?_) ?_ ?_ (fun j hj hne => ?_)⟩
      · rw [← ha] at hne
        rw [nx_push x u u i j a c hi0, if_neg, if_neg (fun g => hne g.1)]
        rintro rfl
        rcases hj with g | g
        · exact hi0 g
        · exact hnot (by simp [g])
      · rw [← ha, nx_push x u u i a a c hi0, if_neg hai, if_pos ⟨rfl, fun _ => rfl⟩]
      · have hj0 : j ≠ 0 := fun e => (List.nodup_cons.1 hsub1).1 (e ▸ hj)
        have hjc : j ≠ c := by
          rintro rfl
          rcases headD_mem' l2 0 with g | g
          · exact hj0 (hc.trans g)
          · have h1 := (List.nodup_append.1 (List.nodup_cons.1 hz0).2).2.2
            exact h1 j hj j (by rw [hc]; exact g) rfl
        rw [pv_push x u u i j a c hi0, if_neg (fun g => hjc g.1), if_neg]
        rintro rfl
        exact hnot (by simp [hj])
      · rw [← ha, pv_push x u u i i a c hi0, if_neg (fun g => hci g.1.symm), if_pos rfl]
      · have hj0 : j ≠ 0 := fun e => (List.nodup_cons.1 hsub2).1 (e ▸ hj)
        have hja : j ≠ a := by
          rintro rfl
          rcases getLastD_mem' l1 0 with g | g
          · exact hj0 (ha.trans g)
          · have h1 := (List.nodup_append.1 (List.nodup_cons.1 hz0).2).2.2
            exact h1 j (by rw [ha]; exact g) j hj rfl
        rw [nx_push x u u i j a c hi0, if_neg, if_neg (fun g => hja g.1)]
        rintro rfl
        exact hnot (by simp [hj])
      · rw [← hc, nx_push x u u i i a c hi0, if_pos rfl]
      · rw [← hc, pv_push x u u i c a c hi0, if_pos ⟨rfl, fun _ => rfl⟩]
      · rw [← hc] at hne
        rw [pv_push x u u i j a c hi0, if_neg (fun g => hne g.1), if_neg]
        rintro rfl
        rcases hj with g | g
        · exact hi0 g
        · exact hnot (by simp [g])
    · rw [upd_other _ _ _ e]
      refine seg_congr (l u) 0 (fun j hj => ?_) (fun j hj => ?_) (h.seg u hu)
      · rw [nx_push x t u i j a c hi0, if_neg, if_neg]
        · rintro ⟨rfl, g⟩
          rcases hj with rfl | hj
          · exact e (g rfl)
          · rcases hma with g1 | g1
            · exact h.pos hu hj g1
            · exact e (h.apart hu ht hj g1)
        · rintro rfl
          rcases hj with g | hj
          · exact hi0 g
          · exact hout u hu hj
      · rw [pv_push x t u i j a c hi0, if_neg, if_neg]
        · rintro rfl
          rcases hj with g | hj
          · exact hi0 g
          · exact hout u hu hj
        · rintro ⟨rfl, g⟩
          rcases hj with rfl | hj
          · exact e (g rfl)
          · rcases hmc with g1 | g1
            · exact h.pos hu hj g1
            · exact e (h.apart hu ht hj g1)
  · rw [push_n] at hu
    rw [push_count]
    by_cases e : u = t
    · subst e
      rw [upd_same, if_pos rfl, h.count u hu, hl]
      simp
      omega
    · rw [upd_other _ _ _ e, if_neg e]
      exact h.count u hu
theorem remove_ok (h : LOk x l) (ht : t < x.n) {l1 l2 : List Nat} (hl : l t = l1 ++ i :: l2) {a c : Nat} (ha : a = l1.getLastD 0) (hc : c = l2.headD 0) :
    LOk (x.remove t i a c) (upd l t (l1 ++ l2)) := by
  have hit : i ∈ l t := by rw [hl]; simp
  have hi0 : i ≠ 0 := h.pos ht hit
  have hz0 := h.zero ht
  have hp : (l1 ++ i :: l2).Perm (i :: (l1 ++ l2)) := List.perm_middle
  have hz1 : (i :: (l1 ++ l2)).Nodup := hp.nodup_iff.1 (by rw [← hl]; exact h.nodup t ht)
  have hnot : i ∉ l1 ++ l2 := (List.nodup_cons.1 hz1).1
  have hnd : (l1 ++ l2).Nodup := (List.nodup_cons.1 hz1).2
  have hmem : ∀ j, j ∈ l t ↔ j = i ∨ j ∈ l1 ++ l2 := fun j => by rw [hl]; simp [or_left_comm]
  have h00 : 0 ∉ l1 ++ l2 := fun g => (List.nodup_cons.1 hz0).1 ((hmem 0).2 (.inr g))
  have hma : a = 0 ∨ a ∈ l1 ++ l2 := by
    rcases getLastD_mem' l1 0 with g | g
    · exact .inl (ha.trans g)
    · exact .inr (by rw [ha]; exact List.mem_append.2 (.inl g))
  have hmc : c = 0 ∨ c ∈ l1 ++ l2 := by
    rcases headD_mem' l2 0 with g | g
    · exact .inl (hc.trans g)
    · exact .inr (by rw [hc]; exact List.mem_append.2 (.inr g))
  have hai : a ≠ i := fun e => hma.elim (fun g => hi0 (e ▸ g)) (fun g => hnot (e ▸ g))
  have hci : c ≠ i := fun e => hmc.elim (fun g => hi0 (e ▸ g)) (fun g => hnot (e ▸ g))
  have hmt : ∀ j, j ∈ l1 ++ l2 → j ∈ l t := fun j hj => (hmem j).2 (.inr hj)
  have hou : ∀ u, u < x.n → u ≠ t → i ∉ l u := fun u hu e hj => e (h.apart hu ht hj hit)
  refine ⟨fun u hu j hj => ?_, fun u hu => ?_, fun u hu j hj => ?_, fun j hj0 hj => ?_, fun u hu => ?_, fun u hu => ?_⟩
  · rw [remove_n] at hu
    rw [remove_tk]
    by_cases e : u = t
    · subst e
      rw [upd_same] at hj
      exact h.taken u hu j (hmt j hj)
    · rw [upd_other _ _ _ e] at hj
      exact h.taken u hu j hj
  · rw [remove_n] at hu
    by_cases e : u = t
    · subst e
      rw [upd_same]
      exact hnd
    · rw [upd_other _ _ _ e]
      exact h.nodup u hu
  · rw [remove_n] at hu
    rw [(tg_remove x t i j a c).1]
    by_cases e : u = t
    · subst e
      rw [upd_same] at hj
      have hji : j ≠ i := fun g => hnot (g ▸ hj)
      rw [if_neg hji]
      exact h.tag u hu j (hmt j hj)
    · rw [upd_other _ _ _ e] at hj
      have hji : j ≠ i := fun g => hou u hu e (g ▸ hj)
      rw [if_neg hji]
      exact h.tag u hu j hj
  · rw [remove_n] at hj
    have e1 := pv_remove x t t i j a c hi0
    have e2 := nx_remove x t t i j a c hi0
    rw [(tg_remove x t i j a c).1]
    unfold LSt.pv at e1
    unfold LSt.nx at e2
    rw [if_neg hj0] at e1 e2
    by_cases hji : j = i
    · rw [if_pos hji] at e1 e2 ⊢
      exact ⟨rfl, e1, e2⟩
    · rw [if_neg hji] at e1 e2 ⊢
      have hjt := hj t ht
      rw [upd_same] at hjt
      have hall : ∀ u, u < x.n → j ∉ l u := fun u hu => by
        by_cases e : u = t
        · subst e; exact fun g => ((hmem j).1 g).elim hji hjt
        · have := hj u hu
          rwa [upd_other _ _ _ e] at this
      obtain ⟨g1, g2, g3⟩ := h.none j hj0 hall
      have hja : ¬ (j = a ∧ (a = 0 → t = t)) := fun ⟨e, _⟩ => by
        rcases hma with g | g
        · exact hj0 (e.trans g)
        · exact hjt (e ▸ g)
      have hjc : ¬ (j = c ∧ (c = 0 → t = t)) := fun ⟨e, _⟩ => by
        rcases hmc with g | g
        · exact hj0 (e.trans g)
        · exact hjt (e ▸ g)
      rw [if_neg hjc, if_neg hj0] at e1
      rw [if_neg hja, if_neg hj0] at e2
      exact ⟨g1, e1.trans g2, e2.trans g3⟩
  · rw [remove_n] at hu
    by_cases e : u = t
    · subst e
      rw [upd_same, seg_split]
      have hs := h.seg u hu
      rw [hl, seg_append] at hs
      have hsub1 : (0 :: l1).Nodup := List.nodup_cons.2 ⟨fun g => h00 (List.mem_append.2 (.inl g)), hnd.sublist (List.sublist_append_left _ _)⟩
      have hsub2 : (0 :: l2).Nodup := List.nodup_cons.2 ⟨fun g => h00 (List.mem_append.2 (.inr g)), hnd.sublist (List.sublist_append_right _ _)⟩
      rw [← ha, ← hc]
      refine ⟨seg_left l1 0 hs.1 hsub1 (fun j hj hne => ?_) ?_ (fun j hj => ?_) ?_, seg_right l2 hs.2 hsub2 (fun j hj => ?_) ?_ ?_ (fun j hj hne => ?_)⟩
      · rw [← ha] at hne
        rw [nx_remove x u u i j a c hi0, if_neg, if_neg (fun g => hne g.1)]
        rintro rfl
        rcases hj with g | g
        · exact hi0 g
        · exact hnot (List.mem_append.2 (.inl g))
      · rw [← ha, nx_remove x u u i a a c hi0, if_neg hai, if_pos ⟨rfl, fun _ => rfl⟩]
      · have hj0 : j ≠ 0 := fun e => (List.nodup_cons.1 hsub1).1 (e ▸ hj)
        have hjc : j ≠ c := by
          rintro rfl
          rcases headD_mem' l2 0 with g | g
          · exact hj0 (hc.trans g)
          · exact (List.nodup_append.1 hnd).2.2 j hj j (by rw [hc]; exact g) rfl
        rw [pv_remove x u u i j a c hi0, if_neg, if_neg (fun g => hjc g.1)]
        rintro rfl
        exact hnot (List.mem_append.2 (.inl hj))
      · rw [← ha, pv_remove x u u i c a c hi0, if_neg hci, if_pos ⟨rfl, fun _ => rfl⟩]
      · have hj0 : j ≠ 0 := fun e => (List.nodup_cons.1 hsub2).1 (e ▸ hj)
        have hja : j ≠ a := by
          rintro rfl
          rcases getLastD_mem' l1 0 with g | g
          · exact hj0 (ha.trans g)
          · exact (List.nodup_append.1 hnd).2.2 j (by rw [ha]; exact g) j hj rfl
        rw [nx_remove x u u i j a c hi0, if_neg, if_neg (fun g => hja g.1)]
        rintro rfl
        exact hnot (List.mem_append.2 (.inr hj))
      · rw [← hc, nx_remove x u u i a a c hi0, if_neg hai, if_pos ⟨rfl, fun _ => rfl⟩]
      · rw [← hc, pv_remove x u u i c a c hi0, if_neg hci, if_pos ⟨rfl, fun _ => rfl⟩]
      · rw [← hc] at hne
        rw [pv_remove x u u i j a c hi0, if_neg, if_neg (fun g => hne g.1)]
        rintro rfl
        rcases hj with g | g
        · exact hi0 g
        · exact hnot (List.mem_append.2 (.inr g))
    · rw [upd_other _ _ _ e]
      refine seg_congr (l u) 0 (fun j hj => ?_) (fun j hj => ?_) (h.seg u hu)
      · rw [nx_remove x t u i j a c hi0, if_neg, if_neg]
        · rintro ⟨rfl, g⟩
          rcases hj with rfl | hj
          · exact e (g rfl)
          · rcases hma with g1 | g1
            · exact h.pos hu hj g1
            · exact e (h.apart hu ht hj (hmt _ g1))
        · rintro rfl
          rcases hj with g | hj
          · exact hi0 g
          · exact hou u hu e hj
      · rw [pv_remove x t u i j a c hi0, if_neg, if_neg]
        · rintro ⟨rfl, g⟩
          rcases hj with rfl | hj
          · exact e (g rfl)
          · rcases hmc with g1 | g1
            · exact h.pos hu hj g1
            · exact e (h.apart hu ht hj (hmt _ g1))
        · rintro rfl
          rcases hj with g | hj
          · exact hi0 g
          · exact hou u hu e hj
  · rw [remove_n] at hu
    rw [remove_count]
    by_cases e : u = t
    · subst e
      rw [upd_same, if_pos rfl, h.count u hu, hl]
      simp
      omega
    · rw [upd_other _ _ _ e, if_neg e]
      exact h.count u hu
end
end Go.Proofs.Ytkhikpnlpcankaa
