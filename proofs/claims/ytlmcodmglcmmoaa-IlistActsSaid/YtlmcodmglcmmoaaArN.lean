/- Package arena: Alloc and New, as one. -/
import Derived.Test.YtlmcodmglcmmoaaArA
namespace Go.Proofs.Ytlmcodmglcmmoaa
open Go Go.RowKit Go.Deep

def St.next (st : St) : Nat := if h : 0 < st.freed.length then st.freed[st.freed.length - 1]'(by omega) else st.used + 1
def St.alloc (st : St) : St :=
  if 0 < st.freed.length then { st with freed := st.freed.take (st.freed.length - 1) }
  else { n := if st.used + 1 = st.n then 2 * st.n else st.n, used := st.used + 1, freed := [], node := st.node }
def St.first (n : Nat) : St := ⟨n, 0, [], fun _ => Nd.zero⟩

theorem split_last (l : List Nat) (h : 0 < l.length) : l = l.take (l.length - 1) ++ [l[l.length - 1]'(by omega)] := by
  have h1 := List.take_succ_eq_append_getElem (l := l) (i := l.length - 1) (by omega)
  rw [show l.length - 1 + 1 = l.length by omega, List.take_length] at h1
  exact h1

theorem next_free {st : St} (h : st.Ok) : st.tk st.next = false ∧ 1 ≤ st.next ∧ st.next < st.alloc.n ∧ st.next ≤ st.used + 1 := by
  unfold St.next St.alloc
  have hr := h.room
  by_cases hp : 0 < st.freed.length
  · rw [dif_pos hp, if_pos hp]
    have hm : st.freed[st.freed.length - 1]'(by omega) ∈ st.freed := List.getElem_mem _
    have := h.mem _ hm
    exact ⟨by simp [St.tk, hm], by omega, by show _ < st.n; omega, by omega⟩
  · rw [dif_neg hp, if_neg hp]
    have := h.two
    refine ⟨by simp [St.tk]; omega, by omega, ?_, by omega⟩
    show _ < if st.used + 1 = st.n then 2 * st.n else st.n
    split <;> omega

theorem alloc_tk {st : St} (h : st.Ok) : st.alloc.tk = upd st.tk st.next true := by
  funext j
  unfold upd St.next St.alloc
  by_cases hp : 0 < st.freed.length
  · rw [dif_pos hp, if_pos hp]
    have hs := split_last st.freed hp
    have hm : st.freed[st.freed.length - 1]'(by omega) ∈ st.freed := List.getElem_mem _
    generalize st.freed[st.freed.length - 1]'(by omega) = x at hs hm ⊢
    have hb := h.mem _ hm
    have hnd := h.nodup
    generalize st.freed.take (st.freed.length - 1) = fr at hs ⊢
    rw [hs] at hnd
    have hx : x ∉ fr := by
      rw [List.nodup_append] at hnd
      intro hx
      exact hnd.2.2 x hx x (by simp) rfl
    split
    · rename_i e
      subst e
      simp [St.tk, hx, hb]
    · rename_i e
      simp [St.tk, hs, e]
  · rw [dif_neg hp, if_neg hp]
    have hf : st.freed = [] := List.eq_nil_of_length_eq_zero (by omega)
    by_cases e : j = st.used + 1
    · rw [if_pos e, e]
      simp [St.tk]
    · rw [if_neg e]
      simp only [St.tk, hf]
      congr 1
      simp
      omega

theorem alloc_ok {st : St} (h : st.Ok) : st.alloc.Ok := by
  have hz : ∀ i, st.alloc.tk i = false → st.alloc.node i = Nd.zero := fun i hi => by
    rw [alloc_tk h] at hi
    have e : st.alloc.node = st.node := by unfold St.alloc; split <;> rfl
    rw [e]
    refine h.zero i ?_
    unfold upd at hi
    split at hi
    · cases hi
    · exact hi
  revert hz
  unfold St.alloc
  by_cases hp : 0 < st.freed.length
  · rw [if_pos hp]
    intro hz
    exact ⟨h.two, h.room, h.nodup.sublist (List.take_sublist _ _), fun i hi => h.mem i (List.mem_of_mem_take hi), hz⟩
  · rw [if_neg hp]
    intro hz
    have h2 := h.two
    have hr := h.room
    refine ⟨?_, ?_, by simp, by simp, hz⟩
    · show 2 ≤ if st.used + 1 = st.n then 2 * st.n else st.n
      split <;> omega
    · show st.used + 1 < if st.used + 1 = st.n then 2 * st.n else st.n
      split <;> omega

theorem first_ok (n : Nat) (h : 2 ≤ n) : (St.first n).Ok := ⟨h, by show 0 < n; omega, by simp [St.first], by simp [St.first], fun _ _ => rfl⟩
theorem set_ok {st : St} (h : st.Ok) {i : Nat} (hi : st.tk i = true) (x : Nd) : (st.set i x).Ok :=
  ⟨h.two, h.room, h.nodup, h.mem, fun j hj => by
    have hj' : st.tk j = false := hj
    show upd st.node i x j = _
    rw [upd_other _ _ _ (fun e => by rw [e, hi] at hj'; cases hj')]
    exact h.zero j hj'⟩
theorem tk_bounds {st : St} {i : Nat} (hi : st.tk i = true) : 1 ≤ i ∧ i ≤ st.used ∧ i ∉ st.freed := by simpa [St.tk] using hi
theorem free_ok {st : St} (h : st.Ok) {i : Nat} (hi : st.tk i = true) : (st.free i).Ok := by
  obtain ⟨h1, h2, h3⟩ := tk_bounds hi
  refine ⟨h.two, h.room, ?_, fun j hj => ?_, fun j hj => ?_⟩
  · show (st.freed ++ [i]).Nodup
    rw [List.nodup_append]
    exact ⟨h.nodup, by simp, fun a ha b hb e => by simp at hb; subst hb; subst e; exact h3 ha⟩
  · have hj' : j ∈ st.freed ++ [i] := hj
    rcases List.mem_append.1 hj' with h4 | h4
    · exact h.mem j h4
    · simp at h4; subst h4; exact ⟨h1, h2⟩
  · rw [free_tk] at hj
    show upd st.node i Nd.zero j = _
    unfold upd at hj ⊢
    split
    · rfl
    · rename_i e
      rw [if_neg e] at hj
      exact h.zero j hj

/- Behind an act: the arena is another one, in its own blocks, or new ones. -/
def Turned (w : World) (b s f : Nat) (st : St) (w' : World) : Prop :=
  Only [b, s, f] w w' ∧ ∃ s' f', (s' = s ∨ w.heap.size ≤ s') ∧ (f' = f ∨ w.heap.size ≤ f') ∧ Ar w' b s' f' st

theorem take_ends {w w1 : World} {b s f s' f' : Nat} {st : St} (ho : st.Ok) (h1 : Only [b] w w1) (hs : s' = s ∨ w.heap.size ≤ s') (hf : f' = f ∨ w.heap.size ≤ f')
    (hm : Mid w1 b s' f' st.alloc.n st.alloc.used st.alloc.freed st.alloc.node st.tk) : Turned w b s f st.alloc (w1.setCell ⟨s', st.next * 7 + 6, none⟩ (.bool true)) := by
  have ht := hm.take st.next
  rw [← alloc_tk ho] at ht
  refine ⟨(h1.mono (T := [b, s, f]) (by simp)).setCell (p := ⟨s', st.next * 7 + 6, none⟩) ?_ _, s', f', hs, hf, ht.head, ht.slots, ht.freed⟩
  rcases hs with rfl | hs
  · exact .inl (by simp)
  · exact .inr hs

theorem alloc_walk {w : World} {b s f : Nat} {st : St} (h : Ar w b s f st) (ho : st.Ok) (hn : st.n ≤ 1000000) :
    Calls Try.prog 14 #[.pointer (some ⟨b, 0, none⟩)] w fun e w' => e = .returned (.int .i32 st.next) ∧ Turned w b s f st.alloc w' := by
  have hmid := h.mid
  obtain ⟨ht, hx1, hx2, hx3⟩ := next_free ho
  have hroom := ho.room
  have hlen := freed_le ho
  by_cases hp : 0 < st.freed.length
  · have en : st.next = st.freed[st.freed.length - 1]'(by omega) := by unfold St.next; rw [dif_pos hp]
    have ea : st.alloc = { st with freed := st.freed.take (st.freed.length - 1) } := by unfold St.alloc; rw [if_pos hp]
    have HP := Lib.hid (pop_some (k := st.freed.length - 1) hmid (by omega) (by omega) (by omega))
    rw [← en] at HP
    have HO := Lib.hid ho
    have HA := Lib.hid ea
    have hxn : st.next < st.n := by rw [ea] at hx2; exact hx2
    clear ea en ht hx2 hmid h ho
    go_enter Try.func14, Try.ntmps14
    go_wp2_with fail
    refine HP.out.mono ?_
    rintro e w1 ⟨rfl, h1, hm⟩
    have c0 := hm.c0
    have c6 := hm.slots.cell (i := st.next * 7 + 6) (by omega)
    have z6 := hm.slots.frozen (st.next * 7 + 6)
    have HE := Lib.hid (take_ends (s := s) (f := f) HO.out h1 (.inl rfl) (.inl rfl) (by rw [HA.out]; exact hm))
    clear hm h1
    go_wp2
    go_ret
    exact ⟨rfl, HE.out⟩
  · have hf : st.freed = [] := List.eq_nil_of_length_eq_zero (by omega)
    have en : st.next = st.used + 1 := by unfold St.next; rw [dif_neg hp]
    have ea : st.alloc = { n := if st.used + 1 = st.n then 2 * st.n else st.n, used := st.used + 1, freed := [], node := st.node } := by unfold St.alloc; rw [if_neg hp]
    rw [hf] at hmid
    have HP := Lib.hid (pop_none hmid)
    have HF := Lib.hid (first_walk hmid hn hroom (fun i hi => by
      have e : st.tk i = false := by simp [St.tk]; omega
      exact ⟨ho.zero i e, e⟩))
    rw [← en] at HF
    have HO := Lib.hid ho
    have HA := Lib.hid ea
    have HN := Lib.hid hx2
    have HNE := Lib.hid en
    clear ea en ht hx2 hmid h ho hf
    go_enter Try.func14, Try.ntmps14
    go_wp2_with fail
    refine HP.out.mono ?_
    rintro e w1 ⟨rfl, rfl⟩
    go_wp2_with fail
    refine HF.out.mono ?_
    rintro e w1 ⟨rfl, h1, s', f', hs', hf', hm⟩
    have hxn := HN.out
    rw [HA.out] at hxn
    have HM := Lib.hid hm
    generalize hN : (if st.used + 1 = st.n then 2 * st.n else st.n) = N at hm hxn
    have hnb : N ≤ 2000000 := by subst hN; split <;> omega
    have c0 := hm.c0
    have hxn' : st.next < N := hxn
    have c6 := hm.slots.cell (i := st.next * 7 + 6) (by omega)
    have z6 := hm.slots.frozen (st.next * 7 + 6)
    have HE := Lib.hid (take_ends (s := s) (f := f) HO.out h1 hs' hf' (by rw [HA.out]; exact HM.out))
    clear hm h1 hN hxn hs' hf'
    go_wp2
    go_ret
    exact ⟨rfl, HE.out⟩

/- Where an arena begins. -/
theorem new_ends' {w w1 : World} {n : Nat} {o : Obj} (h1 : Only [w.heap.size] (w.alloc o) w1) (h : Ar w1 w.heap.size (w.alloc o).heap.size ((w.alloc o).heap.size + 1) ⟨n, 0, [], fun _ => Nd.zero⟩) :
    Only [] w w1 ∧ Ar w1 w.heap.size (w.heap.size + 1) (w.heap.size + 2) (St.first n) := by
  refine ⟨((Only.refl [] w).alloc o).trans h1 (by simp), ?_⟩
  have e : (w.alloc o).heap.size = w.heap.size + 1 := by simp
  rw [e] at h
  exact h

theorem new_least (w : World) (r : Int) (hr : r ≤ 1) :
    Calls Try.prog 13 #[.int .i64 r] w fun e w' => e = .returned (.pointer (some ⟨w.heap.size, 0, none⟩)) ∧ Only [] w w' ∧ Ar w' w.heap.size (w.heap.size + 1) (w.heap.size + 2) (St.first 2) := by
  have hb := heap_alloc_new w (.cells #[.slice none 0 0, .slice none 0 0, .int .i64 0] 76)
  have HW := Lib.hid (widen_new _ w.heap.size 2 (by decide) hb)
  clear hb
  by_cases h1 : r < 1
  · go_enter Try.func13, Try.ntmps13
    go_wp2_with fail
    refine HW.out.mono ?_
    rintro e w1 ⟨rfl, ho, ha⟩
    have HE := Lib.hid (new_ends' ho ha)
    clear ho ha
    go_wp2
    go_ret
    exact ⟨rfl, HE.out⟩
  · obtain rfl : r = 1 := by omega
    clear hr h1
    go_enter Try.func13, Try.ntmps13
    go_wp2_with fail
    refine HW.out.mono ?_
    rintro e w1 ⟨rfl, ho, ha⟩
    have HE := Lib.hid (new_ends' ho ha)
    clear ho ha
    go_wp2
    go_ret
    exact ⟨rfl, HE.out⟩

theorem new_more (w : World) (r : Nat) (hr : 1 < r) (hr2 : r ≤ 10000) :
    Calls Try.prog 13 #[.int .i64 r] w fun e w' => e = .returned (.pointer (some ⟨w.heap.size, 0, none⟩)) ∧ Only [] w w' ∧ Ar w' w.heap.size (w.heap.size + 1) (w.heap.size + 2) (St.first (1 + r)) := by
  have hb := heap_alloc_new w (.cells #[.slice none 0 0, .slice none 0 0, .int .i64 0] 76)
  have hw := widen_new _ w.heap.size (1 + r) (by omega) hb
  rw [Int.natCast_add] at hw
  have HW := Lib.hid hw
  clear hb hw
  have h1 : (1 : Int) ≤ (r : Int) := by omega
  have h1' : ¬ ((r : Int) < 1) := by omega
  have h2 : (r : Int) ≤ 1048576 := by omega
  go_enter Try.func13, Try.ntmps13
  go_wp2_with fail
  refine HW.out.mono ?_
  rintro e w1 ⟨rfl, ho, ha⟩
  have HE := Lib.hid (new_ends' ho ha)
  clear ho ha
  go_wp2
  go_ret
  exact ⟨rfl, HE.out⟩
theorem new_walk (w : World) (r : Nat) (hr : 1 ≤ r) (hr2 : r ≤ 10000) :
    Calls Try.prog 13 #[.int .i64 r] w fun e w' => e = .returned (.pointer (some ⟨w.heap.size, 0, none⟩)) ∧ Only [] w w' ∧ Ar w' w.heap.size (w.heap.size + 1) (w.heap.size + 2) (St.first (1 + r)) := by
  by_cases h : r = 1
  · subst h; exact new_least w 1 (by omega)
  · exact new_more w r (by omega) hr2
end Go.Proofs.Ytlmcodmglcmmoaa
