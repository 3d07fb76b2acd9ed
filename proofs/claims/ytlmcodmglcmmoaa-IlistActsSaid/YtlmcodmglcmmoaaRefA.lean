/- The document's own arena: Alloc. -/
import Derived.Test.YtlmcodmglcmmoaaRefS
import Derived.RegionTactic
namespace Go.Proofs.Ytlmcodmglcmmoaa
open Go Go.RowKit Go.Deep

theorem Ref.congr {w : World} {v : Value} {st st' : St} {K : List Nat} (h : Ref w v st K) (h1 : st'.n = st.n) (h2 : st'.used = st.used) (h3 : st'.freed = st.freed) (h4 : ∀ j, st'.tk j = true → st.node j = st'.node j) : Ref w v st' K := by
  obtain ⟨h0, Fo, fc, nb, nc, nd, e, hF, hN, hd⟩ := h
  have ht : ∀ j, st'.tk j = st.tk j := fun j => by unfold St.tk; rw [h2, h3]
  exact ⟨h0, Fo, fc, nb, nc, nd, by rw [h1, h2, h3]; exact e, by rw [h3]; exact hF, by rw [h2]; exact hN, fun j hj => (hd j (by rw [← ht]; exact hj)).trans (h4 j hj)⟩

/- The state that the reference hands to Set. -/
def popped (st : St) (nd : Nat → Nd) : St := { st with freed := st.freed.take (st.freed.length - 1), node := fun j => if (decide (1 ≤ j ∧ j ≤ st.used ∧ j ∉ st.freed.take (st.freed.length - 1)) : Bool) = true then nd j else Nd.zero }

theorem popped_ok {st : St} (ho : st.Ok) (nd : Nat → Nd) : (popped st nd).Ok :=
  ⟨ho.two, ho.room, ho.nodup.sublist (List.take_sublist _ _), fun i hi => ho.mem i (List.mem_of_mem_take hi), fun i hi => if_neg (by have : decide (1 ≤ i ∧ i ≤ st.used ∧ i ∉ st.freed.take (st.freed.length - 1)) = false := hi; rw [this]; simp)⟩

theorem pop_ref {w : World} {st : St} {K : List Nat} {fb fc nb nc : Nat} {nd : Nat → Nd} (h0 : ∀ k ∈ K, k < w.heap.size) (hcap : st.freed.length ≤ fc) (hfb : fb ∈ K) (hc : ∀ i (h : i < st.freed.length), w.cell? ⟨fb, i, none⟩ = some (.int .i32 (st.freed[i] : Nat)))
    (hN : NodesAt w nb (st.used + 1) nc nd K) : Ref w (refV st.n st.used (some ⟨fb, 0, none⟩) (st.freed.length - 1) fc nb (st.used + 1) nc) (popped st nd) K := by
  have hl : (popped st nd).freed.length = st.freed.length - 1 := by show (st.freed.take _).length = _; rw [List.length_take]; omega
  refine ⟨h0, some ⟨fb, 0, none⟩, fc, nb, nc, nd, by rw [hl]; rfl, ⟨by omega, .inr ⟨fb, rfl, hfb, fun i hi => ?_⟩⟩, hN, fun i hi => ?_⟩
  · have hi' : i < (st.freed.take (st.freed.length - 1)).length := hi
    have key : w.cell? ⟨fb, i, none⟩ = some (Value.int .i32 (((st.freed.take (st.freed.length - 1))[i] : Nat) : Int)) := by
      rw [List.getElem_take]; exact hc i (by rw [List.length_take] at hi'; omega)
    exact key
  · have hi' : decide (1 ≤ i ∧ i ≤ st.used ∧ i ∉ st.freed.take (st.freed.length - 1)) = true := hi
    exact (if_pos hi').symm

theorem ralloc_pop {w : World} {v : Value} {st : St} {K : List Nat} (h : Ref w v st K) (ho : st.Ok) (hn : st.n ≤ 1000000) (hp : 0 < st.freed.length) :
    Calls Try.prog 31 #[v] w (RefNext w K st.alloc (fun v' => .tuple #[v', .int .i32 st.next])) := by
  obtain ⟨h0, Fo, fc, nb, nc, nd, rfl, h1, h2, h3⟩ := h
  obtain ⟨ht, hx1, hx2, hx3⟩ := next_free ho
  have hak := alloc_tk ho
  have ea : st.alloc = { st with freed := st.freed.take (st.freed.length - 1) } := by unfold St.alloc; rw [if_pos hp]
  have en : st.next = st.freed[st.freed.length - 1]'(by omega) := by unfold St.next; rw [dif_pos hp]
  have hfl := freed_le ho
  have hu := ho.room
  rcases h1.mem with ⟨_, e, _⟩ | ⟨fb, rfl, hfb, hc⟩
  · rw [e] at hp; simp at hp
  have hcap := h1.cap
  have hlast := hc (st.freed.length - 1) (by omega)
  rw [← en] at hlast
  have hfbl := h0 fb hfb
  have hpr := pop_ref h0 hcap hfb hc h2
  have hptk : (popped st nd).tk st.next = true := by
    have e1 : (popped st nd).tk = st.alloc.tk := by rw [ea]; rfl
    rw [e1, hak, upd_same]
  have HS : Hid (∀ w', Below w.heap.size w w' → Calls Try.prog 32 #[refV st.n st.used (some ⟨fb, 0, none⟩) (st.freed.length - 1) fc nb (st.used + 1) nc, .int .i32 st.next, .agg #[.int .u64 0, .int .u64 0, .int .i64 0, .int .i64 0, .int .i32 0, .int .i32 0]] w' (RefNext w' K st.alloc (fun v' => .tuple #[v', .bool true]))) :=
    Lib.hid (fun w' hb => by
      refine (rset_true (hpr.below hb) (popped_ok ho nd) hn st.next Nd.zero hptk).mono ?_
      rintro e w'' ⟨v', K', he, hb', hr, hk⟩
      refine ⟨v', K', he, hb', hr.congr (by rw [ea]; rfl) (by rw [ea]; rfl) (by rw [ea]; rfl) (fun j hj => ?_), hk⟩
      have e2 : st.alloc.node = st.node := by rw [ea]
      have hj' := hj
      rw [hak] at hj'
      rw [e2]
      show upd (popped st nd).node st.next Nd.zero j = st.node j
      unfold upd at hj' ⊢
      split
      · rename_i e; rw [e]; exact (ho.zero _ ht).symm
      · rename_i e
        rw [if_neg e] at hj'
        have e3 : (popped st nd).tk j = true := by
          have e1 : (popped st nd).tk = st.alloc.tk := by rw [ea]; rfl
          rw [e1]; exact hj
        have e4 : (popped st nd).node j = nd j := if_pos e3
        rw [e4]; exact h3 j hj')
  obtain ⟨L, hL⟩ : ∃ L, st.freed.length = L + 1 := ⟨st.freed.length - 1, by omega⟩
  rw [hL] at hlast HS hcap
  simp only [Nat.add_sub_cancel] at hlast HS
  have HX := Lib.hid hx2
  have hL2 : L + 1 ≤ 1000000 := by omega
  have HL := Lib.hid hL
  rw [hL]
  have HK0 := Lib.hid h0
  clear h0 h1 h2 h3 hc ht hak ea en hpr hptk hfb hL hp hfl hx2 hn
  go_enter Try.func31, Try.ntmps31
  go_wp2_with fail
  refine (HS.out _ (((Below.refl _ _).alloc (Nat.le_refl _) _).alloc (by simp) _)).mono ?_
  rintro e w1 ⟨v', K', rfl, hb, hr, hk⟩
  obtain ⟨hb1, hs1, hB0, hB1⟩ := two_blocks hb
  have HRef := Lib.hid hr
  obtain ⟨_, Fo', fc', nb', nc', nd', rfl, _, _, _⟩ := hr
  obtain ⟨x0, x1, x2, x3⟩ := four_cells hB1
  obtain ⟨z0, z1, z2, z3⟩ := four_free hB1
  have HB := Lib.hid hb1
  have HK' : Hid (∀ k ∈ K', k ∈ K ∨ w.heap.size ≤ k) := Lib.hid (fun k hkk => (hk k hkk).imp id (fun h => by simp at h; omega))
  have HR1 : Hid (∀ k ∈ K', k ≠ w.heap.size + 1) := Lib.hid (fun k hkk => by
    rcases hk k hkk with h | h
    · have := HK0.out k h; omega
    · simp at h; omega)
  generalize st.alloc.n = N, st.alloc.used = U, st.alloc.freed.length = M at *
  have H4 := Lib.hid (four_set hB1 (.int .i64 N) (.int .i64 U) (.slice Fo' M fc') (.slice (some ⟨nb', 0, none⟩) (U + 1) nc'))
  clear hb hb1 hB0 hB1 hk
  go_wp2
  have h4 := H4.out
  generalize ((((w1.setCell ⟨w.heap.size + 1, 0, none⟩ (.int .i64 N)).setCell ⟨w.heap.size + 1, 1, none⟩ (.int .i64 U)).setCell ⟨w.heap.size + 1, 2, none⟩ (.slice Fo' M fc')).setCell ⟨w.heap.size + 1, 3, none⟩ (.slice (some ⟨nb', 0, none⟩) (U + 1) nc')) = W at h4 ⊢
  have hWs := h4.2.size
  have h41 := (Below.heap_alloc W (.cells #[.int .i64 N, .int .i64 U, .slice Fo' M fc', .slice (some ⟨nb', 0, none⟩) (U + 1) nc'] 29) (w.heap.size + 1) (by omega)).trans h4.1
  have hon : Only [w.heap.size + 1] w1 (W.alloc (.cells #[.int .i64 N, .int .i64 U, .slice Fo' M fc', .slice (some ⟨nb', 0, none⟩) (U + 1) nc'] 29)) := h4.2.alloc _
  clear x0 x1 x2 x3 z0 z1 z2 z3
  generalize W.alloc (.cells #[.int .i64 N, .int .i64 U, .slice Fo' M fc', .slice (some ⟨nb', 0, none⟩) (U + 1) nc'] 29) = V at h41 hon ⊢
  obtain ⟨y0, y1, y2, y3⟩ := four_cells h41
  have hbW := below_only HB.out hon (by omega)
  refine bodyPost_ret (v := .tuple #[refV N U Fo' M fc' nb' (U + 1) nc', .int .i32 st.next]) (by simp [results, Try.results31, go_sem, y0, y1, y2, y3]) rfl ⟨_, K', rfl, hbW, HRef.out.kept (fun k hk => hon.block k (HRef.out.1 k hk) ?_) hon.size, HK'.out⟩
  have := HR1.out k hk
  simp
  exact this

def updEnd (nd : Nat → Nd) (m : Nat) : Nat → Nd := fun j => if j < m then nd j else Nd.zero
theorem nodes_snoc (nd : Nat → Nd) (m p : Nat) (hp : p < (m + 1) * 6) : ((List.range (m * 6)).map (nodeV nd) ++ [Value.int .u64 0, .int .u64 0, .int .i64 0, .int .i64 0, .int .i32 0, .int .i32 0])[p]? = some (nodeV (updEnd nd m) p) := by
  by_cases h : p < m * 6
  · rw [List.getElem?_append_left (by simpa using h), List.getElem?_map, List.getElem?_range h]
    have h1 : p / 6 < m := by omega
    show some (nodeV nd p) = _
    unfold nodeV updEnd
    rw [if_pos h1]
  · rw [List.getElem?_append_right (by simpa using h)]
    have h1 : ¬ p / 6 < m := by omega
    unfold nodeV updEnd
    rw [if_neg h1]
    simp only [List.length_map, List.length_range]
    have h2 : p - m * 6 = p % 6 := by omega
    have h3 : p % 6 < 6 := Nat.mod_lt _ (by decide)
    rw [h2]
    generalize p % 6 = j at h3
    match j, h3 with
    | 0, _ => rfl
    | 1, _ => rfl
    | 2, _ => rfl
    | 3, _ => rfl
    | 4, _ => rfl
    | 5, _ => rfl

theorem new_ref {w W : World} {st : St} {K : List Nat} {Fo : Option Addr} {fc g cap : Nat} {nd : Nat → Nd} (h0 : ∀ k ∈ K, k < w.heap.size) (ho : st.Ok) (hf : st.freed = []) (hF : FreedAt w Fo st.freed fc K) (h3 : ∀ j, st.tk j = true → nd j = st.node j)
    (hb : Below w.heap.size w W) (hcap : st.used + 2 ≤ cap) (hrow : NodeRow W g (st.used + 2) (updEnd nd (st.used + 1))) :
    Ref W (refV (if st.used + 1 = st.n then 2 * st.n else st.n) (st.used + 1) Fo 0 fc g (st.used + 2) cap) st.alloc (g :: K) := by
  have ea : st.alloc = { n := if st.used + 1 = st.n then 2 * st.n else st.n, used := st.used + 1, freed := [], node := st.node } := by unfold St.alloc; rw [if_neg (by rw [hf]; simp)]
  have hak := alloc_tk ho
  have hnx : st.next = st.used + 1 := by unfold St.next; rw [dif_neg (by rw [hf]; simp)]
  have ht := (next_free ho).1
  rw [hf] at hF
  have hFA : FreedAt W Fo [] fc (g :: K) := by
    have := hF.kept (kept_below h0 hb)
    exact ⟨this.cap, this.mem.imp id fun ⟨fb, e, hm, hc⟩ => ⟨fb, e, by simp [hm], hc⟩⟩
  refine ⟨fun k hk => ?_, Fo, fc, g, cap, updEnd nd (st.used + 1), by rw [ea]; rfl, by rw [ea]; exact hFA, by rw [ea]; exact ⟨hcap, by simp, fun p hp => (hrow.cell p hp).1⟩, fun j hj => ?_⟩
  · rcases List.mem_cons.1 hk with rfl | hk
    · exact hrow.lt
    · exact Nat.lt_of_lt_of_le (h0 k hk) hb.size
  · rw [hak] at hj
    have e2 : st.alloc.node = st.node := by rw [ea]
    rw [e2]
    unfold upd at hj
    unfold updEnd
    by_cases e : j = st.next
    · rw [if_neg (by omega), e]; exact (ho.zero _ ht).symm
    · rw [if_neg e] at hj
      have := tk_bounds hj
      rw [if_pos (by omega)]; exact h3 j hj

theorem six_src (w : World) (j : Nat) : (w.alloc (.cells #[.int .u64 0, .int .u64 0, .int .i64 0, .int .i64 0, .int .i32 0, .int .i32 0] 64)).cell? ((⟨w.heap.size, 0, none⟩ : Addr).add j) = [Value.int .u64 0, .int .u64 0, .int .i64 0, .int .i64 0, .int .i32 0, .int .i32 0][j]? := by
  have hb := heap_alloc_new w (.cells #[.int .u64 0, .int .u64 0, .int .i64 0, .int .i64 0, .int .i32 0, .int .i32 0] 64)
  generalize w.alloc (.cells #[.int .u64 0, .int .u64 0, .int .i64 0, .int .i64 0, .int .i32 0, .int .i32 0] 64) = V at hb ⊢
  rw [Addr.add_lit]
  simp [World.cell?, hb]

theorem ralloc_new {w : World} {v : Value} {st : St} {K : List Nat} (h : Ref w v st K) (ho : st.Ok) (hn : st.n ≤ 1000000) (hf : st.freed = []) :
    Calls Try.prog 31 #[v] w (RefNext w K st.alloc (fun v' => .tuple #[v', .int .i32 st.next])) := by
  obtain ⟨h0, Fo, fc, nb, nc, nd, rfl, h1, h2, h3⟩ := h
  have hnx : st.next = st.used + 1 := by unfold St.next; rw [dif_neg (by rw [hf]; simp)]
  have hlen : st.freed.length = 0 := by rw [hf]; rfl
  have hu := ho.room
  rw [hnx, hlen]
  have HE := Lib.hid (fun W g cap hb hcap hrow => @new_ref w W st K Fo fc g cap nd h0 ho hf h1 h3 hb hcap hrow)
  have HN := Lib.hid h2
  have H0 := Lib.hid h0
  have HU := Lib.hid hu
  obtain ⟨n, hnn⟩ : ∃ n, st.n = n := ⟨_, rfl⟩
  obtain ⟨u, huu⟩ : ∃ u, st.used = u := ⟨_, rfl⟩
  rw [hnn, huu] at HE
  rw [huu] at HN
  rw [hnn, huu] at hu
  rw [hnn] at hn
  rw [hnn, huu]
  clear h0 h1 h2 h3 hf hnx hlen ho hnn huu HU
  have h0s : Hid (∀ x ∈ (List.range ((u + 1) * 6)).map (nodeV nd), x.oneCell' = true) := Lib.hid (by simp; exact fun _ _ => oneCell_node _ _)
  by_cases hd : u + 1 = n
  · have hd1 : (n : Int) ≤ (u : Int) + 1 := by omega
    rw [if_pos hd] at HE
    clear hd
    have HO : Hid ((((w.alloc (.cells #[.int .i64 (2 * (n : Int)), .int .i64 ((u : Int) + 1), .slice Fo 0 fc, .slice (some ⟨nb, 0, none⟩) (u + 1) nc] 29)).alloc (.cells #[.int .i64 0, .int .i64 0, .slice none 0 0, .slice none 0 0] 29)).alloc (.cells #[] 64)).ownsRow (w.heap.size + 2) 64 6 (.slice (some ⟨w.heap.size + 2, 0, none⟩) 0 0) 0 []) :=
      Lib.hid (by
        have := World.ownsRow_lit (base := w.heap.size + 2) (e := 64) (size := 6) ((w.alloc (.cells #[.int .i64 (2 * (n : Int)), .int .i64 ((u : Int) + 1), .slice Fo 0 fc, .slice (some ⟨nb, 0, none⟩) (u + 1) nc] 29)).alloc (.cells #[.int .i64 0, .int .i64 0, .slice none 0 0, .slice none 0 0] 29)) #[] 0 (by simp) (by unfold maxLen; omega) rfl
        simpa using this)
    have hal0 : Below (w.heap.size + 2) ((w.alloc (.cells #[.int .i64 (2 * (n : Int)), .int .i64 ((u : Int) + 1), .slice Fo 0 fc, .slice (some ⟨nb, 0, none⟩) (u + 1) nc] 29)).alloc (.cells #[.int .i64 0, .int .i64 0, .slice none 0 0, .slice none 0 0] 29)) (((w.alloc (.cells #[.int .i64 (2 * (n : Int)), .int .i64 ((u : Int) + 1), .slice Fo 0 fc, .slice (some ⟨nb, 0, none⟩) (u + 1) nc] 29)).alloc (.cells #[.int .i64 0, .int .i64 0, .slice none 0 0, .slice none 0 0] 29)).alloc (.cells #[] 64)) := (Below.refl _ _).alloc (by simp) _
    have hal := ((((Below.refl w.heap.size w).alloc (Nat.le_refl _) (.cells #[.int .i64 (2 * (n : Int)), .int .i64 ((u : Int) + 1), .slice Fo 0 fc, .slice (some ⟨nb, 0, none⟩) (u + 1) nc] 29)).alloc (by simp) (.cells #[.int .i64 0, .int .i64 0, .slice none 0 0, .slice none 0 0] 29)).alloc (by simp; omega) (.cells #[] 64))
    have HS := Lib.hid ((HN.out.kept (kept_below H0.out hal)).src)
    have HAL := Lib.hid hal0
    clear hal hal0
    go_enter Try.func31, Try.ntmps31
    go_wp2_with (at_builtin; refine wpList_append_src rfl (.tmp 47) (.tmp 49) 27 rfl (w.heap.size + 2) 64 (.agg #[.int .u64 0, .int .u64 0, .int .i64 0, .int .i64 0, .int .i32 0, .int .i32 0]) 6 40 (by kernel_rfl) (by kernel_rfl) rfl (by decide) _ 0 _ rfl HO.out (some ⟨nb, 0, none⟩) (u + 1) nc ((List.range ((u + 1) * 6)).map (nodeV nd)) rfl HS.out h0s.out (by omega) (by omega) (by simp) ?_)
    intro v2 w2 hown2 hgrow2
    have hbl2 := below_grown HAL.out HO.out hgrow2 (by simp)
    have hs2 : w.heap.size + 2 ≤ w2.heap.size := by have := hbl2.size; simpa using this
    have HO2 := Lib.hid (hown2.alloc (.cells #[.int .u64 0, .int .u64 0, .int .i64 0, .int .i64 0, .int .i32 0, .int .i32 0] 64))
    have HS2 : Hid ((some (⟨w2.heap.size, 0, none⟩ : Addr) = none ∧ 1 = 0 ∧ 1 = 0 ∧ [Value.int .u64 0, .int .u64 0, .int .i64 0, .int .i64 0, .int .i32 0, .int .i32 0] = []) ∨ ∃ ad, some (⟨w2.heap.size, 0, none⟩ : Addr) = some ad ∧ [Value.int .u64 0, .int .u64 0, .int .i64 0, .int .i64 0, .int .i32 0, .int .i32 0].length = 1 * 6 ∧ ∀ j x, [Value.int .u64 0, .int .u64 0, .int .i64 0, .int .i64 0, .int .i32 0, .int .i32 0][j]? = some x → (w2.alloc (.cells #[.int .u64 0, .int .u64 0, .int .i64 0, .int .i64 0, .int .i32 0, .int .i32 0] 64)).cell? (ad.add j) = some x) :=
      Lib.hid (.inr ⟨_, rfl, rfl, fun j x hx => (six_src w2 j).trans hx⟩)
    have HBL2 := Lib.hid (hbl2.alloc hs2 (.cells #[.int .u64 0, .int .u64 0, .int .i64 0, .int .i64 0, .int .i32 0, .int .i32 0] 64))
    clear hown2 hgrow2 hbl2 HS HO HAL
    go_wp2_with (at_builtin; refine wpList_append_src rfl (.tmp 50) (.tmp 52) 27 rfl (w.heap.size + 2) 64 (.agg #[.int .u64 0, .int .u64 0, .int .i64 0, .int .i64 0, .int .i32 0, .int .i32 0]) 6 40 (by kernel_rfl) (by kernel_rfl) rfl (by decide) v2 (u + 1) _ rfl HO2.out (some ⟨w2.heap.size, 0, none⟩) 1 1 [.int .u64 0, .int .u64 0, .int .i64 0, .int .i64 0, .int .i32 0, .int .i32 0] rfl HS2.out (by simp; exact ⟨rfl, rfl, rfl⟩) (by omega) (by omega) (by simp; omega) ?_)
    intro v3 w3 hown3 hgrow3
    have hbl3 := below_grown HBL2.out HO2.out hgrow3 (by simp; omega)
    obtain ⟨g, cap, rfl, hg1, hg2⟩ := hown3.form (by omega)
    have hcap : u + 1 + 1 ≤ cap := by
      rcases hown3.2 with ⟨e, _⟩ | ⟨g', cap', cur, e, _, _, hle, _⟩
      · cases e
      · injection e with _ _ e3
        omega
    have hrow := nodeRow_own (nd := updEnd nd (u + 1)) hown3 (fun p hp => nodes_snoc nd (u + 1) p hp)
    have hs3 : w.heap.size + 2 ≤ w3.heap.size := by have := hbl3.size; simpa using this
    obtain ⟨hb0, _, k0, k1⟩ := two_blocks (hbl3.mono (by simp))
    obtain ⟨c0, c1, c2, c3⟩ := four_cells k0
    obtain ⟨f0, f1, f2, f3⟩ := four_free k0
    obtain ⟨x0, x1, x2, x3⟩ := four_cells k1
    obtain ⟨z0, z1, z2, z3⟩ := four_free k1
    have H5 := Lib.hid (five_set (g := w.heap.size) (j := 3) k1 (by omega) (.slice (some ⟨g, 0, none⟩) (u + 1 + 1) cap) (.int .i64 (2 * (n : Int))) (.int .i64 ((u : Int) + 1)) (.slice Fo 0 fc) (.slice (some ⟨g, 0, none⟩) (u + 1 + 1) cap))
    have HRW := Lib.hid hrow
    have HBL3 := Lib.hid hb0
    have hlt3 : w.heap.size + 1 < w3.heap.size := by omega
    clear hown3 hgrow3 hbl3 k0 k1 HO2 HS2 HBL2 hrow hb0
    go_wp2
    go_region
    go_wp2
    have h5 := H5.out
    generalize (((((w3.setCell ⟨w.heap.size, 3, none⟩ (.slice (some ⟨g, 0, none⟩) (u + 1 + 1) cap)).setCell ⟨w.heap.size + 1, 0, none⟩ (.int .i64 (2 * (n : Int)))).setCell ⟨w.heap.size + 1, 1, none⟩ (.int .i64 ((u : Int) + 1))).setCell ⟨w.heap.size + 1, 2, none⟩ (.slice Fo 0 fc)).setCell ⟨w.heap.size + 1, 3, none⟩ (.slice (some ⟨g, 0, none⟩) (u + 1 + 1) cap)) = W at h5 ⊢
    clear x0 x1 x2 x3 z0 z1 z2 z3 c0 c1 c2 c3 f0 f1 f2 f3
    obtain ⟨y0, y1, y2, y3⟩ := four_cells h5.1
    have hbW : Below w.heap.size w W.drew := (HBL3.out.trans (h5.2.below (by simp) (by omega))).drew
    have hrW : NodeRow W.drew g (u + 2) (updEnd nd (u + 1)) := HRW.out.only h5.2.drew (by simp; omega)
    refine bodyPost_ret (v := .tuple #[.agg #[.int .i64 (2 * (n : Int)), .int .i64 ((u : Int) + 1), .slice Fo 0 fc, .slice (some ⟨g, 0, none⟩) (u + 1 + 1) cap], .int .i32 ((u : Int) + 1)]) (by simp [results, Try.results31, go_sem, y0, y1, y2, y3]) rfl ⟨refV (2 * n) (u + 1) Fo 0 fc g (u + 2) cap, g :: K, ?_, hbW, HE.out _ _ _ hbW hcap hrW, fun k hk => ?_⟩
    · rw [refV, Int.natCast_add u 1, Int.natCast_mul 2 n]
      rfl
    · rcases List.mem_cons.1 hk with rfl | hk
      · exact .inr (by omega)
      · exact .inl hk
  · have hd1 : ¬ ((n : Int) ≤ (u : Int) + 1) := by omega
    rw [if_neg hd] at HE
    clear hd
    have HO : Hid ((((w.alloc (.cells #[.int .i64 (n : Int), .int .i64 ((u : Int) + 1), .slice Fo 0 fc, .slice (some ⟨nb, 0, none⟩) (u + 1) nc] 29)).alloc (.cells #[.int .i64 0, .int .i64 0, .slice none 0 0, .slice none 0 0] 29)).alloc (.cells #[] 64)).ownsRow (w.heap.size + 2) 64 6 (.slice (some ⟨w.heap.size + 2, 0, none⟩) 0 0) 0 []) :=
      Lib.hid (by
        have := World.ownsRow_lit (base := w.heap.size + 2) (e := 64) (size := 6) ((w.alloc (.cells #[.int .i64 (n : Int), .int .i64 ((u : Int) + 1), .slice Fo 0 fc, .slice (some ⟨nb, 0, none⟩) (u + 1) nc] 29)).alloc (.cells #[.int .i64 0, .int .i64 0, .slice none 0 0, .slice none 0 0] 29)) #[] 0 (by simp) (by unfold maxLen; omega) rfl
        simpa using this)
    have hal0 : Below (w.heap.size + 2) ((w.alloc (.cells #[.int .i64 (n : Int), .int .i64 ((u : Int) + 1), .slice Fo 0 fc, .slice (some ⟨nb, 0, none⟩) (u + 1) nc] 29)).alloc (.cells #[.int .i64 0, .int .i64 0, .slice none 0 0, .slice none 0 0] 29)) (((w.alloc (.cells #[.int .i64 (n : Int), .int .i64 ((u : Int) + 1), .slice Fo 0 fc, .slice (some ⟨nb, 0, none⟩) (u + 1) nc] 29)).alloc (.cells #[.int .i64 0, .int .i64 0, .slice none 0 0, .slice none 0 0] 29)).alloc (.cells #[] 64)) := (Below.refl _ _).alloc (by simp) _
    have hal := ((((Below.refl w.heap.size w).alloc (Nat.le_refl _) (.cells #[.int .i64 (n : Int), .int .i64 ((u : Int) + 1), .slice Fo 0 fc, .slice (some ⟨nb, 0, none⟩) (u + 1) nc] 29)).alloc (by simp) (.cells #[.int .i64 0, .int .i64 0, .slice none 0 0, .slice none 0 0] 29)).alloc (by simp; omega) (.cells #[] 64))
    have HS := Lib.hid ((HN.out.kept (kept_below H0.out hal)).src)
    have HAL := Lib.hid hal0
    clear hal hal0
    go_enter Try.func31, Try.ntmps31
    go_wp2_with (at_builtin; refine wpList_append_src rfl (.tmp 47) (.tmp 49) 27 rfl (w.heap.size + 2) 64 (.agg #[.int .u64 0, .int .u64 0, .int .i64 0, .int .i64 0, .int .i32 0, .int .i32 0]) 6 40 (by kernel_rfl) (by kernel_rfl) rfl (by decide) _ 0 _ rfl HO.out (some ⟨nb, 0, none⟩) (u + 1) nc ((List.range ((u + 1) * 6)).map (nodeV nd)) rfl HS.out h0s.out (by omega) (by omega) (by simp) ?_)
    intro v2 w2 hown2 hgrow2
    have hbl2 := below_grown HAL.out HO.out hgrow2 (by simp)
    have hs2 : w.heap.size + 2 ≤ w2.heap.size := by have := hbl2.size; simpa using this
    have HO2 := Lib.hid (hown2.alloc (.cells #[.int .u64 0, .int .u64 0, .int .i64 0, .int .i64 0, .int .i32 0, .int .i32 0] 64))
    have HS2 : Hid ((some (⟨w2.heap.size, 0, none⟩ : Addr) = none ∧ 1 = 0 ∧ 1 = 0 ∧ [Value.int .u64 0, .int .u64 0, .int .i64 0, .int .i64 0, .int .i32 0, .int .i32 0] = []) ∨ ∃ ad, some (⟨w2.heap.size, 0, none⟩ : Addr) = some ad ∧ [Value.int .u64 0, .int .u64 0, .int .i64 0, .int .i64 0, .int .i32 0, .int .i32 0].length = 1 * 6 ∧ ∀ j x, [Value.int .u64 0, .int .u64 0, .int .i64 0, .int .i64 0, .int .i32 0, .int .i32 0][j]? = some x → (w2.alloc (.cells #[.int .u64 0, .int .u64 0, .int .i64 0, .int .i64 0, .int .i32 0, .int .i32 0] 64)).cell? (ad.add j) = some x) :=
      Lib.hid (.inr ⟨_, rfl, rfl, fun j x hx => (six_src w2 j).trans hx⟩)
    have HBL2 := Lib.hid (hbl2.alloc hs2 (.cells #[.int .u64 0, .int .u64 0, .int .i64 0, .int .i64 0, .int .i32 0, .int .i32 0] 64))
    clear hown2 hgrow2 hbl2 HS HO HAL
    go_wp2_with (at_builtin; refine wpList_append_src rfl (.tmp 50) (.tmp 52) 27 rfl (w.heap.size + 2) 64 (.agg #[.int .u64 0, .int .u64 0, .int .i64 0, .int .i64 0, .int .i32 0, .int .i32 0]) 6 40 (by kernel_rfl) (by kernel_rfl) rfl (by decide) v2 (u + 1) _ rfl HO2.out (some ⟨w2.heap.size, 0, none⟩) 1 1 [.int .u64 0, .int .u64 0, .int .i64 0, .int .i64 0, .int .i32 0, .int .i32 0] rfl HS2.out (by simp; exact ⟨rfl, rfl, rfl⟩) (by omega) (by omega) (by simp; omega) ?_)
    intro v3 w3 hown3 hgrow3
    have hbl3 := below_grown HBL2.out HO2.out hgrow3 (by simp; omega)
    obtain ⟨g, cap, rfl, hg1, hg2⟩ := hown3.form (by omega)
    have hcap : u + 1 + 1 ≤ cap := by
      rcases hown3.2 with ⟨e, _⟩ | ⟨g', cap', cur, e, _, _, hle, _⟩
      · cases e
      · injection e with _ _ e3
        omega
    have hrow := nodeRow_own (nd := updEnd nd (u + 1)) hown3 (fun p hp => nodes_snoc nd (u + 1) p hp)
    have hs3 : w.heap.size + 2 ≤ w3.heap.size := by have := hbl3.size; simpa using this
    obtain ⟨hb0, _, k0, k1⟩ := two_blocks (hbl3.mono (by simp))
    obtain ⟨c0, c1, c2, c3⟩ := four_cells k0
    obtain ⟨f0, f1, f2, f3⟩ := four_free k0
    obtain ⟨x0, x1, x2, x3⟩ := four_cells k1
    obtain ⟨z0, z1, z2, z3⟩ := four_free k1
    have H5 := Lib.hid (five_set (g := w.heap.size) (j := 3) k1 (by omega) (.slice (some ⟨g, 0, none⟩) (u + 1 + 1) cap) (.int .i64 (n : Int)) (.int .i64 ((u : Int) + 1)) (.slice Fo 0 fc) (.slice (some ⟨g, 0, none⟩) (u + 1 + 1) cap))
    have HRW := Lib.hid hrow
    have HBL3 := Lib.hid hb0
    have hlt3 : w.heap.size + 1 < w3.heap.size := by omega
    clear hown3 hgrow3 hbl3 k0 k1 HO2 HS2 HBL2 hrow hb0
    go_wp2
    go_region
    go_wp2
    have h5 := H5.out
    generalize (((((w3.setCell ⟨w.heap.size, 3, none⟩ (.slice (some ⟨g, 0, none⟩) (u + 1 + 1) cap)).setCell ⟨w.heap.size + 1, 0, none⟩ (.int .i64 (n : Int))).setCell ⟨w.heap.size + 1, 1, none⟩ (.int .i64 ((u : Int) + 1))).setCell ⟨w.heap.size + 1, 2, none⟩ (.slice Fo 0 fc)).setCell ⟨w.heap.size + 1, 3, none⟩ (.slice (some ⟨g, 0, none⟩) (u + 1 + 1) cap)) = W at h5 ⊢
    clear x0 x1 x2 x3 z0 z1 z2 z3 c0 c1 c2 c3 f0 f1 f2 f3
    obtain ⟨y0, y1, y2, y3⟩ := four_cells h5.1
    have hbW : Below w.heap.size w W.drew := (HBL3.out.trans (h5.2.below (by simp) (by omega))).drew
    have hrW : NodeRow W.drew g (u + 2) (updEnd nd (u + 1)) := HRW.out.only h5.2.drew (by simp; omega)
    refine bodyPost_ret (v := .tuple #[.agg #[.int .i64 (n : Int), .int .i64 ((u : Int) + 1), .slice Fo 0 fc, .slice (some ⟨g, 0, none⟩) (u + 1 + 1) cap], .int .i32 ((u : Int) + 1)]) (by simp [results, Try.results31, go_sem, y0, y1, y2, y3]) rfl ⟨refV (n) (u + 1) Fo 0 fc g (u + 2) cap, g :: K, ?_, hbW, HE.out _ _ _ hbW hcap hrW, fun k hk => ?_⟩
    · rw [refV, Int.natCast_add u 1]
      rfl
    · rcases List.mem_cons.1 hk with rfl | hk
      · exact .inr (by omega)
      · exact .inl hk

theorem ralloc_walk {w : World} {v : Value} {st : St} {K : List Nat} (h : Ref w v st K) (ho : st.Ok) (hn : st.n ≤ 1000000) :
    Calls Try.prog 31 #[v] w (RefNext w K st.alloc (fun v' => .tuple #[v', .int .i32 st.next])) := by
  by_cases hp : 0 < st.freed.length
  · exact ralloc_pop h ho hn hp
  · exact ralloc_new h ho hn (List.eq_nil_of_length_eq_zero (by omega))
end Go.Proofs.Ytlmcodmglcmmoaa
