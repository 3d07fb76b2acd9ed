/- Inter-reference recency, the program's own: the closures that write. -/
import Derived.Test.YtjfhapobbglbpaaLiC
namespace Go.Proofs.Ytjfhapobbglbpaa
open Go Go.RowKit Go.Deep

theorem own_other {w w' : World} {S : List Nat} {B size n : Nat} {e : TypeId} {v : Value} {xs : List Value} (h : w.ownsRow B e size v n xs) (ho : Only S w w') (hS : ∀ g ∈ S, ∀ cs, w.heap[g]? ≠ some (.cells cs e (0, 0))) : w'.ownsRow B e size v n xs := by
  refine ⟨h.1, h.2.imp id ?_⟩
  rintro ⟨g, cap, cur, e1, e2, e3, e4⟩
  exact ⟨g, cap, cur, e1, e2, (ho.block g (Array.getElem?_eq_some_iff.1 e3).1 (fun hm => hS g hm cur e3)).trans e3, e4⟩
abbrev KT : TypeId := 25
abbrev FT12 : TypeId := 89
/- The box of what is cooled: its keys, in a row of the call's own. -/
structure CB (w : World) (B gc : Nat) (cs : List Nat) : Prop where
  ge : B ≤ gc
  row : ∃ v, w.heap[gc]? = some (.cells #[v] KT (0, 0)) ∧ w.ownsRow B 35 1 v cs.length (u64L cs)
/- All blocks but one, and but those of keys, are as they were. -/
def KeepB (gc : Nat) (w w' : World) : Prop := ∀ (g : Nat) (cs : Array Value) (t : TypeId), w.heap[g]? = some (.cells cs t (0, 0)) → t ≠ 35 → g ≠ gc → w'.heap[g]? = some (.cells cs t (0, 0))
section
variable {w : World}
set_option maxHeartbeats 2000000 in
theorem cool1_walk {B gc : Nat} {cs : List Nat} (h : CB w B gc cs) (hB : B ≤ w.heap.size) (hl : cs.length ≤ 10000000) (x : It) :
    Calls Try.prog 73 #[.agg #[.int .u64 (x.key : Nat), .int .i64 (x.f : Nat)], .pointer (some ⟨gc, 0, none⟩)] w fun e w' => e = .returned (.tuple #[.agg #[.int .u64 (x.key : Nat), .int .i64 1], .bool true]) ∧ CB w' B gc (cs ++ [x.key]) ∧ Below B w w' ∧ KeepB gc w w' := by
  obtain ⟨kx, fx⟩ := x
  dsimp only
  obtain ⟨v, hbox, hown⟩ := h.row
  have hge := h.ge
  have hro := head_row hbox
  have hglt := hro.lt
  have hc0 := hro.cell (i := 0) (by simp)
  have hne : gc ≠ w.heap.size := by omega
  have hne2 : w.heap.size ≠ gc := by omega
  have hne3 : gc ≠ w.heap.size + 1 := by omega
  have hne5 : gc ≠ w.heap.size + 1 + 1 := by omega
  have hfr := hro.frozen 0
  obtain ⟨F, c, rfl, -⟩ : ∃ F c, v = .slice F cs.length c ∧ True := by
    obtain ⟨F, c, e, _⟩ := (KV.of_own hown).mem
    exact ⟨F, c, e, trivial⟩
  have HOWN := Lib.hid hown
  obtain ⟨n, hn⟩ : ∃ n, cs.length = n := ⟨_, rfl⟩
  have HN := Lib.hid hn
  rw [hn] at HOWN hc0 hbox
  have hW3 : ∀ g, g < w.heap.size → (((w.alloc (.cells #[.int .u64 (kx : Nat), .int .i64 (fx : Nat)] PTI12)).alloc (.cells #[.int .u64 0, .int .i64 0] PTI12)).alloc (.cells #[.int .u64 (kx : Nat)] 35)).heap[g]? = w.heap[g]? := fun g hg => ((low_two w _ _).alloc (by simp; omega) (.cells #[.int .u64 (kx : Nat)] 35)).block g hg
  have hbi : (((w.alloc (.cells #[.int .u64 (kx : Nat), .int .i64 (fx : Nat)] PTI12)).alloc (.cells #[.int .u64 0, .int .i64 0] PTI12)).alloc (.cells #[.int .u64 (kx : Nat)] 35)).heap[w.heap.size]? = some (.cells #[.int .u64 (kx : Nat), .int .i64 (fx : Nat)] PTI12 (0, 0)) := by
    rw [Below.heap_alloc _ _ _ (by simp; omega), Below.heap_alloc _ _ _ (by simp)]
    exact heap_alloc_new w _
  have hbr : (((w.alloc (.cells #[.int .u64 (kx : Nat), .int .i64 (fx : Nat)] PTI12)).alloc (.cells #[.int .u64 0, .int .i64 0] PTI12)).alloc (.cells #[.int .u64 (kx : Nat)] 35)).heap[w.heap.size + 1]? = some (.cells #[.int .u64 0, .int .i64 0] PTI12 (0, 0)) := by
    rw [Below.heap_alloc _ _ _ (by simp)]
    have := heap_alloc_new (w.alloc (.cells #[.int .u64 (kx : Nat), .int .i64 (fx : Nat)] PTI12)) (.cells #[.int .u64 0, .int .i64 0] PTI12)
    simpa using this
  have HOW : Hid (KO B (((w.alloc (.cells #[.int .u64 (kx : Nat), .int .i64 (fx : Nat)] PTI12)).alloc (.cells #[.int .u64 0, .int .i64 0] PTI12)).alloc (.cells #[.int .u64 (kx : Nat)] 35)) (((w.alloc (.cells #[.int .u64 (kx : Nat), .int .i64 (fx : Nat)] PTI12)).alloc (.cells #[.int .u64 0, .int .i64 0] PTI12)).alloc (.cells #[.int .u64 (kx : Nat)] 35)) (.slice F n c) cs) := Lib.hid ⟨Below.refl _ _, by rw [hn]; exact ((HOWN.out.alloc _).alloc _).alloc _⟩
  have HSRC := Lib.hid (KV.one ((w.alloc (.cells #[.int .u64 (kx : Nat), .int .i64 (fx : Nat)] PTI12)).alloc (.cells #[.int .u64 0, .int .i64 0] PTI12)) kx)
  have HL3 : Hid (Below B w (((w.alloc (.cells #[.int .u64 (kx : Nat), .int .i64 (fx : Nat)] PTI12)).alloc (.cells #[.int .u64 0, .int .i64 0] PTI12)).alloc (.cells #[.int .u64 (kx : Nat)] 35))) := Lib.hid (((low_two w _ _).alloc (by simp; omega) _).mono hB)
  have hszA := HL3.out.size
  have hsz2 : B ≤ (((w.alloc (.cells #[.int .u64 (kx : Nat), .int .i64 (fx : Nat)] PTI12)).alloc (.cells #[.int .u64 0, .int .i64 0] PTI12)).alloc (.cells #[.int .u64 (kx : Nat)] 35)).heap.size := by simp; omega
  have HW3 := Lib.hid hW3
  have HBI := Lib.hid hbi
  have HBR := Lib.hid hbr
  have HBX := Lib.hid hbox
  clear hW3 hbi hbr hbox hown h hn hro HOWN
  go_enter Try.func73, Try.ntmps73
  go_wp2_with (at_builtin; refine wpList_append_kv rfl (.tmp 5) (.tmp 8) rfl B (by kernel_rfl) (by kernel_rfl) _ cs rfl HOW.out _ [kx] rfl (by first | exact HSRC.out | (have h := HSRC.out; simp only [World.size_alloc] at h; exact h)) (by have := HN.out; simp; omega) hsz2 ?_)
  intro v5 w5 hown5 _ hkt5
  obtain ⟨F5, n5, d5, rfl⟩ := hown5.kv.form
  have hbi5 := hkt5 _ _ _ _ HBI.out (by decide)
  have hbr5 := hkt5 _ _ _ _ HBR.out (by decide)
  have hbx5 := hkt5 _ _ _ _ ((HW3.out gc hglt).trans HBX.out) (by decide)
  obtain ⟨⟨i0, i1⟩, if0, if1⟩ := c2_at hbi5
  obtain ⟨⟨r0, r1⟩, rf0, rf1⟩ := c2_at hbr5
  have hbb5 := (head_row hbi5).lt
  have hrr5 := (head_row hbr5).lt
  have hro5 := head_row hbx5
  have hgg5 := hro5.lt
  have hg0 := hro5.cell (i := 0) (by simp)
  have hgf := hro5.frozen 0
  have HO : Hid (Only [gc, w.heap.size + 1] w5 (((w5.setCell ⟨gc, 0, none⟩ (.slice F5 n5 d5)).setCell ⟨w.heap.size + 1, 0, none⟩ (.int .u64 (kx : Nat))).setCell ⟨w.heap.size + 1, 1, none⟩ (.int .i64 1))) := Lib.hid ((((Only.refl _ _).setCell (by simp) _).setCell (by simp) _).setCell (by simp) _)
  have HF : Hid (CB (((w5.setCell ⟨gc, 0, none⟩ (.slice F5 n5 d5)).setCell ⟨w.heap.size + 1, 0, none⟩ (.int .u64 (kx : Nat))).setCell ⟨w.heap.size + 1, 1, none⟩ (.int .i64 1)) B gc (cs ++ [kx]) ∧ Below B w (((w5.setCell ⟨gc, 0, none⟩ (.slice F5 n5 d5)).setCell ⟨w.heap.size + 1, 0, none⟩ (.int .u64 (kx : Nat))).setCell ⟨w.heap.size + 1, 1, none⟩ (.int .i64 1)) ∧ KeepB gc w (((w5.setCell ⟨gc, 0, none⟩ (.slice F5 n5 d5)).setCell ⟨w.heap.size + 1, 0, none⟩ (.int .u64 (kx : Nat))).setCell ⟨w.heap.size + 1, 1, none⟩ (.int .i64 1))) := Lib.hid ⟨⟨hge, .slice F5 n5 d5, by
      have ho2 : Only [w.heap.size + 1] (w5.setCell ⟨gc, 0, none⟩ (.slice F5 n5 d5)) (((w5.setCell ⟨gc, 0, none⟩ (.slice F5 n5 d5)).setCell ⟨w.heap.size + 1, 0, none⟩ (.int .u64 (kx : Nat))).setCell ⟨w.heap.size + 1, 1, none⟩ (.int .i64 1)) := ((Only.refl _ _).setCell (by simp) _).setCell (by simp) _
      exact (ho2.block gc (by simpa using hgg5) (by simp; omega)).trans (set_one hbx5), own_other hown5.own HO.out (fun g hg cs' he => by
        simp only [List.mem_cons, List.not_mem_nil, or_false] at hg
        rcases hg with rfl | rfl
        · rw [hbx5] at he
          injection he with he
          injection he with _ he
          exact absurd he (by decide)
        · rw [hbr5] at he
          injection he with he
          injection he with _ he
          exact absurd he (by decide))⟩, (HL3.out.trans hown5.low).trans (HO.out.below (by simp; omega) (Nat.le_trans hsz2 hown5.low.size)), fun g cs' t hg ht hgc => by
      have hlt := (Array.getElem?_eq_some_iff.1 hg).1
      have h5 := hkt5 _ _ _ _ ((HW3.out g hlt).trans hg) ht
      exact (HO.out.block g (head_row h5).lt (by simp; omega)).trans h5⟩
  clear hown5 hkt5 HOW HSRC HL3 HW3 HBI HBR HBX hro5 hbi5 hbr5 hbx5
  go_wp2
  exact bodyPost_ret (v := .tuple #[.agg #[.int .u64 (kx : Nat), .int .i64 1], .bool true]) (by simp [results, Try.results73, go_sem, r0, r1]) rfl ⟨rfl, HF.out⟩
/- The boxes of behind, from block n on. -/
structure Bh (w : World) (n : Nat) (kind seen most : Nat) (fv : Value) : Prop where
  k : w.heap[n]? = some (.cells #[.int .i64 (kind : Nat)] 3 (0, 0))
  m : w.heap[n + 1]? = some (.cells #[.int .i64 (most : Nat)] 3 (0, 0))
  f : w.heap[n + 1 + 1]? = some (.cells #[fv] FT12 (0, 0))
  s : w.heap[n + 1 + 1 + 1]? = some (.cells #[.int .i64 (seen : Nat)] 3 (0, 0))
abbrev capsB (n : Nat) : Array Value := #[.pointer (some ⟨n, 0, none⟩), .pointer (some ⟨n + 1 + 1 + 1, 0, none⟩), .pointer (some ⟨n + 1, 0, none⟩), .pointer (some ⟨n + 1 + 1, 0, none⟩)]
theorem Bh.below {w w' : World} {n kind seen most : Nat} {fv : Value} (h : Bh w n kind seen most fv) (hb : Below w.heap.size w w') : Bh w' n kind seen most fv :=
  ⟨(hb.block _ (head_row h.k).lt).trans h.k, (hb.block _ (head_row h.m).lt).trans h.m, (hb.block _ (head_row h.f).lt).trans h.f, (hb.block _ (head_row h.s).lt).trans h.s⟩
theorem behind_walk (kind most fn : Nat) (caps : Array Value) : Calls Try.prog 69 #[.int .i64 (kind : Nat), .int .i64 (most : Nat), .func (.func fn) #[] caps] w fun e w' => e = .returned (.func (.func 80) #[] (capsB w.heap.size)) ∧ Below w.heap.size w w' ∧ w.heap.size + 1 + 1 + 1 < w'.heap.size ∧ Bh w' w.heap.size kind 0 most (.func (.func fn) #[] caps) := by
  have HB : Hid (Below w.heap.size w ((((w.alloc (.cells #[.int .i64 (kind : Nat)] 3)).alloc (.cells #[.int .i64 (most : Nat)] 3)).alloc (.cells #[.func (.func fn) #[] caps] FT12)).alloc (.cells #[.int .i64 0] 3))) := Lib.hid (((low_two w _ _).alloc (by simp <;> omega) _).alloc (by simp <;> omega) _)
  have HH : Hid (Bh ((((w.alloc (.cells #[.int .i64 (kind : Nat)] 3)).alloc (.cells #[.int .i64 (most : Nat)] 3)).alloc (.cells #[.func (.func fn) #[] caps] FT12)).alloc (.cells #[.int .i64 0] 3)) w.heap.size kind 0 most (.func (.func fn) #[] caps)) := Lib.hid ⟨by
      rw [Below.heap_alloc _ _ _ (by simp <;> omega), Below.heap_alloc _ _ _ (by simp <;> omega), Below.heap_alloc _ _ _ (by simp)]
      exact heap_alloc_new w _, by
      rw [Below.heap_alloc _ _ _ (by simp <;> omega), Below.heap_alloc _ _ _ (by simp)]
      have := heap_alloc_new (w.alloc (.cells #[.int .i64 (kind : Nat)] 3)) (.cells #[.int .i64 (most : Nat)] 3)
      simpa using this, by
      rw [Below.heap_alloc _ _ _ (by simp)]
      have := heap_alloc_new ((w.alloc (.cells #[.int .i64 (kind : Nat)] 3)).alloc (.cells #[.int .i64 (most : Nat)] 3)) (.cells #[.func (.func fn) #[] caps] FT12)
      simpa using this, by
      have := heap_alloc_new (((w.alloc (.cells #[.int .i64 (kind : Nat)] 3)).alloc (.cells #[.int .i64 (most : Nat)] 3)).alloc (.cells #[.func (.func fn) #[] caps] FT12)) (.cells #[.int .i64 0] 3)
      simpa using this⟩
  go_enter Try.func69, Try.ntmps69
  go_wp2
  go_ret
  exact ⟨rfl, HB.out, by simp, HH.out⟩
end
end Go.Proofs.Ytjfhapobbglbpaa
