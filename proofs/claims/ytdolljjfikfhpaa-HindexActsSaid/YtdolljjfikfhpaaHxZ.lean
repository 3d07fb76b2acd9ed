/- The program's table: what comes behind a slot, and whether it comes to the gap. -/
import Derived.Test.YtdolljjfikfhpaaHxY
import Derived.Deep.RegionHeld3
import Derived.Deep.RegionWith
import Derived.Deep.QuietTactic
import Derived.BigQuiet
namespace Go.Proofs.Ytdolljjfikfhpaa
open Go Go.RowKit Go.Deep

abbrev behF (a b : Nat) : Value := .func (.func 41) #[] #[ptr a, ptr b]
theorem behind_walk (w : World) (p : Nat) (x : Nat) :
    Calls Try.prog 33 #[ptr p, .int .i64 (x : Nat)] w fun e w' => e = .returned (behF w.heap.size (w.heap.size + 1)) ∧ w' = (w.alloc (.cells #[ptr p] 24)).alloc (.cells #[.int .i64 (x : Nat)] 3) := by
  have hmf : ∀ (fn : Fn) (first cap : Array Value) (w : World), (Instr.makeFunc fn first cap).run Try.prog w = .ok (.func fn first cap) w := fun _ _ _ _ => rfl
  go_enter Try.func33, Try.ntmps33
  go_wp2
  go_ret
  exact ⟨rfl, rfl⟩

/- The closure's own two cells. -/
structure BehAt (w : World) (p a b x : Nat) : Prop where
  tab : w.heap[a]? = some (.cells #[ptr p] 24 (0, 0))
  at_ : w.heap[b]? = some (.cells #[.int .i64 (x : Nat)] 3 (0, 0))
theorem BehAt.only {S : List Nat} {w w' : World} {p a b x : Nat} (h : BehAt w p a b x) (ho : Only S w w') (ha : a ∉ S) (hb : b ∉ S) : BehAt w' p a b x :=
  ⟨(ho.block a (head_row h.tab).lt ha).trans h.tab, (ho.block b (head_row h.at_).lt hb).trans h.at_⟩

theorem behind1_walk {w : World} {p : Nat} {T : Tb} {g c a b x : Nat} (h : IxT w p T g c) (hn : T.n ≤ 1073741824) (hx : x < T.n) (k : BehAt w p a b x) :
    Calls Try.prog 41 #[ptr a, ptr b] w fun e w' => e = .returned (.tuple #[.int .i64 ((x + 1) % T.n : Nat), .bool (T.sl ((x + 1) % T.n)).full]) ∧ BehAt w' p a b ((x + 1) % T.n) ∧ Only [b] w w' := by
  have hy : (x + 1) % T.n < T.n := Nat.mod_lt _ (by omega)
  have HX := Lib.hid h
  have HN := Lib.hid (fun w' (q : IxT w' p T g c) => next_walk q hn x hx)
  have a0 : w.cell? ⟨a, 0, none⟩ = some (ptr p) := (head_row k.tab).cell (i := 0) (by simp)
  have b0 : w.cell? ⟨b, 0, none⟩ = some (.int .i64 (x : Nat)) := (head_row k.at_).cell (i := 0) (by simp)
  have z0 : w.frozen? ⟨b, 0, none⟩ = false := (head_row k.at_).frozen 0
  obtain ⟨t1, o1⟩ := one_heap k.at_ (.int .i64 ((x + 1) % T.n : Nat))
  have hbp : p ≠ b := block_ne (head_row h.tab) (head_row k.at_) (by decide)
  have hbg : g ≠ b := by obtain ⟨N, F, hF, _⟩ := h.row; exact block_ne hF (head_row k.at_) (by decide)
  have hab : a ≠ b := block_ne (head_row k.tab) (head_row k.at_) (by decide)
  have HT := Lib.hid t1
  have HO := Lib.hid o1
  have HA := Lib.hid ((o1.block a (head_row k.tab).lt (by simpa using hab)).trans k.tab)
  have HX1 := Lib.hid (h.only o1 (by simpa using hbp) (by simpa using hbg))
  clear h k t1 o1 hbp hbg hab
  generalize (x + 1) % T.n = y at hy HN HT HO HA HX1 ⊢
  go_enter Try.func41, Try.ntmps41
  go_wp2_with fail
  refine (HN.out _ HX.out).mono ?_
  rintro e w1 ⟨rfl, rfl⟩
  go_upto_region 2 with fail
  generalize w.setCell ⟨b, 0, none⟩ (.int .i64 (y : Nat)) = w1 at HT HO HA HX1 ⊢
  clear a0 b0 z0
  have a0 : w1.cell? ⟨a, 0, none⟩ = some (ptr p) := (head_row HA.out).cell (i := 0) (by simp)
  have b0 : w1.cell? ⟨b, 0, none⟩ = some (.int .i64 (y : Nat)) := (head_row HT.out).cell (i := 0) (by simp)
  obtain ⟨c0, _⟩ := HX1.out.cells
  obtain ⟨_, _, q2⟩ := HX1.out.sl y hy
  have hyI : (y : Int) < (T.n : Int) := by omega
  go_quiet (fail)
  go_wp2
  exact bodyPost_ret (v := .tuple #[.int .i64 (y : Nat), .bool (T.sl y).full]) (by simp [results, Try.results41, go_sem]) rfl ⟨rfl, ⟨HA.out, HT.out⟩, HO.out.drewN _⟩

theorem passes_walk {w : World} {p : Nat} {T : Tb} {g c x y : Nat} (h : IxT w p T g c) (hs : isSz T.n = true) (hx : x < T.n) (hy : y < T.n) :
    Calls Try.prog 34 #[ptr p, .int .i64 (x : Nat), .int .i64 (y : Nat)] w fun e w' => e = .returned (.bool (decide (away x y T.n ≤ away (hm (T.sl y).key T.n) y T.n))) ∧ Below w.heap.size w w' := by
  have hyI : (y : Int) < (T.n : Int) := by omega
  obtain ⟨c0, _⟩ := h.cells
  obtain ⟨q0, _, _⟩ := h.sl y hy
  have HX := Lib.hid h
  have HF := Lib.hid (fun w' (q : IxT w' p T g c) => fromHome_walk q hs (T.sl y).key y hy)
  have HA := Lib.hid (fun w' => apart_is w' x y T.n hs hx hy)
  clear h hs
  generalize (T.sl y).key = sk at q0 HF ⊢
  generalize away (hm sk T.n) y T.n = d at HF ⊢
  generalize away x y T.n = d' at HA ⊢
  have HXD := Lib.hid (HX.out.only (Only.refl [] w).drew (by simp) (by simp))
  have HCELL := Lib.hid (fun w' (b : Below w.drew.heap.size w.drew w') => And.intro ((b.cell (p := ⟨p, 0, none⟩) HXD.out.plt).trans c0) ((b.cell (p := ⟨g, y * 3, none⟩) HXD.out.lt).trans q0))
  go_enter Try.func34, Try.ntmps34
  go_wp2_with fail
  go_region_held3 (fun w' => w'.cell? ⟨p, 0, none⟩ = some (.slice (some ⟨g, 0, none⟩) T.n T.n) ∧ w'.cell? ⟨g, y * 3, none⟩ = some (.int .u64 (sk : Nat))) (first | with_reducible exact kk5 | go_keep) (first
    | (go_at_call 28; refine (HF.out _ HXD.out).mono ?_; rintro e w5 ⟨rfl, d5⟩; have kk5 := HCELL.out _ d5)
    | (go_at_call 40; refine (HA.out _).mono ?_; rintro e w6 ⟨rfl, rfl⟩))
  have HB5 := Lib.hid ((Below.refl w.heap.size w).drew.trans (d5.mono (Nat.le_refl _)))
  go_wp2
  go_ret
  exact ⟨rfl, HB5.out⟩
end Go.Proofs.Ytdolljjfikfhpaa
