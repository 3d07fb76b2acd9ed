/- Acts that came in. -/
import Derived.Test.YtjfhapobbglbpaaPoA
namespace Go.Proofs.Ytjfhapobbglbpaa
open Go Go.RowKit Go.Deep

/- The three cells of an act. -/
def ActAt (w : World) (g o : Nat) (x : Act8) : Prop := w.cell? ⟨g, o, none⟩ = some (.int .u8 (x.kind : Nat)) ∧ w.cell? ⟨g, o + 1, none⟩ = some (.int .u64 (x.key : Nat)) ∧ w.cell? ⟨g, o + 2, none⟩ = some (.int .u16 (x.n : Nat))
/- The value v reads as the acts l. -/
structure AV (w : World) (v : Value) (l : List Act8) : Prop where
  mem : ∃ A c, v = .slice A l.length c ∧ ∀ i (h : i < l.length), l[i].Ok ∧ ∃ g off, A = some ⟨g, off, none⟩ ∧ g < w.heap.size ∧ ActAt w g (off + i * 3) l[i]
theorem ActAt.keep {w w' : World} {g o : Nat} {x : Act8} (h : ActAt w g o x) (e : w'.heap[g]? = w.heap[g]?) : ActAt w' g o x :=
  ⟨(World.cell?_of_block (w := w) (a := ⟨g, o, none⟩) e).trans h.1, (World.cell?_of_block (w := w) (a := ⟨g, o + 1, none⟩) e).trans h.2.1, (World.cell?_of_block (w := w) (a := ⟨g, o + 2, none⟩) e).trans h.2.2⟩
theorem AV.below {w w' : World} {v : Value} {l : List Act8} (h : AV w v l) (hb : Below w.heap.size w w') : AV w' v l := by
  obtain ⟨A, c, e, h1⟩ := h.mem
  refine ⟨A, c, e, fun i hi => ?_⟩
  obtain ⟨ok, g, off, e2, hg, hc⟩ := h1 i hi
  exact ⟨ok, g, off, e2, Nat.lt_of_lt_of_le hg hb.size, hc.keep (hb.block g hg)⟩
theorem capI_run (c : Nat) : capI (1 + (c : Int) % 12) = 1 + c % 12 := by
  have := capI_nat (1 + c % 12) (by omega) (by omega)
  rw [← this]
  congr 1
theorem has_quiet {w : World} {v : Value} {ks : List Nat} (h : KV w v ks) (hl : ks.length ≤ 100000000) (k : Nat) (m : Nat) :
    Calls Try.prog 20 #[v, .int .u64 (k : Nat)] (w.drewN m) fun e w'' => e = .returned (.bool (decide (k ∈ ks))) ∧ ∃ m', w'' = w.drewN m' :=
  (rhas_walk (h.drewn m) hl k).mono (fun _ _ h => ⟨h.1, m, h.2.symm⟩)
/- What an act evicts: was: the keys ahead of it; is: those behind it; out: those that were evicted; q: which act. -/
structure Evs (was is out : List Nat) (q key size : Nat) : Prop where
  e1 : ∀ k ∈ out, k ∈ was ∧ k ∉ is
  e2 : ∀ k ∈ was, k ∈ out ∨ k ∈ is ∨ q = 3 ∧ k = key
  e3 : out.Nodup
  e4 : (is.length : Int) = (was.length : Int) - (out.length : Int) + (if q = 2 ∧ key ∉ was then 1 else 0) - (if q = 3 ∧ key ∈ was then 1 else 0)
  e5 : q = 4 → (out.length : Int) = max ((was.length : Int) - (size : Int)) 0
end Go.Proofs.Ytjfhapobbglbpaa
