/- Least recently used: what the program's calls have to tell. -/
import Derived.Test.YtjjapnepmimbaaaLrB
namespace Go.Proofs.Ytjjapnepmimbaaa
open Go Go.RowKit Go.Deep

abbrev PT8 : TypeId := 26
structure Pol8Ok : Prop where
  new : ∀ (w : World) (n : Int) (_ : -9223372036854775808 ≤ n) (_ : n ≤ 9223372036854775807), Calls Try.prog 9 #[.int .i64 n] w (P8 w (L8.new n))
  touch : ∀ {w : World} {s : L8} {u1 : Value} (_ : St8 w s u1) (_ : s.Ok) (k : Nat) (_ : k < 18446744073709551616), Calls Try.prog 29 #[(.agg (l8C s.c u1)), .int .u64 (k : Nat)] w (P8 w (s.touch k))
  admit : ∀ {w : World} {s : L8} {u1 : Value} (_ : St8 w s u1) (_ : s.Ok) (k : Nat) (_ : k < 18446744073709551616), Calls Try.prog 28 #[(.agg (l8C s.c u1)), .int .u64 (k : Nat)] w (P8o w (s.admit k) (s.admitOut k))
  drop : ∀ {w : World} {s : L8} {u1 : Value} (_ : St8 w s u1) (_ : s.Ok) (k : Nat) (_ : k < 18446744073709551616), Calls Try.prog 30 #[(.agg (l8C s.c u1)), .int .u64 (k : Nat)] w (P8 w (s.drop k))
  resize : ∀ {w : World} {s : L8} {u1 : Value} (_ : St8 w s u1) (_ : s.Ok) (n : Int) (_ : -9223372036854775808 ≤ n) (_ : n ≤ 9223372036854775807), Calls Try.prog 26 #[(.agg (l8C s.c u1)), .int .i64 n] w (P8o w (s.resize n) (s.resizeOut n))
  has : ∀ {w : World} {s : L8} {u1 : Value} (_ : St8 w s u1) (_ : s.Ok) (k : Nat) (_ : k < 18446744073709551616), Calls Try.prog 18 #[(.agg (l8C s.c u1)), .int .u64 (k : Nat)] w (RetB w (decide (k ∈ s.keys)))
  keys : ∀ {w : World} {s : L8} {u1 : Value} (_ : St8 w s u1) (_ : s.Ok), Calls Try.prog 17 #[(.agg (l8C s.c u1))] w (RetK w s.keys)
  ghosts : ∀ {w : World} {s : L8} {u1 : Value} (_ : St8 w s u1) (_ : s.Ok), Calls Try.prog 20 #[(.agg (l8C s.c u1))] w (fun e w' => e = .returned (.int .i64 (s.ghosts : Nat)) ∧ Below w.heap.size w w')
end Go.Proofs.Ytjjapnepmimbaaa
