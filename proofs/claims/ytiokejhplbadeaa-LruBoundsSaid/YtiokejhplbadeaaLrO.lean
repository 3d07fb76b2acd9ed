/- Least recently used: what the program's calls have to tell. -/
import Derived.Test.YtiokejhplbadeaaLrB
namespace Go.Proofs.Ytiokejhplbadeaa
open Go Go.RowKit Go.Deep

abbrev PT8 : TypeId := 26
structure Pol8Ok : Prop where
  new : ∀ (w : World) (n : Int) (_ : -9223372036854775808 ≤ n) (_ : n ≤ 9223372036854775807), Calls Try.prog 14 #[.int .i64 n] w (P8 w (L8.new n))
  touch : ∀ {w : World} {s : L8} {u1 : Value} (_ : St8 w s u1) (_ : s.Ok) (k : Nat) (_ : k < 18446744073709551616), Calls Try.prog 48 #[(.agg (l8C s.c u1)), .int .u64 (k : Nat)] w (P8 w (s.touch k))
  adm : ∀ {w : World} {s : L8} {u1 : Value} (_ : St8 w s u1) (_ : s.Ok) (k : Nat) (_ : k < 18446744073709551616), Calls Try.prog 47 #[(.agg (l8C s.c u1)), .int .u64 (k : Nat)] w (P8o w (s.adm k) (s.admitOut k))
  drop : ∀ {w : World} {s : L8} {u1 : Value} (_ : St8 w s u1) (_ : s.Ok) (k : Nat) (_ : k < 18446744073709551616), Calls Try.prog 49 #[(.agg (l8C s.c u1)), .int .u64 (k : Nat)] w (P8 w (s.drop k))
  resize : ∀ {w : World} {s : L8} {u1 : Value} (_ : St8 w s u1) (_ : s.Ok) (n : Int) (_ : -9223372036854775808 ≤ n) (_ : n ≤ 9223372036854775807), Calls Try.prog 31 #[(.agg (l8C s.c u1)), .int .i64 n] w (P8o w (s.resize n) (s.resizeOut n))
  has : ∀ {w : World} {s : L8} {u1 : Value} (_ : St8 w s u1) (_ : s.Ok) (k : Nat) (_ : k < 18446744073709551616), Calls Try.prog 23 #[(.agg (l8C s.c u1)), .int .u64 (k : Nat)] w (RetB w (decide (k ∈ s.keys)))
  keys : ∀ {w : World} {s : L8} {u1 : Value} (_ : St8 w s u1) (_ : s.Ok), Calls Try.prog 22 #[(.agg (l8C s.c u1))] w (RetK w s.keys)
  ghosts : ∀ {w : World} {s : L8} {u1 : Value} (_ : St8 w s u1) (_ : s.Ok), Calls Try.prog 25 #[(.agg (l8C s.c u1))] w (fun e w' => e = .returned (.int .i64 (s.ghosts : Nat)) ∧ Below w.heap.size w w')
end Go.Proofs.Ytiokejhplbadeaa
