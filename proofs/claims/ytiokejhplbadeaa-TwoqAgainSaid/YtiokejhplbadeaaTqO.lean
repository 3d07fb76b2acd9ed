/- Two queues: what the program's calls have to tell. -/
import Derived.Test.YtiokejhplbadeaaTqB
namespace Go.Proofs.Ytiokejhplbadeaa
open Go Go.RowKit Go.Deep

abbrev PT9 : TypeId := 61
structure Pol9Ok : Prop where
  new : ∀ (w : World) (n : Int) (_ : -9223372036854775808 ≤ n) (_ : n ≤ 9223372036854775807), Calls Try.prog 34 #[.int .i64 n] w (P9 w (L9.new n))
  touch : ∀ {w : World} {s : L9} {u1 u2 u3 : Value} (_ : St9 w s u1 u2 u3) (_ : s.Ok) (k : Nat) (_ : k < 18446744073709551616), Calls Try.prog 46 #[(.agg (l9C s.c u1 u2 u3)), .int .u64 (k : Nat)] w (P9 w (s.touch k))
  adm : ∀ {w : World} {s : L9} {u1 u2 u3 : Value} (_ : St9 w s u1 u2 u3) (_ : s.Ok) (k : Nat) (_ : k < 18446744073709551616), Calls Try.prog 45 #[(.agg (l9C s.c u1 u2 u3)), .int .u64 (k : Nat)] w (P9o w (s.adm k) (s.admitOut k))
  drop : ∀ {w : World} {s : L9} {u1 u2 u3 : Value} (_ : St9 w s u1 u2 u3) (_ : s.Ok) (k : Nat) (_ : k < 18446744073709551616), Calls Try.prog 59 #[(.agg (l9C s.c u1 u2 u3)), .int .u64 (k : Nat)] w (P9 w (s.drop k))
  resize : ∀ {w : World} {s : L9} {u1 u2 u3 : Value} (_ : St9 w s u1 u2 u3) (_ : s.Ok) (n : Int) (_ : -9223372036854775808 ≤ n) (_ : n ≤ 9223372036854775807), Calls Try.prog 60 #[(.agg (l9C s.c u1 u2 u3)), .int .i64 n] w (P9o w (s.resize n) (s.resizeOut n))
  has : ∀ {w : World} {s : L9} {u1 u2 u3 : Value} (_ : St9 w s u1 u2 u3) (_ : s.Ok) (k : Nat) (_ : k < 18446744073709551616), Calls Try.prog 42 #[(.agg (l9C s.c u1 u2 u3)), .int .u64 (k : Nat)] w (RetB w (decide (k ∈ s.keys)))
  keys : ∀ {w : World} {s : L9} {u1 u2 u3 : Value} (_ : St9 w s u1 u2 u3) (_ : s.Ok), Calls Try.prog 41 #[(.agg (l9C s.c u1 u2 u3))] w (RetK w s.keys)
  ghosts : ∀ {w : World} {s : L9} {u1 u2 u3 : Value} (_ : St9 w s u1 u2 u3) (_ : s.Ok), Calls Try.prog 43 #[(.agg (l9C s.c u1 u2 u3))] w (fun e w' => e = .returned (.int .i64 (s.ghosts : Nat)) ∧ Below w.heap.size w w')
end Go.Proofs.Ytiokejhplbadeaa
