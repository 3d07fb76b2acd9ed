/- Adaptive replacement: what the program's calls have to tell. -/
import Derived.Test.YtemgbiohfgcphaaRcB
namespace Go.Proofs.Ytemgbiohfgcphaa
open Go Go.RowKit Go.Deep

abbrev PT11 : TypeId := 26
structure Pol11Ok : Prop where
  new : ∀ (w : World) (n : Int) (_ : -9223372036854775808 ≤ n) (_ : n ≤ 9223372036854775807), Calls Try.prog 10 #[.int .i64 n] w (P11 w (L11.new n))
  touch : ∀ {w : World} {s : L11} {u1 u2 u3 u4 : Value} (_ : St11 w s u1 u2 u3 u4) (_ : s.Ok) (k : Nat) (_ : k < 18446744073709551616), Calls Try.prog 29 #[(.agg (l11C s.c s.p u1 u2 u3 u4)), .int .u64 (k : Nat)] w (P11 w (s.touch k))
  adm : ∀ {w : World} {s : L11} {u1 u2 u3 u4 : Value} (_ : St11 w s u1 u2 u3 u4) (_ : s.Ok) (k : Nat) (_ : k < 18446744073709551616), Calls Try.prog 27 #[(.agg (l11C s.c s.p u1 u2 u3 u4)), .int .u64 (k : Nat)] w (P11o w (s.adm k) (s.admitOut k))
  drop : ∀ {w : World} {s : L11} {u1 u2 u3 u4 : Value} (_ : St11 w s u1 u2 u3 u4) (_ : s.Ok) (k : Nat) (_ : k < 18446744073709551616), Calls Try.prog 30 #[(.agg (l11C s.c s.p u1 u2 u3 u4)), .int .u64 (k : Nat)] w (P11 w (s.drop k))
  resize : ∀ {w : World} {s : L11} {u1 u2 u3 u4 : Value} (_ : St11 w s u1 u2 u3 u4) (_ : s.Ok) (n : Int) (_ : -9223372036854775808 ≤ n) (_ : n ≤ 9223372036854775807), Calls Try.prog 33 #[(.agg (l11C s.c s.p u1 u2 u3 u4)), .int .i64 n] w (P11o w (s.resize n) (s.resizeOut n))
  has : ∀ {w : World} {s : L11} {u1 u2 u3 u4 : Value} (_ : St11 w s u1 u2 u3 u4) (_ : s.Ok) (k : Nat) (_ : k < 18446744073709551616), Calls Try.prog 19 #[(.agg (l11C s.c s.p u1 u2 u3 u4)), .int .u64 (k : Nat)] w (RetB w (decide (k ∈ s.keys)))
  keys : ∀ {w : World} {s : L11} {u1 u2 u3 u4 : Value} (_ : St11 w s u1 u2 u3 u4) (_ : s.Ok), Calls Try.prog 18 #[(.agg (l11C s.c s.p u1 u2 u3 u4))] w (RetK w s.keys)
  ghosts : ∀ {w : World} {s : L11} {u1 u2 u3 u4 : Value} (_ : St11 w s u1 u2 u3 u4) (_ : s.Ok), Calls Try.prog 21 #[(.agg (l11C s.c s.p u1 u2 u3 u4))] w (fun e w' => e = .returned (.int .i64 (s.ghosts : Nat)) ∧ Below w.heap.size w w')
end Go.Proofs.Ytemgbiohfgcphaa
