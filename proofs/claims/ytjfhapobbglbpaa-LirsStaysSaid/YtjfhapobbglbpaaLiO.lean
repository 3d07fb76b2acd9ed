/- Inter-reference recency: what the program's calls have to tell. -/
import Derived.Test.YtjfhapobbglbpaaLiB
namespace Go.Proofs.Ytjfhapobbglbpaa
open Go Go.RowKit Go.Deep

abbrev PT12 : TypeId := 27
structure Pol12Ok : Prop where
  new : ∀ (w : World) (n : Int) (_ : -9223372036854775808 ≤ n) (_ : n ≤ 9223372036854775807), Calls Try.prog 10 #[.int .i64 n] w (P12 w (L12.new n))
  touch : ∀ {w : World} {s : L12} {u1 u2 : Value} (_ : St12 w s u1 u2) (_ : s.Ok) (k : Nat) (_ : k < 18446744073709551616), Calls Try.prog 27 #[(.agg (l12C s.c u1 u2)), .int .u64 (k : Nat)] w (P12 w (s.touch k))
  adm : ∀ {w : World} {s : L12} {u1 u2 : Value} (_ : St12 w s u1 u2) (_ : s.Ok) (k : Nat) (_ : k < 18446744073709551616), Calls Try.prog 28 #[(.agg (l12C s.c u1 u2)), .int .u64 (k : Nat)] w (P12o w (s.adm k) (s.admitOut k))
  drop : ∀ {w : World} {s : L12} {u1 u2 : Value} (_ : St12 w s u1 u2) (_ : s.Ok) (k : Nat) (_ : k < 18446744073709551616), Calls Try.prog 29 #[(.agg (l12C s.c u1 u2)), .int .u64 (k : Nat)] w (P12 w (s.drop k))
  resize : ∀ {w : World} {s : L12} {u1 u2 : Value} (_ : St12 w s u1 u2) (_ : s.Ok) (n : Int) (_ : -9223372036854775808 ≤ n) (_ : n ≤ 9223372036854775807), Calls Try.prog 32 #[(.agg (l12C s.c u1 u2)), .int .i64 n] w (P12o w (s.resize n) (s.resizeOut n))
  has : ∀ {w : World} {s : L12} {u1 u2 : Value} (_ : St12 w s u1 u2) (_ : s.Ok) (k : Nat) (_ : k < 18446744073709551616), Calls Try.prog 19 #[(.agg (l12C s.c u1 u2)), .int .u64 (k : Nat)] w (RetB w (decide (k ∈ s.keys)))
  keys : ∀ {w : World} {s : L12} {u1 u2 : Value} (_ : St12 w s u1 u2) (_ : s.Ok), Calls Try.prog 18 #[(.agg (l12C s.c u1 u2))] w (RetK w s.keys)
  ghosts : ∀ {w : World} {s : L12} {u1 u2 : Value} (_ : St12 w s u1 u2) (_ : s.Ok), Calls Try.prog 21 #[(.agg (l12C s.c u1 u2))] w (fun e w' => e = .returned (.int .i64 (s.ghosts : Nat)) ∧ Below w.heap.size w w')
end Go.Proofs.Ytjfhapobbglbpaa
