/- Three simple queues: what the program's calls have to tell. -/
import Derived.Test.YtlekhmpalcgbmaaS3B
namespace Go.Proofs.Ytlekhmpalcgbmaa
open Go Go.RowKit Go.Deep

abbrev PT10 : TypeId := 27
structure Pol10Ok : Prop where
  new : ∀ (w : World) (n : Int) (_ : -9223372036854775808 ≤ n) (_ : n ≤ 9223372036854775807), Calls Try.prog 9 #[.int .i64 n] w (P10 w (L10.new n))
  touch : ∀ {w : World} {s : L10} {u1 u2 u3 : Value} (_ : St10 w s u1 u2 u3) (_ : s.Ok) (k : Nat) (_ : k < 18446744073709551616), Calls Try.prog 27 #[(.agg (l10C s.c u1 u2 u3)), .int .u64 (k : Nat)] w (P10 w (s.touch k))
  adm : ∀ {w : World} {s : L10} {u1 u2 u3 : Value} (_ : St10 w s u1 u2 u3) (_ : s.Ok) (k : Nat) (_ : k < 18446744073709551616), Calls Try.prog 26 #[(.agg (l10C s.c u1 u2 u3)), .int .u64 (k : Nat)] w (P10o w (s.adm k) (s.admitOut k))
  drop : ∀ {w : World} {s : L10} {u1 u2 u3 : Value} (_ : St10 w s u1 u2 u3) (_ : s.Ok) (k : Nat) (_ : k < 18446744073709551616), Calls Try.prog 28 #[(.agg (l10C s.c u1 u2 u3)), .int .u64 (k : Nat)] w (P10 w (s.drop k))
  resize : ∀ {w : World} {s : L10} {u1 u2 u3 : Value} (_ : St10 w s u1 u2 u3) (_ : s.Ok) (n : Int) (_ : -9223372036854775808 ≤ n) (_ : n ≤ 9223372036854775807), Calls Try.prog 31 #[(.agg (l10C s.c u1 u2 u3)), .int .i64 n] w (P10o w (s.resize n) (s.resizeOut n))
  has : ∀ {w : World} {s : L10} {u1 u2 u3 : Value} (_ : St10 w s u1 u2 u3) (_ : s.Ok) (k : Nat) (_ : k < 18446744073709551616), Calls Try.prog 18 #[(.agg (l10C s.c u1 u2 u3)), .int .u64 (k : Nat)] w (RetB w (decide (k ∈ s.keys)))
  keys : ∀ {w : World} {s : L10} {u1 u2 u3 : Value} (_ : St10 w s u1 u2 u3) (_ : s.Ok), Calls Try.prog 17 #[(.agg (l10C s.c u1 u2 u3))] w (RetK w s.keys)
  ghosts : ∀ {w : World} {s : L10} {u1 u2 u3 : Value} (_ : St10 w s u1 u2 u3) (_ : s.Ok), Calls Try.prog 20 #[(.agg (l10C s.c u1 u2 u3))] w (fun e w' => e = .returned (.int .i64 (s.ghosts : Nat)) ∧ Below w.heap.size w w')
end Go.Proofs.Ytlekhmpalcgbmaa
