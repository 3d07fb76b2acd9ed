/- What the program's lists of keys have to tell: one contract a call. -/
import Derived.Test.YtmghbdmbflefpaaSqO
namespace Go.Proofs.Ytmghbdmbflefpaa
open Go Go.RowKit Go.Deep

structure SeqOk : Prop where
  has : ∀ {w : World} {v : Value} {ks : List Nat} (_ : KV w v ks) (_ : ks.length ≤ 100000000) (k : Nat), Calls Try.prog 12 #[v, .int .u64 (k : Nat)] w (RetB w (decide (k ∈ ks)))
  without : ∀ {w : World} {v : Value} {ks : List Nat} (_ : KV w v ks) (_ : ks.length ≤ 100000000) (k : Nat), Calls Try.prog 10 #[v, .int .u64 (k : Nat)] w (RetK w (wo k ks))
  front : ∀ {w : World} {v : Value} {ks : List Nat} (_ : KV w v ks) (_ : ks.length ≤ 100000000) (k : Nat), Calls Try.prog 11 #[v, .int .u64 (k : Nat)] w (RetK w (fr k ks))
  back : ∀ {w : World} {v : Value} {ks : List Nat} (_ : KV w v ks) (_ : ks.length ≤ 100000000), Calls Try.prog 19 #[v] w (RetBack w ks)
  fall : ∀ {w : World} {v : Value} {ks : List Nat} (_ : KV w v ks) (_ : ks.length ≤ 100000000) (n : Int) (_ : -9223372036854775808 ≤ n) (_ : n ≤ 9223372036854775807), Calls Try.prog 17 #[v, .int .i64 n] w (RetTwo w (ks.drop n.toNat).reverse (ks.take n.toNat))
  apart : ∀ {w : World} {v : Value} {kss : List (List Nat)} (_ : KVV w v kss) (_ : kss.length ≤ 1000) (_ : kss.flatten.length ≤ 100000000) (_ : ∀ k ∈ kss.flatten, k < 18446744073709551616), Calls Try.prog 21 #[v] w (RetB w (decide kss.flatten.Nodup))
end Go.Proofs.Ytmghbdmbflefpaa
