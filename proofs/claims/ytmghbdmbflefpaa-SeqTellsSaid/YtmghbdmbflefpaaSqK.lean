/- The laws' awake. -/
import Derived.Test.YtmghbdmbflefpaaSqW
namespace Go.Proofs.Ytmghbdmbflefpaa
open Go Go.RowKit Go.Deep

theorem size_alloc7 (w : World) (o : Obj) : (w.alloc o).heap.size = w.heap.size + 1 := by simp
set_option maxHeartbeats 4000000 in
set_option maxRecDepth 4000 in
theorem awake7_walk (P : SeqOk) (w : World) : Calls Try.prog 8 #[] w (RetB w true) := by
  have H1 := Lib.hid (Ks.add (Ks.none w) ((Below.refl _ _).alloc (Nat.le_refl _) _) (KV.lit (w := w) [1, 2, 3] (by decide)))
  go_enter Try.func8, Try.ntmps8
  go_wp2_with fail
  refine (P.back (ks := [1, 2, 3]) (H1.out.kv (by simp)) (by decide)).mono ?_
  rintro e w2 ⟨v2, rfl, hb, hk⟩
  have H2 := Lib.hid (H1.out.add hb hk)
  obtain ⟨F2, c2, rfl, _⟩ := hk.mem
  clear hb hk H1
  go_wp2_with fail
  refine (P.fall (ks := [1, 2, 3]) (H2.out.kv (by simp)) (by decide) 1 (by decide) (by decide)).mono ?_
  rintro e w3 ⟨v3, v4, rfl, hb, hk1, hk2⟩
  have H3 := Lib.hid ((H2.out.add hb hk1).add (Below.refl _ _) hk2)
  obtain ⟨F3, c3, rfl, _⟩ := hk1.mem
  obtain ⟨F4, c4, rfl, _⟩ := hk2.mem
  clear hb hk1 hk2 H2
  go_wp2_with fail
  refine (P.has (ks := [1, 2, 3]) (H3.out.kv (by simp)) (by decide) 2).mono ?_
  rintro e w4 ⟨rfl, hb⟩
  have H4 := Lib.hid (H3.out.step hb)
  rw [show decide (2 ∈ [1, 2, 3]) = true from rfl]
  clear hb H3
  go_wp2_with fail
  refine (P.has (ks := [1, 2, 3]) (H4.out.kv (by simp)) (by decide) 4).mono ?_
  rintro e w5 ⟨rfl, hb⟩
  have H5 := Lib.hid (H4.out.step hb)
  rw [show decide (4 ∈ [1, 2, 3]) = false from rfl]
  clear hb H4
  go_wp2_with fail
  refine (P.front (ks := [1, 2, 3]) (H5.out.kv (by simp)) (by decide) 3).mono ?_
  rintro e w6 ⟨v6, rfl, hb, hk⟩
  have H6 := Lib.hid (H5.out.add hb hk)
  clear hb hk H5
  have H7 := Lib.hid (Ks.add H6.out ((Below.refl _ _).alloc (Nat.le_refl _) _) (KV.lit (w := w6) [3, 1, 2] (by decide)))
  clear H6
  go_wp2_with fail
  refine (same_walk (ks := fr 3 [1, 2, 3]) (js := [3, 1, 2]) (H7.out.kv (by simp)) (H7.out.kv (by simp)) (by decide)).mono ?_
  rintro e w8 ⟨rfl, hb⟩
  rw [show decide (fr 3 [1, 2, 3] = [3, 1, 2]) = true from rfl]
  have H8 := Lib.hid (H7.out.step hb)
  clear hb H7
  have H9 := Lib.hid (Ks.add H8.out ((Below.refl _ _).alloc (Nat.le_refl _) _) (KV.lit (w := w8) [3, 2] (by decide)))
  clear H8
  go_wp2_with fail
  refine (same_walk (ks := (List.drop (Int.toNat 1) [1, 2, 3]).reverse) (js := [3, 2]) (H9.out.kv (by simp)) (H9.out.kv (by simp)) (by decide)).mono ?_
  rintro e w9 ⟨rfl, hb⟩
  rw [show decide ((List.drop (Int.toNat 1) [1, 2, 3]).reverse = [3, 2]) = true from rfl]
  have HA := Lib.hid (H9.out.step hb)
  clear hb H9
  have HB := Lib.hid (Ks.add HA.out ((Below.refl _ _).alloc (Nat.le_refl _) _) (KV.lit (w := w9) [4] (by decide)))
  clear HA
  have HV := Lib.hid (KVV.two (HB.out.kv (v := .slice (some ⟨w.heap.size, 0, none⟩) 3 3) (ks := [1, 2, 3]) (by simp)) (HB.out.kv (v := .slice (some ⟨w9.heap.size, 0, none⟩) 1 1) (ks := [4]) (by simp)) 22)
  have HC := Lib.hid (HB.out.alloc (.cells #[.slice (some ⟨w.heap.size, 0, none⟩) 3 3, .slice (some ⟨w9.heap.size, 0, none⟩) 1 1] 22))
  clear HB
  go_wp2_with fail
  refine (P.apart (kss := [[1, 2, 3], [4]]) ?_ (by decide) (by decide) (by decide)).mono ?_
  · have h := HV.out
    rw [size_alloc7] at h
    exact h
  rintro e wa ⟨rfl, hb⟩
  rw [show decide [[1, 2, 3], [4]].flatten.Nodup = true from rfl]
  have HD := Lib.hid (HC.out.step hb)
  clear hb HC HV
  have HB := Lib.hid (Ks.add HD.out ((Below.refl _ _).alloc (Nat.le_refl _) _) (KV.lit (w := wa) [3] (by decide)))
  clear HD
  have HV := Lib.hid (KVV.two (HB.out.kv (v := .slice (some ⟨w.heap.size, 0, none⟩) 3 3) (ks := [1, 2, 3]) (by simp)) (HB.out.kv (v := .slice (some ⟨wa.heap.size, 0, none⟩) 1 1) (ks := [3]) (by simp)) 22)
  have HC := Lib.hid (HB.out.alloc (.cells #[.slice (some ⟨w.heap.size, 0, none⟩) 3 3, .slice (some ⟨wa.heap.size, 0, none⟩) 1 1] 22))
  clear HB
  go_wp2_with fail
  refine (P.apart (kss := [[1, 2, 3], [3]]) ?_ (by decide) (by decide) (by decide)).mono ?_
  · have h := HV.out
    rw [size_alloc7] at h
    exact h
  rintro e wb ⟨rfl, hb⟩
  rw [show decide [[1, 2, 3], [3]].flatten.Nodup = false from rfl]
  have HD := Lib.hid (HC.out.step hb)
  clear hb HC HV
  go_wp2
  go_ret
  exact ⟨rfl, HD.out.low⟩
end Go.Proofs.Ytmghbdmbflefpaa
