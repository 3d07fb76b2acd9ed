/- Words and walks for layer 6: SsD SsS. -/
import Derived.Test.YtnacmhljbnpdpaaGG6
import Derived.Test.YtnacmhljbnpdpaaGS3
import Derived.Test.YtnacmhljbnpdpaaGS5
import Derived.Test.YtnacmhljbnpdpaaGS6
/- The laws' acts: what one does, by the program and by the document. -/
namespace Go.Proofs.Ytnacmhljbnpdpaa
open Go Go.RowKit Go.Deep

structure Act6 where
  kind : Nat
  q : Int
  key : Nat
  val : Nat
  flag : Int
structure Act6.Ok (x : Act6) : Prop where
  kind : x.kind < 256
  key : x.key < 18446744073709551616
abbrev act6C (x : Act6) : Array Value := #[.int .u8 (x.kind : Nat), .int .i64 x.q, .int .u64 (x.key : Nat), .int .u64 (x.val : Nat), .int .i64 x.flag]
def Act6.ent (x : Act6) : Ent := ⟨x.key, x.val, x.flag⟩
/- Acts on a store that came in. -/
def Acts6 (w : World) (A : Option Addr) (n : Nat) (l : Nat → Act6) : Prop := ∀ k, k < n → (l k).Ok ∧ ∃ g off, A = some ⟨g, off, none⟩ ∧ g < w.heap.size ∧
  w.cell? ⟨g, off + k * 5, none⟩ = some (.int .u8 ((l k).kind : Nat)) ∧ w.cell? ⟨g, off + k * 5 + 1, none⟩ = some (.int .i64 (l k).q) ∧ w.cell? ⟨g, off + k * 5 + 2, none⟩ = some (.int .u64 ((l k).key : Nat)) ∧ w.cell? ⟨g, off + k * 5 + 3, none⟩ = some (.int .u64 ((l k).val : Nat)) ∧ w.cell? ⟨g, off + k * 5 + 4, none⟩ = some (.int .i64 (l k).flag)
theorem Acts6.below {w w' : World} {A : Option Addr} {n : Nat} {l : Nat → Act6} (h : Acts6 w A n l) (hb : Below w.heap.size w w') : Acts6 w' A n l := fun k hk => by
  obtain ⟨ok, g, off, e, hg, c0, c1, c2, c3, c4⟩ := h k hk
  have q := fun (j : Nat) => hb.cell (p := ⟨g, j, none⟩) hg
  exact ⟨ok, g, off, e, Nat.lt_of_lt_of_le hg hb.size, (q _).trans c0, (q _).trans c1, (q _).trans c2, (q _).trans c3, (q _).trans c4⟩

section
variable {w : World} {sp : Nat}
def BoolAnd (ok : Bool) (S : World → Prop) (e : Ending) (w' : World) : Prop := e = .returned (.bool ok) ∧ S w'
theorem do6_0 (x : Act6) (wf : x.Ok) (hk : x.kind % 6 = 0) (ok : Bool) (S : World → Prop) (hc : ∀ W, Below w.heap.size w W → Calls Try.prog 25 #[ptr sp, .int .i64 x.q, .int .u64 (x.key : Nat)] W (BoolAnd ok S)) :
    Calls Try.prog 20 #[ptr sp, .agg (act6C x)] w (BoolAnd ok S) := by
  have HC := Lib.hid (hc _ ((Below.refl _ _).alloc (Nat.le_refl _) (.cells (act6C x) 52)))
  have k1 := wf.kind
  have e1 : (x.kind : Int) % 6 = 0 := by omega
  have e2 : (x.kind : Int).tmod 6 = 0 := by rw [Int.tmod_eq_emod_of_nonneg (by omega)]; exact e1
  clear hc wf hk
  go_enter Try.func20, Try.ntmps20
  go_wp2_with fail
  refine HC.out.mono ?_
  rintro e w1 ⟨rfl, h1⟩
  have H1 := Lib.hid h1
  clear h1 HC
  go_wp2
  go_ret
  exact ⟨rfl, H1.out⟩
theorem do6_1 (x : Act6) (wf : x.Ok) (hk : x.kind % 6 = 1) (ok : Bool) (S : World → Prop) (hc : ∀ W, Below w.heap.size w W → Calls Try.prog 26 #[ptr sp, .int .i64 x.q, .int .u64 (x.key : Nat)] W (BoolAnd ok S)) :
    Calls Try.prog 20 #[ptr sp, .agg (act6C x)] w (BoolAnd ok S) := by
  have HC := Lib.hid (hc _ ((Below.refl _ _).alloc (Nat.le_refl _) (.cells (act6C x) 52)))
  have k1 := wf.kind
  have e1 : (x.kind : Int) % 6 = 1 := by omega
  have e2 : (x.kind : Int).tmod 6 = 1 := by rw [Int.tmod_eq_emod_of_nonneg (by omega)]; exact e1
  clear hc wf hk
  go_enter Try.func20, Try.ntmps20
  go_wp2_with fail
  refine HC.out.mono ?_
  rintro e w1 ⟨rfl, h1⟩
  have H1 := Lib.hid h1
  clear h1 HC
  go_wp2
  go_ret
  exact ⟨rfl, H1.out⟩
theorem do6_2 (x : Act6) (wf : x.Ok) (hk : x.kind % 6 = 2) (ok : Bool) (S : World → Prop) (hc : ∀ W, Below w.heap.size w W → Calls Try.prog 27 #[ptr sp, .int .i64 x.q, .int .u64 (x.key : Nat)] W (BoolAnd ok S)) :
    Calls Try.prog 20 #[ptr sp, .agg (act6C x)] w (BoolAnd ok S) := by
  have HC := Lib.hid (hc _ ((Below.refl _ _).alloc (Nat.le_refl _) (.cells (act6C x) 52)))
  have k1 := wf.kind
  have e1 : (x.kind : Int) % 6 = 2 := by omega
  have e2 : (x.kind : Int).tmod 6 = 2 := by rw [Int.tmod_eq_emod_of_nonneg (by omega)]; exact e1
  clear hc wf hk
  go_enter Try.func20, Try.ntmps20
  go_wp2_with fail
  refine HC.out.mono ?_
  rintro e w1 ⟨rfl, h1⟩
  have H1 := Lib.hid h1
  clear h1 HC
  go_wp2
  go_ret
  exact ⟨rfl, H1.out⟩
theorem do6_3 (x : Act6) (wf : x.Ok) (hk : x.kind % 6 = 3) (ok : Bool) (S : World → Prop) (hc : ∀ W, Below w.heap.size w W → Calls Try.prog 28 #[ptr sp, .int .u64 (x.key : Nat)] W (BoolAnd ok S)) :
    Calls Try.prog 20 #[ptr sp, .agg (act6C x)] w (BoolAnd ok S) := by
  have HC := Lib.hid (hc _ ((Below.refl _ _).alloc (Nat.le_refl _) (.cells (act6C x) 52)))
  have k1 := wf.kind
  have e1 : (x.kind : Int) % 6 = 3 := by omega
  have e2 : (x.kind : Int).tmod 6 = 3 := by rw [Int.tmod_eq_emod_of_nonneg (by omega)]; exact e1
  clear hc wf hk
  go_enter Try.func20, Try.ntmps20
  go_wp2_with fail
  refine HC.out.mono ?_
  rintro e w1 ⟨rfl, h1⟩
  have H1 := Lib.hid h1
  clear h1 HC
  go_wp2
  go_ret
  exact ⟨rfl, H1.out⟩
theorem do6_4 (x : Act6) (wf : x.Ok) (hk : x.kind % 6 = 4) (ok : Bool) (S : World → Prop) (hc : ∀ W, Below w.heap.size w W → Calls Try.prog 29 #[ptr sp, .int .u64 (x.key : Nat), .int .u64 (x.val : Nat)] W (BoolAnd ok S)) :
    Calls Try.prog 20 #[ptr sp, .agg (act6C x)] w (BoolAnd ok S) := by
  have HC := Lib.hid (hc _ ((Below.refl _ _).alloc (Nat.le_refl _) (.cells (act6C x) 52)))
  have k1 := wf.kind
  have e1 : (x.kind : Int) % 6 = 4 := by omega
  have e2 : (x.kind : Int).tmod 6 = 4 := by rw [Int.tmod_eq_emod_of_nonneg (by omega)]; exact e1
  clear hc wf hk
  go_enter Try.func20, Try.ntmps20
  go_wp2_with fail
  refine HC.out.mono ?_
  rintro e w1 ⟨rfl, h1⟩
  have H1 := Lib.hid h1
  clear h1 HC
  go_wp2
  go_ret
  exact ⟨rfl, H1.out⟩
theorem do6_5 (x : Act6) (wf : x.Ok) (hk : x.kind % 6 = 5) (ok : Bool) (S : World → Prop) (hc : ∀ W, Below w.heap.size w W → Calls Try.prog 30 #[ptr sp, .int .u64 (x.key : Nat), .int .i64 x.flag] W (BoolAnd ok S)) :
    Calls Try.prog 20 #[ptr sp, .agg (act6C x)] w (BoolAnd ok S) := by
  have HC := Lib.hid (hc _ ((Below.refl _ _).alloc (Nat.le_refl _) (.cells (act6C x) 52)))
  have k1 := wf.kind
  have e1 : (x.kind : Int) % 6 = 5 := by omega
  have e2 : (x.kind : Int).tmod 6 = 5 := by rw [Int.tmod_eq_emod_of_nonneg (by omega)]; exact e1
  clear hc wf hk
  go_enter Try.func20, Try.ntmps20
  go_wp2_with fail
  refine HC.out.mono ?_
  rintro e w1 ⟨rfl, h1⟩
  have H1 := Lib.hid h1
  clear h1 HC
  go_wp2
  go_ret
  exact ⟨rfl, H1.out⟩
end
section
variable {w : World} {o n oc m g c : Nat} {Q : Nat → List Ent} {U : Tb} {K : List Nat} {m' : Nat} {Q' : Nat → List Ent} {U' : Tb}
/- The document's Do behind its act. -/
theorem rdo6_fin {ok : Bool} {w5 : World} {o5 oc5 g5 c5 : Nat} {K5 : List Nat} {CS CA : Array Value} (h : RSA w o n oc m g c Q U K)
    (hb : Below (((w.alloc (.cells CS 30)).alloc (.cells CA 52)).alloc (.cells #[.slice none 0 0, .int .i64 0, .slice none 0 0] 30)).heap.size (((w.alloc (.cells CS 30)).alloc (.cells CA 52)).alloc (.cells #[.slice none 0 0, .int .i64 0, .slice none 0 0] 30)) w5)
    (hr : RSA w5 o5 n oc5 m' g5 c5 Q' U' K5) (hk : ∀ k ∈ K5, k ∈ K ∨ (((w.alloc (.cells CS 30)).alloc (.cells CA 52)).alloc (.cells #[.slice none 0 0, .int .i64 0, .slice none 0 0] 30)).heap.size ≤ k) :
    ((w5.cell? ⟨w.heap.size + 2, 0, none⟩ = some (.slice none 0 0) ∧ w5.cell? ⟨w.heap.size + 2, 1, none⟩ = some (.int .i64 0) ∧ w5.cell? ⟨w.heap.size + 2, 2, none⟩ = some (.slice none 0 0)) ∧ w5.frozen? ⟨w.heap.size + 2, 0, none⟩ = false ∧ w5.frozen? ⟨w.heap.size + 2, 1, none⟩ = false ∧ w5.frozen? ⟨w.heap.size + 2, 2, none⟩ = false) ∧
    ∀ V, V = ((w5.setCell ⟨w.heap.size + 2, 0, none⟩ (.slice (some ⟨o5, 0, none⟩) n oc5)).setCell ⟨w.heap.size + 2, 1, none⟩ (.int .i64 (m' : Nat))).setCell ⟨w.heap.size + 2, 2, none⟩ (.slice (some ⟨g5, 0, none⟩) U'.n c5) →
      (V.cell? ⟨w.heap.size + 2, 0, none⟩ = some (.slice (some ⟨o5, 0, none⟩) n oc5) ∧ V.cell? ⟨w.heap.size + 2, 1, none⟩ = some (.int .i64 (m' : Nat)) ∧ V.cell? ⟨w.heap.size + 2, 2, none⟩ = some (.slice (some ⟨g5, 0, none⟩) U'.n c5)) ∧ SPost w n m' Q' U' K (fun v => .tuple #[v, .bool ok]) (.returned (.tuple #[.agg (refSC o5 n oc5 m' g5 U'.n c5), .bool ok])) V := by
  obtain ⟨hb1, hs1, _, _, hB2⟩ := three_blocks hb
  refine ⟨three_at hB2, fun V hV => ?_⟩
  refine sres_post (f := fun v => .tuple #[v, .bool ok]) hB2 hb1 (by omega) hr (fun q => ?_) (fun k hk' => ?_) V hV
  · rcases hk _ q with q | q
    · have := h.old _ q; omega
    · simp at q; omega
  · rcases hk k hk' with q | q
    · exact .inl q
    · simp at q; exact .inr (by omega)
set_option maxHeartbeats 1000000 in
theorem rdo6_0 (h : RSA w o n oc m g c Q U K) (x : Act6) (wf : x.Ok) (hk : x.kind % 6 = 0) (ok : Bool) (hc : ∀ W, RSA W o n oc m g c Q U K → Calls Try.prog 47 #[.agg (refSC o n oc m g U.n c), .int .i64 x.q, .int .u64 (x.key : Nat), .bool true] W (SPost W n m' Q' U' K (fun v => .tuple #[v, .bool ok]))) :
    Calls Try.prog 21 #[.agg (refSC o n oc m g U.n c), .agg (act6C x)] w (SPost w n m' Q' U' K (fun v => .tuple #[v, .bool ok])) := by
  have hb3 := (((Below.refl w.heap.size w).alloc (Nat.le_refl _) (.cells (refSC o n oc m g U.n c) 30)).alloc (by simp) (.cells (act6C x) 52)).alloc (by simp; omega) (.cells #[.slice none 0 0, .int .i64 0, .slice none 0 0] 30)
  have HC := Lib.hid (hc _ (h.below hb3))
  have HR := Lib.hid h
  have h8 := h.n8
  have k1 := wf.kind
  have e1 : (x.kind : Int) % 6 = 0 := by omega
  have e2 : (x.kind : Int).tmod 6 = 0 := by rw [Int.tmod_eq_emod_of_nonneg (by omega)]; exact e1
  clear h hc wf hk hb3
  go_enter Try.func21, Try.ntmps21
  go_wp2_with fail
  refine HC.out.mono ?_
  rintro e w5 ⟨o5, oc5, g5, c5, K5, rfl, hb5, hr5, hk5⟩
  obtain ⟨⟨⟨x0, x1, x2⟩, z0, z1, z2⟩, hF⟩ := rdo6_fin (ok := ok) HR.out hb5 hr5 hk5
  have HF := Lib.hid hF
  clear hb5 hr5 hk5 hF HC
  go_wp2_with fail
  obtain ⟨⟨y0, y1, y2⟩, hP⟩ := HF.out _ rfl
  generalize ((w5.setCell ⟨w.heap.size + 2, 0, none⟩ (.slice (some ⟨o5, 0, none⟩) n oc5)).setCell ⟨w.heap.size + 2, 1, none⟩ (.int .i64 (m' : Nat))).setCell ⟨w.heap.size + 2, 2, none⟩ (.slice (some ⟨g5, 0, none⟩) U'.n c5) = V at y0 y1 y2 hP ⊢
  exact bodyPost_ret (v := .tuple #[.agg (refSC o5 n oc5 m' g5 U'.n c5), .bool ok]) (by simp [results, Try.results21, go_sem, y0, y1, y2]) rfl hP
set_option maxHeartbeats 1000000 in
theorem rdo6_1 (h : RSA w o n oc m g c Q U K) (x : Act6) (wf : x.Ok) (hk : x.kind % 6 = 1) (ok : Bool) (hc : ∀ W, RSA W o n oc m g c Q U K → Calls Try.prog 47 #[.agg (refSC o n oc m g U.n c), .int .i64 x.q, .int .u64 (x.key : Nat), .bool false] W (SPost W n m' Q' U' K (fun v => .tuple #[v, .bool ok]))) :
    Calls Try.prog 21 #[.agg (refSC o n oc m g U.n c), .agg (act6C x)] w (SPost w n m' Q' U' K (fun v => .tuple #[v, .bool ok])) := by
  have hb3 := (((Below.refl w.heap.size w).alloc (Nat.le_refl _) (.cells (refSC o n oc m g U.n c) 30)).alloc (by simp) (.cells (act6C x) 52)).alloc (by simp; omega) (.cells #[.slice none 0 0, .int .i64 0, .slice none 0 0] 30)
  have HC := Lib.hid (hc _ (h.below hb3))
  have HR := Lib.hid h
  have h8 := h.n8
  have k1 := wf.kind
  have e1 : (x.kind : Int) % 6 = 1 := by omega
  have e2 : (x.kind : Int).tmod 6 = 1 := by rw [Int.tmod_eq_emod_of_nonneg (by omega)]; exact e1
  clear h hc wf hk hb3
  go_enter Try.func21, Try.ntmps21
  go_wp2_with fail
  refine HC.out.mono ?_
  rintro e w5 ⟨o5, oc5, g5, c5, K5, rfl, hb5, hr5, hk5⟩
  obtain ⟨⟨⟨x0, x1, x2⟩, z0, z1, z2⟩, hF⟩ := rdo6_fin (ok := ok) HR.out hb5 hr5 hk5
  have HF := Lib.hid hF
  clear hb5 hr5 hk5 hF HC
  go_wp2_with fail
  obtain ⟨⟨y0, y1, y2⟩, hP⟩ := HF.out _ rfl
  generalize ((w5.setCell ⟨w.heap.size + 2, 0, none⟩ (.slice (some ⟨o5, 0, none⟩) n oc5)).setCell ⟨w.heap.size + 2, 1, none⟩ (.int .i64 (m' : Nat))).setCell ⟨w.heap.size + 2, 2, none⟩ (.slice (some ⟨g5, 0, none⟩) U'.n c5) = V at y0 y1 y2 hP ⊢
  exact bodyPost_ret (v := .tuple #[.agg (refSC o5 n oc5 m' g5 U'.n c5), .bool ok]) (by simp [results, Try.results21, go_sem, y0, y1, y2]) rfl hP
set_option maxHeartbeats 1000000 in
theorem rdo6_2 (h : RSA w o n oc m g c Q U K) (x : Act6) (wf : x.Ok) (hk : x.kind % 6 = 2) (ok : Bool) (hc : ∀ W, RSA W o n oc m g c Q U K → Calls Try.prog 48 #[.agg (refSC o n oc m g U.n c), .int .i64 x.q, .int .u64 (x.key : Nat)] W (SPost W n m' Q' U' K (fun v => .tuple #[v, .bool ok]))) :
    Calls Try.prog 21 #[.agg (refSC o n oc m g U.n c), .agg (act6C x)] w (SPost w n m' Q' U' K (fun v => .tuple #[v, .bool ok])) := by
  have hb3 := (((Below.refl w.heap.size w).alloc (Nat.le_refl _) (.cells (refSC o n oc m g U.n c) 30)).alloc (by simp) (.cells (act6C x) 52)).alloc (by simp; omega) (.cells #[.slice none 0 0, .int .i64 0, .slice none 0 0] 30)
  have HC := Lib.hid (hc _ (h.below hb3))
  have HR := Lib.hid h
  have h8 := h.n8
  have k1 := wf.kind
  have e1 : (x.kind : Int) % 6 = 2 := by omega
  have e2 : (x.kind : Int).tmod 6 = 2 := by rw [Int.tmod_eq_emod_of_nonneg (by omega)]; exact e1
  clear h hc wf hk hb3
  go_enter Try.func21, Try.ntmps21
  go_wp2_with fail
  refine HC.out.mono ?_
  rintro e w5 ⟨o5, oc5, g5, c5, K5, rfl, hb5, hr5, hk5⟩
  obtain ⟨⟨⟨x0, x1, x2⟩, z0, z1, z2⟩, hF⟩ := rdo6_fin (ok := ok) HR.out hb5 hr5 hk5
  have HF := Lib.hid hF
  clear hb5 hr5 hk5 hF HC
  go_wp2_with fail
  obtain ⟨⟨y0, y1, y2⟩, hP⟩ := HF.out _ rfl
  generalize ((w5.setCell ⟨w.heap.size + 2, 0, none⟩ (.slice (some ⟨o5, 0, none⟩) n oc5)).setCell ⟨w.heap.size + 2, 1, none⟩ (.int .i64 (m' : Nat))).setCell ⟨w.heap.size + 2, 2, none⟩ (.slice (some ⟨g5, 0, none⟩) U'.n c5) = V at y0 y1 y2 hP ⊢
  exact bodyPost_ret (v := .tuple #[.agg (refSC o5 n oc5 m' g5 U'.n c5), .bool ok]) (by simp [results, Try.results21, go_sem, y0, y1, y2]) rfl hP
set_option maxHeartbeats 1000000 in
theorem rdo6_3 (h : RSA w o n oc m g c Q U K) (x : Act6) (wf : x.Ok) (hk : x.kind % 6 = 3) (ok : Bool) (hc : ∀ W, RSA W o n oc m g c Q U K → Calls Try.prog 49 #[.agg (refSC o n oc m g U.n c), .int .u64 (x.key : Nat)] W (SPost W n m' Q' U' K (fun v => .tuple #[v, .bool ok]))) :
    Calls Try.prog 21 #[.agg (refSC o n oc m g U.n c), .agg (act6C x)] w (SPost w n m' Q' U' K (fun v => .tuple #[v, .bool ok])) := by
  have hb3 := (((Below.refl w.heap.size w).alloc (Nat.le_refl _) (.cells (refSC o n oc m g U.n c) 30)).alloc (by simp) (.cells (act6C x) 52)).alloc (by simp; omega) (.cells #[.slice none 0 0, .int .i64 0, .slice none 0 0] 30)
  have HC := Lib.hid (hc _ (h.below hb3))
  have HR := Lib.hid h
  have h8 := h.n8
  have k1 := wf.kind
  have e1 : (x.kind : Int) % 6 = 3 := by omega
  have e2 : (x.kind : Int).tmod 6 = 3 := by rw [Int.tmod_eq_emod_of_nonneg (by omega)]; exact e1
  clear h hc wf hk hb3
  go_enter Try.func21, Try.ntmps21
  go_wp2_with fail
  refine HC.out.mono ?_
  rintro e w5 ⟨o5, oc5, g5, c5, K5, rfl, hb5, hr5, hk5⟩
  obtain ⟨⟨⟨x0, x1, x2⟩, z0, z1, z2⟩, hF⟩ := rdo6_fin (ok := ok) HR.out hb5 hr5 hk5
  have HF := Lib.hid hF
  clear hb5 hr5 hk5 hF HC
  go_wp2_with fail
  obtain ⟨⟨y0, y1, y2⟩, hP⟩ := HF.out _ rfl
  generalize ((w5.setCell ⟨w.heap.size + 2, 0, none⟩ (.slice (some ⟨o5, 0, none⟩) n oc5)).setCell ⟨w.heap.size + 2, 1, none⟩ (.int .i64 (m' : Nat))).setCell ⟨w.heap.size + 2, 2, none⟩ (.slice (some ⟨g5, 0, none⟩) U'.n c5) = V at y0 y1 y2 hP ⊢
  exact bodyPost_ret (v := .tuple #[.agg (refSC o5 n oc5 m' g5 U'.n c5), .bool ok]) (by simp [results, Try.results21, go_sem, y0, y1, y2]) rfl hP
set_option maxHeartbeats 1000000 in
theorem rdo6_4 (h : RSA w o n oc m g c Q U K) (x : Act6) (wf : x.Ok) (hk : x.kind % 6 = 4) (ok : Bool) (hc : ∀ W, RSA W o n oc m g c Q U K → Calls Try.prog 50 #[.agg (refSC o n oc m g U.n c), .agg #[.int .u64 (x.key : Nat), .int .u64 (x.val : Nat), .int .i64 x.flag], .bool false] W (SPost W n m' Q' U' K (fun v => .tuple #[v, .bool ok]))) :
    Calls Try.prog 21 #[.agg (refSC o n oc m g U.n c), .agg (act6C x)] w (SPost w n m' Q' U' K (fun v => .tuple #[v, .bool ok])) := by
  have hb3 := (((Below.refl w.heap.size w).alloc (Nat.le_refl _) (.cells (refSC o n oc m g U.n c) 30)).alloc (by simp) (.cells (act6C x) 52)).alloc (by simp; omega) (.cells #[.slice none 0 0, .int .i64 0, .slice none 0 0] 30)
  have HC := Lib.hid (hc _ (h.below hb3))
  have HR := Lib.hid h
  have h8 := h.n8
  have k1 := wf.kind
  have e1 : (x.kind : Int) % 6 = 4 := by omega
  have e2 : (x.kind : Int).tmod 6 = 4 := by rw [Int.tmod_eq_emod_of_nonneg (by omega)]; exact e1
  clear h hc wf hk hb3
  go_enter Try.func21, Try.ntmps21
  go_wp2_with fail
  refine HC.out.mono ?_
  rintro e w5 ⟨o5, oc5, g5, c5, K5, rfl, hb5, hr5, hk5⟩
  obtain ⟨⟨⟨x0, x1, x2⟩, z0, z1, z2⟩, hF⟩ := rdo6_fin (ok := ok) HR.out hb5 hr5 hk5
  have HF := Lib.hid hF
  clear hb5 hr5 hk5 hF HC
  go_wp2_with fail
  obtain ⟨⟨y0, y1, y2⟩, hP⟩ := HF.out _ rfl
  generalize ((w5.setCell ⟨w.heap.size + 2, 0, none⟩ (.slice (some ⟨o5, 0, none⟩) n oc5)).setCell ⟨w.heap.size + 2, 1, none⟩ (.int .i64 (m' : Nat))).setCell ⟨w.heap.size + 2, 2, none⟩ (.slice (some ⟨g5, 0, none⟩) U'.n c5) = V at y0 y1 y2 hP ⊢
  exact bodyPost_ret (v := .tuple #[.agg (refSC o5 n oc5 m' g5 U'.n c5), .bool ok]) (by simp [results, Try.results21, go_sem, y0, y1, y2]) rfl hP
set_option maxHeartbeats 1000000 in
theorem rdo6_5 (h : RSA w o n oc m g c Q U K) (x : Act6) (wf : x.Ok) (hk : x.kind % 6 = 5) (ok : Bool) (hc : ∀ W, RSA W o n oc m g c Q U K → Calls Try.prog 50 #[.agg (refSC o n oc m g U.n c), .agg #[.int .u64 (x.key : Nat), .int .u64 (x.val : Nat), .int .i64 x.flag], .bool true] W (SPost W n m' Q' U' K (fun v => .tuple #[v, .bool ok]))) :
    Calls Try.prog 21 #[.agg (refSC o n oc m g U.n c), .agg (act6C x)] w (SPost w n m' Q' U' K (fun v => .tuple #[v, .bool ok])) := by
  have hb3 := (((Below.refl w.heap.size w).alloc (Nat.le_refl _) (.cells (refSC o n oc m g U.n c) 30)).alloc (by simp) (.cells (act6C x) 52)).alloc (by simp; omega) (.cells #[.slice none 0 0, .int .i64 0, .slice none 0 0] 30)
  have HC := Lib.hid (hc _ (h.below hb3))
  have HR := Lib.hid h
  have h8 := h.n8
  have k1 := wf.kind
  have e1 : (x.kind : Int) % 6 = 5 := by omega
  have e2 : (x.kind : Int).tmod 6 = 5 := by rw [Int.tmod_eq_emod_of_nonneg (by omega)]; exact e1
  clear h hc wf hk hb3
  go_enter Try.func21, Try.ntmps21
  go_wp2_with fail
  refine HC.out.mono ?_
  rintro e w5 ⟨o5, oc5, g5, c5, K5, rfl, hb5, hr5, hk5⟩
  obtain ⟨⟨⟨x0, x1, x2⟩, z0, z1, z2⟩, hF⟩ := rdo6_fin (ok := ok) HR.out hb5 hr5 hk5
  have HF := Lib.hid hF
  clear hb5 hr5 hk5 hF HC
  go_wp2_with fail
  obtain ⟨⟨y0, y1, y2⟩, hP⟩ := HF.out _ rfl
  generalize ((w5.setCell ⟨w.heap.size + 2, 0, none⟩ (.slice (some ⟨o5, 0, none⟩) n oc5)).setCell ⟨w.heap.size + 2, 1, none⟩ (.int .i64 (m' : Nat))).setCell ⟨w.heap.size + 2, 2, none⟩ (.slice (some ⟨g5, 0, none⟩) U'.n c5) = V at y0 y1 y2 hP ⊢
  exact bodyPost_ret (v := .tuple #[.agg (refSC o5 n oc5 m' g5 U'.n c5), .bool ok]) (by simp [results, Try.results21, go_sem, y0, y1, y2]) rfl hP
end
end Go.Proofs.Ytnacmhljbnpdpaa
/- The laws' acts: by the program and by the document, told at once. -/
namespace Go.Proofs.Ytnacmhljbnpdpaa
open Go Go.RowKit Go.Deep

def StepOk (n : Nat) (Q : Nat → List Ent) (m : Nat) (U : Tb) (most : Nat) (x : Act6) (Q' : Nat → List Ent) (m' : Nat) (U' : Tb) (ok : Bool) : Prop :=
  (∀ (w0 w : World) (sp : Nat) (K : List Nat), SI w0 w sp n Q m U most K → Calls Try.prog 20 #[ptr sp, .agg (act6C x)] w (SIPost w0 w sp n Q' m' U' (max most (sumE Q' n)) K ok)) ∧
  (∀ (w : World) (o oc g c : Nat) (K : List Nat), RSA w o n oc m g c Q U K → Calls Try.prog 21 #[.agg (refSC o n oc m g U.n c), .agg (act6C x)] w (SPost w n m' Q' U' K (fun v => .tuple #[v, .bool ok]))) ∧
  sumE Q' n ≤ most + 1
theorem half {w0 w : World} {sp n m m' most most' : Nat} {Q Q' : Nat → List Ent} {U U' : Tb} {K : List Nat} {f : FuncId} {args : Array Value} {ok : Bool} (h : SI w0 w sp n Q m U most K)
    (hf : ∀ W, SI w0 W sp n Q m U most K → Calls Try.prog f args W (SIPost w0 W sp n Q' m' U' most' K ok)) (hle : most' ≤ max most (sumE Q' n)) :
    ∀ W, Below w.heap.size w W → Calls Try.prog f args W (BoolAnd ok (fun w' => SI w0 w' sp n Q' m' U' (max most (sumE Q' n)) K ∧ Kept K w w')) := fun W hb =>
  (hf W (h.still hb).1).mono fun _ _ ⟨he, hs, hk⟩ => ⟨he, hs.more hle, Kept.trans (h.still hb).2 hk⟩
section
variable {n m most : Nat} {Q : Nat → List Ent} {U : Tb} {x : Act6}
theorem QOk.len (h : QOk n Q m U most) (hm : most ≤ 1000) {t : Nat} (ht : t < n) : (Q t).length ≤ 1000 := by
  have := sumE_ge n ht (Q := Q)
  have := h.le
  omega
theorem sum_upd_same {t : Nat} {xs : List Ent} (ht : t < n) (e : xs.length = (Q t).length) : sumE (upd Q t xs) n = sumE Q n := by
  have := sumE_upd (Q := Q) (t := t) (xs := xs) n ht
  omega
theorem sum_cut {t i : Nat} (ht : t < n) (hi : i < (Q t).length) : sumE (upd Q t (cutE (Q t) i)) n + 1 = sumE Q n := by
  have := sumE_upd (Q := Q) (t := t) (xs := cutE (Q t) i) n ht
  have := cutE_len (Q t) i hi
  omega
theorem sum_move {t i t1 : Nat} {y : Ent} (ht : t < n) (hi : i < (Q t).length) (ht1 : t1 < n) : sumE (movE Q t i t1 y) n = sumE Q n := by
  have h1 := sum_cut (Q := Q) ht hi
  have h2 := sumE_upd (Q := upd Q t (cutE (Q t) i)) (t := t1) (xs := y :: upd Q t (cutE (Q t) i) t1) n ht1
  unfold movE
  simp at h2
  omega
theorem tag_cases (n : Nat) (q : Int) : q < 0 ∨ (0 ≤ q ∧ (n : Int) ≤ q) ∨ ∃ t : Nat, q = t ∧ t < n := by
  rcases Int.lt_or_le q 0 with h | h
  · exact .inl h
  · rcases Int.lt_or_le q n with h2 | h2
    · exact .inr (.inr ⟨q.toNat, by omega, by omega⟩)
    · exact .inr (.inl ⟨h, h2⟩)
theorem step_0 (h : QOk n Q m U most) (hm : most ≤ 1000) (wf : x.Ok) (hk : x.kind % 6 = 0) : ∃ Q' m' U' ok, StepOk n Q m U most x Q' m' U' ok := by
  have hle := h.le
  have han := h.an
  have htn := h.tn
  have hno : ∀ q : Int, q = x.q → (q < 0 ∨ (0 ≤ q ∧ (n : Int) ≤ q) ∨ (0 ≤ q ∧ q < (n : Int) ∧ ¬ NoKey n Q x.key)) → StepOk n Q m U most x Q m U false := fun q hq hn => by
    subst hq
    exact ⟨fun w0 w sp K hs => do6_0 x wf hk false _ (half hs (fun W hW => (si_push_no hW (by omega) x.q x.key wf.key hn).1) (by omega)), fun w o oc g c K hr => rdo6_0 hr x wf hk false (fun W hW => spush_no hW h.uq x.q x.key true hn), by omega⟩
  rcases tag_cases n x.q with hq | hq | ⟨t, hq, ht⟩
  · exact ⟨_, _, _, _, hno _ rfl (.inl hq)⟩
  · exact ⟨_, _, _, _, hno _ rfl (.inr (.inl hq))⟩
  · by_cases hkk : NoKey n Q x.key
    · have hl := h.len hm ht
      have hsum : sumE (pushedQ true Q t x.key) n = sumE Q n + 1 := by
        have := sumE_upd (Q := Q) (t := t) (xs := if true then ⟨x.key, 0, 0⟩ :: Q t else Q t ++ [⟨x.key, 0, 0⟩]) n ht
        unfold pushedQ
        simp at this ⊢
        omega
      refine ⟨pushedQ true Q t x.key, roomE Q n m, U.put x.key 1, true, fun w0 w sp K hs => do6_0 x wf hk true _ (half hs (fun W hW => ?_) (by rw [hsum]; exact Nat.le_refl _)), fun w o oc g c K hr => rdo6_0 hr x wf hk true (fun W hW => ?_), by omega⟩
      · rw [hq]
        exact (si_push hW (by omega) t ht x.key wf.key hkk).1
      · rw [hq]
        exact spush_front hW h.good (by omega) h.keys x.key wf.key hkk t ht (by omega) (by omega)
    · exact ⟨_, _, _, _, hno _ rfl (.inr (.inr ⟨by omega, by omega, hkk⟩))⟩
theorem step_1 (h : QOk n Q m U most) (hm : most ≤ 1000) (wf : x.Ok) (hk : x.kind % 6 = 1) : ∃ Q' m' U' ok, StepOk n Q m U most x Q' m' U' ok := by
  have hle := h.le
  have han := h.an
  have htn := h.tn
  have hno : ∀ q : Int, q = x.q → (q < 0 ∨ (0 ≤ q ∧ (n : Int) ≤ q) ∨ (0 ≤ q ∧ q < (n : Int) ∧ ¬ NoKey n Q x.key)) → StepOk n Q m U most x Q m U false := fun q hq hn => by
    subst hq
    exact ⟨fun w0 w sp K hs => do6_1 x wf hk false _ (half hs (fun W hW => (si_push_no hW (by omega) x.q x.key wf.key hn).2) (by omega)), fun w o oc g c K hr => rdo6_1 hr x wf hk false (fun W hW => spush_no hW h.uq x.q x.key false hn), by omega⟩
  rcases tag_cases n x.q with hq | hq | ⟨t, hq, ht⟩
  · exact ⟨_, _, _, _, hno _ rfl (.inl hq)⟩
  · exact ⟨_, _, _, _, hno _ rfl (.inr (.inl hq))⟩
  · by_cases hkk : NoKey n Q x.key
    · have hl := h.len hm ht
      have hsum : sumE (pushedQ false Q t x.key) n = sumE Q n + 1 := by
        have := sumE_upd (Q := Q) (t := t) (xs := if false then ⟨x.key, 0, 0⟩ :: Q t else Q t ++ [⟨x.key, 0, 0⟩]) n ht
        unfold pushedQ
        simp at this ⊢
        omega
      refine ⟨pushedQ false Q t x.key, roomE Q n m, U.put x.key 1, true, fun w0 w sp K hs => do6_1 x wf hk true _ (half hs (fun W hW => ?_) (by rw [hsum]; exact Nat.le_refl _)), fun w o oc g c K hr => rdo6_1 hr x wf hk true (fun W hW => ?_), by omega⟩
      · rw [hq]
        exact (si_push hW (by omega) t ht x.key wf.key hkk).2
      · rw [hq]
        exact spush_back hW h.good (by omega) h.keys x.key wf.key hkk t ht (by omega) (by omega)
    · exact ⟨_, _, _, _, hno _ rfl (.inr (.inr ⟨by omega, by omega, hkk⟩))⟩
theorem step_2 (h : QOk n Q m U most) (hm : most ≤ 1000) (wf : x.Ok) (hk : x.kind % 6 = 2) : ∃ Q' m' U' ok, StepOk n Q m U most x Q' m' U' ok := by
  have hle := h.le
  have hno : ∀ q : Int, q = x.q → (q < 0 ∨ (0 ≤ q ∧ (n : Int) ≤ q) ∨ (0 ≤ q ∧ q < (n : Int) ∧ NoKey n Q x.key)) → StepOk n Q m U most x Q m U false := fun q hq hn => by
    subst hq
    exact ⟨fun w0 w sp K hs => do6_2 x wf hk false _ (half hs (fun W hW => si_move_no hW (by omega) x.q x.key wf.key hn) (by omega)), fun w o oc g c K hr => rdo6_2 hr x wf hk false (fun W hW => smove_no hW h.uq x.q x.key hn), by omega⟩
  rcases tag_cases n x.q with hq | hq | ⟨t1, hq, ht1⟩
  · exact ⟨_, _, _, _, hno _ rfl (.inl hq)⟩
  · exact ⟨_, _, _, _, hno _ rfl (.inr (.inl hq))⟩
  · by_cases hkk : NoKey n Q x.key
    · exact ⟨_, _, _, _, hno _ rfl (.inr (.inr ⟨by omega, by omega, hkk⟩))⟩
    · obtain ⟨t, i, ht, hi, e⟩ := key_at x.key hkk
      have hsum := sum_move (Q := Q) (y := (Q t)[i]) ht hi ht1
      have hl1 := h.len hm ht1
      have hl := h.len hm ht
      have hcl := cutE_len (Q t) i hi
      refine ⟨movE Q t i t1 ((Q t)[i]), m, U, true, fun w0 w sp K hs => do6_2 x wf hk true _ (half (most' := most) hs (fun W hW => ?_) (by omega)), fun w o oc g c K hr => rdo6_2 hr x wf hk true (fun W hW => ?_), by omega⟩
      · rw [hq]
        exact si_move hW (by omega) t i ht hi x.key e t1 ht1
      · rw [hq]
        have := smove_in hW h.uq t i ht hi t1 ht1 (by
          by_cases e2 : t1 = t
          · subst e2; rw [upd_same]; omega
          · rw [upd_other _ _ _ e2]; omega)
        rw [e] at this
        exact this
theorem step_3 (h : QOk n Q m U most) (hm : most ≤ 1000) (wf : x.Ok) (hk : x.kind % 6 = 3) : ∃ Q' m' U' ok, StepOk n Q m U most x Q' m' U' ok := by
  have hle := h.le
  have htn := h.tn
  by_cases hkk : NoKey n Q x.key
  · exact ⟨Q, m, U, false, fun w0 w sp K hs => do6_3 x wf hk false _ (half hs (fun W hW => si_rem_no hW (by omega) x.key wf.key hkk) (by omega)), fun w o oc g c K hr => rdo6_3 hr x wf hk false (fun W hW => srem_out hW x.key hkk), by omega⟩
  · obtain ⟨t, i, ht, hi, e⟩ := key_at x.key hkk
    have hsum := sum_cut (Q := Q) ht hi
    refine ⟨upd Q t (cutE (Q t) i), m, U.del x.key, true, fun w0 w sp K hs => do6_3 x wf hk true _ (half hs (fun W hW => si_rem hW (by omega) t i ht hi x.key e) (by omega)), fun w o oc g c K hr => rdo6_3 hr x wf hk true (fun W hW => ?_), by omega⟩
    have := srem_in hW h.uq h.good (by omega) h.keys t i ht hi (by rw [e]; exact wf.key)
    rw [e] at this
    exact this
theorem step_4 (h : QOk n Q m U most) (hm : most ≤ 1000) (wf : x.Ok) (hk : x.kind % 6 = 4) : ∃ Q' m' U' ok, StepOk n Q m U most x Q' m' U' ok := by
  have hle := h.le
  by_cases hkk : NoKey n Q x.key
  · exact ⟨Q, m, U, false, fun w0 w sp K hs => do6_4 x wf hk false _ (half hs (fun W hW => (si_set_no hW (by omega) x.key wf.key hkk (x.val : Nat) x.flag).1) (by omega)), fun w o oc g c K hr => rdo6_4 hr x wf hk false (fun W hW => sset_out hW x.ent false hkk), by omega⟩
  · obtain ⟨t, i, ht, hi, e⟩ := key_at x.key hkk
    have hsum := sum_upd_same (Q := Q) (xs := (Q t).set i (setE false ((Q t)[i]) x.ent)) ht (by simp)
    exact ⟨upd Q t ((Q t).set i (setE false ((Q t)[i]) x.ent)), m, U, true, fun w0 w sp K hs => do6_4 x wf hk true _ (half hs (fun W hW => (si_set hW (by omega) t i ht hi x.key e x.ent).1) (by omega)), fun w o oc g c K hr => rdo6_4 hr x wf hk true (fun W hW => sset_in hW h.uq t i ht hi x.ent e false), by omega⟩
theorem step_5 (h : QOk n Q m U most) (hm : most ≤ 1000) (wf : x.Ok) (hk : x.kind % 6 = 5) : ∃ Q' m' U' ok, StepOk n Q m U most x Q' m' U' ok := by
  have hle := h.le
  by_cases hkk : NoKey n Q x.key
  · exact ⟨Q, m, U, false, fun w0 w sp K hs => do6_5 x wf hk false _ (half hs (fun W hW => (si_set_no hW (by omega) x.key wf.key hkk (x.val : Nat) x.flag).2) (by omega)), fun w o oc g c K hr => rdo6_5 hr x wf hk false (fun W hW => sset_out hW x.ent true hkk), by omega⟩
  · obtain ⟨t, i, ht, hi, e⟩ := key_at x.key hkk
    have hsum := sum_upd_same (Q := Q) (xs := (Q t).set i (setE true ((Q t)[i]) x.ent)) ht (by simp)
    exact ⟨upd Q t ((Q t).set i (setE true ((Q t)[i]) x.ent)), m, U, true, fun w0 w sp K hs => do6_5 x wf hk true _ (half hs (fun W hW => (si_set hW (by omega) t i ht hi x.key e x.ent).2) (by omega)), fun w o oc g c K hr => rdo6_5 hr x wf hk true (fun W hW => sset_in hW h.uq t i ht hi x.ent e true), by omega⟩
theorem step_both (h : QOk n Q m U most) (hm : most ≤ 1000) (wf : x.Ok) : ∃ Q' m' U' ok, StepOk n Q m U most x Q' m' U' ok := by
  have : x.kind % 6 = 0 ∨ x.kind % 6 = 1 ∨ x.kind % 6 = 2 ∨ x.kind % 6 = 3 ∨ x.kind % 6 = 4 ∨ x.kind % 6 = 5 := by omega
  rcases this with q | q | q | q | q | q
  · exact step_0 h hm wf q
  · exact step_1 h hm wf q
  · exact step_2 h hm wf q
  · exact step_3 h hm wf q
  · exact step_4 h hm wf q
  · exact step_5 h hm wf q
end
end Go.Proofs.Ytnacmhljbnpdpaa
