/- MachineNew: a machine of any policy and capacity, or what forbids it: proved for every policy and capacity, the listed package-level variable as the program's text lays it. -/
import Derived.Test.YtcpggonengkgiaaGreatDoorG0
import Derived.Test.YtcpggonengkgiaaGreatDoorG45
import Derived.Test.YtcpggonengkgiaaGreatDoorG5
import Derived.Test.YtcpggonengkgiaaGreatDoorG8
import Derived.Test.YtcpggonengkgiaaGreatDoorG15
import Derived.Test.YtcpggonengkgiaaGreatDoorG21
import Derived.Test.YtcpggonengkgiaaGreatDoorG30
namespace Go.Proofs.YtcpggonengkgiaaGreatDoor
open Go Go.ChangeShapes Go.WideShapes Go.RowKit
theorem allOk13 : AllOk := ⟨pol8Ok, pol9Ok, pol10Ok, pol11Ok, pol12Ok⟩
theorem machineNew_met (os : Os) (args : Array Value) : laidMetH Tryz.prog Rows.machineNewRow.laid ((World.doorLaid Tryz.prog 400 os).forCall (fun _ _ => 0) ⟨#[], args, []⟩).memory :=
  laidMetH_of_parts3 (fuel := 8) (laidMet_of_run' 8 (by kernel_rfl) (by kernel_rfl)) (by kernel_rfl) (by kernel_rfl)
set_option maxRecDepth 100000 in
theorem machineNew_lifted (os : Os) (started : os.Started) (H : Type) (enc : TypeId × Value → H) :
    ReturnsInHanded {} Tryz.checked os 4 .any (fun w args => (Rows.machineNewSpec.pre enc Tryz.prog Tryz.f4 [] false w args ∧ laidMetH Tryz.prog Rows.machineNewRow.laid w) ∧ sizedMet enc Tryz.prog Tryz.f4 (OpenSpec.ofChange Rows.machineNewSpec) false w args)
      (Rows.machineNewSpec.post enc Tryz.prog Tryz.f4 false true false false) := by
  refine returnsInHanded_of_change_and (C := Tryz.checked) (X := fun w _ => laidMetH Tryz.prog Rows.machineNewRow.laid w) (fun _ _ _ hh h => h.of_heap hh) own started (by kernel_rfl) Tryz.func4
    (ChangeSpec.witness_shaped (enc := enc) (C := Tryz.checked) (os := os) (X := fun w _ => laidMetH Tryz.prog Rows.machineNewRow.laid w) false (World.doorLaid Tryz.prog 400 os) #[(.int .i64 0), (.int .i64 0)] 8 rfl (World.shaped_of_RefB (by kernel_rfl) (by kernel_rfl)) (by kernel_rfl) (by kernel_rfl) (by kernel_rfl) (machineNew_met os _)) ?_
  intro W base args ds gs before hval0 hW _ _ hL _
  have hval : ∀ (j : Nat) t v, Tryz.f4.params[j]? = some t → args[j]? = some v → Value.okWide Tryz.prog W .any base t v := hval0
  have hW' := hW
  obtain ⟨p, q, hA0, hV, rfl, hfz, hnd⟩ := hW
  have hA : DataW.TrodAll enc Tryz.prog W 0 (fun _ => true) true Tryz.f4.params.toList args.toList ds p := hA0
  rw [Tryz.params4] at hA hval
  obtain ⟨v0, v1, d0, d1, p0, p1, rfl, rfl, rfl, h0, h1⟩ := trodAll_two hA
  obtain ⟨n0, rfl, rfl, rfl, hw0⟩ := open_int Tryz.underlying3 (hval 0 3 v0 rfl rfl) h0
  obtain ⟨n1, rfl, rfl, rfl, hw1⟩ := open_int Tryz.underlying3 (hval 1 3 v1 rfl rfl) h1
  obtain ⟨rfl, rfl⟩ := trodVars_none hV
  have e1 : Rows.machineNewSpec.fn H ([(.lit (.int .i64 n0)), (.lit (.int .i64 n1))] ++ []) = { results := [.lit (.bool true)], args := [(.lit (.int .i64 n0)), (.lit (.int .i64 n1))] } := by simp [Rows.machineNewSpec]
  refine (machineNew_walk allOk13 (errT_of_handle hL.2) n0 n1).mono fun e W' ⟨he, hb⟩ => ?_
  subst he
  refine ⟨_, rfl, _, _, _, [], [], [], hW', ?_, ?_, ?_, hb.frame _, fun h => by cases h⟩
  · rw [e1]; exact trodAll_mk1 (shut_bool Tryz.underlying4 true)
  · rw [e1]; exact trodAll_mk2 (shut_int Tryz.underlying3 hw0) (shut_int Tryz.underlying3 hw1)
  · rw [e1]; rfl
theorem machineNew_row : Rows.MachineNewSaid :=
  OpenClaim.holds_of_wide 4 Tryz.f4 rfl rfl rfl rfl rfl rfl rfl ⟨rfl, rfl, rfl, rfl, rfl⟩ rfl rfl rfl rfl rfl (by kernel_rfl) Tryz.func4 (by kernel_rfl)
    (of_decide_eq_true (by kernel_rfl)) (by unfold Func.isWrapper; rw [if_neg (of_decide_eq_false (by kernel_rfl))]; exact ⟨rfl, rfl⟩)
    (fun os started H enc _ => machineNew_lifted os started H enc)
theorem machineNew_holds : Rows.MachineNewCardSaid :=
  Claim7.holds_tied_plain_at .later [] [.handle] true Rows.machineNewCard.stood.harness true
    machineNew_row (fun _ h => by cases h) (by kernel_rfl) (fun _ h => by cases h) machineNew_row_tie rfl ⟨rfl, rfl⟩ (by kernel_rfl) rfl
    (fun f fn hf hfn => by
      obtain rfl : f = 4 := Option.some.inj ((show Tryz.prog.funcNamed "hopper/hopperlaw13.MachineNew" = some 4 by kernel_rfl).symm.trans hf) |>.symm
      obtain rfl : fn = Tryz.f4 := (Option.some.inj (Tryz.func4.symm.trans hfn)).symm
      exact ⟨by kernel_rfl, fun j t ht => by
        rw [Tryz.params4] at ht
        have h3 : t = 3 := by
          rcases j with _ | _ | j
          · first | exact (by simpa using ht.symm) | exact .inl (by simpa using ht.symm) | exact .inr (by simpa using ht.symm)
          · first | exact (by simpa using ht.symm) | exact .inl (by simpa using ht.symm) | exact .inr (by simpa using ht.symm)
          · simp at ht
        rcases h3 with rfl
        · exact (show Tryz.prog.wantsStandIn 3 = false by kernel_rfl)⟩)
    (by kernel_rfl)
#print axioms machineNew_holds
end Go.Proofs.YtcpggonengkgiaaGreatDoor
