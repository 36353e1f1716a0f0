/-
  CommandNames: small letters and capitals name the same command. For every input.
-/
import Derived.Test.YtmlfekbmbnfkjaaGreatDoorRows
import Derived.Test.YtmlfekbmbnfkjaaGreatDoorCards
import Derived.Test.YtmlfekbmbnfkjaaGreatDoorTie
import Derived.Test.YtmlfekbmbnfkjaaGreatDoorSFacts
import Derived.Test.YtmlfekbmbnfkjaaGreatDoorCommandNamesFacts
import Derived.Test.YtmlfekbmbnfkjaaGreatDoorQ37
import Derived.WalkKit
import Derived.ProofKit
import Derived.OpenShut
import Derived.ChangeOld
import Derived.Below
import Derived.ShutString
import Derived.LaidMore
import Derived.Stop.Joined
import Derived.Lib.LaidTab
import Derived.SevenTiedAt
namespace Go.Proofs.YtmlfekbmbnfkjaaGreatDoor.commandNames
open Go.ChangeShapes Go.WideShapes Go.ChangeAt Go.RowKit
open Go.ChangeMaps (open_string shut_string)
set_option linter.unusedVariables false

theorem own : ownKnob Tryz.prog.godebug = none := by kernel_rfl
theorem laidOut : laidOutB Tryz.prog = true := SFacts.laidOut

/-- The door's own heap meets the condition. -/
theorem door_met (os : Os) (args : Array Value) : laidMetH Tryz.prog Rows.commandNamesRow.laid ((World.doorLaid Tryz.prog 400 os).forCall (fun _ _ => 0) ⟨#[], args, []⟩).memory :=
  laidMetH_of_parts3 (fuel := 8) (laidMet_of_run' 8 (by kernel_rfl) (by kernel_rfl)) (by kernel_rfl) (by kernel_rfl)
/-- What the condition gives the walk: the table. -/
theorem of_laid {W : World} (h : laidMetH Tryz.prog Rows.commandNamesRow.laid W) : Tb W := tb_of_laid h

/-! The row's step. -/
set_option maxRecDepth 100000 in
theorem lifted (os : Os) (started : os.Started) (H : Type) (enc : TypeId × Value → H) :
    ReturnsInHanded {} Tryz.checked os 7 .any (fun w args => (Rows.commandNamesSpec.pre enc Tryz.prog Tryz.f7 [] false w args ∧ laidMetH Tryz.prog Rows.commandNamesRow.laid w) ∧ sizedMet enc Tryz.prog Tryz.f7 (OpenSpec.ofChange Rows.commandNamesSpec) false w args)
      (Rows.commandNamesSpec.post enc Tryz.prog Tryz.f7 false true false false) := by
  refine returnsInHanded_of_change_and (C := Tryz.checked) (X := fun w _ => laidMetH Tryz.prog Rows.commandNamesRow.laid w) (fun _ _ _ hh h => h.of_heap hh) own started (by kernel_rfl) Tryz.func7
    (ChangeSpec.witness_shaped (enc := enc) (C := Tryz.checked) (os := os) (X := fun w _ => laidMetH Tryz.prog Rows.commandNamesRow.laid w) false (World.doorLaid Tryz.prog 400 os) #[.slice none 0 0, .int .u16 0] 8 rfl (World.shaped_of_RefB (by kernel_rfl) (by kernel_rfl)) (by kernel_rfl) (by kernel_rfl) (by kernel_rfl) (door_met os _)) ?_
  intro W base args ds gs before hval0 hW _ hsz0 hL _
  have hTab := of_laid hL
  have hval : ∀ (j : Nat) t v, Tryz.f7.params[j]? = some t → args[j]? = some v → Value.okWide Tryz.prog W .any base t v := hval0
  have hW' := hW
  obtain ⟨p, q, hA0, hV, rfl, hfz, hnd⟩ := hW
  have hA : DataW.TrodAll enc Tryz.prog W 0 (fun _ => true) true Tryz.f7.params.toList args.toList ds p := hA0
  rw [Tryz.params7] at hA hval
  obtain ⟨v0, vs0, d0, ds0, p0, q0, hargs, rfl, rfl, h0, r0⟩ := trodAll_cons hA
  obtain ⟨v1, vs1, d1, ds1, p1, q1, rfl, rfl, rfl, h1, r1⟩ := trodAll_cons r0
  obtain ⟨rfl, rfl, rfl⟩ := trodAll_nil r1
  obtain rfl : args = #[v0, v1] := by cases args; simp_all
  obtain ⟨rfl, rfl⟩ := trodVars_none hV
  obtain ⟨a0, len0, cap0, rfl⟩ := okWide_slice Tryz.underlying22 (hval 0 22 v0 rfl rfl)
  have k0 := h0
  have lt0 : ∀ x ∈ p0, x.block < W.heap.size := by obtain ⟨m, hm⟩ := k0; exact DataW.trod_lt m _ _ _ hm
  obtain ⟨S0, w0, c0⟩ := open_txts h0
  obtain ⟨a1, rfl, rfl, rfl, w1⟩ := open_int Tryz.underlying55 (hval 1 55 v1 rfl rfl) h1
  clear hA0 hval0
  refine (names_walk a0 len0 cap0 S0 a1 W w0 hTab).mono fun e W' ⟨he, bel⟩ => ?_
  subst he
  exact ⟨_, rfl, _, _, _, [], _, [], hW', (trodAll_cons_mk (shut_bool Tryz.underlying4 _) trodAll_mk0), (trodAll_cons_mk (Below.trod laidOut (by kernel_rfl) (of_decide_eq_true (by kernel_rfl)) k0 bel lt0) (trodAll_cons_mk (shut_int Tryz.underlying55 w1) trodAll_mk0)), rfl, bel.frame _, fun h => by cases h⟩

theorem closed : joinedFacts Tryz.prog 7 Tryz.f7 Rows.commandNamesSpec Rows.commandNamesRow = true := by
  unfold joinedFacts
  rw [laidOut, SFacts.mapsrowed, k_inplace, k_unfollowed, k_recurses, k_named, SFacts.heard, SFacts.may, k_lifted, k_make]
  simp only [Bool.and_true]
  kernel_rfl
theorem instance_ : Tryz.f7.isInstance Tryz.prog Rows.commandNamesRow.origin Rows.commandNamesRow.targs := of_decide_eq_true (by kernel_rfl)
theorem wrapper_ : Tryz.f7.isWrapper Tryz.prog Rows.commandNamesRow.wrapper Rows.commandNamesRow.mainSum := by unfold Func.isWrapper; first | (rw [if_pos (by decide +kernel)]; kernel_rfl) | (rw [if_neg (by decide +kernel)]; exact ⟨rfl, rfl⟩)
theorem over : Rows.CommandNamesSaid :=
  OpenClaim.holds_of_wide 7 Tryz.f7 rfl rfl rfl rfl rfl rfl rfl ⟨rfl, rfl, rfl, rfl, rfl⟩ rfl rfl rfl rfl rfl funcNamed Tryz.func7 closed instance_ wrapper_
    (fun os started H enc _ => lifted os started H enc)
end Go.Proofs.YtmlfekbmbnfkjaaGreatDoor.commandNames
namespace Go.Proofs.YtmlfekbmbnfkjaaGreatDoor
open Go
/-- The statement: the tied card. -/
theorem commandNames_holds : Rows.CommandNamesCardSaid :=
  Claim7.holds_tied_plain_at .later [] [.data, .data, .data, .sentinel, .sentinel] true (true, "517f5b2d74ec388884ff19a7b736ece0d0da115f781fce18748e9b557a5f76b9") true
    commandNames.over (fun _ h => by cases h) commandNames.k_wf (fun _ h => by cases h) commandNames_row_tie rfl ⟨rfl, rfl⟩ commandNames.k_main rfl
    (fun f fn hf hfn => by
      obtain rfl : f = 7 := Option.some.inj (commandNames.funcNamed.symm.trans hf) |>.symm
      obtain rfl : fn = Tryz.f7 := (Option.some.inj (Tryz.func7.symm.trans hfn)).symm
      exact ⟨commandNames.k_looks, fun j t ht => by
        rw [Tryz.params7] at ht
        have hm : t ∈ [22, 55] := by simpa using Array.mem_of_getElem? ht
        have hall := commandNames.k_stand
        exact (show Tryz.prog.wantsStandIn t = false by simpa using List.all_eq_true.1 hall t hm)⟩)
    commandNames.k_goes
#print axioms commandNames_holds
end Go.Proofs.YtmlfekbmbnfkjaaGreatDoor
