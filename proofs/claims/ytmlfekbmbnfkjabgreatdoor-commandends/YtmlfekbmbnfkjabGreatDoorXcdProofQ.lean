/-
  CommandEnds: what DEL does, by whoever has seen all, leaves no key, and nothing that is asked of it tells anything, whatever was seen; for every input, where the library tables are as Go lays them.
-/
import Derived.Test.YtmlfekbmbnfkjabGreatDoorRows
import Derived.Test.YtmlfekbmbnfkjabGreatDoorCards
import Derived.Test.YtmlfekbmbnfkjabGreatDoorTie
import Derived.Test.YtmlfekbmbnfkjabGreatDoorSFacts
import Derived.Test.YtmlfekbmbnfkjabGreatDoorCommandEndsFacts
import Derived.Test.YtmlfekbmbnfkjabGreatDoorR39
import Derived.WalkKit
import Derived.ProofKit
import Derived.OpenShut
import Derived.ChangeOld
import Derived.Below
import Derived.ShutString
import Derived.LaidMore
import Derived.Stop.Joined
import Derived.Lib.LaidTab
import Derived.SevenTiedAt
namespace Go.Proofs.YtmlfekbmbnfkjabGreatDoor.commandEnds
open Go.ChangeShapes Go.WideShapes Go.ChangeAt Go.RowKit
open Go.ChangeMaps (open_string shut_string)
set_option linter.unusedVariables false

theorem own : ownKnob Tryz.prog.godebug = none := by kernel_rfl
theorem laidOut : laidOutB Tryz.prog = true := SFacts.laidOut

/-- The door's own heap meets the condition. -/
theorem door_met (os : Os) (args : Array Value) : laidMetH Tryz.prog Rows.commandEndsRow.laid ((World.doorLaid Tryz.prog 400 os).forCall (fun _ _ => 0) ⟨#[], args, []⟩).memory :=
  laidMetH_of_parts3 (fuel := 8) (laidMet_of_run' 8 (by kernel_rfl) (by kernel_rfl)) (by kernel_rfl) (by kernel_rfl)
/-- What the condition gives the walk: the table. -/
theorem of_laid {W : World} (h : laidMetH Tryz.prog Rows.commandEndsRow.laid W) : Tb W := tb_of_laid h

/-! The row's step. -/
set_option maxRecDepth 100000 in
theorem lifted (os : Os) (started : os.Started) (H : Type) (enc : TypeId × Value → H) :
    ReturnsInHanded {} Tryz.checked os 4 .any (fun w args => (Rows.commandEndsSpec.pre enc Tryz.prog Tryz.f4 [] false w args ∧ laidMetH Tryz.prog Rows.commandEndsRow.laid w) ∧ sizedMet enc Tryz.prog Tryz.f4 (OpenSpec.ofChange Rows.commandEndsSpec) false w args)
      (Rows.commandEndsSpec.post enc Tryz.prog Tryz.f4 false true false false) := by
  refine returnsInHanded_of_change_and (C := Tryz.checked) (X := fun w _ => laidMetH Tryz.prog Rows.commandEndsRow.laid w) (fun _ _ _ hh h => h.of_heap hh) own started (by kernel_rfl) Tryz.func4
    (ChangeSpec.witness_shaped (enc := enc) (C := Tryz.checked) (os := os) (X := fun w _ => laidMetH Tryz.prog Rows.commandEndsRow.laid w) false (World.doorLaid Tryz.prog 400 os) #[.slice none 0 0, .string ⟨#[]⟩] 8 rfl (World.shaped_of_RefB (by kernel_rfl) (by kernel_rfl)) (by kernel_rfl) (by kernel_rfl) (by kernel_rfl) (door_met os _)) ?_
  intro W base args ds gs before hval0 hW _ hsz0 hL _
  have hTab := of_laid hL
  have hval : ∀ (j : Nat) t v, Tryz.f4.params[j]? = some t → args[j]? = some v → Value.okWide Tryz.prog W .any base t v := hval0
  have hW' := hW
  obtain ⟨p, q, hA0, hV, rfl, hfz, hnd⟩ := hW
  have hA : DataW.TrodAll enc Tryz.prog W 0 (fun _ => true) true Tryz.f4.params.toList args.toList ds p := hA0
  rw [Tryz.params4] at hA hval
  obtain ⟨v0, vs0, d0, ds0, p0, q0, hargs, rfl, rfl, h0, r0⟩ := trodAll_cons hA
  obtain ⟨v1, vs1, d1, ds1, p1, q1, rfl, rfl, rfl, h1, r1⟩ := trodAll_cons r0
  obtain ⟨rfl, rfl, rfl⟩ := trodAll_nil r1
  obtain rfl : args = #[v0, v1] := by cases args; simp_all
  obtain ⟨rfl, rfl⟩ := trodVars_none hV
  obtain ⟨a0, len0, cap0, rfl⟩ := okWide_slice Tryz.underlying22 (hval 0 22 v0 rfl rfl)
  have k0 := h0
  have lt0 : ∀ x ∈ p0, x.block < W.heap.size := by obtain ⟨m, hm⟩ := k0; exact DataW.trod_lt m _ _ _ hm
  obtain ⟨E0, w0⟩ := open_evs h0
  obtain ⟨a1, rfl, rfl, rfl, w1⟩ := open_string Tryz.underlying9 (hval 1 9 v1 rfl rfl) h1
  clear hA0 hval0
  refine (ends_walk a0 len0 cap0 E0 a1 W w0 hTab).mono fun e W' ⟨he, bel⟩ => ?_
  subst he
  exact ⟨_, rfl, _, _, _, [], _, [], hW', (trodAll_cons_mk (shut_bool Tryz.underlying4 _) trodAll_mk0), (trodAll_cons_mk (Below.trod laidOut (by kernel_rfl) (of_decide_eq_true (by kernel_rfl)) k0 bel lt0) (trodAll_cons_mk (shut_string Tryz.underlying9 w1) trodAll_mk0)), rfl, bel.frame _, fun h => by cases h⟩

theorem closed : joinedFacts Tryz.prog 4 Tryz.f4 Rows.commandEndsSpec Rows.commandEndsRow = true := by
  unfold joinedFacts
  rw [laidOut, SFacts.mapsrowed, k_inplace, k_unfollowed, k_recurses, k_named, SFacts.heard, SFacts.may, k_lifted, k_make]
  simp only [Bool.and_true]
  kernel_rfl
theorem instance_ : Tryz.f4.isInstance Tryz.prog Rows.commandEndsRow.origin Rows.commandEndsRow.targs := of_decide_eq_true (by kernel_rfl)
theorem wrapper_ : Tryz.f4.isWrapper Tryz.prog Rows.commandEndsRow.wrapper Rows.commandEndsRow.mainSum := by unfold Func.isWrapper; first | (rw [if_pos (by decide +kernel)]; kernel_rfl) | (rw [if_neg (by decide +kernel)]; exact ⟨rfl, rfl⟩)
theorem over : Rows.CommandEndsSaid :=
  OpenClaim.holds_of_wide 4 Tryz.f4 rfl rfl rfl rfl rfl rfl rfl ⟨rfl, rfl, rfl, rfl, rfl⟩ rfl rfl rfl rfl rfl funcNamed Tryz.func4 closed instance_ wrapper_
    (fun os started H enc _ => lifted os started H enc)
end Go.Proofs.YtmlfekbmbnfkjabGreatDoor.commandEnds
namespace Go.Proofs.YtmlfekbmbnfkjabGreatDoor
open Go
/-- The statement: the tied card. -/
theorem commandEnds_holds : Rows.CommandEndsCardSaid :=
  Claim7.holds_tied_plain_at .later [] [.data, .data, .data, .sentinel, .sentinel] true (true, "04752c6c6cda1bdef1460beee75041abfcfff51e9f9499f82ef99230797c28fa") true
    commandEnds.over (fun _ h => by cases h) commandEnds.k_wf (fun _ h => by cases h) commandEnds_row_tie rfl ⟨rfl, rfl⟩ commandEnds.k_main rfl
    (fun f fn hf hfn => by
      obtain rfl : f = 4 := Option.some.inj (commandEnds.funcNamed.symm.trans hf) |>.symm
      obtain rfl : fn = Tryz.f4 := (Option.some.inj (Tryz.func4.symm.trans hfn)).symm
      exact ⟨commandEnds.k_looks, fun j t ht => by
        rw [Tryz.params4] at ht
        have hm : t ∈ [22, 9] := by simpa using Array.mem_of_getElem? ht
        have hall := commandEnds.k_stand
        exact (show Tryz.prog.wantsStandIn t = false by simpa using List.all_eq_true.1 hall t hm)⟩)
    commandEnds.k_goes
#print axioms commandEnds_holds
end Go.Proofs.YtmlfekbmbnfkjabGreatDoor
