/-
  What the reference's Op comes to.
-/
import Derived.Test.YteanpepmncgagaaRus
namespace Go.Proofs.Yteanpepmncgagaa
set_option maxRecDepth 100000
open Go.RowKit

/-- The operation can be, in plain words. -/
def Plain (e : Ev) : Prop := 1 ≤ e.kind ∧ e.kind ≤ 11 ∧ 1 ≤ (sb e.key).size ∧ (sb e.key).size ≤ 64 ∧ (sb e.field).size ≤ 64 ∧ (sb e.value).size ≤ 64 ∧ -1099511627776 ≤ e.num ∧ e.num ≤ 1099511627776
def Spare (e : Ev) : Prop := (usesF e.kind = false → e.field = []) ∧ (usesV e.kind = false → e.value = []) ∧ (usesN e.kind = false → e.num = 0) ∧ (usesR e.kind = false → e.rr = 0 ∧ e.rn = 0)
theorem used_spare (e : Ev) : sameO e (used e) = true ↔ Spare e := by
  rw [sameO_iff]
  have f1 : (used e).kind = e.kind := rfl
  have f2 : (used e).key = e.key := rfl
  have f3 : (used e).field = if usesF e.kind then e.field else [] := rfl
  have f4 : (used e).value = if usesV e.kind then e.value else [] := rfl
  have f5 : (used e).num = if usesN e.kind then e.num else 0 := rfl
  have f6 : (used e).rr = if usesR e.kind then e.rr else 0 := rfl
  have f7 : (used e).rn = if usesR e.kind then e.rn else 0 := rfl
  rw [f1, f2, f3, f4, f5, f6, f7]
  unfold Spare
  cases usesF e.kind <;> cases usesV e.kind <;> cases usesN e.kind <;> cases usesR e.kind <;> simp
theorem opE_iff (e : Ev) : opE e = true ↔ Plain e ∧ Spare e := by
  have h1 : e.key ≠ [] ↔ 1 ≤ e.key.length := by
    cases e.key <;> simp
  simp only [opE, Bool.and_eq_true, used_spare, iskindE, textsE, numE, decide_eq_true_eq, Plain, sb_size, h1]
  constructor
  · rintro ⟨⟨a, b⟩, c, ⟨d, f, g⟩, ⟨h, i⟩, j⟩; exact ⟨⟨a, b, c, d, f, g, h, i⟩, j⟩
  · rintro ⟨⟨a, b, c, d, f, g, h, i⟩, j⟩; exact ⟨⟨a, b⟩, c, ⟨d, f, g⟩, ⟨h, i⟩, j⟩
theorem sbl_ne {s : List UInt8} (h : ¬ s = []) : ¬ (sb s).toList = [] := by
  rw [ByteArray.toList_eq, data_sb]
  exact h
theorem opE_no {e : Ev} (h : ¬ (Plain e ∧ Spare e)) : false = opE e := by
  rcases Bool.eq_false_or_eq_true (opE e) with h' | h'
  · exact absurd ((opE_iff e).1 h') h
  · exact h'.symm

set_option maxHeartbeats 1000000 in
theorem rop_any (e : Ev) (w : World) : Calls Try.prog 38 #[.agg (opc e)] w fun e' w' => e' = .returned (.bool (opE e)) ∧ Below w.heap.size w w' := by
  obtain ⟨hO, hB⟩ := boxedO w e
  have c0 := hO.c0
  have c1 := hO.c1
  have c2 := hO.c2
  have c3 := hO.c3
  have c4 := hO.c4
  have r5 := hO.ref
  clear hO
  have HB : Hid (Below w.heap.size w (w.alloc (.cells (opc e) 37))) := hB
  clear hB
  have HN : Hid (¬ (1 ≤ e.kind ∧ e.kind ≤ 11 ∧ 1 ≤ (sb e.key).size ∧ (sb e.key).size ≤ 64 ∧ (sb e.field).size ≤ 64 ∧ (sb e.value).size ≤ 64 ∧ -1099511627776 ≤ e.num ∧ e.num ≤ 1099511627776) → false = opE e) := fun h => opE_no (fun h' => h h'.1)
  go_enter Try.func38, Try.ntmps38
  go_wp2_with fail
  all_goals first
    | (go_ret; exact ⟨congrArg (fun b => Ending.returned (.bool b)) (HN.out (by omega)), HB.out⟩)
    | skip
  have HP : Hid (Plain e) := by
    show 1 ≤ e.kind ∧ e.kind ≤ 11 ∧ 1 ≤ (sb e.key).size ∧ (sb e.key).size ≤ 64 ∧ (sb e.field).size ≤ 64 ∧ (sb e.value).size ≤ 64 ∧ -1099511627776 ≤ e.num ∧ e.num ≤ 1099511627776
    omega
  have hp := plain_dot
  refine (rfield_any _ _).mono ?_
  rintro e1 w1 ⟨rfl, hw⟩
  obtain rfl := hw.symm
  rcases Bool.eq_false_or_eq_true (usesF e.kind) with hF | hF
  · have OF : Hid (usesF e.kind = false → e.field = []) := fun h => by rw [hF] at h; cases h
    rw [hF]
    clear hF
    go_wp2_with fail
    refine (rvalue_any _ _).mono ?_
    rintro e1 w1 ⟨rfl, hw⟩
    obtain rfl := hw.symm
    rcases Bool.eq_false_or_eq_true (usesV e.kind) with hV | hV
    · have OV : Hid (usesV e.kind = false → e.value = []) := fun h => by rw [hV] at h; cases h
      rw [hV]
      clear hV
      go_wp2_with fail
      refine (rnum_any _ _).mono ?_
      rintro e1 w1 ⟨rfl, hw⟩
      obtain rfl := hw.symm
      rcases Bool.eq_false_or_eq_true (usesN e.kind) with hN | hN
      · have ON : Hid (usesN e.kind = false → e.num = 0) := fun h => by rw [hN] at h; cases h
        rw [hN]
        clear hN
        go_wp2_with fail
        refine (rref_any _ _).mono ?_
        rintro e1 w1 ⟨rfl, hw⟩
        obtain rfl := hw.symm
        rcases Bool.eq_false_or_eq_true (usesR e.kind) with hR | hR
        · have HT : Hid (true = opE e) := ((opE_iff e).2 ⟨HP.out, OF.out, OV.out, ON.out, fun h => by rw [hR] at h; cases h⟩).symm
          rw [hR]
          clear hR
          go_wp2_with (refine load_dot_at rfl rfl rfl r5 ?_)
          go_ret
          exact ⟨congrArg (fun b => Ending.returned (.bool b)) HT.out, HB.out⟩
        · have HT : Hid (isrefE e = opE e) := by
            show _ = _
            rw [Bool.eq_iff_iff, opE_iff, isrefE, decide_eq_true_eq]
            exact ⟨fun h => ⟨HP.out, OF.out, OV.out, ON.out, fun _ => h⟩, fun h => h.2.2.2.2 hR⟩
          have he := fun W : World => run_isref W (e := e) rfl
          rw [hR]
          clear hR
          generalize isrefE e = b at *
          go_wp2_with (refine load_dot_at rfl rfl rfl r5 ?_)
          all_goals
            go_ret
            exact ⟨congrArg (fun b => Ending.returned (.bool b)) HT.out, HB.out⟩
      · by_cases hz : e.num = 0
        · have ON : Hid (usesN e.kind = false → e.num = 0) := fun _ => hz
          rw [hz] at c4
          rw [hN]
          clear hN hz
          go_wp2_with fail
          refine (rref_any _ _).mono ?_
          rintro e1 w1 ⟨rfl, hw⟩
          obtain rfl := hw.symm
          rcases Bool.eq_false_or_eq_true (usesR e.kind) with hR | hR
          · have HT : Hid (true = opE e) := ((opE_iff e).2 ⟨HP.out, OF.out, OV.out, ON.out, fun h => by rw [hR] at h; cases h⟩).symm
            rw [hR]
            clear hR
            go_wp2_with (refine load_dot_at rfl rfl rfl r5 ?_)
            go_ret
            exact ⟨congrArg (fun b => Ending.returned (.bool b)) HT.out, HB.out⟩
          · have HT : Hid (isrefE e = opE e) := by
              show _ = _
              rw [Bool.eq_iff_iff, opE_iff, isrefE, decide_eq_true_eq]
              exact ⟨fun h => ⟨HP.out, OF.out, OV.out, ON.out, fun _ => h⟩, fun h => h.2.2.2.2 hR⟩
            have he := fun W : World => run_isref W (e := e) rfl
            rw [hR]
            clear hR
            generalize isrefE e = b at *
            go_wp2_with (refine load_dot_at rfl rfl rfl r5 ?_)
            all_goals
              go_ret
              exact ⟨congrArg (fun b => Ending.returned (.bool b)) HT.out, HB.out⟩
        · have HT : Hid (false = opE e) := opE_no fun h => hz (h.2.2.2.1 hN)
          have hne : (e.num == 0) = false := by simpa using hz
          rw [hN]
          clear hN hz
          go_wp2
          all_goals
            go_ret
            exact ⟨congrArg (fun b => Ending.returned (.bool b)) HT.out, HB.out⟩
    · by_cases hz : e.value = []
      · have OV : Hid (usesV e.kind = false → e.value = []) := fun _ => hz
        rw [hz, sb_nil] at c3
        rw [hV]
        clear hV hz
        go_wp2_with fail
        refine (rnum_any _ _).mono ?_
        rintro e1 w1 ⟨rfl, hw⟩
        obtain rfl := hw.symm
        rcases Bool.eq_false_or_eq_true (usesN e.kind) with hN | hN
        · have ON : Hid (usesN e.kind = false → e.num = 0) := fun h => by rw [hN] at h; cases h
          rw [hN]
          clear hN
          go_wp2_with fail
          refine (rref_any _ _).mono ?_
          rintro e1 w1 ⟨rfl, hw⟩
          obtain rfl := hw.symm
          rcases Bool.eq_false_or_eq_true (usesR e.kind) with hR | hR
          · have HT : Hid (true = opE e) := ((opE_iff e).2 ⟨HP.out, OF.out, OV.out, ON.out, fun h => by rw [hR] at h; cases h⟩).symm
            rw [hR]
            clear hR
            go_wp2_with (refine load_dot_at rfl rfl rfl r5 ?_)
            go_ret
            exact ⟨congrArg (fun b => Ending.returned (.bool b)) HT.out, HB.out⟩
          · have HT : Hid (isrefE e = opE e) := by
              show _ = _
              rw [Bool.eq_iff_iff, opE_iff, isrefE, decide_eq_true_eq]
              exact ⟨fun h => ⟨HP.out, OF.out, OV.out, ON.out, fun _ => h⟩, fun h => h.2.2.2.2 hR⟩
            have he := fun W : World => run_isref W (e := e) rfl
            rw [hR]
            clear hR
            generalize isrefE e = b at *
            go_wp2_with (refine load_dot_at rfl rfl rfl r5 ?_)
            all_goals
              go_ret
              exact ⟨congrArg (fun b => Ending.returned (.bool b)) HT.out, HB.out⟩
        · by_cases hz : e.num = 0
          · have ON : Hid (usesN e.kind = false → e.num = 0) := fun _ => hz
            rw [hz] at c4
            rw [hN]
            clear hN hz
            go_wp2_with fail
            refine (rref_any _ _).mono ?_
            rintro e1 w1 ⟨rfl, hw⟩
            obtain rfl := hw.symm
            rcases Bool.eq_false_or_eq_true (usesR e.kind) with hR | hR
            · have HT : Hid (true = opE e) := ((opE_iff e).2 ⟨HP.out, OF.out, OV.out, ON.out, fun h => by rw [hR] at h; cases h⟩).symm
              rw [hR]
              clear hR
              go_wp2_with (refine load_dot_at rfl rfl rfl r5 ?_)
              go_ret
              exact ⟨congrArg (fun b => Ending.returned (.bool b)) HT.out, HB.out⟩
            · have HT : Hid (isrefE e = opE e) := by
                show _ = _
                rw [Bool.eq_iff_iff, opE_iff, isrefE, decide_eq_true_eq]
                exact ⟨fun h => ⟨HP.out, OF.out, OV.out, ON.out, fun _ => h⟩, fun h => h.2.2.2.2 hR⟩
              have he := fun W : World => run_isref W (e := e) rfl
              rw [hR]
              clear hR
              generalize isrefE e = b at *
              go_wp2_with (refine load_dot_at rfl rfl rfl r5 ?_)
              all_goals
                go_ret
                exact ⟨congrArg (fun b => Ending.returned (.bool b)) HT.out, HB.out⟩
          · have HT : Hid (false = opE e) := opE_no fun h => hz (h.2.2.2.1 hN)
            have hne : (e.num == 0) = false := by simpa using hz
            rw [hN]
            clear hN hz
            go_wp2
            all_goals
              go_ret
              exact ⟨congrArg (fun b => Ending.returned (.bool b)) HT.out, HB.out⟩
      · have HT : Hid (false = opE e) := opE_no fun h => hz (h.2.2.1 hV)
        have hnl := sbl_ne hz
        rw [hV]
        clear hV hz
        go_wp2
        all_goals
          go_ret
          exact ⟨congrArg (fun b => Ending.returned (.bool b)) HT.out, HB.out⟩
  · by_cases hz : e.field = []
    · have OF : Hid (usesF e.kind = false → e.field = []) := fun _ => hz
      rw [hz, sb_nil] at c2
      rw [hF]
      clear hF hz
      go_wp2_with fail
      refine (rvalue_any _ _).mono ?_
      rintro e1 w1 ⟨rfl, hw⟩
      obtain rfl := hw.symm
      rcases Bool.eq_false_or_eq_true (usesV e.kind) with hV | hV
      · have OV : Hid (usesV e.kind = false → e.value = []) := fun h => by rw [hV] at h; cases h
        rw [hV]
        clear hV
        go_wp2_with fail
        refine (rnum_any _ _).mono ?_
        rintro e1 w1 ⟨rfl, hw⟩
        obtain rfl := hw.symm
        rcases Bool.eq_false_or_eq_true (usesN e.kind) with hN | hN
        · have ON : Hid (usesN e.kind = false → e.num = 0) := fun h => by rw [hN] at h; cases h
          rw [hN]
          clear hN
          go_wp2_with fail
          refine (rref_any _ _).mono ?_
          rintro e1 w1 ⟨rfl, hw⟩
          obtain rfl := hw.symm
          rcases Bool.eq_false_or_eq_true (usesR e.kind) with hR | hR
          · have HT : Hid (true = opE e) := ((opE_iff e).2 ⟨HP.out, OF.out, OV.out, ON.out, fun h => by rw [hR] at h; cases h⟩).symm
            rw [hR]
            clear hR
            go_wp2_with (refine load_dot_at rfl rfl rfl r5 ?_)
            go_ret
            exact ⟨congrArg (fun b => Ending.returned (.bool b)) HT.out, HB.out⟩
          · have HT : Hid (isrefE e = opE e) := by
              show _ = _
              rw [Bool.eq_iff_iff, opE_iff, isrefE, decide_eq_true_eq]
              exact ⟨fun h => ⟨HP.out, OF.out, OV.out, ON.out, fun _ => h⟩, fun h => h.2.2.2.2 hR⟩
            have he := fun W : World => run_isref W (e := e) rfl
            rw [hR]
            clear hR
            generalize isrefE e = b at *
            go_wp2_with (refine load_dot_at rfl rfl rfl r5 ?_)
            all_goals
              go_ret
              exact ⟨congrArg (fun b => Ending.returned (.bool b)) HT.out, HB.out⟩
        · by_cases hz : e.num = 0
          · have ON : Hid (usesN e.kind = false → e.num = 0) := fun _ => hz
            rw [hz] at c4
            rw [hN]
            clear hN hz
            go_wp2_with fail
            refine (rref_any _ _).mono ?_
            rintro e1 w1 ⟨rfl, hw⟩
            obtain rfl := hw.symm
            rcases Bool.eq_false_or_eq_true (usesR e.kind) with hR | hR
            · have HT : Hid (true = opE e) := ((opE_iff e).2 ⟨HP.out, OF.out, OV.out, ON.out, fun h => by rw [hR] at h; cases h⟩).symm
              rw [hR]
              clear hR
              go_wp2_with (refine load_dot_at rfl rfl rfl r5 ?_)
              go_ret
              exact ⟨congrArg (fun b => Ending.returned (.bool b)) HT.out, HB.out⟩
            · have HT : Hid (isrefE e = opE e) := by
                show _ = _
                rw [Bool.eq_iff_iff, opE_iff, isrefE, decide_eq_true_eq]
                exact ⟨fun h => ⟨HP.out, OF.out, OV.out, ON.out, fun _ => h⟩, fun h => h.2.2.2.2 hR⟩
              have he := fun W : World => run_isref W (e := e) rfl
              rw [hR]
              clear hR
              generalize isrefE e = b at *
              go_wp2_with (refine load_dot_at rfl rfl rfl r5 ?_)
              all_goals
                go_ret
                exact ⟨congrArg (fun b => Ending.returned (.bool b)) HT.out, HB.out⟩
          · have HT : Hid (false = opE e) := opE_no fun h => hz (h.2.2.2.1 hN)
            have hne : (e.num == 0) = false := by simpa using hz
            rw [hN]
            clear hN hz
            go_wp2
            all_goals
              go_ret
              exact ⟨congrArg (fun b => Ending.returned (.bool b)) HT.out, HB.out⟩
      · by_cases hz : e.value = []
        · have OV : Hid (usesV e.kind = false → e.value = []) := fun _ => hz
          rw [hz, sb_nil] at c3
          rw [hV]
          clear hV hz
          go_wp2_with fail
          refine (rnum_any _ _).mono ?_
          rintro e1 w1 ⟨rfl, hw⟩
          obtain rfl := hw.symm
          rcases Bool.eq_false_or_eq_true (usesN e.kind) with hN | hN
          · have ON : Hid (usesN e.kind = false → e.num = 0) := fun h => by rw [hN] at h; cases h
            rw [hN]
            clear hN
            go_wp2_with fail
            refine (rref_any _ _).mono ?_
            rintro e1 w1 ⟨rfl, hw⟩
            obtain rfl := hw.symm
            rcases Bool.eq_false_or_eq_true (usesR e.kind) with hR | hR
            · have HT : Hid (true = opE e) := ((opE_iff e).2 ⟨HP.out, OF.out, OV.out, ON.out, fun h => by rw [hR] at h; cases h⟩).symm
              rw [hR]
              clear hR
              go_wp2_with (refine load_dot_at rfl rfl rfl r5 ?_)
              go_ret
              exact ⟨congrArg (fun b => Ending.returned (.bool b)) HT.out, HB.out⟩
            · have HT : Hid (isrefE e = opE e) := by
                show _ = _
                rw [Bool.eq_iff_iff, opE_iff, isrefE, decide_eq_true_eq]
                exact ⟨fun h => ⟨HP.out, OF.out, OV.out, ON.out, fun _ => h⟩, fun h => h.2.2.2.2 hR⟩
              have he := fun W : World => run_isref W (e := e) rfl
              rw [hR]
              clear hR
              generalize isrefE e = b at *
              go_wp2_with (refine load_dot_at rfl rfl rfl r5 ?_)
              all_goals
                go_ret
                exact ⟨congrArg (fun b => Ending.returned (.bool b)) HT.out, HB.out⟩
          · by_cases hz : e.num = 0
            · have ON : Hid (usesN e.kind = false → e.num = 0) := fun _ => hz
              rw [hz] at c4
              rw [hN]
              clear hN hz
              go_wp2_with fail
              refine (rref_any _ _).mono ?_
              rintro e1 w1 ⟨rfl, hw⟩
              obtain rfl := hw.symm
              rcases Bool.eq_false_or_eq_true (usesR e.kind) with hR | hR
              · have HT : Hid (true = opE e) := ((opE_iff e).2 ⟨HP.out, OF.out, OV.out, ON.out, fun h => by rw [hR] at h; cases h⟩).symm
                rw [hR]
                clear hR
                go_wp2_with (refine load_dot_at rfl rfl rfl r5 ?_)
                go_ret
                exact ⟨congrArg (fun b => Ending.returned (.bool b)) HT.out, HB.out⟩
              · have HT : Hid (isrefE e = opE e) := by
                  show _ = _
                  rw [Bool.eq_iff_iff, opE_iff, isrefE, decide_eq_true_eq]
                  exact ⟨fun h => ⟨HP.out, OF.out, OV.out, ON.out, fun _ => h⟩, fun h => h.2.2.2.2 hR⟩
                have he := fun W : World => run_isref W (e := e) rfl
                rw [hR]
                clear hR
                generalize isrefE e = b at *
                go_wp2_with (refine load_dot_at rfl rfl rfl r5 ?_)
                all_goals
                  go_ret
                  exact ⟨congrArg (fun b => Ending.returned (.bool b)) HT.out, HB.out⟩
            · have HT : Hid (false = opE e) := opE_no fun h => hz (h.2.2.2.1 hN)
              have hne : (e.num == 0) = false := by simpa using hz
              rw [hN]
              clear hN hz
              go_wp2
              all_goals
                go_ret
                exact ⟨congrArg (fun b => Ending.returned (.bool b)) HT.out, HB.out⟩
        · have HT : Hid (false = opE e) := opE_no fun h => hz (h.2.2.1 hV)
          have hnl := sbl_ne hz
          rw [hV]
          clear hV hz
          go_wp2
          all_goals
            go_ret
            exact ⟨congrArg (fun b => Ending.returned (.bool b)) HT.out, HB.out⟩
    · have HT : Hid (false = opE e) := opE_no fun h => hz (h.2.1 hF)
      have hnl := sbl_ne hz
      rw [hF]
      clear hF hz
      go_wp2
      all_goals
        go_ret
        exact ⟨congrArg (fun b => Ending.returned (.bool b)) HT.out, HB.out⟩
end Go.Proofs.Yteanpepmncgagaa
