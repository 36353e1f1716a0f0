/-
  The frame of the functions that plan: the call's block, the outcome's block.
-/
import Derived.Test.YtmlfekbmbnfkjabGreatDoorR09
import Derived.Test.YtmlfekbmbnfkjabGreatDoorR12
namespace Go.Proofs.YtmlfekbmbnfkjabGreatDoor
set_option maxRecDepth 100000
open Go.RowKit

structure Fr (w W : World) (B O : Nat) (c : Cl) : Prop where
  cl : W.heap[B]? = some (.cells (clc c) 38 (0, 0))
  be : Below w.heap.size w W
  lo : w.heap.size ≤ B
  hi : B < O
theorem Fr.below {w W W' : World} {B O : Nat} {c : Cl} (h : Fr w W B O c) (hb : Below W.heap.size W W') : Fr w W' B O c :=
  ⟨(hb.block _ (heap_lt22 h.cl)).trans h.cl, h.be.trans (hb.mono h.be.size), h.lo, h.hi⟩
theorem Fr.drew {w W : World} {B O : Nat} {c : Cl} (h : Fr w W B O c) : Fr w W.drew B O c := ⟨h.cl, h.be.drew, h.lo, h.hi⟩
theorem Fr.set {w W : World} {B O : Nat} {c : Cl} (vs : Array Value) (h : Fr w W B O c) : Fr w (W.setRow O vs) B O c := by
  have hs : Below O W (W.setRow O vs) := below_setRow (Below.refl _ W) (Nat.le_refl _) _
  exact ⟨(hs.block _ h.hi).trans h.cl, h.be.trans (hs.mono (Nat.le_trans h.lo (Nat.le_of_lt h.hi))), h.lo, h.hi⟩
theorem fr_new (w : World) (c : Cl) : Fr w ((w.alloc (.cells (clc c) 38)).alloc (.cells outz 53)) w.heap.size (w.heap.size + 1) c ∧ ((w.alloc (.cells (clc c) 38)).alloc (.cells outz 53)).heap[w.heap.size + 1]? = some (.cells outz 53 (0, 0)) :=
  ⟨⟨by rw [Below.heap_alloc _ _ _ (by simp)]; exact heap_alloc_new w _, below_two w _ _, Nat.le_refl _, Nat.lt_succ_self _⟩, alloc_two w _ _⟩
section
variable {w W : World} {B O : Nat} {nm ky fd vl : List UInt8} {n m : Int} (h : Fr w W B O ⟨nm, ky, fd, vl, n, m⟩)
include h
theorem Fr.c1 : W.cell? ⟨B, 1, none⟩ = some (.string (sb ky)) := by rw [cell_of_row W B 1 _ _ _ h.cl]; rfl
theorem Fr.c2 : W.cell? ⟨B, 2, none⟩ = some (.string (sb fd)) := by rw [cell_of_row W B 2 _ _ _ h.cl]; rfl
theorem Fr.c3 : W.cell? ⟨B, 3, none⟩ = some (.string (sb vl)) := by rw [cell_of_row W B 3 _ _ _ h.cl]; rfl
theorem Fr.c4 : W.cell? ⟨B, 4, none⟩ = some (.int .i64 n) := by rw [cell_of_row W B 4 _ _ _ h.cl]; rfl
theorem Fr.c5 : W.cell? ⟨B, 5, none⟩ = some (.int .i64 m) := by rw [cell_of_row W B 5 _ _ _ h.cl]; rfl
theorem Fr.load : (loadVar 38 ⟨B, 0, none⟩).run Tryz.prog W = .ok (.agg (clc ⟨nm, ky, fd, vl, n, m⟩)) W := loadVar_cl h.cl rfl
theorem Fr.l1 : (loadVar 9 ⟨B, 1, none⟩).run Tryz.prog W = .ok (.string (sb ky)) W := by have hc := h.c1; clear h; go_simp
theorem Fr.l2 : (loadVar 9 ⟨B, 2, none⟩).run Tryz.prog W = .ok (.string (sb fd)) W := by have hc := h.c2; clear h; go_simp
theorem Fr.l3 : (loadVar 9 ⟨B, 3, none⟩).run Tryz.prog W = .ok (.string (sb vl)) W := by have hc := h.c3; clear h; go_simp
theorem Fr.l4 : (loadVar 3 ⟨B, 4, none⟩).run Tryz.prog W = .ok (.int .i64 n) W := by have hc := h.c4; clear h; go_simp
theorem Fr.l5 : (loadVar 3 ⟨B, 5, none⟩).run Tryz.prog W = .ok (.int .i64 m) W := by have hc := h.c5; clear h; go_simp
end

theorem fieldc1 (w : World) (B : Nat) : (Instr.fieldAt 38 (.pointer (some ⟨B, 0, none⟩)) 1).run Tryz.prog w = .ok (.pointer (some ⟨B, 1, none⟩)) w := by go_simp
theorem bld01 (w : World) (k : Int) (a : ByteArray) : (Instr.build 34 #[(0, .int .i64 k), (1, .string a)]).run Tryz.prog w = .ok (.agg #[.int .i64 k, .string a, .string ⟨#[]⟩, .string ⟨#[]⟩, .int .i64 0, .int .i64 0, .int .i64 0]) w := by go_simp
theorem y_bldS {o : Oper} {a : Act} {w : World} {ty : TypeId} {ps : List (Nat × Operand)} {vs : List (Nat × Value)} {v : Value} (ho : o.op = .build ty ps.toArray) (he : ps.map (fun p => (p.1, a.eval p.2)) = vs) (hr : (Instr.build ty vs.toArray).run Tryz.prog w = .ok v w) : (execOp a.eval o).run Tryz.prog w = .ok (.value v) w := by
  unfold execOp
  subst he
  simp only [ho, List.map_toArray, Sem.run_bind, Sem.run_pure, Result.andThen_ok, hr]
end Go.Proofs.YtmlfekbmbnfkjabGreatDoor

/-
  What comes of a command: what can't be done, a text that may be, what may be done.
-/
namespace Go.Proofs.YtmlfekbmbnfkjabGreatDoor
set_option maxRecDepth 100000
open Go.RowKit

theorem cfail_any (t : List UInt8) (w : World) : Calls Tryz.prog 26 #[.string (sb t)] w fun x w' => x = .returned (.agg (outx 2 t 0 none 0 0 opzz false)) ∧ Below w.heap.size w w' := by
  obtain ⟨W0, hW0⟩ : ∃ W0, w.alloc (.cells outz 53) = W0 := ⟨_, rfl⟩
  have hO0 : W0.heap[w.heap.size]? = some (.cells outz 53 (0, 0)) := by rw [← hW0]; exact heap_alloc_new w _
  have hb0 : Below w.heap.size w W0 := by rw [← hW0]; exact (Below.refl _ w).alloc (Nat.le_refl _) _
  have hW1 : w.alloc (.cells #[.int .i64 0, .string ⟨#[]⟩, .int .i64 0, .slice none 0 0, .int .i64 0, .string ⟨#[]⟩, .string ⟨#[]⟩, .string ⟨#[]⟩, .int .i64 0, .int .i64 0, .int .i64 0, .bool false] 53) = W0 := hW0
  obtain ⟨B, hB⟩ : ∃ B, w.heap.size = B := ⟨_, rfl⟩
  rw [hB] at hO0 hb0
  have HOW0 : Hid (W0.heap[B]? = some (.cells outz 53 (0, 0))) := hO0
  have HBW0 : Hid (Below B w W0) := hb0
  have HL : Hid (B < W0.heap.size) := heap_lt22 hO0
  clear hW0 hO0 hb0
  go_enter Tryz.func26, Tryz.ntmps26
  have hC := refusal_any t W0
  go_wp2_with fail
  refine Calls.mono hC ?_
  rintro ex w1 ⟨rfl, hb⟩
  have HOw1 : Hid (w1.heap[B]? = some (.cells outz 53 (0, 0))) := (hb.block _ (heap_lt22 HOW0.out)).trans HOW0.out
  have HBw1 : Hid (Below B w w1) := HBW0.out.trans (hb.mono (by have := HBW0.out.size; omega))
  clear hC hb
  have hC := ctell_any 2 t 0 none 0 0 w1
  go_wp2_with fail
  refine Calls.mono hC ?_
  rintro ex w2 ⟨rfl, hb⟩
  have HOw2 : Hid (w2.heap[B]? = some (.cells outz 53 (0, 0))) := (hb.block _ (heap_lt22 HOw1.out)).trans HOw1.out
  have HBw2 : Hid (Below B w w2) := HBw1.out.trans (hb.mono (by have := HBw1.out.size; omega))
  clear hC hb
  have hst := storeVar_out (cs := outx 2 t 0 none 0 0 opzz false) HOw2.out rfl rfl (outx_one _ _ _ _ _ _ _ _ _ _ _ _ _ _)
  have hg := setRow_heap w2 B _ (outx 2 t 0 none 0 0 opzz false) _ _ HOw2.out
  have HF : Hid (Below B w (w2.setRow B (outx 2 t 0 none 0 0 opzz false))) := below_setRow HBw2.out (by omega) _
  generalize w2.setRow B (outx 2 t 0 none 0 0 opzz false) = w3 at *
  go_wp2_with (first | (refine wpList_storeR (ty := 53) (x := .tmp 2) (y := .tmp 5) (ad := ⟨B, 0, none⟩) (v := .agg (outx 2 t 0 none 0 0 opzz false)) (w' := w3) rfl rfl rfl rfl hst ?_))
  refine ret_out rfl rfl rfl hg rfl ?_
  first | exact ⟨rfl, HF.out⟩ | exact ⟨rfl, by rw [hB]; exact HF.out⟩
theorem bulkif_any (b : Bool) (t : List UInt8) (w : World) : Calls Tryz.prog 108 #[.bool b, .string (sb t)] w fun x w' => x = .returned (.agg (repc (if b then 4 else 5) (if b then t else []) 0 (.slice none 0 0))) ∧ Below w.heap.size w w' := by
  cases b
  · obtain ⟨W0, hW0⟩ : ∃ W0, w.alloc (.cells repz 30) = W0 := ⟨_, rfl⟩
    have hO0 : W0.heap[w.heap.size]? = some (.cells repz 30 (0, 0)) := by rw [← hW0]; exact heap_alloc_new w _
    have hb0 : Below w.heap.size w W0 := by rw [← hW0]; exact (Below.refl _ w).alloc (Nat.le_refl _) _
    have hW1 : w.alloc (.cells #[.int .i64 0, .string ⟨#[]⟩, .int .i64 0, .slice none 0 0] 30) = W0 := hW0
    obtain ⟨B, hB⟩ : ∃ B, w.heap.size = B := ⟨_, rfl⟩
    rw [hB] at hO0 hb0
    have HOW0 : Hid (W0.heap[B]? = some (.cells repz 30 (0, 0))) := hO0
    have HBW0 : Hid (Below B w W0) := hb0
    have HL : Hid (B < W0.heap.size) := heap_lt22 hO0
    clear hW0 hO0 hb0
    go_enter Tryz.func108, Tryz.ntmps108
    have hC := cnone_any W0
    go_wp2_with fail
    refine Calls.mono hC ?_
    rintro ex w1 ⟨rfl, hb⟩
    have HOw1 : Hid (w1.heap[B]? = some (.cells repz 30 (0, 0))) := (hb.block _ (heap_lt22 HOW0.out)).trans HOW0.out
    have HBw1 : Hid (Below B w w1) := HBW0.out.trans (hb.mono (by have := HBW0.out.size; omega))
    clear hC hb
    have hst := storeVar_rep (cs := repc 5 [] 0 (.slice none 0 0)) HOw1.out rfl rfl (repc_one _ _ _ _ _ _)
    have hg := setRow_heap w1 B _ (repc 5 [] 0 (.slice none 0 0)) _ _ HOw1.out
    have HF : Hid (Below B w (w1.setRow B (repc 5 [] 0 (.slice none 0 0)))) := below_setRow HBw1.out (by omega) _
    generalize w1.setRow B (repc 5 [] 0 (.slice none 0 0)) = w2 at *
    go_wp2_with (first | (refine wpList_storeR (ty := 30) (x := .tmp 4) (y := .tmp 7) (ad := ⟨B, 0, none⟩) (v := .agg (repc 5 [] 0 (.slice none 0 0))) (w' := w2) rfl rfl rfl rfl hst ?_))
    refine ret_rep rfl rfl rfl hg rfl ?_
    first | exact ⟨rfl, HF.out⟩ | exact ⟨rfl, by rw [hB]; exact HF.out⟩
  · go_enter Tryz.func108, Tryz.ntmps108
    go_wp2
    refine ret_rep rfl rfl rfl (heap_alloc_new w _) rfl ?_
    exact ⟨rfl, (Below.refl _ w).alloc (Nat.le_refl _) _⟩
theorem enters_isit (xs : Array Value) (w : World) : (callFunc 114 xs).run Tryz.prog w = .ok (.enter 114 xs) w := enters Tryz.func114 (by kernel_rfl) (by kernel_rfl) xs w
theorem enters_cdo (xs : Array Value) (w : World) : (callFunc 105 xs).run Tryz.prog w = .ok (.enter 105 xs) w := enters Tryz.func105 (by kernel_rfl) (by kernel_rfl) xs w
theorem doif_any (b : Bool) (k : Int) (ky f v : List UInt8) (n r m : Int) (w : World) : Calls Tryz.prog 112 #[.bool b, .agg (opx k ky f v n r m)] w fun x w' => x = .returned (.agg (outx 3 [] (if b then 1 else 0) none 0 0 (if b then opx k ky f v n r m else opzz) b)) ∧ Below w.heap.size w w' := by
  cases b
  · obtain ⟨W0, hW0⟩ : ∃ W0, (w.alloc (.cells (opx k ky f v n r m) 34)).alloc (.cells outz 53) = W0 := ⟨_, rfl⟩
    have hO0 : W0.heap[w.heap.size + 1]? = some (.cells outz 53 (0, 0)) := by rw [← hW0]; exact alloc_two w _ _
    have hP0 : W0.heap[w.heap.size]? = some (.cells (opx k ky f v n r m) 34 (0, 0)) := by rw [← hW0, Below.heap_alloc _ _ _ (by simp)]; exact heap_alloc_new w _
    have hb0 : Below w.heap.size w W0 := by rw [← hW0]; exact below_two w _ _
    have hW1 : (w.alloc (.cells (opx k ky f v n r m) 34)).alloc (.cells #[.int .i64 0, .string ⟨#[]⟩, .int .i64 0, .slice none 0 0, .int .i64 0, .string ⟨#[]⟩, .string ⟨#[]⟩, .string ⟨#[]⟩, .int .i64 0, .int .i64 0, .int .i64 0, .bool false] 53) = W0 := hW0
    obtain ⟨C, hC0⟩ : ∃ C, w.heap.size = C := ⟨_, rfl⟩
    rw [hC0] at hO0 hP0 hb0
    have HOW0 : Hid (W0.heap[C + 1]? = some (.cells outz 53 (0, 0))) := hO0
    have HBW0 : Hid (Below C w W0) := hb0
    have HPW0 : Hid (W0.heap[C]? = some (.cells (opx k ky f v n r m) 34 (0, 0))) := hP0
    clear hW0 hO0 hb0 hP0
    go_enter Tryz.func112, Tryz.ntmps112
    have hC := cisit_any false W0
    go_wp2_with fail
    refine Calls.mono hC ?_
    rintro ex w1 ⟨rfl, hb⟩
    have HOw1 : Hid (w1.heap[C + 1]? = some (.cells outz 53 (0, 0))) := (hb.block _ (heap_lt22 HOW0.out)).trans HOW0.out
    have HBw1 : Hid (Below C w w1) := HBW0.out.trans (hb.mono (by have := HBW0.out.size; omega))
    clear hC hb
    have hC := ctell_any 3 [] 0 none 0 0 w1
    go_wp2_with fail
    refine Calls.mono hC ?_
    rintro ex w2 ⟨rfl, hb⟩
    have HOw2 : Hid (w2.heap[C + 1]? = some (.cells outz 53 (0, 0))) := (hb.block _ (heap_lt22 HOw1.out)).trans HOw1.out
    have HBw2 : Hid (Below C w w2) := HBw1.out.trans (hb.mono (by have := HBw1.out.size; omega))
    clear hC hb
    have hst := storeVar_out (cs := outx 3 [] 0 none 0 0 opzz false) HOw2.out rfl rfl (outx_one _ _ _ _ _ _ _ _ _ _ _ _ _ _)
    have hg := setRow_heap w2 (C + 1) _ (outx 3 [] 0 none 0 0 opzz false) _ _ HOw2.out
    have HF : Hid (Below C w (w2.setRow (C + 1) (outx 3 [] 0 none 0 0 opzz false))) := below_setRow HBw2.out (by omega) _
    generalize w2.setRow (C + 1) (outx 3 [] 0 none 0 0 opzz false) = w3 at *
    go_wp2_with (first | (refine wpList_storeR (ty := 53) (x := .tmp 4) (y := .tmp 8) (ad := ⟨C + 1, 0, none⟩) (v := .agg (outx 3 [] 0 none 0 0 opzz false)) (w' := w3) rfl rfl rfl rfl hst ?_))
    refine ret_out rfl rfl rfl hg rfl ?_
    first | exact ⟨rfl, HF.out⟩ | exact ⟨rfl, by rw [hC0]; exact HF.out⟩
  · obtain ⟨W0, hW0⟩ : ∃ W0, (w.alloc (.cells (opx k ky f v n r m) 34)).alloc (.cells outz 53) = W0 := ⟨_, rfl⟩
    have hO0 : W0.heap[w.heap.size + 1]? = some (.cells outz 53 (0, 0)) := by rw [← hW0]; exact alloc_two w _ _
    have hP0 : W0.heap[w.heap.size]? = some (.cells (opx k ky f v n r m) 34 (0, 0)) := by rw [← hW0, Below.heap_alloc _ _ _ (by simp)]; exact heap_alloc_new w _
    have hb0 : Below w.heap.size w W0 := by rw [← hW0]; exact below_two w _ _
    have hW1 : (w.alloc (.cells (opx k ky f v n r m) 34)).alloc (.cells #[.int .i64 0, .string ⟨#[]⟩, .int .i64 0, .slice none 0 0, .int .i64 0, .string ⟨#[]⟩, .string ⟨#[]⟩, .string ⟨#[]⟩, .int .i64 0, .int .i64 0, .int .i64 0, .bool false] 53) = W0 := hW0
    obtain ⟨C, hC0⟩ : ∃ C, w.heap.size = C := ⟨_, rfl⟩
    rw [hC0] at hO0 hP0 hb0
    have HOW0 : Hid (W0.heap[C + 1]? = some (.cells outz 53 (0, 0))) := hO0
    have HBW0 : Hid (Below C w W0) := hb0
    have HPW0 : Hid (W0.heap[C]? = some (.cells (opx k ky f v n r m) 34 (0, 0))) := hP0
    clear hW0 hO0 hb0 hP0
    go_enter Tryz.func112, Tryz.ntmps112
    go_wp2_with fail
    obtain ⟨D, hD⟩ : ∃ D, D = W0.drew := ⟨_, rfl⟩
    have SD : D.heap[C]? = some (.cells (opx k ky f v n r m) 34 (0, 0)) ∧ Below C w D := by rw [hD]; exact ⟨HPW0.out, HBW0.out.drew⟩
    have hOD : D.heap[C + 1]? = some (.cells outz 53 (0, 0)) := by rw [hD]; exact HOW0.out
    refine wp_region_noPanic ?_
    refine wp_region_held_drew (S := fun W' : World => W'.heap[C]? = some (.cells (opx k ky f v n r m) 34 (0, 0)) ∧ Below C w W') (by kernel_rfl) (by rw [← hD]; exact SD) (fun hHeld => ?_)
    rw [← hD] at hHeld ⊢
    refine wpAnyH_take (i := 1) (oi := { dst := some 10, op := _, type := _, pos := _, after := _, guard := _ }) (v := .agg (opx k ky f v n r m)) rfl (by kernel_rfl) (by kernel_rfl) (by kernel_rfl) (fun _ _ _ h => h) (Or.inl ⟨by rfl, ?_⟩) (by assumption) ?_
    · intro w9 hSw
      exact y_load rfl rfl (loadVar_opr hSw.1 rfl)
    simp only [Act.put, List.setIfInBounds_toArray, List.set_cons_zero, List.set_cons_succ]
    clear hHeld
    refine wpAnyH_ready (rs := [0]) (by kernel_rfl) (by simp) ?_
    refine AllReadyH.cons (o := { dst := some 9, op := _, type := _, pos := _, after := _, guard := _ }) rfl (fun K hK => ?_) AllReadyH.nil
    rw [if_pos (by rfl)]
    refine y_call (f := 114) (xs := [.const (.bool true)]) (vs := [.bool true]) rfl rfl (enters_isit _ _) (cisit_any true D) ?_
    rintro ex q1 ⟨rfl, hb⟩
    refine ⟨_, rfl, ?_⟩
    have Sq1 : q1.heap[C]? = some (.cells (opx k ky f v n r m) 34 (0, 0)) ∧ Below C w q1 := ⟨(hb.block _ (heap_lt22 SD.1)).trans SD.1, SD.2.trans (hb.mono (by have := SD.2.size; omega))⟩
    have hOq1 : q1.heap[C + 1]? = some (.cells outz 53 (0, 0)) := (hb.block _ (heap_lt22 hOD)).trans hOD
    clear hb
    refine hK.out _ _ Sq1 (fun hHeld => ?_)
    clear hK K
    simp only [Act.put, List.setIfInBounds_toArray, List.set_cons_zero, List.set_cons_succ]
    clear hHeld
    refine wpAnyH_ready (rs := [2]) (by kernel_rfl) (by simp) ?_
    refine AllReadyH.cons (o := { dst := some 11, op := _, type := _, pos := _, after := _, guard := _ }) rfl (fun K hK => ?_) AllReadyH.nil
    rw [if_pos (by rfl)]
    refine y_call (f := 105) (xs := [.tmp 9, .tmp 10]) (vs := [.agg (repc 3 [] 1 (.slice none 0 0)), .agg (opx k ky f v n r m)]) rfl rfl (enters_cdo _ _) (cdo_any 3 [] 1 none 0 0 k ky f v n r m q1) ?_
    rintro ex q2 ⟨rfl, hb⟩
    refine ⟨_, rfl, ?_⟩
    have Sq2 : q2.heap[C]? = some (.cells (opx k ky f v n r m) 34 (0, 0)) ∧ Below C w q2 := ⟨(hb.block _ (heap_lt22 Sq1.1)).trans Sq1.1, Sq1.2.trans (hb.mono (by have := Sq1.2.size; omega))⟩
    have hOq2 : q2.heap[C + 1]? = some (.cells outz 53 (0, 0)) := (hb.block _ (heap_lt22 hOq1)).trans hOq1
    clear hb
    refine hK.out _ _ Sq2 (fun hHeld => ?_)
    clear hK K
    simp only [Act.put, List.setIfInBounds_toArray, List.set_cons_zero, List.set_cons_succ]
    clear hHeld
    refine wpAnyH_ready (rs := [3]) (by kernel_rfl) (by simp) ?_
    refine AllReadyH.cons (o := { dst := none, op := _, type := _, pos := _, after := _, guard := _ }) rfl (fun K hK => ?_) AllReadyH.nil
    rw [if_pos (by rfl)]
    have hst := storeVar_out (cs := outx 3 [] 1 none 0 0 (opx k ky f v n r m) true) hOq2 rfl rfl (outx_one _ _ _ _ _ _ _ _ _ _ _ _ _ _)
    have hg := setRow_heap q2 (C + 1) _ (outx 3 [] 1 none 0 0 (opx k ky f v n r m) true) _ _ hOq2
    have hs : Below (C + 1) q2 (q2.setRow (C + 1) (outx 3 [] 1 none 0 0 (opx k ky f v n r m) true)) := below_setRow (Below.refl _ q2) (Nat.le_refl _) _
    generalize q2.setRow (C + 1) (outx 3 [] 1 none 0 0 (opx k ky f v n r m) true) = q3 at *
    have Sq3 : q3.heap[C]? = some (.cells (opx k ky f v n r m) 34 (0, 0)) ∧ Below C w q3 := ⟨(hs.block _ (Nat.lt_succ_self _)).trans Sq2.1, Sq2.2.trans (hs.mono (Nat.le_succ _))⟩
    refine y_store (ty := 53) (x := .tmp 4) (y := .tmp 11) (ad := ⟨C + 1, 0, none⟩) (v := .agg (outx 3 [] 1 none 0 0 (opx k ky f v n r m) true)) (w' := q3) rfl rfl rfl hst ?_
    refine hK.out _ _ Sq3 (fun hHeld => ?_)
    clear hK K
    simp only [Act.put]
    refine wpAnyH_done (by kernel_rfl) ?_ _
    refine NoPanic.normal ?_
    clear hHeld
    go_wp2
    refine ret_out rfl rfl rfl hg rfl ?_
    first | exact ⟨rfl, Sq3.2⟩ | exact ⟨rfl, by rw [hC0]; exact Sq3.2⟩
/-- What doIf hands back. -/
def outd (b : Bool) (k : Int) (ky f v : List UInt8) (n r m : Int) : Array Value := outx 3 [] (if b then 1 else 0) none 0 0 (if b then opx k ky f v n r m else opzz) b
theorem outd_size (b : Bool) (k : Int) (ky f v : List UInt8) (n r m : Int) : (outd b k ky f v n r m).size = 12 := by cases b <;> rfl
theorem outd_one (b : Bool) (k : Int) (ky f v : List UInt8) (n r m : Int) : (outd b k ky f v n r m).all (·.oneCell') = true := by cases b <;> exact outx_one _ _ _ _ _ _ _ _ _ _ _ _ _ _
theorem doif_outd (b : Bool) (k : Int) (ky f v : List UInt8) (n r m : Int) (w : World) : Calls Tryz.prog 112 #[.bool b, .agg (opx k ky f v n r m)] w fun x w' => x = .returned (.agg (outd b k ky f v n r m)) ∧ Below w.heap.size w w' := doif_any b k ky f v n r m w
def bkE (b : Bool) : Int := if b then 4 else 5
def btE (b : Bool) (t : List UInt8) : List UInt8 := if b then t else []
theorem bulkif_bt (b : Bool) (t : List UInt8) (w : World) : Calls Tryz.prog 108 #[.bool b, .string (sb t)] w fun x w' => x = .returned (.agg (repc (bkE b) (btE b t) 0 (.slice none 0 0))) ∧ Below w.heap.size w w' := bulkif_any b t w
theorem y_bin22 {o : Oper} {a : Act} {w : World} {op : BinOp} {t r : TypeId} {x y : Operand} {vx vy v : Value} (ho : o.op = .binOp op t x y r) (hx : a.eval x = vx) (hy : a.eval y = vy) (hg : (eqGuard op t x y vx vy).run Tryz.prog w = .ok () w) (hv : (binOp op t vx vy).run Tryz.prog w = .ok v w) : (execOp a.eval o).run Tryz.prog w = .ok (.value v) w := by
  unfold execOp
  simp only [ho, hx, hy, Sem.run_bind, Sem.run_pure, Result.andThen_ok, hg, hv]
theorem guard_int22 (w : World) {op : BinOp} {x y : Operand} (a b : Int) : (eqGuard op 3 x y (.int .i64 a) (.int .i64 b)).run Tryz.prog w = .ok () w := by go_simp
theorem neq_int22 (w : World) (a b : Int) : (binOp .neq 3 (.int .i64 a) (.int .i64 b)).run Tryz.prog w = .ok (.bool (!(a == b))) w := by
  simp [go_sem]
  rfl
theorem add_int22 (w : World) (a b : Int) (h0 : -9223372036854775808 ≤ a + b) (h1 : a + b ≤ 9223372036854775807) : (binOp .add 3 (.int .i64 a) (.int .i64 b)).run Tryz.prog w = .ok (.int .i64 (a + b)) w := by
  go_simp
  rw [IntKind.wrap_i64]
  omega
end Go.Proofs.YtmlfekbmbnfkjabGreatDoor

/-
  Functions that plan: of texts, tallies, groups, keys.
-/
namespace Go.Proofs.YtmlfekbmbnfkjabGreatDoor
set_option maxRecDepth 100000
open Go.RowKit

theorem enters_doif (xs : Array Value) (w : World) : (callFunc 112 xs).run Tryz.prog w = .ok (.enter 112 xs) w := enters Tryz.func112 (by kernel_rfl) (by kernel_rfl) xs w
theorem enters_stype (xs : Array Value) (w : World) : (callFunc 28 xs).run Tryz.prog w = .ok (.enter 28 xs) w := enters Tryz.func28 (by kernel_rfl) (by kernel_rfl) xs w
theorem removekey_any (p : Option Addr) (c : Cl) (t : Int) (w : World) (hM : ∀ u, Below w.heap.size w u → Calls Tryz.prog 28 #[.pointer p, .string (sb c.key)] u fun x w' => x = .returned (.int .i64 t) ∧ Below u.heap.size u w') : Calls Tryz.prog 83 #[.pointer p, .agg (clc c)] w fun x w' => x = .returned (.agg (outd (!(t == 0)) 11 c.key [] [] 0 0 0)) ∧ Below w.heap.size w w' := by
  obtain ⟨nm, ky, fd, vl, n, m⟩ := c
  have F0 := fr_new w ⟨nm, ky, fd, vl, n, m⟩
  obtain ⟨W0, hW0⟩ : ∃ W0, (w.alloc (.cells (clc ⟨nm, ky, fd, vl, n, m⟩) 38)).alloc (.cells outz 53) = W0 := ⟨_, rfl⟩
  rw [hW0] at F0
  have hW1 : (w.alloc (.cells (clc ⟨nm, ky, fd, vl, n, m⟩) 38)).alloc (.cells #[.int .i64 0, .string ⟨#[]⟩, .int .i64 0, .slice none 0 0, .int .i64 0, .string ⟨#[]⟩, .string ⟨#[]⟩, .string ⟨#[]⟩, .int .i64 0, .int .i64 0, .int .i64 0, .bool false] 53) = W0 := hW0
  obtain ⟨B, hB⟩ : ∃ B, w.heap.size = B := ⟨_, rfl⟩
  rw [hB] at F0
  have FW0 : Hid (Fr w W0 B (B + 1) ⟨nm, ky, fd, vl, n, m⟩) := F0.1
  have hOW0 : Hid (W0.heap[B + 1]? = some (.cells outz 53 (0, 0))) := F0.2
  clear hW0 F0
  have HM : Hid (∀ u, Below w.heap.size w u → _) := hM
  clear hM
  go_enter Tryz.func83, Tryz.ntmps83
  go_wp2_with fail
  obtain ⟨W0d, hDW0d⟩ : ∃ W, W = W0.drew := ⟨_, rfl⟩
  have FW0d : Fr w W0d B (B + 1) ⟨nm, ky, fd, vl, n, m⟩ := by rw [hDW0d]; exact FW0.out.drew
  have hOW0d : W0d.heap[B + 1]? = some (.cells outz 53 (0, 0)) := by rw [hDW0d]; exact hOW0.out
  refine wp_region_noPanic ?_
  refine wp_region_held_drew (S := fun W' : World => Fr w W' B (B + 1) ⟨nm, ky, fd, vl, n, m⟩) (by kernel_rfl) (by rw [← hDW0d]; exact FW0d) (fun hHeld => ?_)
  rw [← hDW0d] at hHeld ⊢
  refine wpAnyH_take (i := 0) (oi := { dst := some 5, op := _, type := _, pos := _, after := _, guard := _ }) (v := .pointer p) rfl (by kernel_rfl) (by kernel_rfl) (by kernel_rfl) (fun _ _ _ h => h) (Or.inl ⟨by rfl, ?_⟩) (by assumption) ?_
  · intro w9 hSw
    exact y_move rfl rfl
  simp only [Act.put, List.setIfInBounds_toArray, List.set_cons_zero, List.set_cons_succ]
  refine wpAnyH_take (i := 1) (oi := { dst := some 6, op := _, type := _, pos := _, after := _, guard := _ }) (v := .pointer (some ⟨B, 1, none⟩)) rfl (by kernel_rfl) (by kernel_rfl) (by kernel_rfl) (fun _ _ _ h => h) (Or.inl ⟨by rfl, ?_⟩) (by assumption) ?_
  · intro w9 hSw
    exact y_field rfl rfl (fieldc1 _ _)
  simp only [Act.put, List.setIfInBounds_toArray, List.set_cons_zero, List.set_cons_succ]
  refine wpAnyH_take (i := 2) (oi := { dst := some 7, op := _, type := _, pos := _, after := _, guard := _ }) (v := .string (sb ky)) rfl (by kernel_rfl) (by kernel_rfl) (by kernel_rfl) (fun _ _ _ h => h) (Or.inl ⟨by rfl, ?_⟩) (by assumption) ?_
  · intro w9 hSw
    exact y_load rfl rfl hSw.l1
  simp only [Act.put, List.setIfInBounds_toArray, List.set_cons_zero, List.set_cons_succ]
  refine wpAnyH_take (i := 5) (oi := { dst := some 10, op := _, type := _, pos := _, after := _, guard := _ }) (v := .pointer (some ⟨B, 1, none⟩)) rfl (by kernel_rfl) (by kernel_rfl) (by kernel_rfl) (fun _ _ _ h => h) (Or.inl ⟨by rfl, ?_⟩) (by assumption) ?_
  · intro w9 hSw
    exact y_field rfl rfl (fieldc1 _ _)
  simp only [Act.put, List.setIfInBounds_toArray, List.set_cons_zero, List.set_cons_succ]
  refine wpAnyH_take (i := 6) (oi := { dst := some 11, op := _, type := _, pos := _, after := _, guard := _ }) (v := .string (sb ky)) rfl (by kernel_rfl) (by kernel_rfl) (by kernel_rfl) (fun _ _ _ h => h) (Or.inl ⟨by rfl, ?_⟩) (by assumption) ?_
  · intro w9 hSw
    exact y_load rfl rfl hSw.l1
  simp only [Act.put, List.setIfInBounds_toArray, List.set_cons_zero, List.set_cons_succ]
  refine wpAnyH_take (i := 7) (oi := { dst := some 12, op := _, type := _, pos := _, after := _, guard := _ }) (v := .agg #[.int .i64 (11), .string (sb ky), .string ⟨#[]⟩, .string ⟨#[]⟩, .int .i64 0, .int .i64 0, .int .i64 0]) rfl (by kernel_rfl) (by kernel_rfl) (by kernel_rfl) (fun _ _ _ h => h) (Or.inl ⟨by rfl, ?_⟩) (by assumption) ?_
  · intro w9 hSw
    exact y_bldS (vs := [(0, .int .i64 (11)), (1, .string (sb ky))]) rfl rfl (bld01 _ _ _)
  simp only [Act.put, List.setIfInBounds_toArray, List.set_cons_zero, List.set_cons_succ]
  clear hHeld
  refine wpAnyH_ready (rs := [3]) (by kernel_rfl) (by simp) ?_
  refine AllReadyH.cons (o := { dst := some 8, op := _, type := _, pos := _, after := _, guard := _ }) rfl (fun K hK => ?_) AllReadyH.nil
  rw [if_pos (by rfl)]
  have hCW0q1 := HM.out W0d FW0d.be
  refine y_call (f := 28) (xs := [.tmp 5, .tmp 7]) (vs := [.pointer p, .string (sb ky)]) rfl rfl (enters_stype _ _) hCW0q1 ?_
  rintro ex W0q1 ⟨rfl, hbW0q1⟩
  refine ⟨_, rfl, ?_⟩
  have FW0q1 := FW0d.below hbW0q1
  have hOW0q1 : W0q1.heap[B + 1]? = some (.cells outz 53 (0, 0)) := (hbW0q1.block _ (heap_lt22 hOW0d)).trans hOW0d
  clear hCW0q1 hbW0q1
  refine hK.out _ _ FW0q1 (fun hHeld => ?_)
  clear hK K
  simp only [Act.put, List.setIfInBounds_toArray, List.set_cons_zero, List.set_cons_succ]
  refine wpAnyH_take (i := 4) (oi := { dst := some 9, op := _, type := _, pos := _, after := _, guard := _ }) (v := .bool (!(t == 0))) rfl (by kernel_rfl) (by kernel_rfl) (by kernel_rfl) (fun _ _ _ h => h) (Or.inl ⟨by rfl, ?_⟩) (by assumption) ?_
  · intro w9 hSw
    exact y_bin22 rfl rfl rfl (guard_int22 _ _ _) (neq_int22 _ _ _)
  simp only [Act.put, List.setIfInBounds_toArray, List.set_cons_zero, List.set_cons_succ]
  clear hHeld
  refine wpAnyH_ready (rs := [8]) (by kernel_rfl) (by simp) ?_
  refine AllReadyH.cons (o := { dst := some 13, op := _, type := _, pos := _, after := _, guard := _ }) rfl (fun K hK => ?_) AllReadyH.nil
  rw [if_pos (by rfl)]
  have hCW0q2 := doif_outd (!(t == 0)) 11 ky [] [] 0 0 0 W0q1
  refine y_call (f := 112) (xs := [.tmp 9, .tmp 12]) (vs := [.bool (!(t == 0)), .agg #[.int .i64 (11), .string (sb ky), .string ⟨#[]⟩, .string ⟨#[]⟩, .int .i64 0, .int .i64 0, .int .i64 0]]) rfl rfl (enters_doif _ _) hCW0q2 ?_
  rintro ex W0q2 ⟨rfl, hbW0q2⟩
  refine ⟨_, rfl, ?_⟩
  have FW0q2 := FW0q1.below hbW0q2
  have hOW0q2 : W0q2.heap[B + 1]? = some (.cells outz 53 (0, 0)) := (hbW0q2.block _ (heap_lt22 hOW0q1)).trans hOW0q1
  clear hCW0q2 hbW0q2
  refine hK.out _ _ FW0q2 (fun hHeld => ?_)
  clear hK K
  simp only [Act.put, List.setIfInBounds_toArray, List.set_cons_zero, List.set_cons_succ]
  clear hHeld
  refine wpAnyH_ready (rs := [9]) (by kernel_rfl) (by simp) ?_
  refine AllReadyH.cons (o := { dst := none, op := _, type := _, pos := _, after := _, guard := _ }) rfl (fun K hK => ?_) AllReadyH.nil
  rw [if_pos (by rfl)]
  have hstW0q3 := storeVar_out (cs := outd (!(t == 0)) 11 ky [] [] 0 0 0) hOW0q2 (outd_size _ _ _ _ _ _ _ _) rfl (outd_one _ _ _ _ _ _ _ _)
  have hgW0q3 := setRow_heap W0q2 (B + 1) _ (outd (!(t == 0)) 11 ky [] [] 0 0 0) _ _ hOW0q2
  have FW0q3 := FW0q2.set (vs := outd (!(t == 0)) 11 ky [] [] 0 0 0)
  generalize W0q2.setRow (B + 1) (outd (!(t == 0)) 11 ky [] [] 0 0 0) = W0q3 at *
  refine y_store (ty := 53) (x := .tmp 4) (y := .tmp 13) (ad := ⟨B + 1, 0, none⟩) (v := .agg (outd (!(t == 0)) 11 ky [] [] 0 0 0)) (w' := W0q3) rfl rfl rfl hstW0q3 ?_
  refine hK.out _ _ FW0q3 (fun hHeld => ?_)
  clear hK K
  simp only [Act.put]
  refine wpAnyH_done (by kernel_rfl) ?_ _
  refine NoPanic.normal ?_
  clear hHeld
  go_wp2
  refine ret_out rfl rfl rfl hgW0q3 (outd_size _ _ _ _ _ _ _ _) ?_
  first | exact ⟨rfl, FW0q3.be⟩ | exact ⟨rfl, by rw [← hB]; exact FW0q3.be⟩
theorem gettext_any (p : Option Addr) (c : Cl) (t : List UInt8) (b : Bool) (w : World) (hM : ∀ u, Below w.heap.size w u → Calls Tryz.prog 107 #[.pointer p, .string (sb c.key)] u fun x w' => x = .returned (.tuple #[.string (sb t), .bool b]) ∧ Below u.heap.size u w') : Calls Tryz.prog 62 #[.pointer p, .agg (clc c)] w fun x w' => x = .returned (.agg (outx (bkE b) (btE b t) 0 none 0 0 opzz false)) ∧ Below w.heap.size w w' := by
  obtain ⟨nm, ky, fd, vl, n, m⟩ := c
  have F0 := fr_new w ⟨nm, ky, fd, vl, n, m⟩
  obtain ⟨W0, hW0⟩ : ∃ W0, (w.alloc (.cells (clc ⟨nm, ky, fd, vl, n, m⟩) 38)).alloc (.cells outz 53) = W0 := ⟨_, rfl⟩
  rw [hW0] at F0
  have hW1 : (w.alloc (.cells (clc ⟨nm, ky, fd, vl, n, m⟩) 38)).alloc (.cells #[.int .i64 0, .string ⟨#[]⟩, .int .i64 0, .slice none 0 0, .int .i64 0, .string ⟨#[]⟩, .string ⟨#[]⟩, .string ⟨#[]⟩, .int .i64 0, .int .i64 0, .int .i64 0, .bool false] 53) = W0 := hW0
  obtain ⟨B, hB⟩ : ∃ B, w.heap.size = B := ⟨_, rfl⟩
  rw [hB] at F0
  have FW0 : Hid (Fr w W0 B (B + 1) ⟨nm, ky, fd, vl, n, m⟩) := F0.1
  have hOW0 : Hid (W0.heap[B + 1]? = some (.cells outz 53 (0, 0))) := F0.2
  clear hW0 F0
  have HM : Hid (∀ u, Below w.heap.size w u → _) := hM
  clear hM
  go_enter Tryz.func62, Tryz.ntmps62
  have hC := HM.out W0 FW0.out.be
  have hc1 := FW0.out.c1
  have hc2 := FW0.out.c2
  have hc3 := FW0.out.c3
  have hc4 := FW0.out.c4
  have hc5 := FW0.out.c5
  have hld := FW0.out.load
  go_wp2_with (first | (refine wpList_loadR (ty := 38) (x := .tmp 3) (ad := ⟨B, 0, none⟩) (v := .agg (clc ⟨nm, ky, fd, vl, n, m⟩)) rfl rfl rfl hld ?_))
  refine Calls.mono hC ?_
  rintro ex w1 ⟨rfl, hb⟩
  have Fw1 : Hid (Fr w w1 B (B + 1) ⟨nm, ky, fd, vl, n, m⟩) := FW0.out.below hb
  have hOw1 : Hid (w1.heap[B + 1]? = some (.cells outz 53 (0, 0))) := (hb.block _ (heap_lt22 hOW0.out)).trans hOW0.out
  clear hC hb hc1 hc2 hc3 hc4 hc5 hld
  have hC := bulkif_bt b t w1
  have hc1 := Fw1.out.c1
  have hc2 := Fw1.out.c2
  have hc3 := Fw1.out.c3
  have hc4 := Fw1.out.c4
  have hc5 := Fw1.out.c5
  have hld := Fw1.out.load
  go_wp2_with (first | (refine wpList_loadR (ty := 38) (x := .tmp 3) (ad := ⟨B, 0, none⟩) (v := .agg (clc ⟨nm, ky, fd, vl, n, m⟩)) rfl rfl rfl hld ?_))
  refine Calls.mono hC ?_
  rintro ex w2 ⟨rfl, hb⟩
  have Fw2 : Hid (Fr w w2 B (B + 1) ⟨nm, ky, fd, vl, n, m⟩) := Fw1.out.below hb
  have hOw2 : Hid (w2.heap[B + 1]? = some (.cells outz 53 (0, 0))) := (hb.block _ (heap_lt22 hOw1.out)).trans hOw1.out
  clear hC hb hc1 hc2 hc3 hc4 hc5 hld
  have hC := ctell_any (bkE b) (btE b t) 0 none 0 0 w2
  have hc1 := Fw2.out.c1
  have hc2 := Fw2.out.c2
  have hc3 := Fw2.out.c3
  have hc4 := Fw2.out.c4
  have hc5 := Fw2.out.c5
  have hld := Fw2.out.load
  go_wp2_with (first | (refine wpList_loadR (ty := 38) (x := .tmp 3) (ad := ⟨B, 0, none⟩) (v := .agg (clc ⟨nm, ky, fd, vl, n, m⟩)) rfl rfl rfl hld ?_))
  refine Calls.mono hC ?_
  rintro ex w3 ⟨rfl, hb⟩
  have Fw3 : Hid (Fr w w3 B (B + 1) ⟨nm, ky, fd, vl, n, m⟩) := Fw2.out.below hb
  have hOw3 : Hid (w3.heap[B + 1]? = some (.cells outz 53 (0, 0))) := (hb.block _ (heap_lt22 hOw2.out)).trans hOw2.out
  clear hC hb hc1 hc2 hc3 hc4 hc5 hld
  have hst := storeVar_out (cs := outx (bkE b) (btE b t) 0 none 0 0 opzz false) hOw3.out rfl rfl (outx_one _ _ _ _ _ _ _ _ _ _ _ _ _ _)
  have hgw4 := setRow_heap w3 (B + 1) _ (outx (bkE b) (btE b t) 0 none 0 0 opzz false) _ _ hOw3.out
  have Fw4 := Fw3.out.set (outx (bkE b) (btE b t) 0 none 0 0 opzz false)
  generalize w3.setRow (B + 1) (outx (bkE b) (btE b t) 0 none 0 0 opzz false) = w4 at *
  go_wp2_with (first | (refine wpList_storeR (ty := 53) (x := .tmp 4) (y := .tmp 17) (ad := ⟨B + 1, 0, none⟩) (v := .agg (outx (bkE b) (btE b t) 0 none 0 0 opzz false)) (w' := w4) rfl rfl rfl rfl hst ?_))
  refine ret_out rfl rfl rfl hgw4 rfl ?_
  first | exact ⟨rfl, Fw4.be⟩ | exact ⟨rfl, by rw [← hB]; exact Fw4.be⟩
end Go.Proofs.YtmlfekbmbnfkjabGreatDoor

/-
  Plain facts: things under dots, in these' order.
-/
namespace Go.Proofs.YtmlfekbmbnfkjabGreatDoor
set_option maxRecDepth 100000

/-- A thing under a dot. -/
structure It (α : Type) where
  r : Int
  n : Int
  x : α

section
variable {α β : Type}

/-- Stands a ahead of b? -/
def bef (a b : It α) : Bool := decide (a.r < b.r ∨ (a.r = b.r ∧ a.n < b.n))
/-- Lies it under that dot? -/
def isAt (r n : Int) (i : It α) : Bool := decide (i.r = r ∧ i.n = n)
/-- In their dots' order. -/
def Srt (S : List (It α)) : Prop := S.Pairwise fun a b => bef a b = true
def del (S : List (It α)) (r n : Int) : List (It α) := S.filter fun i => !isAt r n i
def put (S : List (It α)) (d : It α) : List (It α) := S.filter (fun i => bef i d) ++ d :: S.filter (fun i => bef d i)
def find (S : List (It α)) (r n : Int) : Option (It α) := S.find? (isAt r n)
def hasD (S : List (It α)) (r n : Int) : Bool := S.any (isAt r n)

theorem bef_iff {a b : It α} : bef a b = true ↔ (a.r < b.r ∨ (a.r = b.r ∧ a.n < b.n)) := by simp [bef]
theorem isAt_iff {r n : Int} {i : It α} : isAt r n i = true ↔ (i.r = r ∧ i.n = n) := by simp [isAt]
theorem bef_irrefl (a : It α) : bef a a = false := by simp [bef]
theorem bef_trans {a b c : It α} (h : bef a b = true) (k : bef b c = true) : bef a c = true := by rw [bef_iff] at *; omega
theorem bef_asymm {a b : It α} (h : bef a b = true) : bef b a = false := by
  rw [bef_iff] at h
  cases hb : bef b a
  · rfl
  · rw [bef_iff] at hb; omega
theorem bef_tri (a d : It α) : isAt d.r d.n a = true ∨ bef a d = true ∨ bef d a = true := by rw [bef_iff, bef_iff, isAt_iff]; omega
theorem isAt_bef {a d : It α} (h : isAt d.r d.n a = true) : bef a d = false ∧ bef d a = false := by
  rw [isAt_iff] at h
  constructor
  · cases hb : bef a d
    · rfl
    · rw [bef_iff] at hb; omega
  · cases hb : bef d a
    · rfl
    · rw [bef_iff] at hb; omega
theorem bef_ne {a b : It α} (h : bef a b = true) : ¬ (a.r = b.r ∧ a.n = b.n) := by rw [bef_iff] at h; omega

theorem Srt.nil : Srt ([] : List (It α)) := List.Pairwise.nil
theorem Srt.filter {S : List (It α)} (h : Srt S) (p : It α → Bool) : Srt (S.filter p) := List.Pairwise.filter p h
theorem Srt.del {S : List (It α)} (h : Srt S) (r n : Int) : Srt (del S r n) := h.filter _
theorem Srt.put {S : List (It α)} (h : Srt S) (d : It α) : Srt (put S d) := by
  unfold Srt Proofs.YtmlfekbmbnfkjabGreatDoor.put
  rw [List.pairwise_append]
  refine ⟨h.filter _, List.pairwise_cons.2 ⟨fun a ha => (List.mem_filter.1 ha).2, h.filter _⟩, fun a ha b hb => ?_⟩
  have h1 := (List.mem_filter.1 ha).2
  rcases List.mem_cons.1 hb with rfl | hb
  · exact h1
  · exact bef_trans h1 (List.mem_filter.1 hb).2
theorem Srt.apart {S : List (It α)} (h : Srt S) : S.Pairwise fun a b => ¬ (a.r = b.r ∧ a.n = b.n) := h.imp bef_ne
/-- Two lists in order with the same things are one. -/
theorem Srt.eq_of_perm : ∀ {S T : List (It α)}, Srt S → Srt T → S.Perm T → S = T
  | [], T, _, _, hp => (List.Perm.nil_eq hp)
  | a :: S, [], _, _, hp => absurd hp.length_eq (by simp)
  | a :: S, b :: T, hS, hT, hp => by
    obtain ⟨h1, h2⟩ := List.pairwise_cons.1 hS
    obtain ⟨k1, k2⟩ := List.pairwise_cons.1 hT
    have e : a = b := by
      have ha : a ∈ b :: T := hp.mem_iff.1 (by simp)
      have hb : b ∈ a :: S := hp.mem_iff.2 (by simp)
      rcases List.mem_cons.1 ha with e | ha
      · exact e
      · rcases List.mem_cons.1 hb with e | hb
        · exact e.symm
        · have := bef_asymm (h1 b hb); rw [k1 a ha] at this; cases this
    subst e
    rw [Srt.eq_of_perm h2 k2 (List.perm_cons a |>.1 hp)]
theorem filter_or_perm {β : Type} (p q : β → Bool) : ∀ S : List β, (∀ i ∈ S, ¬ (p i = true ∧ q i = true)) → (S.filter p ++ S.filter q).Perm (S.filter fun i => p i || q i)
  | [], _ => by simp
  | a :: S, h => by
    have ih := filter_or_perm p q S (fun i hi => h i (by simp [hi]))
    have ha := h a (by simp)
    simp only [List.filter_cons]
    cases hp : p a <;> cases hq : q a
    · simpa using ih
    · simp only [Bool.false_eq_true, if_false, if_true, Bool.or_true]
      exact (List.perm_middle).trans (ih.cons a)
    · simp only [Bool.false_eq_true, if_false, if_true, Bool.true_or, List.cons_append]
      exact ih.cons a
    · exact absurd ⟨hp, hq⟩ ha
theorem put_perm (S : List (It α)) (d : It α) : (put S d).Perm (d :: del S d.r d.n) := by
  unfold put del
  refine (List.perm_middle).trans (List.Perm.cons d ?_)
  refine (filter_or_perm _ _ S (fun i _ h => by have := bef_asymm h.1; rw [h.2] at this; cases this)).trans ?_
  refine List.Perm.of_eq (List.filter_congr fun i _ => ?_)
  rcases bef_tri i d with h | h | h
  · obtain ⟨h1, h2⟩ := isAt_bef h
    rw [h, h1, h2]; rfl
  · have : isAt d.r d.n i = false := by
      cases hh : isAt d.r d.n i
      · rfl
      · rw [(isAt_bef hh).1] at h; cases h
    rw [h, this]; rfl
  · have : isAt d.r d.n i = false := by
      cases hh : isAt d.r d.n i
      · rfl
      · rw [(isAt_bef hh).2] at h; cases h
    rw [h, this]; simp
theorem hasD_iff {S : List (It α)} {r n : Int} : hasD S r n = true ↔ ∃ i ∈ S, i.r = r ∧ i.n = n := by
  simp [hasD, isAt]
theorem del_of_not {S : List (It α)} {r n : Int} (h : hasD S r n = false) : del S r n = S := by
  unfold del
  refine List.filter_eq_self.2 fun i hi => ?_
  cases hh : isAt r n i
  · rfl
  · have : hasD S r n = true := List.any_eq_true.2 ⟨i, hi, hh⟩
    rw [h] at this; cases this
/-- What is found there is the one thing that lies there. -/
theorem find_mem {S : List (It α)} {r n : Int} {i : It α} (h : find S r n = some i) : i ∈ S ∧ i.r = r ∧ i.n = n :=
  ⟨List.mem_of_find?_eq_some h, isAt_iff.1 (List.find?_some h)⟩
theorem find_none {S : List (It α)} {r n : Int} : find S r n = none ↔ hasD S r n = false := by
  simp [find, hasD]
theorem find_some {S : List (It α)} (hS : Srt S) {i : It α} (h : i ∈ S) : find S i.r i.n = some i := by
  unfold find
  cases hf : S.find? (isAt i.r i.n) with
  | none =>
    have := List.find?_eq_none.1 hf i h
    rw [isAt_iff] at this
    exact absurd ⟨rfl, rfl⟩ this
  | some j =>
    obtain ⟨hj, h1, h2⟩ := find_mem (S := S) (r := i.r) (n := i.n) hf
    congr 1
    have ap := hS.apart
    clear hf
    induction S with
    | nil => simp at h
    | cons a S ih =>
      obtain ⟨p1, p2⟩ := List.pairwise_cons.1 ap
      rcases List.mem_cons.1 h with e | h'
      · rcases List.mem_cons.1 hj with e' | hj'
        · rw [e, e']
        · exact absurd ⟨e ▸ h1.symm, e ▸ h2.symm⟩ (p1 j hj')
      · rcases List.mem_cons.1 hj with e' | hj'
        · exact absurd ⟨e' ▸ h1, e' ▸ h2⟩ (p1 i h')
        · exact ih (List.pairwise_cons.1 hS).2 h' hj' p2
theorem hasD_find {S : List (It α)} {r n : Int} : hasD S r n = (find S r n).isSome := by
  cases h : find S r n with
  | none => rw [find_none] at h; rw [h]; rfl
  | some i => obtain ⟨h1, h2, h3⟩ := find_mem h; exact hasD_iff.2 ⟨i, h1, h2, h3⟩
/-- How the things come one behind the other. -/
def puts (l : List (It α)) : List (It α) := l.foldl put []
theorem Srt.puts : ∀ l : List (It α), Srt (puts l) := by
  intro l
  unfold Proofs.YtmlfekbmbnfkjabGreatDoor.puts
  suffices h : ∀ (l S : List (It α)), Srt S → Srt (l.foldl Proofs.YtmlfekbmbnfkjabGreatDoor.put S) from h l [] Srt.nil
  intro l
  induction l with
  | nil => exact fun S h => h
  | cons a l ih => exact fun S h => ih _ (h.put a)
theorem perm_erase {γ : Type} : ∀ {L : List γ} {j : Nat} {i : γ}, L[j]? = some i → L.Perm (i :: L.eraseIdx j)
  | [], j, i, h => by simp at h
  | a :: L, 0, i, h => by
    obtain rfl : a = i := by simpa using h
    exact List.Perm.refl _
  | a :: L, j + 1, i, h => by
    have ih := perm_erase (L := L) (j := j) (i := i) (by simpa using h)
    simp only [List.eraseIdx_cons_succ]
    exact (ih.cons a).trans (List.Perm.swap i a _)
theorem perm_set {γ : Type} : ∀ {L : List γ} {j : Nat} {i x : γ}, L[j]? = some i → (L.set j x).Perm (x :: L.eraseIdx j)
  | [], j, i, x, h => by simp at h
  | a :: L, 0, i, x, h => List.Perm.refl _
  | a :: L, j + 1, i, x, h => by
    have ih := perm_set (L := L) (j := j) (i := i) (x := x) (by simpa using h)
    simp only [List.eraseIdx_cons_succ, List.set_cons_succ]
    exact (ih.cons a).trans (List.Perm.swap x a _)
theorem map_erase {γ δ : Type} (f : γ → δ) : ∀ (L : List γ) (j : Nat), (L.eraseIdx j).map f = (L.map f).eraseIdx j
  | [], j => by simp
  | a :: L, 0 => by simp
  | a :: L, j + 1 => by simp [map_erase f L j]
end

end Go.Proofs.YtmlfekbmbnfkjabGreatDoor

