/-
  awake and small.
-/
import Derived.Test.YtmlfekbmbnfkjabGreatDoorQ30
import Derived.Test.YtmlfekbmbnfkjabGreatDoorQ34
import Derived.ArgAppend
import Derived.Test.YtmlfekbmbnfkjabGreatDoorQ20
namespace Go.Proofs.YtmlfekbmbnfkjabGreatDoor
set_option maxRecDepth 100000
open Go.RowKit

def awA : List (List UInt8) := [[105, 110, 99, 114, 98, 121], [107], [45, 53]]
def awC : Cl := ⟨[73, 78, 67, 82, 66, 89], [107], [], [], -5, 0⟩
theorem aw_parse : parseE awA = (awC, 0) := by decide +kernel
theorem aw_err : errE 13 = [69, 82, 82, 32, 105, 110, 116] := by decide
set_option maxHeartbeats 2000000 in
theorem cawake_any (w : World) (ht : Tb w) : Calls Tryz.prog 5 #[] w fun e w' => e = .returned (.bool true) ∧ Below w.heap.size w w' := by
  have hb0 : Below w.heap.size w (w.alloc (.cells #[.string ⟨#[105, 110, 99, 114, 98, 121]⟩, .string ⟨#[107]⟩, .string ⟨#[45, 53]⟩] 9)) := (Below.refl _ w).alloc (Nat.le_refl _) _
  have hT : T21.Txts (w.alloc (.cells #[.string ⟨#[105, 110, 99, 114, 98, 121]⟩, .string ⟨#[107]⟩, .string ⟨#[45, 53]⟩] 9)) (some ⟨w.heap.size, 0, none⟩) 3 3 (awA.map sb) := by
    refine ⟨rfl, Nat.le_refl _, (fun h => by cases h), fun ad had j s hs => ?_, fun s hs => ?_⟩
    · obtain rfl := Option.some.inj had
      rw [Addr.add_lit, Nat.zero_add, World.cell?_alloc_mark]
      match j, hs with
      | 0, hs => cases hs; rfl
      | 1, hs => cases hs; rfl
      | 2, hs => cases hs; rfl
    · have h9 : ∀ x ∈ awA, x.length ≤ 9 := by decide
      obtain ⟨x, hx, rfl⟩ := List.mem_map.1 hs
      have := h9 x hx
      rw [size_sb]
      unfold maxLen
      omega
  have hP := parse_any (some ⟨w.heap.size, 0, none⟩) 3 3 awA _ hT (by decide) (ht.below hb0) (by decide)
  rw [aw_parse] at hP
  have HB0 : Hid _ := hb0
  clear hb0 hT
  go_enter Tryz.func5, Tryz.ntmps5
  go_wp2_with fail
  refine Calls.mono hP ?_
  rintro e w1 ⟨rfl, hb1⟩
  have hb2 : Below w.heap.size w w1 := HB0.out.trans (hb1.mono HB0.out.size)
  have hnew := heap_alloc_new w1 (.cells (clc clz) 38)
  have hst : (storeVar 38 ⟨w1.heap.size, 0, none⟩ (.agg #[.string ⟨#[73, 78, 67, 82, 66, 89]⟩, .string ⟨#[107]⟩, .string ⟨#[]⟩, .string ⟨#[]⟩, .int .i64 (-5), .int .i64 0])).run Tryz.prog (w1.alloc (.cells (clc clz) 38)) = .ok () ((w1.alloc (.cells (clc clz) 38)).setRow w1.heap.size (clc awC)) := storeVar_cl (cs := clc awC) hnew rfl rfl (clc_one _)
  have hg := setRow_heap (w1.alloc (.cells (clc clz) 38)) w1.heap.size _ (clc awC) _ _ hnew
  have hb3 : Below w1.heap.size w1 ((w1.alloc (.cells (clc clz) 38)).setRow w1.heap.size (clc awC)) := below_setRow ((Below.refl _ w1).alloc (Nat.le_refl _) _) (Nat.le_refl _) _
  generalize (w1.alloc (.cells (clc clz) 38)).setRow w1.heap.size (clc awC) = W2 at *
  have hld : (loadVar 38 ⟨w1.heap.size, 0, none⟩).run Tryz.prog W2 = .ok (.agg #[.string ⟨#[73, 78, 67, 82, 66, 89]⟩, .string ⟨#[107]⟩, .string ⟨#[]⟩, .string ⟨#[]⟩, .int .i64 (-5), .int .i64 0]) W2 := loadVar_cl hg (clc_size awC)
  have hR := fun W => refuse_any 13 W
  rw [aw_err] at hR
  have hR : ∀ W, Calls Tryz.prog 13 #[.int .i64 13] W fun x w' => x = .returned (.agg #[.int .i64 2, .string ⟨#[69, 82, 82, 32, 105, 110, 116]⟩, .int .i64 0, .slice none 0 0]) ∧ Below W.heap.size W w' := hR
  have FIN : Hid (Below w.heap.size w W2) := hb2.trans (hb3.mono hb2.size)
  have hec : (Value.agg (clc awC)) = .agg #[.string ⟨#[73, 78, 67, 82, 66, 89]⟩, .string ⟨#[107]⟩, .string ⟨#[]⟩, .string ⟨#[]⟩, .int .i64 (-5), .int .i64 0] := rfl
  clear hb1 hb2 hb3 hg hnew hP HB0
  go_wp2_with (first
    | (refine wpList_storeR (ty := 38) (x := .tmp 1) (y := .tmp 6) (ad := ⟨w1.heap.size, 0, none⟩) (v := .agg #[.string ⟨#[73, 78, 67, 82, 66, 89]⟩, .string ⟨#[107]⟩, .string ⟨#[]⟩, .string ⟨#[]⟩, .int .i64 (-5), .int .i64 0]) (w' := W2) rfl rfl rfl rfl hst ?_)
    | (refine wpList_loadW (ty := 38) (x := .tmp 1) (ad := ⟨w1.heap.size, 0, none⟩) (v := .agg #[.string ⟨#[73, 78, 67, 82, 66, 89]⟩, .string ⟨#[107]⟩, .string ⟨#[]⟩, .string ⟨#[]⟩, .int .i64 (-5), .int .i64 0]) (by first | rfl | kernel_rfl) rfl rfl hld ?_))
  refine Calls.mono (hR _) ?_
  rintro e w3 ⟨rfl, hb4⟩
  have FIN2 : Hid (Below w.heap.size w w3) := FIN.out.trans (hb4.mono FIN.out.size)
  clear hb4 hR hld hst
  have hf : (Instr.field 30 (.agg #[.int .i64 2, .string ⟨#[69, 82, 82, 32, 105, 110, 116]⟩, .int .i64 0, .slice none 0 0]) 1).run Tryz.prog w3 = .ok (.string ⟨#[69, 82, 82, 32, 105, 110, 116]⟩) w3 := by kernel_rfl
  go_wp2
  go_ret
  exact ⟨rfl, FIN2.out⟩
end Go.Proofs.YtmlfekbmbnfkjabGreatDoor

/-
  A text ahead of a list of texts; and what is laid for a call.
-/
namespace Go.Proofs.YtmlfekbmbnfkjabGreatDoor
set_option maxRecDepth 100000
open Go.RowKit

theorem below_alloc22 (w : World) (o : Obj) : Below w.heap.size w (w.alloc o) := (Below.refl _ w).alloc (Nat.le_refl _) _
theorem y_alloc22 {o : Oper} {a : Act} {w w' : World} {K : Act → World → Prop} {Q : Exit → Act → World → Prop} {ty : TypeId} {v : Value} (ho : o.op = .alloc ty) (hr : (Instr.alloc ty true (.tuple #[])).run Tryz.prog w = .ok v w') (h : K (a.put o.dst v) w') : o.wp Tryz.prog a w K Q := by
  unfold Oper.wp execOp
  simp only [ho, Sem.run_bind, Sem.run_pure, Result.andThen_ok, hr]
  exact h
theorem heap_lt22 {w : World} {x : Nat} {o : Obj} (h : w.heap[x]? = some o) : x < w.heap.size := (Array.getElem?_eq_some_iff.1 h).1
end Go.Proofs.YtmlfekbmbnfkjabGreatDoor

/-
  The frame of the functions that plan: the call's block, the outcome's block.
-/
namespace Go.Proofs.YtmlfekbmbnfkjabGreatDoor
set_option maxRecDepth 100000
open Go.RowKit

structure Fr (w W : World) (B O : Nat) (c : Cl) : Prop where
  cl : W.heap[B]? = some (.cells (clc c) 38 (0, 0))
  be : Below w.heap.size w W
  lo : w.heap.size ≤ B
  hi : B < O
theorem Fr.below {w W W' : World} {B O : Nat} {c : Cl} (h : Fr w W B O c) (hb : Below W.heap.size W W') : Fr w W' B O c :=
  ⟨(hb.block _ (heap_lt22 h.cl)).trans h.cl, h.be.trans (hb.mono h.be.size), h.lo, h.hi⟩
theorem Fr.drew {w W : World} {B O : Nat} {c : Cl} (h : Fr w W B O c) : Fr w W.drew B O c := ⟨h.cl, h.be.drew, h.lo, h.hi⟩
theorem Fr.set {w W : World} {B O : Nat} {c : Cl} (vs : Array Value) (h : Fr w W B O c) : Fr w (W.setRow O vs) B O c := by
  have hs : Below O W (W.setRow O vs) := below_setRow (Below.refl _ W) (Nat.le_refl _) _
  exact ⟨(hs.block _ h.hi).trans h.cl, h.be.trans (hs.mono (Nat.le_trans h.lo (Nat.le_of_lt h.hi))), h.lo, h.hi⟩
theorem fr_new (w : World) (c : Cl) : Fr w ((w.alloc (.cells (clc c) 38)).alloc (.cells outz 53)) w.heap.size (w.heap.size + 1) c ∧ ((w.alloc (.cells (clc c) 38)).alloc (.cells outz 53)).heap[w.heap.size + 1]? = some (.cells outz 53 (0, 0)) :=
  ⟨⟨by rw [Below.heap_alloc _ _ _ (by simp)]; exact heap_alloc_new w _, below_two w _ _, Nat.le_refl _, Nat.lt_succ_self _⟩, alloc_two w _ _⟩
section
variable {w W : World} {B O : Nat} {nm ky fd vl : List UInt8} {n m : Int} (h : Fr w W B O ⟨nm, ky, fd, vl, n, m⟩)
include h
theorem Fr.c1 : W.cell? ⟨B, 1, none⟩ = some (.string (sb ky)) := by rw [cell_of_row W B 1 _ _ _ h.cl]; rfl
theorem Fr.c2 : W.cell? ⟨B, 2, none⟩ = some (.string (sb fd)) := by rw [cell_of_row W B 2 _ _ _ h.cl]; rfl
theorem Fr.c3 : W.cell? ⟨B, 3, none⟩ = some (.string (sb vl)) := by rw [cell_of_row W B 3 _ _ _ h.cl]; rfl
theorem Fr.c4 : W.cell? ⟨B, 4, none⟩ = some (.int .i64 n) := by rw [cell_of_row W B 4 _ _ _ h.cl]; rfl
theorem Fr.c5 : W.cell? ⟨B, 5, none⟩ = some (.int .i64 m) := by rw [cell_of_row W B 5 _ _ _ h.cl]; rfl
theorem Fr.load : (loadVar 38 ⟨B, 0, none⟩).run Tryz.prog W = .ok (.agg (clc ⟨nm, ky, fd, vl, n, m⟩)) W := loadVar_cl h.cl rfl
theorem Fr.l1 : (loadVar 9 ⟨B, 1, none⟩).run Tryz.prog W = .ok (.string (sb ky)) W := by have hc := h.c1; clear h; go_simp
theorem Fr.l2 : (loadVar 9 ⟨B, 2, none⟩).run Tryz.prog W = .ok (.string (sb fd)) W := by have hc := h.c2; clear h; go_simp
theorem Fr.l3 : (loadVar 9 ⟨B, 3, none⟩).run Tryz.prog W = .ok (.string (sb vl)) W := by have hc := h.c3; clear h; go_simp
theorem Fr.l4 : (loadVar 3 ⟨B, 4, none⟩).run Tryz.prog W = .ok (.int .i64 n) W := by have hc := h.c4; clear h; go_simp
theorem Fr.l5 : (loadVar 3 ⟨B, 5, none⟩).run Tryz.prog W = .ok (.int .i64 m) W := by have hc := h.c5; clear h; go_simp
end
theorem fieldc1 (w : World) (B : Nat) : (Instr.fieldAt 38 (.pointer (some ⟨B, 0, none⟩)) 1).run Tryz.prog w = .ok (.pointer (some ⟨B, 1, none⟩)) w := by go_simp
theorem bld01 (w : World) (k : Int) (a : ByteArray) : (Instr.build 34 #[(0, .int .i64 k), (1, .string a)]).run Tryz.prog w = .ok (.agg #[.int .i64 k, .string a, .string ⟨#[]⟩, .string ⟨#[]⟩, .int .i64 0, .int .i64 0, .int .i64 0]) w := by go_simp
theorem y_bldS {o : Oper} {a : Act} {w : World} {ty : TypeId} {ps : List (Nat × Operand)} {vs : List (Nat × Value)} {v : Value} (ho : o.op = .build ty ps.toArray) (he : ps.map (fun p => (p.1, a.eval p.2)) = vs) (hr : (Instr.build ty vs.toArray).run Tryz.prog w = .ok v w) : (execOp a.eval o).run Tryz.prog w = .ok (.value v) w := by
  unfold execOp
  subst he
  simp only [ho, List.map_toArray, Sem.run_bind, Sem.run_pure, Result.andThen_ok, hr]
end Go.Proofs.YtmlfekbmbnfkjabGreatDoor

/-
  What comes of a command: what can't be done, a text that may be, what may be done.
-/
namespace Go.Proofs.YtmlfekbmbnfkjabGreatDoor
set_option maxRecDepth 100000
open Go.RowKit

theorem cfail_any (t : List UInt8) (w : World) : Calls Tryz.prog 26 #[.string (sb t)] w fun x w' => x = .returned (.agg (outx 2 t 0 none 0 0 opzz false)) ∧ Below w.heap.size w w' := by
  obtain ⟨W0, hW0⟩ : ∃ W0, w.alloc (.cells outz 53) = W0 := ⟨_, rfl⟩
  have hO0 : W0.heap[w.heap.size]? = some (.cells outz 53 (0, 0)) := by rw [← hW0]; exact heap_alloc_new w _
  have hb0 : Below w.heap.size w W0 := by rw [← hW0]; exact (Below.refl _ w).alloc (Nat.le_refl _) _
  have hW1 : w.alloc (.cells #[.int .i64 0, .string ⟨#[]⟩, .int .i64 0, .slice none 0 0, .int .i64 0, .string ⟨#[]⟩, .string ⟨#[]⟩, .string ⟨#[]⟩, .int .i64 0, .int .i64 0, .int .i64 0, .bool false] 53) = W0 := hW0
  obtain ⟨B, hB⟩ : ∃ B, w.heap.size = B := ⟨_, rfl⟩
  rw [hB] at hO0 hb0
  have HOW0 : Hid (W0.heap[B]? = some (.cells outz 53 (0, 0))) := hO0
  have HBW0 : Hid (Below B w W0) := hb0
  have HL : Hid (B < W0.heap.size) := heap_lt22 hO0
  clear hW0 hO0 hb0
  go_enter Tryz.func26, Tryz.ntmps26
  have hC := refusal_any t W0
  go_wp2_with fail
  refine Calls.mono hC ?_
  rintro ex w1 ⟨rfl, hb⟩
  have HOw1 : Hid (w1.heap[B]? = some (.cells outz 53 (0, 0))) := (hb.block _ (heap_lt22 HOW0.out)).trans HOW0.out
  have HBw1 : Hid (Below B w w1) := HBW0.out.trans (hb.mono (by have := HBW0.out.size; omega))
  clear hC hb
  have hC := ctell_any 2 t 0 none 0 0 w1
  go_wp2_with fail
  refine Calls.mono hC ?_
  rintro ex w2 ⟨rfl, hb⟩
  have HOw2 : Hid (w2.heap[B]? = some (.cells outz 53 (0, 0))) := (hb.block _ (heap_lt22 HOw1.out)).trans HOw1.out
  have HBw2 : Hid (Below B w w2) := HBw1.out.trans (hb.mono (by have := HBw1.out.size; omega))
  clear hC hb
  have hst := storeVar_out (cs := outx 2 t 0 none 0 0 opzz false) HOw2.out rfl rfl (outx_one _ _ _ _ _ _ _ _ _ _ _ _ _ _)
  have hg := setRow_heap w2 B _ (outx 2 t 0 none 0 0 opzz false) _ _ HOw2.out
  have HF : Hid (Below B w (w2.setRow B (outx 2 t 0 none 0 0 opzz false))) := below_setRow HBw2.out (by omega) _
  generalize w2.setRow B (outx 2 t 0 none 0 0 opzz false) = w3 at *
  go_wp2_with (first | (refine wpList_storeR (ty := 53) (x := .tmp 2) (y := .tmp 5) (ad := ⟨B, 0, none⟩) (v := .agg (outx 2 t 0 none 0 0 opzz false)) (w' := w3) rfl rfl rfl rfl hst ?_))
  refine ret_out rfl rfl rfl hg rfl ?_
  first | exact ⟨rfl, HF.out⟩ | exact ⟨rfl, by rw [hB]; exact HF.out⟩
theorem enters_isit (xs : Array Value) (w : World) : (callFunc 114 xs).run Tryz.prog w = .ok (.enter 114 xs) w := enters Tryz.func114 (by kernel_rfl) (by kernel_rfl) xs w
theorem enters_cdo (xs : Array Value) (w : World) : (callFunc 105 xs).run Tryz.prog w = .ok (.enter 105 xs) w := enters Tryz.func105 (by kernel_rfl) (by kernel_rfl) xs w
theorem doif_any (b : Bool) (k : Int) (ky f v : List UInt8) (n r m : Int) (w : World) : Calls Tryz.prog 112 #[.bool b, .agg (opx k ky f v n r m)] w fun x w' => x = .returned (.agg (outx 3 [] (if b then 1 else 0) none 0 0 (if b then opx k ky f v n r m else opzz) b)) ∧ Below w.heap.size w w' := by
  cases b
  · obtain ⟨W0, hW0⟩ : ∃ W0, (w.alloc (.cells (opx k ky f v n r m) 34)).alloc (.cells outz 53) = W0 := ⟨_, rfl⟩
    have hO0 : W0.heap[w.heap.size + 1]? = some (.cells outz 53 (0, 0)) := by rw [← hW0]; exact alloc_two w _ _
    have hP0 : W0.heap[w.heap.size]? = some (.cells (opx k ky f v n r m) 34 (0, 0)) := by rw [← hW0, Below.heap_alloc _ _ _ (by simp)]; exact heap_alloc_new w _
    have hb0 : Below w.heap.size w W0 := by rw [← hW0]; exact below_two w _ _
    have hW1 : (w.alloc (.cells (opx k ky f v n r m) 34)).alloc (.cells #[.int .i64 0, .string ⟨#[]⟩, .int .i64 0, .slice none 0 0, .int .i64 0, .string ⟨#[]⟩, .string ⟨#[]⟩, .string ⟨#[]⟩, .int .i64 0, .int .i64 0, .int .i64 0, .bool false] 53) = W0 := hW0
    obtain ⟨C, hC0⟩ : ∃ C, w.heap.size = C := ⟨_, rfl⟩
    rw [hC0] at hO0 hP0 hb0
    have HOW0 : Hid (W0.heap[C + 1]? = some (.cells outz 53 (0, 0))) := hO0
    have HBW0 : Hid (Below C w W0) := hb0
    have HPW0 : Hid (W0.heap[C]? = some (.cells (opx k ky f v n r m) 34 (0, 0))) := hP0
    clear hW0 hO0 hb0 hP0
    go_enter Tryz.func112, Tryz.ntmps112
    have hC := cisit_any false W0
    go_wp2_with fail
    refine Calls.mono hC ?_
    rintro ex w1 ⟨rfl, hb⟩
    have HOw1 : Hid (w1.heap[C + 1]? = some (.cells outz 53 (0, 0))) := (hb.block _ (heap_lt22 HOW0.out)).trans HOW0.out
    have HBw1 : Hid (Below C w w1) := HBW0.out.trans (hb.mono (by have := HBW0.out.size; omega))
    clear hC hb
    have hC := ctell_any 3 [] 0 none 0 0 w1
    go_wp2_with fail
    refine Calls.mono hC ?_
    rintro ex w2 ⟨rfl, hb⟩
    have HOw2 : Hid (w2.heap[C + 1]? = some (.cells outz 53 (0, 0))) := (hb.block _ (heap_lt22 HOw1.out)).trans HOw1.out
    have HBw2 : Hid (Below C w w2) := HBw1.out.trans (hb.mono (by have := HBw1.out.size; omega))
    clear hC hb
    have hst := storeVar_out (cs := outx 3 [] 0 none 0 0 opzz false) HOw2.out rfl rfl (outx_one _ _ _ _ _ _ _ _ _ _ _ _ _ _)
    have hg := setRow_heap w2 (C + 1) _ (outx 3 [] 0 none 0 0 opzz false) _ _ HOw2.out
    have HF : Hid (Below C w (w2.setRow (C + 1) (outx 3 [] 0 none 0 0 opzz false))) := below_setRow HBw2.out (by omega) _
    generalize w2.setRow (C + 1) (outx 3 [] 0 none 0 0 opzz false) = w3 at *
    go_wp2_with (first | (refine wpList_storeR (ty := 53) (x := .tmp 4) (y := .tmp 8) (ad := ⟨C + 1, 0, none⟩) (v := .agg (outx 3 [] 0 none 0 0 opzz false)) (w' := w3) rfl rfl rfl rfl hst ?_))
    refine ret_out rfl rfl rfl hg rfl ?_
    first | exact ⟨rfl, HF.out⟩ | exact ⟨rfl, by rw [hC0]; exact HF.out⟩
  · obtain ⟨W0, hW0⟩ : ∃ W0, (w.alloc (.cells (opx k ky f v n r m) 34)).alloc (.cells outz 53) = W0 := ⟨_, rfl⟩
    have hO0 : W0.heap[w.heap.size + 1]? = some (.cells outz 53 (0, 0)) := by rw [← hW0]; exact alloc_two w _ _
    have hP0 : W0.heap[w.heap.size]? = some (.cells (opx k ky f v n r m) 34 (0, 0)) := by rw [← hW0, Below.heap_alloc _ _ _ (by simp)]; exact heap_alloc_new w _
    have hb0 : Below w.heap.size w W0 := by rw [← hW0]; exact below_two w _ _
    have hW1 : (w.alloc (.cells (opx k ky f v n r m) 34)).alloc (.cells #[.int .i64 0, .string ⟨#[]⟩, .int .i64 0, .slice none 0 0, .int .i64 0, .string ⟨#[]⟩, .string ⟨#[]⟩, .string ⟨#[]⟩, .int .i64 0, .int .i64 0, .int .i64 0, .bool false] 53) = W0 := hW0
    obtain ⟨C, hC0⟩ : ∃ C, w.heap.size = C := ⟨_, rfl⟩
    rw [hC0] at hO0 hP0 hb0
    have HOW0 : Hid (W0.heap[C + 1]? = some (.cells outz 53 (0, 0))) := hO0
    have HBW0 : Hid (Below C w W0) := hb0
    have HPW0 : Hid (W0.heap[C]? = some (.cells (opx k ky f v n r m) 34 (0, 0))) := hP0
    clear hW0 hO0 hb0 hP0
    go_enter Tryz.func112, Tryz.ntmps112
    go_wp2_with fail
    obtain ⟨D, hD⟩ : ∃ D, D = W0.drew := ⟨_, rfl⟩
    have SD : D.heap[C]? = some (.cells (opx k ky f v n r m) 34 (0, 0)) ∧ Below C w D := by rw [hD]; exact ⟨HPW0.out, HBW0.out.drew⟩
    have hOD : D.heap[C + 1]? = some (.cells outz 53 (0, 0)) := by rw [hD]; exact HOW0.out
    refine wp_region_noPanic ?_
    refine wp_region_held_drew (S := fun W' : World => W'.heap[C]? = some (.cells (opx k ky f v n r m) 34 (0, 0)) ∧ Below C w W') (by kernel_rfl) (by rw [← hD]; exact SD) (fun hHeld => ?_)
    rw [← hD] at hHeld ⊢
    refine wpAnyH_take (i := 1) (oi := { dst := some 10, op := _, type := _, pos := _, after := _, guard := _ }) (v := .agg (opx k ky f v n r m)) rfl (by kernel_rfl) (by kernel_rfl) (by kernel_rfl) (fun _ _ _ h => h) (Or.inl ⟨by rfl, ?_⟩) (by assumption) ?_
    · intro w9 hSw
      exact y_load rfl rfl (loadVar_opr hSw.1 rfl)
    simp only [Act.put, List.setIfInBounds_toArray, List.set_cons_zero, List.set_cons_succ]
    clear hHeld
    refine wpAnyH_ready (rs := [0]) (by kernel_rfl) (by simp) ?_
    refine AllReadyH.cons (o := { dst := some 9, op := _, type := _, pos := _, after := _, guard := _ }) rfl (fun K hK => ?_) AllReadyH.nil
    rw [if_pos (by rfl)]
    refine y_call (f := 114) (xs := [.const (.bool true)]) (vs := [.bool true]) rfl rfl (enters_isit _ _) (cisit_any true D) ?_
    rintro ex q1 ⟨rfl, hb⟩
    refine ⟨_, rfl, ?_⟩
    have Sq1 : q1.heap[C]? = some (.cells (opx k ky f v n r m) 34 (0, 0)) ∧ Below C w q1 := ⟨(hb.block _ (heap_lt22 SD.1)).trans SD.1, SD.2.trans (hb.mono (by have := SD.2.size; omega))⟩
    have hOq1 : q1.heap[C + 1]? = some (.cells outz 53 (0, 0)) := (hb.block _ (heap_lt22 hOD)).trans hOD
    clear hb
    refine hK.out _ _ Sq1 (fun hHeld => ?_)
    clear hK K
    simp only [Act.put, List.setIfInBounds_toArray, List.set_cons_zero, List.set_cons_succ]
    clear hHeld
    refine wpAnyH_ready (rs := [2]) (by kernel_rfl) (by simp) ?_
    refine AllReadyH.cons (o := { dst := some 11, op := _, type := _, pos := _, after := _, guard := _ }) rfl (fun K hK => ?_) AllReadyH.nil
    rw [if_pos (by rfl)]
    refine y_call (f := 105) (xs := [.tmp 9, .tmp 10]) (vs := [.agg (repc 3 [] 1 (.slice none 0 0)), .agg (opx k ky f v n r m)]) rfl rfl (enters_cdo _ _) (cdo_any 3 [] 1 none 0 0 k ky f v n r m q1) ?_
    rintro ex q2 ⟨rfl, hb⟩
    refine ⟨_, rfl, ?_⟩
    have Sq2 : q2.heap[C]? = some (.cells (opx k ky f v n r m) 34 (0, 0)) ∧ Below C w q2 := ⟨(hb.block _ (heap_lt22 Sq1.1)).trans Sq1.1, Sq1.2.trans (hb.mono (by have := Sq1.2.size; omega))⟩
    have hOq2 : q2.heap[C + 1]? = some (.cells outz 53 (0, 0)) := (hb.block _ (heap_lt22 hOq1)).trans hOq1
    clear hb
    refine hK.out _ _ Sq2 (fun hHeld => ?_)
    clear hK K
    simp only [Act.put, List.setIfInBounds_toArray, List.set_cons_zero, List.set_cons_succ]
    clear hHeld
    refine wpAnyH_ready (rs := [3]) (by kernel_rfl) (by simp) ?_
    refine AllReadyH.cons (o := { dst := none, op := _, type := _, pos := _, after := _, guard := _ }) rfl (fun K hK => ?_) AllReadyH.nil
    rw [if_pos (by rfl)]
    have hst := storeVar_out (cs := outx 3 [] 1 none 0 0 (opx k ky f v n r m) true) hOq2 rfl rfl (outx_one _ _ _ _ _ _ _ _ _ _ _ _ _ _)
    have hg := setRow_heap q2 (C + 1) _ (outx 3 [] 1 none 0 0 (opx k ky f v n r m) true) _ _ hOq2
    have hs : Below (C + 1) q2 (q2.setRow (C + 1) (outx 3 [] 1 none 0 0 (opx k ky f v n r m) true)) := below_setRow (Below.refl _ q2) (Nat.le_refl _) _
    generalize q2.setRow (C + 1) (outx 3 [] 1 none 0 0 (opx k ky f v n r m) true) = q3 at *
    have Sq3 : q3.heap[C]? = some (.cells (opx k ky f v n r m) 34 (0, 0)) ∧ Below C w q3 := ⟨(hs.block _ (Nat.lt_succ_self _)).trans Sq2.1, Sq2.2.trans (hs.mono (Nat.le_succ _))⟩
    refine y_store (ty := 53) (x := .tmp 4) (y := .tmp 11) (ad := ⟨C + 1, 0, none⟩) (v := .agg (outx 3 [] 1 none 0 0 (opx k ky f v n r m) true)) (w' := q3) rfl rfl rfl hst ?_
    refine hK.out _ _ Sq3 (fun hHeld => ?_)
    clear hK K
    simp only [Act.put]
    refine wpAnyH_done (by kernel_rfl) ?_ _
    refine NoPanic.normal ?_
    clear hHeld
    go_wp2
    refine ret_out rfl rfl rfl hg rfl ?_
    first | exact ⟨rfl, Sq3.2⟩ | exact ⟨rfl, by rw [hC0]; exact Sq3.2⟩
/-- What doIf hands back. -/
def outd (b : Bool) (k : Int) (ky f v : List UInt8) (n r m : Int) : Array Value := outx 3 [] (if b then 1 else 0) none 0 0 (if b then opx k ky f v n r m else opzz) b
theorem outd_size (b : Bool) (k : Int) (ky f v : List UInt8) (n r m : Int) : (outd b k ky f v n r m).size = 12 := by cases b <;> rfl
theorem outd_one (b : Bool) (k : Int) (ky f v : List UInt8) (n r m : Int) : (outd b k ky f v n r m).all (·.oneCell') = true := by cases b <;> exact outx_one _ _ _ _ _ _ _ _ _ _ _ _ _ _
theorem doif_outd (b : Bool) (k : Int) (ky f v : List UInt8) (n r m : Int) (w : World) : Calls Tryz.prog 112 #[.bool b, .agg (opx k ky f v n r m)] w fun x w' => x = .returned (.agg (outd b k ky f v n r m)) ∧ Below w.heap.size w w' := doif_any b k ky f v n r m w
theorem y_bin22 {o : Oper} {a : Act} {w : World} {op : BinOp} {t r : TypeId} {x y : Operand} {vx vy v : Value} (ho : o.op = .binOp op t x y r) (hx : a.eval x = vx) (hy : a.eval y = vy) (hg : (eqGuard op t x y vx vy).run Tryz.prog w = .ok () w) (hv : (binOp op t vx vy).run Tryz.prog w = .ok v w) : (execOp a.eval o).run Tryz.prog w = .ok (.value v) w := by
  unfold execOp
  simp only [ho, hx, hy, Sem.run_bind, Sem.run_pure, Result.andThen_ok, hg, hv]
theorem guard_int22 (w : World) {op : BinOp} {x y : Operand} (a b : Int) : (eqGuard op 3 x y (.int .i64 a) (.int .i64 b)).run Tryz.prog w = .ok () w := by go_simp
theorem neq_int22 (w : World) (a b : Int) : (binOp .neq 3 (.int .i64 a) (.int .i64 b)).run Tryz.prog w = .ok (.bool (!(a == b))) w := by
  simp [go_sem]
  rfl
end Go.Proofs.YtmlfekbmbnfkjabGreatDoor

/-
  Functions that plan: of texts, tallies, groups, keys.
-/
namespace Go.Proofs.YtmlfekbmbnfkjabGreatDoor
set_option maxRecDepth 100000
open Go.RowKit

theorem enters_doif (xs : Array Value) (w : World) : (callFunc 112 xs).run Tryz.prog w = .ok (.enter 112 xs) w := enters Tryz.func112 (by kernel_rfl) (by kernel_rfl) xs w
theorem enters_stype (xs : Array Value) (w : World) : (callFunc 28 xs).run Tryz.prog w = .ok (.enter 28 xs) w := enters Tryz.func28 (by kernel_rfl) (by kernel_rfl) xs w
theorem removekey_any (p : Option Addr) (c : Cl) (t : Int) (w : World) (hM : ∀ u, Below w.heap.size w u → Calls Tryz.prog 28 #[.pointer p, .string (sb c.key)] u fun x w' => x = .returned (.int .i64 t) ∧ Below u.heap.size u w') : Calls Tryz.prog 83 #[.pointer p, .agg (clc c)] w fun x w' => x = .returned (.agg (outd (!(t == 0)) 11 c.key [] [] 0 0 0)) ∧ Below w.heap.size w w' := by
  obtain ⟨nm, ky, fd, vl, n, m⟩ := c
  have F0 := fr_new w ⟨nm, ky, fd, vl, n, m⟩
  obtain ⟨W0, hW0⟩ : ∃ W0, (w.alloc (.cells (clc ⟨nm, ky, fd, vl, n, m⟩) 38)).alloc (.cells outz 53) = W0 := ⟨_, rfl⟩
  rw [hW0] at F0
  have hW1 : (w.alloc (.cells (clc ⟨nm, ky, fd, vl, n, m⟩) 38)).alloc (.cells #[.int .i64 0, .string ⟨#[]⟩, .int .i64 0, .slice none 0 0, .int .i64 0, .string ⟨#[]⟩, .string ⟨#[]⟩, .string ⟨#[]⟩, .int .i64 0, .int .i64 0, .int .i64 0, .bool false] 53) = W0 := hW0
  obtain ⟨B, hB⟩ : ∃ B, w.heap.size = B := ⟨_, rfl⟩
  rw [hB] at F0
  have FW0 : Hid (Fr w W0 B (B + 1) ⟨nm, ky, fd, vl, n, m⟩) := F0.1
  have hOW0 : Hid (W0.heap[B + 1]? = some (.cells outz 53 (0, 0))) := F0.2
  clear hW0 F0
  have HM : Hid (∀ u, Below w.heap.size w u → _) := hM
  clear hM
  go_enter Tryz.func83, Tryz.ntmps83
  go_wp2_with fail
  obtain ⟨W0d, hDW0d⟩ : ∃ W, W = W0.drew := ⟨_, rfl⟩
  have FW0d : Fr w W0d B (B + 1) ⟨nm, ky, fd, vl, n, m⟩ := by rw [hDW0d]; exact FW0.out.drew
  have hOW0d : W0d.heap[B + 1]? = some (.cells outz 53 (0, 0)) := by rw [hDW0d]; exact hOW0.out
  refine wp_region_noPanic ?_
  refine wp_region_held_drew (S := fun W' : World => Fr w W' B (B + 1) ⟨nm, ky, fd, vl, n, m⟩) (by kernel_rfl) (by rw [← hDW0d]; exact FW0d) (fun hHeld => ?_)
  rw [← hDW0d] at hHeld ⊢
  refine wpAnyH_take (i := 0) (oi := { dst := some 5, op := _, type := _, pos := _, after := _, guard := _ }) (v := .pointer p) rfl (by kernel_rfl) (by kernel_rfl) (by kernel_rfl) (fun _ _ _ h => h) (Or.inl ⟨by rfl, ?_⟩) (by assumption) ?_
  · intro w9 hSw
    exact y_move rfl rfl
  simp only [Act.put, List.setIfInBounds_toArray, List.set_cons_zero, List.set_cons_succ]
  refine wpAnyH_take (i := 1) (oi := { dst := some 6, op := _, type := _, pos := _, after := _, guard := _ }) (v := .pointer (some ⟨B, 1, none⟩)) rfl (by kernel_rfl) (by kernel_rfl) (by kernel_rfl) (fun _ _ _ h => h) (Or.inl ⟨by rfl, ?_⟩) (by assumption) ?_
  · intro w9 hSw
    exact y_field rfl rfl (fieldc1 _ _)
  simp only [Act.put, List.setIfInBounds_toArray, List.set_cons_zero, List.set_cons_succ]
  refine wpAnyH_take (i := 2) (oi := { dst := some 7, op := _, type := _, pos := _, after := _, guard := _ }) (v := .string (sb ky)) rfl (by kernel_rfl) (by kernel_rfl) (by kernel_rfl) (fun _ _ _ h => h) (Or.inl ⟨by rfl, ?_⟩) (by assumption) ?_
  · intro w9 hSw
    exact y_load rfl rfl hSw.l1
  simp only [Act.put, List.setIfInBounds_toArray, List.set_cons_zero, List.set_cons_succ]
  refine wpAnyH_take (i := 5) (oi := { dst := some 10, op := _, type := _, pos := _, after := _, guard := _ }) (v := .pointer (some ⟨B, 1, none⟩)) rfl (by kernel_rfl) (by kernel_rfl) (by kernel_rfl) (fun _ _ _ h => h) (Or.inl ⟨by rfl, ?_⟩) (by assumption) ?_
  · intro w9 hSw
    exact y_field rfl rfl (fieldc1 _ _)
  simp only [Act.put, List.setIfInBounds_toArray, List.set_cons_zero, List.set_cons_succ]
  refine wpAnyH_take (i := 6) (oi := { dst := some 11, op := _, type := _, pos := _, after := _, guard := _ }) (v := .string (sb ky)) rfl (by kernel_rfl) (by kernel_rfl) (by kernel_rfl) (fun _ _ _ h => h) (Or.inl ⟨by rfl, ?_⟩) (by assumption) ?_
  · intro w9 hSw
    exact y_load rfl rfl hSw.l1
  simp only [Act.put, List.setIfInBounds_toArray, List.set_cons_zero, List.set_cons_succ]
  refine wpAnyH_take (i := 7) (oi := { dst := some 12, op := _, type := _, pos := _, after := _, guard := _ }) (v := .agg #[.int .i64 (11), .string (sb ky), .string ⟨#[]⟩, .string ⟨#[]⟩, .int .i64 0, .int .i64 0, .int .i64 0]) rfl (by kernel_rfl) (by kernel_rfl) (by kernel_rfl) (fun _ _ _ h => h) (Or.inl ⟨by rfl, ?_⟩) (by assumption) ?_
  · intro w9 hSw
    exact y_bldS (vs := [(0, .int .i64 (11)), (1, .string (sb ky))]) rfl rfl (bld01 _ _ _)
  simp only [Act.put, List.setIfInBounds_toArray, List.set_cons_zero, List.set_cons_succ]
  clear hHeld
  refine wpAnyH_ready (rs := [3]) (by kernel_rfl) (by simp) ?_
  refine AllReadyH.cons (o := { dst := some 8, op := _, type := _, pos := _, after := _, guard := _ }) rfl (fun K hK => ?_) AllReadyH.nil
  rw [if_pos (by rfl)]
  have hCW0q1 := HM.out W0d FW0d.be
  refine y_call (f := 28) (xs := [.tmp 5, .tmp 7]) (vs := [.pointer p, .string (sb ky)]) rfl rfl (enters_stype _ _) hCW0q1 ?_
  rintro ex W0q1 ⟨rfl, hbW0q1⟩
  refine ⟨_, rfl, ?_⟩
  have FW0q1 := FW0d.below hbW0q1
  have hOW0q1 : W0q1.heap[B + 1]? = some (.cells outz 53 (0, 0)) := (hbW0q1.block _ (heap_lt22 hOW0d)).trans hOW0d
  clear hCW0q1 hbW0q1
  refine hK.out _ _ FW0q1 (fun hHeld => ?_)
  clear hK K
  simp only [Act.put, List.setIfInBounds_toArray, List.set_cons_zero, List.set_cons_succ]
  refine wpAnyH_take (i := 4) (oi := { dst := some 9, op := _, type := _, pos := _, after := _, guard := _ }) (v := .bool (!(t == 0))) rfl (by kernel_rfl) (by kernel_rfl) (by kernel_rfl) (fun _ _ _ h => h) (Or.inl ⟨by rfl, ?_⟩) (by assumption) ?_
  · intro w9 hSw
    exact y_bin22 rfl rfl rfl (guard_int22 _ _ _) (neq_int22 _ _ _)
  simp only [Act.put, List.setIfInBounds_toArray, List.set_cons_zero, List.set_cons_succ]
  clear hHeld
  refine wpAnyH_ready (rs := [8]) (by kernel_rfl) (by simp) ?_
  refine AllReadyH.cons (o := { dst := some 13, op := _, type := _, pos := _, after := _, guard := _ }) rfl (fun K hK => ?_) AllReadyH.nil
  rw [if_pos (by rfl)]
  have hCW0q2 := doif_outd (!(t == 0)) 11 ky [] [] 0 0 0 W0q1
  refine y_call (f := 112) (xs := [.tmp 9, .tmp 12]) (vs := [.bool (!(t == 0)), .agg #[.int .i64 (11), .string (sb ky), .string ⟨#[]⟩, .string ⟨#[]⟩, .int .i64 0, .int .i64 0, .int .i64 0]]) rfl rfl (enters_doif _ _) hCW0q2 ?_
  rintro ex W0q2 ⟨rfl, hbW0q2⟩
  refine ⟨_, rfl, ?_⟩
  have FW0q2 := FW0q1.below hbW0q2
  have hOW0q2 : W0q2.heap[B + 1]? = some (.cells outz 53 (0, 0)) := (hbW0q2.block _ (heap_lt22 hOW0q1)).trans hOW0q1
  clear hCW0q2 hbW0q2
  refine hK.out _ _ FW0q2 (fun hHeld => ?_)
  clear hK K
  simp only [Act.put, List.setIfInBounds_toArray, List.set_cons_zero, List.set_cons_succ]
  clear hHeld
  refine wpAnyH_ready (rs := [9]) (by kernel_rfl) (by simp) ?_
  refine AllReadyH.cons (o := { dst := none, op := _, type := _, pos := _, after := _, guard := _ }) rfl (fun K hK => ?_) AllReadyH.nil
  rw [if_pos (by rfl)]
  have hstW0q3 := storeVar_out (cs := outd (!(t == 0)) 11 ky [] [] 0 0 0) hOW0q2 (outd_size _ _ _ _ _ _ _ _) rfl (outd_one _ _ _ _ _ _ _ _)
  have hgW0q3 := setRow_heap W0q2 (B + 1) _ (outd (!(t == 0)) 11 ky [] [] 0 0 0) _ _ hOW0q2
  have FW0q3 := FW0q2.set (vs := outd (!(t == 0)) 11 ky [] [] 0 0 0)
  generalize W0q2.setRow (B + 1) (outd (!(t == 0)) 11 ky [] [] 0 0 0) = W0q3 at *
  refine y_store (ty := 53) (x := .tmp 4) (y := .tmp 13) (ad := ⟨B + 1, 0, none⟩) (v := .agg (outd (!(t == 0)) 11 ky [] [] 0 0 0)) (w' := W0q3) rfl rfl rfl hstW0q3 ?_
  refine hK.out _ _ FW0q3 (fun hHeld => ?_)
  clear hK K
  simp only [Act.put]
  refine wpAnyH_done (by kernel_rfl) ?_ _
  refine NoPanic.normal ?_
  clear hHeld
  go_wp2
  refine ret_out rfl rfl rfl hgW0q3 (outd_size _ _ _ _ _ _ _ _) ?_
  first | exact ⟨rfl, FW0q3.be⟩ | exact ⟨rfl, by rw [← hB]; exact FW0q3.be⟩
end Go.Proofs.YtmlfekbmbnfkjabGreatDoor

/-
  slices.Index and slices.Contains over texts.
-/
namespace Go.Proofs.YtmlfekbmbnfkjabGreatDoor
set_option maxRecDepth 100000
open Go.RowKit

end Go.Proofs.YtmlfekbmbnfkjabGreatDoor

