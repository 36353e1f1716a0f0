/-
  Functions that plan: lists of texts, types, INCRBY.
-/
import Derived.Test.YtmlfekbmbnfkjabGreatDoorQ13
import Derived.Test.YtmlfekbmbnfkjabGreatDoorQ29
import Derived.Test.YtmlfekbmbnfkjabGreatDoorQ12
import Derived.Test.YtmlfekbmbnfkjabGreatDoorQ11
namespace Go.Proofs.YtmlfekbmbnfkjabGreatDoor
set_option maxRecDepth 100000
open Go.RowKit

theorem setRow_ne22 (w : World) (g k : Nat) (vs : Array Value) (h : k ≠ g) : (w.setRow g vs).heap[k]? = w.heap[k]? := by
  simp only [World.setRow]
  rw [Array.getElem?_modify, if_neg (fun e => h e.symm)]
theorem tellkeys_any (p : Option Addr) (c : Cl) (L : List (List UInt8)) (w : World) (hM : ∀ u, Below w.heap.size w u → Calls Tryz.prog 125 #[.pointer p] u fun x w' => ∃ v, x = .returned v ∧ TRow w' u.heap.size v L ∧ Below u.heap.size u w') : Calls Tryz.prog 85 #[.pointer p, .agg (clc c)] w fun x w' => ∃ ao m k, x = .returned (.agg (outx 6 [] 0 ao m k opzz false)) ∧ TRow w' w.heap.size (.slice ao m k) L ∧ Below w.heap.size w w' := by
  obtain ⟨nm, ky, fd, vl, n, m⟩ := c
  have F0 := fr_new w ⟨nm, ky, fd, vl, n, m⟩
  obtain ⟨W0, hW0⟩ : ∃ W0, (w.alloc (.cells (clc ⟨nm, ky, fd, vl, n, m⟩) 38)).alloc (.cells outz 53) = W0 := ⟨_, rfl⟩
  rw [hW0] at F0
  have hW1 : (w.alloc (.cells (clc ⟨nm, ky, fd, vl, n, m⟩) 38)).alloc (.cells #[.int .i64 0, .string ⟨#[]⟩, .int .i64 0, .slice none 0 0, .int .i64 0, .string ⟨#[]⟩, .string ⟨#[]⟩, .string ⟨#[]⟩, .int .i64 0, .int .i64 0, .int .i64 0, .bool false] 53) = W0 := hW0
  obtain ⟨B, hB⟩ : ∃ B, w.heap.size = B := ⟨_, rfl⟩
  rw [hB] at F0
  have FW0 : Hid (Fr w W0 B (B + 1) ⟨nm, ky, fd, vl, n, m⟩) := F0.1
  have hOW0 : Hid (W0.heap[B + 1]? = some (.cells outz 53 (0, 0))) := F0.2
  clear hW0 F0
  have HM : Hid (∀ u, Below w.heap.size w u → _) := hM
  clear hM
  have HLO : Hid (B + 1 < W0.heap.size ∧ B ≤ W0.heap.size) := ⟨heap_lt22 hOW0.out, by have := heap_lt22 hOW0.out; omega⟩
  go_enter Tryz.func85, Tryz.ntmps85
  have hC := HM.out W0 FW0.out.be
  have hc1 := FW0.out.c1
  have hc2 := FW0.out.c2
  have hc3 := FW0.out.c3
  have hc4 := FW0.out.c4
  have hc5 := FW0.out.c5
  have hld := FW0.out.load
  go_wp2_with (first | (refine wpList_loadR (ty := 38) (x := .tmp 3) (ad := ⟨B, 0, none⟩) (v := .agg (clc ⟨nm, ky, fd, vl, n, m⟩)) rfl rfl rfl hld ?_))
  refine Calls.mono hC ?_
  rintro ex w1 ⟨v, rfl, hR, hb⟩
  have Fw1 : Hid (Fr w w1 B (B + 1) ⟨nm, ky, fd, vl, n, m⟩) := FW0.out.below hb
  have hOw1 : Hid (w1.heap[B + 1]? = some (.cells outz 53 (0, 0))) := (hb.block _ (heap_lt22 hOW0.out)).trans hOW0.out
  obtain ⟨ao, cc, rfl, -⟩ := hR.tl
  have HRw1 : Hid (TRow w1 W0.heap.size (.slice ao L.length cc) L) := hR
  clear hR
  clear hC hb hc1 hc2 hc3 hc4 hc5 hld
  have hC := carray_any ao L.length cc w1
  have hc1 := Fw1.out.c1
  have hc2 := Fw1.out.c2
  have hc3 := Fw1.out.c3
  have hc4 := Fw1.out.c4
  have hc5 := Fw1.out.c5
  have hld := Fw1.out.load
  go_wp2_with (first | (refine wpList_loadR (ty := 38) (x := .tmp 3) (ad := ⟨B, 0, none⟩) (v := .agg (clc ⟨nm, ky, fd, vl, n, m⟩)) rfl rfl rfl hld ?_))
  refine Calls.mono hC ?_
  rintro ex w2 ⟨rfl, hb⟩
  have Fw2 : Hid (Fr w w2 B (B + 1) ⟨nm, ky, fd, vl, n, m⟩) := Fw1.out.below hb
  have hOw2 : Hid (w2.heap[B + 1]? = some (.cells outz 53 (0, 0))) := (hb.block _ (heap_lt22 hOw1.out)).trans hOw1.out
  have HRw2 : Hid (TRow w2 W0.heap.size (.slice ao L.length cc) L) := HRw1.out.below hb (Nat.le_refl _)
  clear hC hb hc1 hc2 hc3 hc4 hc5 hld
  have hC := ctell_any 6 [] 0 ao L.length cc w2
  have hc1 := Fw2.out.c1
  have hc2 := Fw2.out.c2
  have hc3 := Fw2.out.c3
  have hc4 := Fw2.out.c4
  have hc5 := Fw2.out.c5
  have hld := Fw2.out.load
  go_wp2_with (first | (refine wpList_loadR (ty := 38) (x := .tmp 3) (ad := ⟨B, 0, none⟩) (v := .agg (clc ⟨nm, ky, fd, vl, n, m⟩)) rfl rfl rfl hld ?_))
  refine Calls.mono hC ?_
  rintro ex w3 ⟨rfl, hb⟩
  have Fw3 : Hid (Fr w w3 B (B + 1) ⟨nm, ky, fd, vl, n, m⟩) := Fw2.out.below hb
  have hOw3 : Hid (w3.heap[B + 1]? = some (.cells outz 53 (0, 0))) := (hb.block _ (heap_lt22 hOw2.out)).trans hOw2.out
  have HRw3 : Hid (TRow w3 W0.heap.size (.slice ao L.length cc) L) := HRw2.out.below hb (Nat.le_refl _)
  clear hC hb hc1 hc2 hc3 hc4 hc5 hld
  have hst := storeVar_out (cs := outx 6 [] 0 ao L.length cc opzz false) hOw3.out rfl rfl (outx_one _ _ _ _ _ _ _ _ _ _ _ _ _ _)
  have hgw4 := setRow_heap w3 (B + 1) _ (outx 6 [] 0 ao L.length cc opzz false) _ _ hOw3.out
  have Fw4 := Fw3.out.set (outx 6 [] 0 ao L.length cc opzz false)
  have HR4 : TRow (w3.setRow (B + 1) (outx 6 [] 0 ao L.length cc opzz false)) W0.heap.size (.slice ao L.length cc) L := HRw3.out.keep (fun k hk => setRow_ne22 _ _ _ _ (by have := HRw3.out.own k hk; have := HLO.out.1; omega))
  generalize w3.setRow (B + 1) (outx 6 [] 0 ao L.length cc opzz false) = w4 at *
  go_wp2_with (first | (refine wpList_storeR (ty := 53) (x := .tmp 4) (y := .tmp 8) (ad := ⟨B + 1, 0, none⟩) (v := .agg (outx 6 [] 0 ao L.length cc opzz false)) (w' := w4) rfl rfl rfl rfl hst ?_))
  refine ret_out rfl rfl rfl hgw4 rfl ?_
  exact ⟨_, _, _, rfl, by first | exact HR4.lower (by have := HLO.out.2; omega) | (rw [hB]; exact HR4.lower HLO.out.2), by first | exact Fw4.be | (rw [← hB]; exact Fw4.be)⟩
def TYW : List (List UInt8) := [[110, 111, 110, 101], [115, 116, 114, 105, 110, 103], [116, 97, 108, 108, 121], [115, 101, 116], [104, 97, 115, 104], [122, 115, 101, 116], [108, 105, 115, 116]]
def tyA : Array Value := (TYW.map fun t => Value.string (sb t)).toArray
theorem tyA_at {i : Nat} (h : i < 7) : tyA[i]? = some (.string (sb (TYW.getD i []))) := by
  unfold tyA
  rw [List.getElem?_toArray, List.getElem?_map, List.getD_eq_getElem?_getD, List.getElem?_eq_getElem (show i < TYW.length from h)]
  rfl
theorem telltype_any (p : Option Addr) (c : Cl) (i : Nat) (hi : i < 7) (w : World) (hM : ∀ u, Below w.heap.size w u → Calls Tryz.prog 28 #[.pointer p, .string (sb c.key)] u fun x w' => x = .returned (.int .i64 (i : Int)) ∧ Below u.heap.size u w') : Calls Tryz.prog 84 #[.pointer p, .agg (clc c)] w fun x w' => x = .returned (.agg (outx 1 (TYW.getD i []) 0 none 0 0 opzz false)) ∧ Below w.heap.size w w' := by
  obtain ⟨nm, ky, fd, vl, n, m⟩ := c
  have F0 := fr_new w ⟨nm, ky, fd, vl, n, m⟩
  obtain ⟨W0, hW0⟩ : ∃ W0, (w.alloc (.cells (clc ⟨nm, ky, fd, vl, n, m⟩) 38)).alloc (.cells outz 53) = W0 := ⟨_, rfl⟩
  rw [hW0] at F0
  have hW1 : (w.alloc (.cells (clc ⟨nm, ky, fd, vl, n, m⟩) 38)).alloc (.cells #[.int .i64 0, .string ⟨#[]⟩, .int .i64 0, .slice none 0 0, .int .i64 0, .string ⟨#[]⟩, .string ⟨#[]⟩, .string ⟨#[]⟩, .int .i64 0, .int .i64 0, .int .i64 0, .bool false] 53) = W0 := hW0
  obtain ⟨B, hB⟩ : ∃ B, w.heap.size = B := ⟨_, rfl⟩
  rw [hB] at F0
  have FW0 : Hid (Fr w W0 B (B + 1) ⟨nm, ky, fd, vl, n, m⟩) := F0.1
  have hOW0 : Hid (W0.heap[B + 1]? = some (.cells outz 53 (0, 0))) := F0.2
  clear hW0 F0
  have HM : Hid (∀ u, Below w.heap.size w u → _) := hM
  clear hM
  have ha := heap_alloc_new W0 (.cells tyA 9)
  have hcc : (W0.alloc (.cells tyA 9)).cell? ⟨W0.heap.size, i, none⟩ = some (.string (sb (TYW.getD i []))) := by rw [cell_of_row _ W0.heap.size i _ _ _ ha]; exact tyA_at hi
  have FW1 : Hid (Fr w (W0.alloc (.cells tyA 9)) B (B + 1) ⟨nm, ky, fd, vl, n, m⟩) := FW0.out.below (below_alloc22 _ _)
  have hOW1 : Hid ((W0.alloc (.cells tyA 9)).heap[B + 1]? = some (.cells outz 53 (0, 0))) := ((below_alloc22 W0 (.cells tyA 9)).block _ (heap_lt22 hOW0.out)).trans hOW0.out
  obtain ⟨W1, hW2⟩ : ∃ W1, W0.alloc (.cells tyA 9) = W1 := ⟨_, rfl⟩
  rw [hW2] at hcc FW1 hOW1
  have hW2 : W0.alloc (.cells #[.string ⟨#[110, 111, 110, 101]⟩, .string ⟨#[115, 116, 114, 105, 110, 103]⟩, .string ⟨#[116, 97, 108, 108, 121]⟩, .string ⟨#[115, 101, 116]⟩, .string ⟨#[104, 97, 115, 104]⟩, .string ⟨#[122, 115, 101, 116]⟩, .string ⟨#[108, 105, 115, 116]⟩] 9) = W1 := hW2
  obtain ⟨t, ht⟩ : ∃ t, TYW.getD i [] = t := ⟨_, rfl⟩
  rw [ht] at hcc ⊢
  have HCC : Hid (W1.cell? ⟨W0.heap.size, i, none⟩ = some (.string (sb t))) := hcc
  obtain ⟨C, hC9⟩ : ∃ C, W0.heap.size = C := ⟨_, rfl⟩
  rw [hC9] at HCC
  clear ht hcc ha
  have hi7 : (i : Int) < 7 := by omega
  go_enter Tryz.func84, Tryz.ntmps84
  have hC := HM.out W1 FW1.out.be
  have hc1 := FW1.out.c1
  have hc2 := FW1.out.c2
  have hc3 := FW1.out.c3
  have hc4 := FW1.out.c4
  have hc5 := FW1.out.c5
  have hld := FW1.out.load
  go_wp2_with (first | (refine wpList_loadR (ty := 38) (x := .tmp 3) (ad := ⟨B, 0, none⟩) (v := .agg (clc ⟨nm, ky, fd, vl, n, m⟩)) rfl rfl rfl hld ?_))
  refine Calls.mono hC ?_
  rintro ex w1 ⟨rfl, hb⟩
  have Fw1 : Hid (Fr w w1 B (B + 1) ⟨nm, ky, fd, vl, n, m⟩) := FW1.out.below hb
  have hOw1 : Hid (w1.heap[B + 1]? = some (.cells outz 53 (0, 0))) := (hb.block _ (heap_lt22 hOW1.out)).trans hOW1.out
  have hcc : w1.cell? ⟨C, i, none⟩ = some (.string (sb t)) := (hb.cell (World.block_lt_of_cell? _ _ HCC.out)).trans HCC.out
  clear hC hb hc1 hc2 hc3 hc4 hc5 hld
  have hC := csimple_any t w1
  have hc1 := Fw1.out.c1
  have hc2 := Fw1.out.c2
  have hc3 := Fw1.out.c3
  have hc4 := Fw1.out.c4
  have hc5 := Fw1.out.c5
  have hld := Fw1.out.load
  go_wp2_with (first | (refine wpList_loadR (ty := 38) (x := .tmp 3) (ad := ⟨B, 0, none⟩) (v := .agg (clc ⟨nm, ky, fd, vl, n, m⟩)) rfl rfl rfl hld ?_))
  refine Calls.mono hC ?_
  rintro ex w2 ⟨rfl, hb⟩
  have Fw2 : Hid (Fr w w2 B (B + 1) ⟨nm, ky, fd, vl, n, m⟩) := Fw1.out.below hb
  have hOw2 : Hid (w2.heap[B + 1]? = some (.cells outz 53 (0, 0))) := (hb.block _ (heap_lt22 hOw1.out)).trans hOw1.out
  clear hC hb hc1 hc2 hc3 hc4 hc5 hld
  clear hcc
  have hC := ctell_any 1 t 0 none 0 0 w2
  have hc1 := Fw2.out.c1
  have hc2 := Fw2.out.c2
  have hc3 := Fw2.out.c3
  have hc4 := Fw2.out.c4
  have hc5 := Fw2.out.c5
  have hld := Fw2.out.load
  go_wp2_with (first | (refine wpList_loadR (ty := 38) (x := .tmp 3) (ad := ⟨B, 0, none⟩) (v := .agg (clc ⟨nm, ky, fd, vl, n, m⟩)) rfl rfl rfl hld ?_))
  refine Calls.mono hC ?_
  rintro ex w3 ⟨rfl, hb⟩
  have Fw3 : Hid (Fr w w3 B (B + 1) ⟨nm, ky, fd, vl, n, m⟩) := Fw2.out.below hb
  have hOw3 : Hid (w3.heap[B + 1]? = some (.cells outz 53 (0, 0))) := (hb.block _ (heap_lt22 hOw2.out)).trans hOw2.out
  clear hC hb hc1 hc2 hc3 hc4 hc5 hld
  have hst := storeVar_out (cs := outx 1 t 0 none 0 0 opzz false) hOw3.out rfl rfl (outx_one _ _ _ _ _ _ _ _ _ _ _ _ _ _)
  have hgw4 := setRow_heap w3 (B + 1) _ (outx 1 t 0 none 0 0 opzz false) _ _ hOw3.out
  have Fw4 := Fw3.out.set (outx 1 t 0 none 0 0 opzz false)
  generalize w3.setRow (B + 1) (outx 1 t 0 none 0 0 opzz false) = w4 at *
  go_wp2_with (first | (refine wpList_storeR (ty := 53) (x := .tmp 4) (y := .tmp 15) (ad := ⟨B + 1, 0, none⟩) (v := .agg (outx 1 t 0 none 0 0 opzz false)) (w' := w4) rfl rfl rfl rfl hst ?_))
  refine ret_out rfl rfl rfl hgw4 rfl ?_
  first | exact ⟨rfl, Fw4.be⟩ | exact ⟨rfl, by rw [← hB]; exact Fw4.be⟩
end Go.Proofs.YtmlfekbmbnfkjabGreatDoor

/-
  slices.Index and slices.Contains over texts.
-/
namespace Go.Proofs.YtmlfekbmbnfkjabGreatDoor
set_option maxRecDepth 100000
open Go.RowKit

end Go.Proofs.YtmlfekbmbnfkjabGreatDoor

/-
  Functions that plan: of groups' members, of hashes, of scores.
-/
namespace Go.Proofs.YtmlfekbmbnfkjabGreatDoor
set_option maxRecDepth 100000
open Go.RowKit

end Go.Proofs.YtmlfekbmbnfkjabGreatDoor

/-
  push: what is pushed, and where.
-/
namespace Go.Proofs.YtmlfekbmbnfkjabGreatDoor
set_option maxRecDepth 100000
open Go.RowKit

theorem opx_one (k : Int) (ky f v : List UInt8) (n r m : Int) : (opx k ky f v n r m).all (·.oneCell') = true := by simp [opx, Value.oneCell']
theorem Fr.belowC {w W W' : World} {B O C : Nat} {c : Cl} (h : Fr w W B O c) (hb : Below C W W') (hC : O < C) : Fr w W' B O c :=
  ⟨(hb.block _ (Nat.lt_trans h.hi hC)).trans h.cl, h.be.trans (hb.mono (Nat.le_trans h.lo (Nat.le_of_lt (Nat.lt_trans h.hi hC)))), h.lo, h.hi⟩
end Go.Proofs.YtmlfekbmbnfkjabGreatDoor

/-
  Functions that plan: of lists.
-/
namespace Go.Proofs.YtmlfekbmbnfkjabGreatDoor
set_option maxRecDepth 100000
open Go.RowKit

end Go.Proofs.YtmlfekbmbnfkjabGreatDoor

/-
  isOther, and outcomeOf: what comes of a command.
-/
namespace Go.Proofs.YtmlfekbmbnfkjabGreatDoor
set_option maxRecDepth 100000
open Go.RowKit

def isoE (t r : Int) : Bool := !(t == 0) && !(t == r)
theorem isother_any (t r : Int) (w : World) : Calls Tryz.prog 27 #[.int .i64 t, .int .i64 r] w fun x w' => x = .returned (.bool (isoE t r)) ∧ Below w.heap.size w w' := by
  by_cases h0 : t = 0
  · have hz : (t == 0) = true := by simp [h0]
    have HI : Hid (isoE t r = false) := by simp [Hid, isoE, h0]
    go_enter Tryz.func27, Tryz.ntmps27
    go_wp2
    go_ret
    refine ⟨?_, Below.refl _ _⟩
    rw [HI.out]; rfl
  · have hz : (t == 0) = false := by simp [h0]
    by_cases h1 : t = r
    · have hq : (t == r) = true := by simp [h1]
      have HI : Hid (isoE t r = false) := by simp [Hid, isoE, hz, hq]
      clear h1
      go_enter Tryz.func27, Tryz.ntmps27
      go_wp2
      go_ret
      refine ⟨?_, Below.refl _ _⟩
      rw [HI.out]; first | rfl | simp_all
    · have hq : (t == r) = false := by simp [h1]
      have HI : Hid (isoE t r = true) := by simp [Hid, isoE, hz, hq]
      go_enter Tryz.func27, Tryz.ntmps27
      go_wp2
      go_ret
      refine ⟨?_, Below.refl _ _⟩
      rw [HI.out]; first | rfl | simp_all
theorem enters_isother (xs : Array Value) (w : World) : (callFunc 27 xs).run Tryz.prog w = .ok (.enter 27 xs) w := enters Tryz.func27 (by kernel_rfl) (by kernel_rfl) xs w
theorem y_pick22 {o : Oper} {a : Act} {w : World} {x y z : Operand} {b : Bool} {p q : Value} (ho : o.op = .pick x y z) (hx : a.eval x = .bool b) (hy : a.eval y = p) (hz : a.eval z = q) : (execOp a.eval o).run Tryz.prog w = .ok (.value (if b then p else q)) w := by
  unfold execOp
  simp only [ho, hx, hy, hz]
  cases b <;> rfl
/-- The call of a function that is a value. -/
theorem wpList_dyn {ops : Array Oper} {rest : List Oper} {o : Oper} {a : Act} {w : World} {Q : Exit → Act → World → Prop} {f : FuncId} {x : Operand} {xs : List Operand} {ts : Array TypeId} {vs : List Value} {R : Ending → World → Prop} (hg : o.guard = none) (ho : o.op = .call ⟨.value x, xs.toArray, ts⟩) (hx : a.eval x = .func (.func f) #[] #[]) (ha : xs.map a.eval = vs) (hr : (callFunc f vs.toArray).run Tryz.prog w = .ok (.enter f vs.toArray) w)
    (hc : Calls Tryz.prog f vs.toArray w R) (h : ∀ e w', R e w' → ∃ u, e = .returned u ∧ wpList Tryz.prog ops Q rest (a.put o.dst u) w') : wpList Tryz.prog ops Q (o :: rest) a w := by
  refine wpList_plain hg fun K hK' => ?_
  have ha' : xs.toArray.map a.eval = vs.toArray := by rw [List.map_toArray, ha]
  have h1 : (execOp a.eval o).run Tryz.prog w = .ok (.enter f vs.toArray) w := by
    unfold execOp
    simp only [ho, resolve, hx, Deferred.ofValue, Sem.run_bind, Sem.run_pure, Result.andThen_ok, invoke, Array.append_empty, Array.empty_append]
    rw [show xs.toArray.map (fun x => a.eval x) = vs.toArray from ha']
    exact hr
  unfold Oper.wp
  rw [h1, Oper.upon_enter]
  refine hc.mono (fun e w' hR => ?_)
  obtain ⟨u, rfl, hk⟩ := h e w' hR
  exact hK' _ _ hk
theorem rwz_one : rwz.all (·.oneCell') = true := by simp [rwz, Value.oneCell']
theorem outcomeof_none (p : Option Addr) (c : Cl) (w : World) (hN : rowN c.name = none) : Calls Tryz.prog 15 #[.pointer p, .agg (clc c)] w fun x w' => x = .returned (.agg (outx 2 [69, 82, 82] 0 none 0 0 opzz false)) ∧ Below w.heap.size w w' := by
  obtain ⟨nm, ky, fd, vl, n, m⟩ := c
  have F0 := fr_new w ⟨nm, ky, fd, vl, n, m⟩
  obtain ⟨W0, hW0⟩ : ∃ W0, (w.alloc (.cells (clc ⟨nm, ky, fd, vl, n, m⟩) 38)).alloc (.cells outz 53) = W0 := ⟨_, rfl⟩
  rw [hW0] at F0
  have hW1 : (w.alloc (.cells (clc ⟨nm, ky, fd, vl, n, m⟩) 38)).alloc (.cells #[.int .i64 0, .string ⟨#[]⟩, .int .i64 0, .slice none 0 0, .int .i64 0, .string ⟨#[]⟩, .string ⟨#[]⟩, .string ⟨#[]⟩, .int .i64 0, .int .i64 0, .int .i64 0, .bool false] 53) = W0 := hW0
  obtain ⟨B, hB⟩ : ∃ B, w.heap.size = B := ⟨_, rfl⟩
  rw [hB] at F0
  have FW0 : Hid (Fr w W0 B (B + 1) ⟨nm, ky, fd, vl, n, m⟩) := F0.1
  have hOW0 : Hid (W0.heap[B + 1]? = some (.cells outz 53 (0, 0))) := F0.2
  clear hW0 F0
  have hRW := rowof_any nm W0
  have hN : rowN nm = none := hN
  rw [hN] at hRW
  have hc0 : W0.cell? ⟨B, 0, none⟩ = some (.string (sb nm)) := by rw [cell_of_row W0 B 0 _ _ _ FW0.out.cl]; rfl
  go_enter Tryz.func15, Tryz.ntmps15
  have hC := hRW
  have hc1 := FW0.out.c1
  have hc2 := FW0.out.c2
  have hc3 := FW0.out.c3
  have hc4 := FW0.out.c4
  have hc5 := FW0.out.c5
  have hld := FW0.out.load
  go_wp2_with (first | (refine wpList_loadR (ty := 38) (x := .tmp 3) (ad := ⟨B, 0, none⟩) (v := .agg (clc ⟨nm, ky, fd, vl, n, m⟩)) rfl rfl rfl hld ?_))
  refine Calls.mono hC ?_
  rintro ex w1 ⟨rfl, hb⟩
  have Fw1 : Hid (Fr w w1 B (B + 1) ⟨nm, ky, fd, vl, n, m⟩) := FW0.out.below hb
  have hOw1 : Hid (w1.heap[B + 1]? = some (.cells outz 53 (0, 0))) := (hb.block _ (heap_lt22 hOW0.out)).trans hOW0.out
  clear hC hb hc1 hc2 hc3 hc4 hc5 hld
  clear hc0 hRW hN
  have hnew := heap_alloc_new w1 (.cells rwz 62)
  have hst := storeVar_rw (cs := rwz) hnew rfl rfl rwz_one
  have hgr := setRow_heap (w1.alloc (.cells rwz 62)) w1.heap.size _ (rwz) _ _ hnew
  have hbe : Below w1.heap.size w1 ((w1.alloc (.cells rwz 62)).setRow w1.heap.size (rwz)) := below_setRow (below_alloc22 _ _) (Nat.le_refl _) _
  generalize (w1.alloc (.cells rwz 62)).setRow w1.heap.size (rwz) = w2 at *
  have Fw2 : Hid (Fr w w2 B (B + 1) ⟨nm, ky, fd, vl, n, m⟩) := Fw1.out.below hbe
  have hOw2 : Hid (w2.heap[B + 1]? = some (.cells outz 53 (0, 0))) := (hbe.block _ (heap_lt22 hOw1.out)).trans hOw1.out
  have Xw2 : Hid (w2.heap[w1.heap.size]? = some (.cells (rwz) 62 (0, 0))) := hgr
  have HCB0 : Hid (B + 1 < w1.heap.size) := heap_lt22 hOw1.out
  clear hnew hgr hbe
  have hE := cfail_any [69, 82, 82] w2
  go_wp2_with (first | (refine wpList_storeR (ty := 62) (x := .tmp 5) (y := .tmp 11) (ad := ⟨w1.heap.size, 0, none⟩) (v := .agg (rwz)) (w' := w2) rfl rfl rfl rfl hst ?_))
  refine Calls.mono hE ?_
  rintro ex w3 ⟨rfl, hb⟩
  have Fw3 : Hid (Fr w w3 B (B + 1) ⟨nm, ky, fd, vl, n, m⟩) := Fw2.out.below hb
  have hOw3 : Hid (w3.heap[B + 1]? = some (.cells outz 53 (0, 0))) := (hb.block _ (heap_lt22 hOw2.out)).trans hOw2.out
  clear hE hb hst
  have hst := storeVar_out (cs := outx 2 [69, 82, 82] 0 none 0 0 opzz false) hOw3.out rfl rfl (outx_one _ _ _ _ _ _ _ _ _ _ _ _ _ _)
  have hgw4 := setRow_heap w3 (B + 1) _ (outx 2 [69, 82, 82] 0 none 0 0 opzz false) _ _ hOw3.out
  have Fw4 := Fw3.out.set (outx 2 [69, 82, 82] 0 none 0 0 opzz false)
  generalize w3.setRow (B + 1) (outx 2 [69, 82, 82] 0 none 0 0 opzz false) = w4 at *
  go_wp2_with (first | (refine wpList_storeR (ty := 53) (x := .tmp 4) (y := .tmp 15) (ad := ⟨B + 1, 0, none⟩) (v := .agg (outx 2 [69, 82, 82] 0 none 0 0 opzz false)) (w' := w4) rfl rfl rfl rfl hst ?_))
  refine ret_out rfl rfl rfl hgw4 rfl ?_
  first | exact ⟨rfl, Fw4.be⟩ | exact ⟨rfl, by rw [← hB]; exact Fw4.be⟩
theorem field_rw2 (w : World) (b : Nat) : (Instr.fieldAt 62 (.pointer (some ⟨b, 0, none⟩)) 2).run Tryz.prog w = .ok (.pointer (some ⟨b, 2, none⟩)) w := by go_simp
theorem row_is22 {W : World} {b : Nat} {r : Rw22} (h : W.heap[b]? = some (.cells (rwc r).toArray 62 (0, 0))) : (loadVar 3 ⟨b, 2, none⟩).run Tryz.prog W = .ok (.int .i64 r.is) W := by
  have hc : W.cell? ⟨b, 2, none⟩ = some (.int .i64 r.is) := by rw [cell_of_row W b 2 _ _ _ h]; rfl
  clear h
  go_simp
theorem row_fn22 {W : World} {b : Nat} {r : Rw22} (h : W.heap[b]? = some (.cells (rwc r).toArray 62 (0, 0))) : W.cell? ⟨b, 3, none⟩ = some (.func (.func r.fn) #[] #[]) := by rw [cell_of_row W b 3 _ _ _ h]; rfl
theorem outcomeof_other (p : Option Addr) (c : Cl) (r : Rw22) (t : Int) (w : World) (hN : rowN c.name = some r) (hT : ∀ u, Below w.heap.size w u → Calls Tryz.prog 28 #[.pointer p, .string (sb c.key)] u fun x w' => x = .returned (.int .i64 t) ∧ Below u.heap.size u w') (hi : ¬ r.is = 0) (hz : isoE t r.is = true) : Calls Tryz.prog 15 #[.pointer p, .agg (clc c)] w fun x w' => x = .returned (.agg (outx 2 [87, 82, 79, 78, 71, 84, 89, 80, 69] 0 none 0 0 opzz false)) ∧ Below w.heap.size w w' := by
  obtain ⟨nm, ky, fd, vl, n, m⟩ := c
  have F0 := fr_new w ⟨nm, ky, fd, vl, n, m⟩
  obtain ⟨W0, hW0⟩ : ∃ W0, (w.alloc (.cells (clc ⟨nm, ky, fd, vl, n, m⟩) 38)).alloc (.cells outz 53) = W0 := ⟨_, rfl⟩
  rw [hW0] at F0
  have hW1 : (w.alloc (.cells (clc ⟨nm, ky, fd, vl, n, m⟩) 38)).alloc (.cells #[.int .i64 0, .string ⟨#[]⟩, .int .i64 0, .slice none 0 0, .int .i64 0, .string ⟨#[]⟩, .string ⟨#[]⟩, .string ⟨#[]⟩, .int .i64 0, .int .i64 0, .int .i64 0, .bool false] 53) = W0 := hW0
  obtain ⟨B, hB⟩ : ∃ B, w.heap.size = B := ⟨_, rfl⟩
  rw [hB] at F0
  have FW0 : Hid (Fr w W0 B (B + 1) ⟨nm, ky, fd, vl, n, m⟩) := F0.1
  have hOW0 : Hid (W0.heap[B + 1]? = some (.cells outz 53 (0, 0))) := F0.2
  clear hW0 F0
  obtain ⟨rn, rt, ri, rf⟩ := r
  have hRW := rowof_any nm W0
  have hN : rowN nm = some ⟨rn, rt, ri, rf⟩ := hN
  rw [hN] at hRW
  have hc0 : W0.cell? ⟨B, 0, none⟩ = some (.string (sb nm)) := by rw [cell_of_row W0 B 0 _ _ _ FW0.out.cl]; rfl
  have HT : Hid (∀ u, Below w.heap.size w u → _) := hT
  clear hT
  have hi : ¬ ri = 0 := hi
  have HNQ : Hid (∀ W : World, (binOp .neq 3 (.int .i64 ri) (.int .i64 0)).run Tryz.prog W = .ok (.bool true) W) := fun W => by rw [neq_int22]; simp [hi]
  have HZ : Hid (isoE t ri = true) := hz
  clear hi hz
  go_enter Tryz.func15, Tryz.ntmps15
  have hC := hRW
  have hc1 := FW0.out.c1
  have hc2 := FW0.out.c2
  have hc3 := FW0.out.c3
  have hc4 := FW0.out.c4
  have hc5 := FW0.out.c5
  have hld := FW0.out.load
  go_wp2_with (first | (refine wpList_loadR (ty := 38) (x := .tmp 3) (ad := ⟨B, 0, none⟩) (v := .agg (clc ⟨nm, ky, fd, vl, n, m⟩)) rfl rfl rfl hld ?_))
  refine Calls.mono hC ?_
  rintro ex w1 ⟨rfl, hb⟩
  have Fw1 : Hid (Fr w w1 B (B + 1) ⟨nm, ky, fd, vl, n, m⟩) := FW0.out.below hb
  have hOw1 : Hid (w1.heap[B + 1]? = some (.cells outz 53 (0, 0))) := (hb.block _ (heap_lt22 hOW0.out)).trans hOW0.out
  clear hC hb hc1 hc2 hc3 hc4 hc5 hld
  clear hc0 hRW hN
  have hnew := heap_alloc_new w1 (.cells rwz 62)
  have hst := storeVar_rw (cs := (rwc ⟨rn, rt, ri, rf⟩).toArray) hnew rfl rfl (rwc_one _)
  have hgr := setRow_heap (w1.alloc (.cells rwz 62)) w1.heap.size _ ((rwc ⟨rn, rt, ri, rf⟩).toArray) _ _ hnew
  have hbe : Below w1.heap.size w1 ((w1.alloc (.cells rwz 62)).setRow w1.heap.size ((rwc ⟨rn, rt, ri, rf⟩).toArray)) := below_setRow (below_alloc22 _ _) (Nat.le_refl _) _
  generalize (w1.alloc (.cells rwz 62)).setRow w1.heap.size ((rwc ⟨rn, rt, ri, rf⟩).toArray) = w2 at *
  have Fw2 : Hid (Fr w w2 B (B + 1) ⟨nm, ky, fd, vl, n, m⟩) := Fw1.out.below hbe
  have hOw2 : Hid (w2.heap[B + 1]? = some (.cells outz 53 (0, 0))) := (hbe.block _ (heap_lt22 hOw1.out)).trans hOw1.out
  have Xw2 : Hid (w2.heap[w1.heap.size]? = some (.cells ((rwc ⟨rn, rt, ri, rf⟩).toArray) 62 (0, 0))) := hgr
  have HCB0 : Hid (B + 1 < w1.heap.size) := heap_lt22 hOw1.out
  clear hnew hgr hbe
  have hNE := HCB0.out
  go_wp2_with (first | (refine wpList_storeR (ty := 62) (x := .tmp 5) (y := .tmp 11) (ad := ⟨w1.heap.size, 0, none⟩) (v := .agg ((rwc ⟨rn, rt, ri, rf⟩).toArray)) (w' := w2) rfl rfl rfl rfl hst ?_))
  clear hst
  obtain ⟨D, hD⟩ : ∃ W, W = w2.drew := ⟨_, rfl⟩
  have SD : Fr w D B (B + 1) ⟨nm, ky, fd, vl, n, m⟩ ∧ D.heap[w1.heap.size]? = some (.cells (rwc ⟨rn, rt, ri, rf⟩).toArray 62 (0, 0)) := by rw [hD]; exact ⟨Fw2.out.drew, Xw2.out⟩
  have hOD : D.heap[B + 1]? = some (.cells outz 53 (0, 0)) := by rw [hD]; exact hOw2.out
  refine wp_region_noPanic ?_
  refine wp_region_held_drew (S := fun W' : World => Fr w W' B (B + 1) ⟨nm, ky, fd, vl, n, m⟩ ∧ W'.heap[w1.heap.size]? = some (.cells (rwc ⟨rn, rt, ri, rf⟩).toArray 62 (0, 0))) (by kernel_rfl) (by rw [← hD]; exact SD) (fun hHeld => ?_)
  rw [← hD] at hHeld ⊢
  clear hD
  refine wpAnyH_take (i := 0) (oi := { dst := some 16, op := _, type := _, pos := _, after := _, guard := _ }) (v := .pointer (some ⟨w1.heap.size, 2, none⟩)) rfl (by kernel_rfl) (by kernel_rfl) (by kernel_rfl) (fun _ _ _ h => h) (Or.inl ⟨by rfl, ?_⟩) (by assumption) ?_
  · intro w9 hSw
    exact y_field rfl rfl (field_rw2 _ _)
  simp only [Act.put, List.setIfInBounds_toArray, List.set_cons_zero, List.set_cons_succ]
  refine wpAnyH_take (i := 1) (oi := { dst := some 17, op := _, type := _, pos := _, after := _, guard := _ }) (v := .int .i64 ri) rfl (by kernel_rfl) (by kernel_rfl) (by kernel_rfl) (fun _ _ _ h => h) (Or.inl ⟨by rfl, ?_⟩) (by assumption) ?_
  · intro w9 hSw
    exact y_load rfl rfl (row_is22 hSw.2)
  simp only [Act.put, List.setIfInBounds_toArray, List.set_cons_zero, List.set_cons_succ]
  refine wpAnyH_take (i := 2) (oi := { dst := some 18, op := _, type := _, pos := _, after := _, guard := _ }) (v := .bool true) rfl (by kernel_rfl) (by kernel_rfl) (by kernel_rfl) (fun _ _ _ h => h) (Or.inl ⟨by rfl, ?_⟩) (by assumption) ?_
  · intro w9 hSw
    exact y_bin22 rfl rfl rfl (guard_int22 _ _ _) (HNQ.out _)
  simp only [Act.put, List.setIfInBounds_toArray, List.set_cons_zero, List.set_cons_succ]
  refine wpAnyH_take (i := 3) (oi := { dst := some 19, op := _, type := _, pos := _, after := _, guard := _ }) (v := .bool true) rfl (by kernel_rfl) (by kernel_rfl) (by kernel_rfl) (fun _ _ _ h => h) (Or.inl ⟨by rfl, ?_⟩) (by assumption) ?_
  · intro w9 hSw
    exact y_move rfl rfl
  simp only [Act.put, List.setIfInBounds_toArray, List.set_cons_zero, List.set_cons_succ]
  refine wpAnyH_take (i := 4) (oi := { dst := some 20, op := _, type := _, pos := _, after := _, guard := _ }) (v := .pointer p) rfl (by kernel_rfl) (by kernel_rfl) (by kernel_rfl) (fun _ _ _ h => h) (Or.inl ⟨by rfl, ?_⟩) (by assumption) ?_
  · intro w9 hSw
    exact y_move rfl rfl
  simp only [Act.put, List.setIfInBounds_toArray, List.set_cons_zero, List.set_cons_succ]
  refine wpAnyH_take (i := 5) (oi := { dst := some 21, op := _, type := _, pos := _, after := _, guard := _ }) (v := .pointer (some ⟨B, 1, none⟩)) rfl (by kernel_rfl) (by kernel_rfl) (by kernel_rfl) (fun _ _ _ h => h) (Or.inl ⟨by rfl, ?_⟩) (by assumption) ?_
  · intro w9 hSw
    exact y_field rfl rfl (fieldc1 _ _)
  simp only [Act.put, List.setIfInBounds_toArray, List.set_cons_zero, List.set_cons_succ]
  refine wpAnyH_take (i := 6) (oi := { dst := some 22, op := _, type := _, pos := _, after := _, guard := _ }) (v := .string (sb ky)) rfl (by kernel_rfl) (by kernel_rfl) (by kernel_rfl) (fun _ _ _ h => h) (Or.inl ⟨by rfl, ?_⟩) (by assumption) ?_
  · intro w9 hSw
    exact y_load rfl rfl hSw.1.l1
  simp only [Act.put, List.setIfInBounds_toArray, List.set_cons_zero, List.set_cons_succ]
  refine wpAnyH_take (i := 8) (oi := { dst := some 24, op := _, type := _, pos := _, after := _, guard := _ }) (v := .pointer (some ⟨w1.heap.size, 2, none⟩)) rfl (by kernel_rfl) (by kernel_rfl) (by kernel_rfl) (fun _ _ _ h => h) (Or.inl ⟨by rfl, ?_⟩) (by assumption) ?_
  · intro w9 hSw
    exact y_field rfl rfl (field_rw2 _ _)
  simp only [Act.put, List.setIfInBounds_toArray, List.set_cons_zero, List.set_cons_succ]
  refine wpAnyH_take (i := 9) (oi := { dst := some 25, op := _, type := _, pos := _, after := _, guard := _ }) (v := .int .i64 ri) rfl (by kernel_rfl) (by kernel_rfl) (by kernel_rfl) (fun _ _ _ h => h) (Or.inl ⟨by rfl, ?_⟩) (by assumption) ?_
  · intro w9 hSw
    exact y_load rfl rfl (row_is22 hSw.2)
  simp only [Act.put, List.setIfInBounds_toArray, List.set_cons_zero, List.set_cons_succ]
  clear hHeld
  refine wpAnyH_ready (rs := [7]) (by kernel_rfl) (by simp) ?_
  refine AllReadyH.cons (o := { dst := some 23, op := _, type := _, pos := _, after := _, guard := _ }) rfl (fun K hK => ?_) AllReadyH.nil
  rw [if_pos (by rfl)]
  have hCq1 := HT.out D SD.1.be
  refine y_call (f := 28) (xs := [.tmp 20, .tmp 22]) (vs := [.pointer p, .string (sb ky)]) rfl rfl (enters_stype _ _) hCq1 ?_
  rintro ex q1 ⟨rfl, hb⟩
  refine ⟨_, rfl, ?_⟩
  have Sq1 : Fr w q1 B (B + 1) ⟨nm, ky, fd, vl, n, m⟩ ∧ q1.heap[w1.heap.size]? = some (.cells (rwc ⟨rn, rt, ri, rf⟩).toArray 62 (0, 0)) := ⟨SD.1.below hb, (hb.block _ (heap_lt22 SD.2)).trans SD.2⟩
  have hOq1 : q1.heap[B + 1]? = some (.cells outz 53 (0, 0)) := (hb.block _ (heap_lt22 hOD)).trans hOD
  clear hCq1 hb
  refine hK.out _ _ Sq1 (fun hHeld => ?_)
  clear hK K
  simp only [Act.put, List.setIfInBounds_toArray, List.set_cons_zero, List.set_cons_succ]
  clear hHeld
  refine wpAnyH_ready (rs := [10]) (by kernel_rfl) (by simp) ?_
  refine AllReadyH.cons (o := { dst := some 26, op := _, type := _, pos := _, after := _, guard := _ }) rfl (fun K hK => ?_) AllReadyH.nil
  rw [if_pos (by rfl)]
  have hCq2 := isother_any t ri q1
  refine y_call (f := 27) (xs := [.tmp 23, .tmp 25]) (vs := [.int .i64 t, .int .i64 ri]) rfl rfl (enters_isother _ _) hCq2 ?_
  rintro ex q2 ⟨rfl, hb⟩
  refine ⟨_, rfl, ?_⟩
  have Sq2 : Fr w q2 B (B + 1) ⟨nm, ky, fd, vl, n, m⟩ ∧ q2.heap[w1.heap.size]? = some (.cells (rwc ⟨rn, rt, ri, rf⟩).toArray 62 (0, 0)) := ⟨Sq1.1.below hb, (hb.block _ (heap_lt22 Sq1.2)).trans Sq1.2⟩
  have hOq2 : q2.heap[B + 1]? = some (.cells outz 53 (0, 0)) := (hb.block _ (heap_lt22 hOq1)).trans hOq1
  clear hCq2 hb
  refine hK.out _ _ Sq2 (fun hHeld => ?_)
  clear hK K
  simp only [Act.put, List.setIfInBounds_toArray, List.set_cons_zero, List.set_cons_succ]
  refine wpAnyH_take (i := 11) (oi := { dst := some 27, op := _, type := _, pos := _, after := _, guard := _ }) (v := .bool (isoE t ri)) rfl (by kernel_rfl) (by kernel_rfl) (by kernel_rfl) (fun _ _ _ h => h) (Or.inl ⟨by rfl, ?_⟩) (by assumption) ?_
  · intro w9 hSw
    exact y_pick22 (b := true) rfl rfl rfl rfl
  simp only [Act.put, List.setIfInBounds_toArray, List.set_cons_zero, List.set_cons_succ]
  refine wpAnyH_done (by kernel_rfl) ?_ _
  refine NoPanic.normal ?_
  clear hHeld
  rw [HZ.out]
  have Fq2 : Hid (Fr w q2 B (B + 1) ⟨nm, ky, fd, vl, n, m⟩) := Sq2.1
  have hOq2x : Hid (q2.heap[B + 1]? = some (.cells outz 53 (0, 0))) := hOq2
  have Xq2 : Hid (q2.heap[w1.heap.size]? = some (.cells (rwc ⟨rn, rt, ri, rf⟩).toArray 62 (0, 0))) := Sq2.2
  clear SD Sq1 Sq2 hOD hOq1 hOq2
  have hE := cfail_any [87, 82, 79, 78, 71, 84, 89, 80, 69] q2
  go_wp2_with fail
  refine Calls.mono hE ?_
  rintro ex w3 ⟨rfl, hb⟩
  have Fw3 : Hid (Fr w w3 B (B + 1) ⟨nm, ky, fd, vl, n, m⟩) := Fq2.out.below hb
  have hOw3 : Hid (w3.heap[B + 1]? = some (.cells outz 53 (0, 0))) := (hb.block _ (heap_lt22 hOq2x.out)).trans hOq2x.out
  clear hE hb
  have hst := storeVar_out (cs := outx 2 [87, 82, 79, 78, 71, 84, 89, 80, 69] 0 none 0 0 opzz false) hOw3.out rfl rfl (outx_one _ _ _ _ _ _ _ _ _ _ _ _ _ _)
  have hgw4 := setRow_heap w3 (B + 1) _ (outx 2 [87, 82, 79, 78, 71, 84, 89, 80, 69] 0 none 0 0 opzz false) _ _ hOw3.out
  have Fw4 := Fw3.out.set (outx 2 [87, 82, 79, 78, 71, 84, 89, 80, 69] 0 none 0 0 opzz false)
  generalize w3.setRow (B + 1) (outx 2 [87, 82, 79, 78, 71, 84, 89, 80, 69] 0 none 0 0 opzz false) = w4 at *
  go_wp2_with (first | (refine wpList_storeR (ty := 53) (x := .tmp 4) (y := .tmp 28) (ad := ⟨B + 1, 0, none⟩) (v := .agg (outx 2 [87, 82, 79, 78, 71, 84, 89, 80, 69] 0 none 0 0 opzz false)) (w' := w4) rfl rfl rfl rfl hst ?_))
  refine ret_out rfl rfl rfl hgw4 rfl ?_
  first | exact ⟨rfl, Fw4.be⟩ | exact ⟨rfl, by rw [← hB]; exact Fw4.be⟩
end Go.Proofs.YtmlfekbmbnfkjabGreatDoor

/-
  Plan: out of orNew's and outcomeOf's answers.
-/
namespace Go.Proofs.YtmlfekbmbnfkjabGreatDoor
set_option maxRecDepth 100000
open Go.RowKit

theorem enters_ornew (xs : Array Value) (w : World) : (callFunc 16 xs).run Tryz.prog w = .ok (.enter 16 xs) w := enters Tryz.func16 (by kernel_rfl) (by kernel_rfl) xs w
theorem enters_outcomeof (xs : Array Value) (w : World) : (callFunc 15 xs).run Tryz.prog w = .ok (.enter 15 xs) w := enters Tryz.func15 (by kernel_rfl) (by kernel_rfl) xs w
theorem results_cct {fn : Func} {p q u : Tmp} {t1 t2 : TypeId} (h : fn.results = #[.cell p t1, .cell q t2, .tmp u]) (tmps : Array Value) (P : Program) (w : World) :
    (results fn tmps).run P w = ((asAddr (tmps.getD p undef)).run P w).andThen fun a w₁ => ((loadVar t1 a).run P w₁).andThen fun v w₂ => ((asAddr (tmps.getD q undef)).run P w₂).andThen fun a' w₃ => ((loadVar t2 a').run P w₃).andThen fun v' w₄ => .ok (.tuple #[v, v', tmps.getD u undef]) w₄ := by
  simp only [results, h]
  simp [Sem.run_bind, Result.andThen]
theorem ret_plan {fn : Func} {R : Ending → World → Prop} {a : Act} {w : World} {p q u : Tmp} {g h : Nat} {cs ds : Array Value} {v : Value} (hr : fn.results = #[.cell p 30, .cell q 34, .tmp u]) (hp : a.tmps.getD p undef = .pointer (some ⟨g, 0, none⟩)) (hq : a.tmps.getD q undef = .pointer (some ⟨h, 0, none⟩))
    (hu : a.tmps.getD u undef = v) (hd : a.defers = []) (hg : w.heap[g]? = some (.cells cs 30 (0, 0))) (hl : cs.size = 4) (hh : w.heap[h]? = some (.cells ds 34 (0, 0))) (hm : ds.size = 7) (hR : R (.returned (.tuple #[.agg cs, .agg ds, v])) w) : bodyPost Tryz.prog fn R .ret a w := by
  refine bodyPost_ret ?_ hd hR
  rw [results_cct hr, hp, hq, hu]
  simp only [asAddr, Sem.run_pure, Result.andThen_ok, loadVar_rep hg hl, loadVar_opr hh hm]
theorem fieldo (w : World) (b : Nat) : (Instr.fieldAt 53 (.pointer (some ⟨b, 0, none⟩)) 0).run Tryz.prog w = .ok (.pointer (some ⟨b, 0, none⟩)) w := by go_simp
theorem fieldo1 (w : World) (b : Nat) : (Instr.fieldAt 53 (.pointer (some ⟨b, 0, none⟩)) 1).run Tryz.prog w = .ok (.pointer (some ⟨b, 4, none⟩)) w := by go_simp
theorem fieldo2 (w : World) (b : Nat) : (Instr.fieldAt 53 (.pointer (some ⟨b, 0, none⟩)) 2).run Tryz.prog w = .ok (.pointer (some ⟨b, 11, none⟩)) w := by go_simp
theorem alloc_o (w : World) : ∃ w', (Instr.alloc 53 true (.tuple #[])).run Tryz.prog w = .ok (.pointer (some ⟨w.heap.size, 0, none⟩)) w' ∧ w'.heap[w.heap.size]? = some (.cells outz 53 (0, 0)) ∧ Below w.heap.size w w' := by
  refine ⟨w.alloc (.cells outz 53), ?_, heap_alloc_new w _, below_alloc22 w _⟩
  unfold outz
  go_simp
section
variable {W : World} {g : Nat} {k : Int} {t : List UInt8} {d : Int} {ao : Option Addr} {q cc : Nat} {k2 : Int} {y2 f2 v2 : List UInt8} {n2 r2 m2 : Int} {b : Bool}
theorem load_o0 (h : W.heap[g]? = some (.cells (outx k t d ao q cc (opx k2 y2 f2 v2 n2 r2 m2) b) 53 (0, 0))) : (loadVar 30 ⟨g, 0, none⟩).run Tryz.prog W = .ok (.agg (repc k t d (.slice ao q cc))) W :=
  run_loadVar_mid W g 0 30 [.int .i64 k, .string (sb t), .int .i64 d, .slice ao q cc] _ (fun j v hv => by
    rw [cell_of_row W g (0 + j) _ _ _ h]
    match j, hv with
    | 0, hv => exact hv
    | 1, hv => exact hv
    | 2, hv => exact hv
    | 3, hv => exact hv) Tryz.underlying30 rfl (by rw [show ([Value.int .i64 k, .string (sb t), .int .i64 d, .slice ao q cc]).length = 4 from rfl]; kernel_rfl)
theorem load_o1 (h : W.heap[g]? = some (.cells (outx k t d ao q cc (opx k2 y2 f2 v2 n2 r2 m2) b) 53 (0, 0))) : (loadVar 34 ⟨g, 4, none⟩).run Tryz.prog W = .ok (.agg (opx k2 y2 f2 v2 n2 r2 m2)) W :=
  run_loadVar_mid W g 4 34 [.int .i64 k2, .string (sb y2), .string (sb f2), .string (sb v2), .int .i64 n2, .int .i64 r2, .int .i64 m2] _ (fun j v hv => by
    rw [cell_of_row W g (4 + j) _ _ _ h]
    match j, hv with
    | 0, hv => exact hv
    | 1, hv => exact hv
    | 2, hv => exact hv
    | 3, hv => exact hv
    | 4, hv => exact hv
    | 5, hv => exact hv
    | 6, hv => exact hv) Tryz.underlying34 rfl (by rw [show ([Value.int .i64 k2, .string (sb y2), .string (sb f2), .string (sb v2), .int .i64 n2, .int .i64 r2, .int .i64 m2]).length = 7 from rfl]; kernel_rfl)
theorem load_o2 (h : W.heap[g]? = some (.cells (outx k t d ao q cc (opx k2 y2 f2 v2 n2 r2 m2) b) 53 (0, 0))) : (loadVar 4 ⟨g, 11, none⟩).run Tryz.prog W = .ok (.bool b) W := by
  have hc : W.cell? ⟨g, 11, none⟩ = some (.bool b) := by rw [cell_of_row W g 11 _ _ _ h]; rfl
  clear h
  go_simp
end

end Go.Proofs.YtmlfekbmbnfkjabGreatDoor

/-
  What comes of a command, with the texts that it hands on.
-/
namespace Go.Proofs.YtmlfekbmbnfkjabGreatDoor
set_option maxRecDepth 100000
open Go.RowKit

/-- An outcome: the reply's kind, text, number, texts; the operation; whether something is done. -/
structure Po where
  k : Int
  t : List UInt8
  d : Int
  L : List (List UInt8)
  k2 : Int
  y2 : List UInt8
  f2 : List UInt8
  v2 : List UInt8
  n2 : Int
  r2 : Int
  m2 : Int
  b : Bool
def Po.tell (k : Int) (t : List UInt8) (d : Int) (L : List (List UInt8)) : Po := ⟨k, t, d, L, 0, [], [], [], 0, 0, 0, false⟩
def Po.out (O : Po) (ao : Option Addr) (q cc : Nat) : Array Value := outx O.k O.t O.d ao q cc (opx O.k2 O.y2 O.f2 O.v2 O.n2 O.r2 O.m2) O.b
def Po.rep (O : Po) (ao : Option Addr) (q cc : Nat) : Array Value := repc O.k O.t O.d (.slice ao q cc)
def Po.op (O : Po) : Array Value := opx O.k2 O.y2 O.f2 O.v2 O.n2 O.r2 O.m2
theorem Po.out_one (O : Po) (ao : Option Addr) (q cc : Nat) : (O.out ao q cc).all (·.oneCell') = true := outx_one _ _ _ _ _ _ _ _ _ _ _ _ _ _
/-- What a planner comes to. -/
abbrev PlanC (fn : FuncId) (p : Option Addr) (c : Cl) (O : Po) (w : World) : Prop := Calls Tryz.prog fn #[.pointer p, .agg (clc c)] w fun x w' => ∃ ao q cc, x = .returned (.agg (O.out ao q cc)) ∧ TRow w' w.heap.size (.slice ao q cc) O.L ∧ Below w.heap.size w w'
/-- The same, shut. -/
def PlanR (O : Po) (w : World) (x : Ending) (w' : World) : Prop := ∃ ao q cc, x = .returned (.agg (O.out ao q cc)) ∧ TRow w' w.heap.size (.slice ao q cc) O.L ∧ Below w.heap.size w w'
theorem trow_none (w : World) (b : Nat) : TRow w b (.slice none 0 0) [] := World.ownsRow_nil _ _ _ _
/-- Without texts. -/
theorem PlanC.bare {fn : FuncId} {p : Option Addr} {c : Cl} {O : Po} {w : World} (hL : O.L = []) (h : Calls Tryz.prog fn #[.pointer p, .agg (clc c)] w fun x w' => x = .returned (.agg (O.out none 0 0)) ∧ Below w.heap.size w w') : PlanC fn p c O w :=
  h.mono fun x w' ⟨h1, h2⟩ => ⟨none, 0, 0, h1, by rw [hL]; exact trow_none _ _, h2⟩
end Go.Proofs.YtmlfekbmbnfkjabGreatDoor

