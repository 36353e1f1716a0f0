/-
  Functions that plan: lists of texts, types, INCRBY.
-/
import Derived.Test.YtmlfekbmbnfkjabGreatDoorQ35
import Derived.Test.YtmlfekbmbnfkjabGreatDoorQ64
import Derived.Test.YtmlfekbmbnfkjabGreatDoorQ31
import Derived.Test.YtmlfekbmbnfkjabGreatDoorQ53
import Derived.Test.YtmlfekbmbnfkjabGreatDoorQ46
namespace Go.Proofs.YtmlfekbmbnfkjabGreatDoor
set_option maxRecDepth 100000
open Go.RowKit

theorem setRow_ne22 (w : World) (g k : Nat) (vs : Array Value) (h : k ≠ g) : (w.setRow g vs).heap[k]? = w.heap[k]? := by
  simp only [World.setRow]
  rw [Array.getElem?_modify, if_neg (fun e => h e.symm)]
theorem tellkeys_any (p : Option Addr) (c : Cl) (L : List (List UInt8)) (w : World) (hM : ∀ u, Below w.heap.size w u → Calls Tryz.prog 125 #[.pointer p] u fun x w' => ∃ v, x = .returned v ∧ TRow w' u.heap.size v L ∧ Below u.heap.size u w') : Calls Tryz.prog 85 #[.pointer p, .agg (clc c)] w fun x w' => ∃ ao m k, x = .returned (.agg (outx 6 [] 0 ao m k opzz false)) ∧ TRow w' w.heap.size (.slice ao m k) L ∧ Below w.heap.size w w' := by
  obtain ⟨nm, ky, fd, vl, n, m⟩ := c
  have F0 := fr_new w ⟨nm, ky, fd, vl, n, m⟩
  obtain ⟨W0, hW0⟩ : ∃ W0, (w.alloc (.cells (clc ⟨nm, ky, fd, vl, n, m⟩) 38)).alloc (.cells outz 53) = W0 := ⟨_, rfl⟩
  rw [hW0] at F0
  have hW1 : (w.alloc (.cells (clc ⟨nm, ky, fd, vl, n, m⟩) 38)).alloc (.cells #[.int .i64 0, .string ⟨#[]⟩, .int .i64 0, .slice none 0 0, .int .i64 0, .string ⟨#[]⟩, .string ⟨#[]⟩, .string ⟨#[]⟩, .int .i64 0, .int .i64 0, .int .i64 0, .bool false] 53) = W0 := hW0
  obtain ⟨B, hB⟩ : ∃ B, w.heap.size = B := ⟨_, rfl⟩
  rw [hB] at F0
  have FW0 : Hid (Fr w W0 B (B + 1) ⟨nm, ky, fd, vl, n, m⟩) := F0.1
  have hOW0 : Hid (W0.heap[B + 1]? = some (.cells outz 53 (0, 0))) := F0.2
  clear hW0 F0
  have HM : Hid (∀ u, Below w.heap.size w u → _) := hM
  clear hM
  have HLO : Hid (B + 1 < W0.heap.size ∧ B ≤ W0.heap.size) := ⟨heap_lt22 hOW0.out, by have := heap_lt22 hOW0.out; omega⟩
  go_enter Tryz.func85, Tryz.ntmps85
  have hC := HM.out W0 FW0.out.be
  have hc1 := FW0.out.c1
  have hc2 := FW0.out.c2
  have hc3 := FW0.out.c3
  have hc4 := FW0.out.c4
  have hc5 := FW0.out.c5
  have hld := FW0.out.load
  go_wp2_with (first | (refine wpList_loadR (ty := 38) (x := .tmp 3) (ad := ⟨B, 0, none⟩) (v := .agg (clc ⟨nm, ky, fd, vl, n, m⟩)) rfl rfl rfl hld ?_))
  refine Calls.mono hC ?_
  rintro ex w1 ⟨v, rfl, hR, hb⟩
  have Fw1 : Hid (Fr w w1 B (B + 1) ⟨nm, ky, fd, vl, n, m⟩) := FW0.out.below hb
  have hOw1 : Hid (w1.heap[B + 1]? = some (.cells outz 53 (0, 0))) := (hb.block _ (heap_lt22 hOW0.out)).trans hOW0.out
  obtain ⟨ao, cc, rfl, -⟩ := hR.tl
  have HRw1 : Hid (TRow w1 W0.heap.size (.slice ao L.length cc) L) := hR
  clear hR
  clear hC hb hc1 hc2 hc3 hc4 hc5 hld
  have hC := carray_any ao L.length cc w1
  have hc1 := Fw1.out.c1
  have hc2 := Fw1.out.c2
  have hc3 := Fw1.out.c3
  have hc4 := Fw1.out.c4
  have hc5 := Fw1.out.c5
  have hld := Fw1.out.load
  go_wp2_with (first | (refine wpList_loadR (ty := 38) (x := .tmp 3) (ad := ⟨B, 0, none⟩) (v := .agg (clc ⟨nm, ky, fd, vl, n, m⟩)) rfl rfl rfl hld ?_))
  refine Calls.mono hC ?_
  rintro ex w2 ⟨rfl, hb⟩
  have Fw2 : Hid (Fr w w2 B (B + 1) ⟨nm, ky, fd, vl, n, m⟩) := Fw1.out.below hb
  have hOw2 : Hid (w2.heap[B + 1]? = some (.cells outz 53 (0, 0))) := (hb.block _ (heap_lt22 hOw1.out)).trans hOw1.out
  have HRw2 : Hid (TRow w2 W0.heap.size (.slice ao L.length cc) L) := HRw1.out.below hb (Nat.le_refl _)
  clear hC hb hc1 hc2 hc3 hc4 hc5 hld
  have hC := ctell_any 6 [] 0 ao L.length cc w2
  have hc1 := Fw2.out.c1
  have hc2 := Fw2.out.c2
  have hc3 := Fw2.out.c3
  have hc4 := Fw2.out.c4
  have hc5 := Fw2.out.c5
  have hld := Fw2.out.load
  go_wp2_with (first | (refine wpList_loadR (ty := 38) (x := .tmp 3) (ad := ⟨B, 0, none⟩) (v := .agg (clc ⟨nm, ky, fd, vl, n, m⟩)) rfl rfl rfl hld ?_))
  refine Calls.mono hC ?_
  rintro ex w3 ⟨rfl, hb⟩
  have Fw3 : Hid (Fr w w3 B (B + 1) ⟨nm, ky, fd, vl, n, m⟩) := Fw2.out.below hb
  have hOw3 : Hid (w3.heap[B + 1]? = some (.cells outz 53 (0, 0))) := (hb.block _ (heap_lt22 hOw2.out)).trans hOw2.out
  have HRw3 : Hid (TRow w3 W0.heap.size (.slice ao L.length cc) L) := HRw2.out.below hb (Nat.le_refl _)
  clear hC hb hc1 hc2 hc3 hc4 hc5 hld
  have hst := storeVar_out (cs := outx 6 [] 0 ao L.length cc opzz false) hOw3.out rfl rfl (outx_one _ _ _ _ _ _ _ _ _ _ _ _ _ _)
  have hgw4 := setRow_heap w3 (B + 1) _ (outx 6 [] 0 ao L.length cc opzz false) _ _ hOw3.out
  have Fw4 := Fw3.out.set (outx 6 [] 0 ao L.length cc opzz false)
  have HR4 : TRow (w3.setRow (B + 1) (outx 6 [] 0 ao L.length cc opzz false)) W0.heap.size (.slice ao L.length cc) L := HRw3.out.keep (fun k hk => setRow_ne22 _ _ _ _ (by have := HRw3.out.own k hk; have := HLO.out.1; omega))
  generalize w3.setRow (B + 1) (outx 6 [] 0 ao L.length cc opzz false) = w4 at *
  go_wp2_with (first | (refine wpList_storeR (ty := 53) (x := .tmp 4) (y := .tmp 8) (ad := ⟨B + 1, 0, none⟩) (v := .agg (outx 6 [] 0 ao L.length cc opzz false)) (w' := w4) rfl rfl rfl rfl hst ?_))
  refine ret_out rfl rfl rfl hgw4 rfl ?_
  exact ⟨_, _, _, rfl, by first | exact HR4.lower (by have := HLO.out.2; omega) | (rw [hB]; exact HR4.lower HLO.out.2), by first | exact Fw4.be | (rw [← hB]; exact Fw4.be)⟩
def TYW : List (List UInt8) := [[110, 111, 110, 101], [115, 116, 114, 105, 110, 103], [116, 97, 108, 108, 121], [115, 101, 116], [104, 97, 115, 104], [122, 115, 101, 116], [108, 105, 115, 116]]
def tyA : Array Value := (TYW.map fun t => Value.string (sb t)).toArray
theorem tyA_at {i : Nat} (h : i < 7) : tyA[i]? = some (.string (sb (TYW.getD i []))) := by
  unfold tyA
  rw [List.getElem?_toArray, List.getElem?_map, List.getD_eq_getElem?_getD, List.getElem?_eq_getElem (show i < TYW.length from h)]
  rfl
theorem telltype_any (p : Option Addr) (c : Cl) (i : Nat) (hi : i < 7) (w : World) (hM : ∀ u, Below w.heap.size w u → Calls Tryz.prog 28 #[.pointer p, .string (sb c.key)] u fun x w' => x = .returned (.int .i64 (i : Int)) ∧ Below u.heap.size u w') : Calls Tryz.prog 84 #[.pointer p, .agg (clc c)] w fun x w' => x = .returned (.agg (outx 1 (TYW.getD i []) 0 none 0 0 opzz false)) ∧ Below w.heap.size w w' := by
  obtain ⟨nm, ky, fd, vl, n, m⟩ := c
  have F0 := fr_new w ⟨nm, ky, fd, vl, n, m⟩
  obtain ⟨W0, hW0⟩ : ∃ W0, (w.alloc (.cells (clc ⟨nm, ky, fd, vl, n, m⟩) 38)).alloc (.cells outz 53) = W0 := ⟨_, rfl⟩
  rw [hW0] at F0
  have hW1 : (w.alloc (.cells (clc ⟨nm, ky, fd, vl, n, m⟩) 38)).alloc (.cells #[.int .i64 0, .string ⟨#[]⟩, .int .i64 0, .slice none 0 0, .int .i64 0, .string ⟨#[]⟩, .string ⟨#[]⟩, .string ⟨#[]⟩, .int .i64 0, .int .i64 0, .int .i64 0, .bool false] 53) = W0 := hW0
  obtain ⟨B, hB⟩ : ∃ B, w.heap.size = B := ⟨_, rfl⟩
  rw [hB] at F0
  have FW0 : Hid (Fr w W0 B (B + 1) ⟨nm, ky, fd, vl, n, m⟩) := F0.1
  have hOW0 : Hid (W0.heap[B + 1]? = some (.cells outz 53 (0, 0))) := F0.2
  clear hW0 F0
  have HM : Hid (∀ u, Below w.heap.size w u → _) := hM
  clear hM
  have ha := heap_alloc_new W0 (.cells tyA 9)
  have hcc : (W0.alloc (.cells tyA 9)).cell? ⟨W0.heap.size, i, none⟩ = some (.string (sb (TYW.getD i []))) := by rw [cell_of_row _ W0.heap.size i _ _ _ ha]; exact tyA_at hi
  have FW1 : Hid (Fr w (W0.alloc (.cells tyA 9)) B (B + 1) ⟨nm, ky, fd, vl, n, m⟩) := FW0.out.below (below_alloc22 _ _)
  have hOW1 : Hid ((W0.alloc (.cells tyA 9)).heap[B + 1]? = some (.cells outz 53 (0, 0))) := ((below_alloc22 W0 (.cells tyA 9)).block _ (heap_lt22 hOW0.out)).trans hOW0.out
  obtain ⟨W1, hW2⟩ : ∃ W1, W0.alloc (.cells tyA 9) = W1 := ⟨_, rfl⟩
  rw [hW2] at hcc FW1 hOW1
  have hW2 : W0.alloc (.cells #[.string ⟨#[110, 111, 110, 101]⟩, .string ⟨#[115, 116, 114, 105, 110, 103]⟩, .string ⟨#[116, 97, 108, 108, 121]⟩, .string ⟨#[115, 101, 116]⟩, .string ⟨#[104, 97, 115, 104]⟩, .string ⟨#[122, 115, 101, 116]⟩, .string ⟨#[108, 105, 115, 116]⟩] 9) = W1 := hW2
  obtain ⟨t, ht⟩ : ∃ t, TYW.getD i [] = t := ⟨_, rfl⟩
  rw [ht] at hcc ⊢
  have HCC : Hid (W1.cell? ⟨W0.heap.size, i, none⟩ = some (.string (sb t))) := hcc
  obtain ⟨C, hC9⟩ : ∃ C, W0.heap.size = C := ⟨_, rfl⟩
  rw [hC9] at HCC
  clear ht hcc ha
  have hi7 : (i : Int) < 7 := by omega
  go_enter Tryz.func84, Tryz.ntmps84
  have hC := HM.out W1 FW1.out.be
  have hc1 := FW1.out.c1
  have hc2 := FW1.out.c2
  have hc3 := FW1.out.c3
  have hc4 := FW1.out.c4
  have hc5 := FW1.out.c5
  have hld := FW1.out.load
  go_wp2_with (first | (refine wpList_loadR (ty := 38) (x := .tmp 3) (ad := ⟨B, 0, none⟩) (v := .agg (clc ⟨nm, ky, fd, vl, n, m⟩)) rfl rfl rfl hld ?_))
  refine Calls.mono hC ?_
  rintro ex w1 ⟨rfl, hb⟩
  have Fw1 : Hid (Fr w w1 B (B + 1) ⟨nm, ky, fd, vl, n, m⟩) := FW1.out.below hb
  have hOw1 : Hid (w1.heap[B + 1]? = some (.cells outz 53 (0, 0))) := (hb.block _ (heap_lt22 hOW1.out)).trans hOW1.out
  have hcc : w1.cell? ⟨C, i, none⟩ = some (.string (sb t)) := (hb.cell (World.block_lt_of_cell? _ _ HCC.out)).trans HCC.out
  clear hC hb hc1 hc2 hc3 hc4 hc5 hld
  have hC := csimple_any t w1
  have hc1 := Fw1.out.c1
  have hc2 := Fw1.out.c2
  have hc3 := Fw1.out.c3
  have hc4 := Fw1.out.c4
  have hc5 := Fw1.out.c5
  have hld := Fw1.out.load
  go_wp2_with (first | (refine wpList_loadR (ty := 38) (x := .tmp 3) (ad := ⟨B, 0, none⟩) (v := .agg (clc ⟨nm, ky, fd, vl, n, m⟩)) rfl rfl rfl hld ?_))
  refine Calls.mono hC ?_
  rintro ex w2 ⟨rfl, hb⟩
  have Fw2 : Hid (Fr w w2 B (B + 1) ⟨nm, ky, fd, vl, n, m⟩) := Fw1.out.below hb
  have hOw2 : Hid (w2.heap[B + 1]? = some (.cells outz 53 (0, 0))) := (hb.block _ (heap_lt22 hOw1.out)).trans hOw1.out
  clear hC hb hc1 hc2 hc3 hc4 hc5 hld
  clear hcc
  have hC := ctell_any 1 t 0 none 0 0 w2
  have hc1 := Fw2.out.c1
  have hc2 := Fw2.out.c2
  have hc3 := Fw2.out.c3
  have hc4 := Fw2.out.c4
  have hc5 := Fw2.out.c5
  have hld := Fw2.out.load
  go_wp2_with (first | (refine wpList_loadR (ty := 38) (x := .tmp 3) (ad := ⟨B, 0, none⟩) (v := .agg (clc ⟨nm, ky, fd, vl, n, m⟩)) rfl rfl rfl hld ?_))
  refine Calls.mono hC ?_
  rintro ex w3 ⟨rfl, hb⟩
  have Fw3 : Hid (Fr w w3 B (B + 1) ⟨nm, ky, fd, vl, n, m⟩) := Fw2.out.below hb
  have hOw3 : Hid (w3.heap[B + 1]? = some (.cells outz 53 (0, 0))) := (hb.block _ (heap_lt22 hOw2.out)).trans hOw2.out
  clear hC hb hc1 hc2 hc3 hc4 hc5 hld
  have hst := storeVar_out (cs := outx 1 t 0 none 0 0 opzz false) hOw3.out rfl rfl (outx_one _ _ _ _ _ _ _ _ _ _ _ _ _ _)
  have hgw4 := setRow_heap w3 (B + 1) _ (outx 1 t 0 none 0 0 opzz false) _ _ hOw3.out
  have Fw4 := Fw3.out.set (outx 1 t 0 none 0 0 opzz false)
  generalize w3.setRow (B + 1) (outx 1 t 0 none 0 0 opzz false) = w4 at *
  go_wp2_with (first | (refine wpList_storeR (ty := 53) (x := .tmp 4) (y := .tmp 15) (ad := ⟨B + 1, 0, none⟩) (v := .agg (outx 1 t 0 none 0 0 opzz false)) (w' := w4) rfl rfl rfl rfl hst ?_))
  refine ret_out rfl rfl rfl hgw4 rfl ?_
  first | exact ⟨rfl, Fw4.be⟩ | exact ⟨rfl, by rw [← hB]; exact Fw4.be⟩
end Go.Proofs.YtmlfekbmbnfkjabGreatDoor

/-
  Functions that plan: of groups' members, of hashes, of scores.
-/
namespace Go.Proofs.YtmlfekbmbnfkjabGreatDoor
set_option maxRecDepth 100000
open Go.RowKit

end Go.Proofs.YtmlfekbmbnfkjabGreatDoor

/-
  push: what is pushed, and where.
-/
namespace Go.Proofs.YtmlfekbmbnfkjabGreatDoor
set_option maxRecDepth 100000
open Go.RowKit

theorem opx_one (k : Int) (ky f v : List UInt8) (n r m : Int) : (opx k ky f v n r m).all (·.oneCell') = true := by simp [opx, Value.oneCell']
theorem Fr.belowC {w W W' : World} {B O C : Nat} {c : Cl} (h : Fr w W B O c) (hb : Below C W W') (hC : O < C) : Fr w W' B O c :=
  ⟨(hb.block _ (Nat.lt_trans h.hi hC)).trans h.cl, h.be.trans (hb.mono (Nat.le_trans h.lo (Nat.le_of_lt (Nat.lt_trans h.hi hC)))), h.lo, h.hi⟩
end Go.Proofs.YtmlfekbmbnfkjabGreatDoor

/-
  Functions that plan: of lists.
-/
namespace Go.Proofs.YtmlfekbmbnfkjabGreatDoor
set_option maxRecDepth 100000
open Go.RowKit

end Go.Proofs.YtmlfekbmbnfkjabGreatDoor

/-
  isOther, and outcomeOf: what comes of a command.
-/
namespace Go.Proofs.YtmlfekbmbnfkjabGreatDoor
set_option maxRecDepth 100000
open Go.RowKit

def isoE (t r : Int) : Bool := !(t == 0) && !(t == r)
theorem isother_any (t r : Int) (w : World) : Calls Tryz.prog 27 #[.int .i64 t, .int .i64 r] w fun x w' => x = .returned (.bool (isoE t r)) ∧ Below w.heap.size w w' := by
  by_cases h0 : t = 0
  · have hz : (t == 0) = true := by simp [h0]
    have HI : Hid (isoE t r = false) := by simp [Hid, isoE, h0]
    go_enter Tryz.func27, Tryz.ntmps27
    go_wp2
    go_ret
    refine ⟨?_, Below.refl _ _⟩
    rw [HI.out]; rfl
  · have hz : (t == 0) = false := by simp [h0]
    by_cases h1 : t = r
    · have hq : (t == r) = true := by simp [h1]
      have HI : Hid (isoE t r = false) := by simp [Hid, isoE, hz, hq]
      clear h1
      go_enter Tryz.func27, Tryz.ntmps27
      go_wp2
      go_ret
      refine ⟨?_, Below.refl _ _⟩
      rw [HI.out]; first | rfl | simp_all
    · have hq : (t == r) = false := by simp [h1]
      have HI : Hid (isoE t r = true) := by simp [Hid, isoE, hz, hq]
      go_enter Tryz.func27, Tryz.ntmps27
      go_wp2
      go_ret
      refine ⟨?_, Below.refl _ _⟩
      rw [HI.out]; first | rfl | simp_all
theorem enters_isother (xs : Array Value) (w : World) : (callFunc 27 xs).run Tryz.prog w = .ok (.enter 27 xs) w := enters Tryz.func27 (by kernel_rfl) (by kernel_rfl) xs w
theorem y_pick22 {o : Oper} {a : Act} {w : World} {x y z : Operand} {b : Bool} {p q : Value} (ho : o.op = .pick x y z) (hx : a.eval x = .bool b) (hy : a.eval y = p) (hz : a.eval z = q) : (execOp a.eval o).run Tryz.prog w = .ok (.value (if b then p else q)) w := by
  unfold execOp
  simp only [ho, hx, hy, hz]
  cases b <;> rfl
/-- The call of a function that is a value. -/
theorem wpList_dyn {ops : Array Oper} {rest : List Oper} {o : Oper} {a : Act} {w : World} {Q : Exit → Act → World → Prop} {f : FuncId} {x : Operand} {xs : List Operand} {ts : Array TypeId} {vs : List Value} {R : Ending → World → Prop} (hg : o.guard = none) (ho : o.op = .call ⟨.value x, xs.toArray, ts⟩) (hx : a.eval x = .func (.func f) #[] #[]) (ha : xs.map a.eval = vs) (hr : (callFunc f vs.toArray).run Tryz.prog w = .ok (.enter f vs.toArray) w)
    (hc : Calls Tryz.prog f vs.toArray w R) (h : ∀ e w', R e w' → ∃ u, e = .returned u ∧ wpList Tryz.prog ops Q rest (a.put o.dst u) w') : wpList Tryz.prog ops Q (o :: rest) a w := by
  refine wpList_plain hg fun K hK' => ?_
  have ha' : xs.toArray.map a.eval = vs.toArray := by rw [List.map_toArray, ha]
  have h1 : (execOp a.eval o).run Tryz.prog w = .ok (.enter f vs.toArray) w := by
    unfold execOp
    simp only [ho, resolve, hx, Deferred.ofValue, Sem.run_bind, Sem.run_pure, Result.andThen_ok, invoke, Array.append_empty, Array.empty_append]
    rw [show xs.toArray.map (fun x => a.eval x) = vs.toArray from ha']
    exact hr
  unfold Oper.wp
  rw [h1, Oper.upon_enter]
  refine hc.mono (fun e w' hR => ?_)
  obtain ⟨u, rfl, hk⟩ := h e w' hR
  exact hK' _ _ hk
theorem rwz_one : rwz.all (·.oneCell') = true := by simp [rwz, Value.oneCell']
theorem outcomeof_none (p : Option Addr) (c : Cl) (w : World) (hN : rowN c.name = none) : Calls Tryz.prog 15 #[.pointer p, .agg (clc c)] w fun x w' => x = .returned (.agg (outx 2 [69, 82, 82] 0 none 0 0 opzz false)) ∧ Below w.heap.size w w' := by
  obtain ⟨nm, ky, fd, vl, n, m⟩ := c
  have F0 := fr_new w ⟨nm, ky, fd, vl, n, m⟩
  obtain ⟨W0, hW0⟩ : ∃ W0, (w.alloc (.cells (clc ⟨nm, ky, fd, vl, n, m⟩) 38)).alloc (.cells outz 53) = W0 := ⟨_, rfl⟩
  rw [hW0] at F0
  have hW1 : (w.alloc (.cells (clc ⟨nm, ky, fd, vl, n, m⟩) 38)).alloc (.cells #[.int .i64 0, .string ⟨#[]⟩, .int .i64 0, .slice none 0 0, .int .i64 0, .string ⟨#[]⟩, .string ⟨#[]⟩, .string ⟨#[]⟩, .int .i64 0, .int .i64 0, .int .i64 0, .bool false] 53) = W0 := hW0
  obtain ⟨B, hB⟩ : ∃ B, w.heap.size = B := ⟨_, rfl⟩
  rw [hB] at F0
  have FW0 : Hid (Fr w W0 B (B + 1) ⟨nm, ky, fd, vl, n, m⟩) := F0.1
  have hOW0 : Hid (W0.heap[B + 1]? = some (.cells outz 53 (0, 0))) := F0.2
  clear hW0 F0
  have hRW := rowof_any nm W0
  have hN : rowN nm = none := hN
  rw [hN] at hRW
  have hc0 : W0.cell? ⟨B, 0, none⟩ = some (.string (sb nm)) := by rw [cell_of_row W0 B 0 _ _ _ FW0.out.cl]; rfl
  go_enter Tryz.func15, Tryz.ntmps15
  have hC := hRW
  have hc1 := FW0.out.c1
  have hc2 := FW0.out.c2
  have hc3 := FW0.out.c3
  have hc4 := FW0.out.c4
  have hc5 := FW0.out.c5
  have hld := FW0.out.load
  go_wp2_with (first | (refine wpList_loadR (ty := 38) (x := .tmp 3) (ad := ⟨B, 0, none⟩) (v := .agg (clc ⟨nm, ky, fd, vl, n, m⟩)) rfl rfl rfl hld ?_))
  refine Calls.mono hC ?_
  rintro ex w1 ⟨rfl, hb⟩
  have Fw1 : Hid (Fr w w1 B (B + 1) ⟨nm, ky, fd, vl, n, m⟩) := FW0.out.below hb
  have hOw1 : Hid (w1.heap[B + 1]? = some (.cells outz 53 (0, 0))) := (hb.block _ (heap_lt22 hOW0.out)).trans hOW0.out
  clear hC hb hc1 hc2 hc3 hc4 hc5 hld
  clear hc0 hRW hN
  have hnew := heap_alloc_new w1 (.cells rwz 62)
  have hst := storeVar_rw (cs := rwz) hnew rfl rfl rwz_one
  have hgr := setRow_heap (w1.alloc (.cells rwz 62)) w1.heap.size _ (rwz) _ _ hnew
  have hbe : Below w1.heap.size w1 ((w1.alloc (.cells rwz 62)).setRow w1.heap.size (rwz)) := below_setRow (below_alloc22 _ _) (Nat.le_refl _) _
  generalize (w1.alloc (.cells rwz 62)).setRow w1.heap.size (rwz) = w2 at *
  have Fw2 : Hid (Fr w w2 B (B + 1) ⟨nm, ky, fd, vl, n, m⟩) := Fw1.out.below hbe
  have hOw2 : Hid (w2.heap[B + 1]? = some (.cells outz 53 (0, 0))) := (hbe.block _ (heap_lt22 hOw1.out)).trans hOw1.out
  have Xw2 : Hid (w2.heap[w1.heap.size]? = some (.cells (rwz) 62 (0, 0))) := hgr
  have HCB0 : Hid (B + 1 < w1.heap.size) := heap_lt22 hOw1.out
  clear hnew hgr hbe
  have hE := cfail_any [69, 82, 82] w2
  go_wp2_with (first | (refine wpList_storeR (ty := 62) (x := .tmp 5) (y := .tmp 11) (ad := ⟨w1.heap.size, 0, none⟩) (v := .agg (rwz)) (w' := w2) rfl rfl rfl rfl hst ?_))
  refine Calls.mono hE ?_
  rintro ex w3 ⟨rfl, hb⟩
  have Fw3 : Hid (Fr w w3 B (B + 1) ⟨nm, ky, fd, vl, n, m⟩) := Fw2.out.below hb
  have hOw3 : Hid (w3.heap[B + 1]? = some (.cells outz 53 (0, 0))) := (hb.block _ (heap_lt22 hOw2.out)).trans hOw2.out
  clear hE hb hst
  have hst := storeVar_out (cs := outx 2 [69, 82, 82] 0 none 0 0 opzz false) hOw3.out rfl rfl (outx_one _ _ _ _ _ _ _ _ _ _ _ _ _ _)
  have hgw4 := setRow_heap w3 (B + 1) _ (outx 2 [69, 82, 82] 0 none 0 0 opzz false) _ _ hOw3.out
  have Fw4 := Fw3.out.set (outx 2 [69, 82, 82] 0 none 0 0 opzz false)
  generalize w3.setRow (B + 1) (outx 2 [69, 82, 82] 0 none 0 0 opzz false) = w4 at *
  go_wp2_with (first | (refine wpList_storeR (ty := 53) (x := .tmp 4) (y := .tmp 15) (ad := ⟨B + 1, 0, none⟩) (v := .agg (outx 2 [69, 82, 82] 0 none 0 0 opzz false)) (w' := w4) rfl rfl rfl rfl hst ?_))
  refine ret_out rfl rfl rfl hgw4 rfl ?_
  first | exact ⟨rfl, Fw4.be⟩ | exact ⟨rfl, by rw [← hB]; exact Fw4.be⟩
theorem field_rw2 (w : World) (b : Nat) : (Instr.fieldAt 62 (.pointer (some ⟨b, 0, none⟩)) 2).run Tryz.prog w = .ok (.pointer (some ⟨b, 2, none⟩)) w := by go_simp
theorem row_is22 {W : World} {b : Nat} {r : Rw22} (h : W.heap[b]? = some (.cells (rwc r).toArray 62 (0, 0))) : (loadVar 3 ⟨b, 2, none⟩).run Tryz.prog W = .ok (.int .i64 r.is) W := by
  have hc : W.cell? ⟨b, 2, none⟩ = some (.int .i64 r.is) := by rw [cell_of_row W b 2 _ _ _ h]; rfl
  clear h
  go_simp
theorem row_fn22 {W : World} {b : Nat} {r : Rw22} (h : W.heap[b]? = some (.cells (rwc r).toArray 62 (0, 0))) : W.cell? ⟨b, 3, none⟩ = some (.func (.func r.fn) #[] #[]) := by rw [cell_of_row W b 3 _ _ _ h]; rfl
theorem outcomeof_other (p : Option Addr) (c : Cl) (r : Rw22) (t : Int) (w : World) (hN : rowN c.name = some r) (hT : ∀ u, Below w.heap.size w u → Calls Tryz.prog 28 #[.pointer p, .string (sb c.key)] u fun x w' => x = .returned (.int .i64 t) ∧ Below u.heap.size u w') (hi : ¬ r.is = 0) (hz : isoE t r.is = true) : Calls Tryz.prog 15 #[.pointer p, .agg (clc c)] w fun x w' => x = .returned (.agg (outx 2 [87, 82, 79, 78, 71, 84, 89, 80, 69] 0 none 0 0 opzz false)) ∧ Below w.heap.size w w' := by
  obtain ⟨nm, ky, fd, vl, n, m⟩ := c
  have F0 := fr_new w ⟨nm, ky, fd, vl, n, m⟩
  obtain ⟨W0, hW0⟩ : ∃ W0, (w.alloc (.cells (clc ⟨nm, ky, fd, vl, n, m⟩) 38)).alloc (.cells outz 53) = W0 := ⟨_, rfl⟩
  rw [hW0] at F0
  have hW1 : (w.alloc (.cells (clc ⟨nm, ky, fd, vl, n, m⟩) 38)).alloc (.cells #[.int .i64 0, .string ⟨#[]⟩, .int .i64 0, .slice none 0 0, .int .i64 0, .string ⟨#[]⟩, .string ⟨#[]⟩, .string ⟨#[]⟩, .int .i64 0, .int .i64 0, .int .i64 0, .bool false] 53) = W0 := hW0
  obtain ⟨B, hB⟩ : ∃ B, w.heap.size = B := ⟨_, rfl⟩
  rw [hB] at F0
  have FW0 : Hid (Fr w W0 B (B + 1) ⟨nm, ky, fd, vl, n, m⟩) := F0.1
  have hOW0 : Hid (W0.heap[B + 1]? = some (.cells outz 53 (0, 0))) := F0.2
  clear hW0 F0
  obtain ⟨rn, rt, ri, rf⟩ := r
  have hRW := rowof_any nm W0
  have hN : rowN nm = some ⟨rn, rt, ri, rf⟩ := hN
  rw [hN] at hRW
  have hc0 : W0.cell? ⟨B, 0, none⟩ = some (.string (sb nm)) := by rw [cell_of_row W0 B 0 _ _ _ FW0.out.cl]; rfl
  have HT : Hid (∀ u, Below w.heap.size w u → _) := hT
  clear hT
  have hi : ¬ ri = 0 := hi
  have HNQ : Hid (∀ W : World, (binOp .neq 3 (.int .i64 ri) (.int .i64 0)).run Tryz.prog W = .ok (.bool true) W) := fun W => by rw [neq_int22]; simp [hi]
  have HZ : Hid (isoE t ri = true) := hz
  clear hi hz
  go_enter Tryz.func15, Tryz.ntmps15
  have hC := hRW
  have hc1 := FW0.out.c1
  have hc2 := FW0.out.c2
  have hc3 := FW0.out.c3
  have hc4 := FW0.out.c4
  have hc5 := FW0.out.c5
  have hld := FW0.out.load
  go_wp2_with (first | (refine wpList_loadR (ty := 38) (x := .tmp 3) (ad := ⟨B, 0, none⟩) (v := .agg (clc ⟨nm, ky, fd, vl, n, m⟩)) rfl rfl rfl hld ?_))
  refine Calls.mono hC ?_
  rintro ex w1 ⟨rfl, hb⟩
  have Fw1 : Hid (Fr w w1 B (B + 1) ⟨nm, ky, fd, vl, n, m⟩) := FW0.out.below hb
  have hOw1 : Hid (w1.heap[B + 1]? = some (.cells outz 53 (0, 0))) := (hb.block _ (heap_lt22 hOW0.out)).trans hOW0.out
  clear hC hb hc1 hc2 hc3 hc4 hc5 hld
  clear hc0 hRW hN
  have hnew := heap_alloc_new w1 (.cells rwz 62)
  have hst := storeVar_rw (cs := (rwc ⟨rn, rt, ri, rf⟩).toArray) hnew rfl rfl (rwc_one _)
  have hgr := setRow_heap (w1.alloc (.cells rwz 62)) w1.heap.size _ ((rwc ⟨rn, rt, ri, rf⟩).toArray) _ _ hnew
  have hbe : Below w1.heap.size w1 ((w1.alloc (.cells rwz 62)).setRow w1.heap.size ((rwc ⟨rn, rt, ri, rf⟩).toArray)) := below_setRow (below_alloc22 _ _) (Nat.le_refl _) _
  generalize (w1.alloc (.cells rwz 62)).setRow w1.heap.size ((rwc ⟨rn, rt, ri, rf⟩).toArray) = w2 at *
  have Fw2 : Hid (Fr w w2 B (B + 1) ⟨nm, ky, fd, vl, n, m⟩) := Fw1.out.below hbe
  have hOw2 : Hid (w2.heap[B + 1]? = some (.cells outz 53 (0, 0))) := (hbe.block _ (heap_lt22 hOw1.out)).trans hOw1.out
  have Xw2 : Hid (w2.heap[w1.heap.size]? = some (.cells ((rwc ⟨rn, rt, ri, rf⟩).toArray) 62 (0, 0))) := hgr
  have HCB0 : Hid (B + 1 < w1.heap.size) := heap_lt22 hOw1.out
  clear hnew hgr hbe
  have hNE := HCB0.out
  go_wp2_with (first | (refine wpList_storeR (ty := 62) (x := .tmp 5) (y := .tmp 11) (ad := ⟨w1.heap.size, 0, none⟩) (v := .agg ((rwc ⟨rn, rt, ri, rf⟩).toArray)) (w' := w2) rfl rfl rfl rfl hst ?_))
  clear hst
  obtain ⟨D, hD⟩ : ∃ W, W = w2.drew := ⟨_, rfl⟩
  have SD : Fr w D B (B + 1) ⟨nm, ky, fd, vl, n, m⟩ ∧ D.heap[w1.heap.size]? = some (.cells (rwc ⟨rn, rt, ri, rf⟩).toArray 62 (0, 0)) := by rw [hD]; exact ⟨Fw2.out.drew, Xw2.out⟩
  have hOD : D.heap[B + 1]? = some (.cells outz 53 (0, 0)) := by rw [hD]; exact hOw2.out
  refine wp_region_noPanic ?_
  refine wp_region_held_drew (S := fun W' : World => Fr w W' B (B + 1) ⟨nm, ky, fd, vl, n, m⟩ ∧ W'.heap[w1.heap.size]? = some (.cells (rwc ⟨rn, rt, ri, rf⟩).toArray 62 (0, 0))) (by kernel_rfl) (by rw [← hD]; exact SD) (fun hHeld => ?_)
  rw [← hD] at hHeld ⊢
  clear hD
  refine wpAnyH_take (i := 0) (oi := { dst := some 16, op := _, type := _, pos := _, after := _, guard := _ }) (v := .pointer (some ⟨w1.heap.size, 2, none⟩)) rfl (by kernel_rfl) (by kernel_rfl) (by kernel_rfl) (fun _ _ _ h => h) (Or.inl ⟨by rfl, ?_⟩) (by assumption) ?_
  · intro w9 hSw
    exact y_field rfl rfl (field_rw2 _ _)
  simp only [Act.put, List.setIfInBounds_toArray, List.set_cons_zero, List.set_cons_succ]
  refine wpAnyH_take (i := 1) (oi := { dst := some 17, op := _, type := _, pos := _, after := _, guard := _ }) (v := .int .i64 ri) rfl (by kernel_rfl) (by kernel_rfl) (by kernel_rfl) (fun _ _ _ h => h) (Or.inl ⟨by rfl, ?_⟩) (by assumption) ?_
  · intro w9 hSw
    exact y_load rfl rfl (row_is22 hSw.2)
  simp only [Act.put, List.setIfInBounds_toArray, List.set_cons_zero, List.set_cons_succ]
  refine wpAnyH_take (i := 2) (oi := { dst := some 18, op := _, type := _, pos := _, after := _, guard := _ }) (v := .bool true) rfl (by kernel_rfl) (by kernel_rfl) (by kernel_rfl) (fun _ _ _ h => h) (Or.inl ⟨by rfl, ?_⟩) (by assumption) ?_
  · intro w9 hSw
    exact y_bin22 rfl rfl rfl (guard_int22 _ _ _) (HNQ.out _)
  simp only [Act.put, List.setIfInBounds_toArray, List.set_cons_zero, List.set_cons_succ]
  refine wpAnyH_take (i := 3) (oi := { dst := some 19, op := _, type := _, pos := _, after := _, guard := _ }) (v := .bool true) rfl (by kernel_rfl) (by kernel_rfl) (by kernel_rfl) (fun _ _ _ h => h) (Or.inl ⟨by rfl, ?_⟩) (by assumption) ?_
  · intro w9 hSw
    exact y_move rfl rfl
  simp only [Act.put, List.setIfInBounds_toArray, List.set_cons_zero, List.set_cons_succ]
  refine wpAnyH_take (i := 4) (oi := { dst := some 20, op := _, type := _, pos := _, after := _, guard := _ }) (v := .pointer p) rfl (by kernel_rfl) (by kernel_rfl) (by kernel_rfl) (fun _ _ _ h => h) (Or.inl ⟨by rfl, ?_⟩) (by assumption) ?_
  · intro w9 hSw
    exact y_move rfl rfl
  simp only [Act.put, List.setIfInBounds_toArray, List.set_cons_zero, List.set_cons_succ]
  refine wpAnyH_take (i := 5) (oi := { dst := some 21, op := _, type := _, pos := _, after := _, guard := _ }) (v := .pointer (some ⟨B, 1, none⟩)) rfl (by kernel_rfl) (by kernel_rfl) (by kernel_rfl) (fun _ _ _ h => h) (Or.inl ⟨by rfl, ?_⟩) (by assumption) ?_
  · intro w9 hSw
    exact y_field rfl rfl (fieldc1 _ _)
  simp only [Act.put, List.setIfInBounds_toArray, List.set_cons_zero, List.set_cons_succ]
  refine wpAnyH_take (i := 6) (oi := { dst := some 22, op := _, type := _, pos := _, after := _, guard := _ }) (v := .string (sb ky)) rfl (by kernel_rfl) (by kernel_rfl) (by kernel_rfl) (fun _ _ _ h => h) (Or.inl ⟨by rfl, ?_⟩) (by assumption) ?_
  · intro w9 hSw
    exact y_load rfl rfl hSw.1.l1
  simp only [Act.put, List.setIfInBounds_toArray, List.set_cons_zero, List.set_cons_succ]
  refine wpAnyH_take (i := 8) (oi := { dst := some 24, op := _, type := _, pos := _, after := _, guard := _ }) (v := .pointer (some ⟨w1.heap.size, 2, none⟩)) rfl (by kernel_rfl) (by kernel_rfl) (by kernel_rfl) (fun _ _ _ h => h) (Or.inl ⟨by rfl, ?_⟩) (by assumption) ?_
  · intro w9 hSw
    exact y_field rfl rfl (field_rw2 _ _)
  simp only [Act.put, List.setIfInBounds_toArray, List.set_cons_zero, List.set_cons_succ]
  refine wpAnyH_take (i := 9) (oi := { dst := some 25, op := _, type := _, pos := _, after := _, guard := _ }) (v := .int .i64 ri) rfl (by kernel_rfl) (by kernel_rfl) (by kernel_rfl) (fun _ _ _ h => h) (Or.inl ⟨by rfl, ?_⟩) (by assumption) ?_
  · intro w9 hSw
    exact y_load rfl rfl (row_is22 hSw.2)
  simp only [Act.put, List.setIfInBounds_toArray, List.set_cons_zero, List.set_cons_succ]
  clear hHeld
  refine wpAnyH_ready (rs := [7]) (by kernel_rfl) (by simp) ?_
  refine AllReadyH.cons (o := { dst := some 23, op := _, type := _, pos := _, after := _, guard := _ }) rfl (fun K hK => ?_) AllReadyH.nil
  rw [if_pos (by rfl)]
  have hCq1 := HT.out D SD.1.be
  refine y_call (f := 28) (xs := [.tmp 20, .tmp 22]) (vs := [.pointer p, .string (sb ky)]) rfl rfl (enters_stype _ _) hCq1 ?_
  rintro ex q1 ⟨rfl, hb⟩
  refine ⟨_, rfl, ?_⟩
  have Sq1 : Fr w q1 B (B + 1) ⟨nm, ky, fd, vl, n, m⟩ ∧ q1.heap[w1.heap.size]? = some (.cells (rwc ⟨rn, rt, ri, rf⟩).toArray 62 (0, 0)) := ⟨SD.1.below hb, (hb.block _ (heap_lt22 SD.2)).trans SD.2⟩
  have hOq1 : q1.heap[B + 1]? = some (.cells outz 53 (0, 0)) := (hb.block _ (heap_lt22 hOD)).trans hOD
  clear hCq1 hb
  refine hK.out _ _ Sq1 (fun hHeld => ?_)
  clear hK K
  simp only [Act.put, List.setIfInBounds_toArray, List.set_cons_zero, List.set_cons_succ]
  clear hHeld
  refine wpAnyH_ready (rs := [10]) (by kernel_rfl) (by simp) ?_
  refine AllReadyH.cons (o := { dst := some 26, op := _, type := _, pos := _, after := _, guard := _ }) rfl (fun K hK => ?_) AllReadyH.nil
  rw [if_pos (by rfl)]
  have hCq2 := isother_any t ri q1
  refine y_call (f := 27) (xs := [.tmp 23, .tmp 25]) (vs := [.int .i64 t, .int .i64 ri]) rfl rfl (enters_isother _ _) hCq2 ?_
  rintro ex q2 ⟨rfl, hb⟩
  refine ⟨_, rfl, ?_⟩
  have Sq2 : Fr w q2 B (B + 1) ⟨nm, ky, fd, vl, n, m⟩ ∧ q2.heap[w1.heap.size]? = some (.cells (rwc ⟨rn, rt, ri, rf⟩).toArray 62 (0, 0)) := ⟨Sq1.1.below hb, (hb.block _ (heap_lt22 Sq1.2)).trans Sq1.2⟩
  have hOq2 : q2.heap[B + 1]? = some (.cells outz 53 (0, 0)) := (hb.block _ (heap_lt22 hOq1)).trans hOq1
  clear hCq2 hb
  refine hK.out _ _ Sq2 (fun hHeld => ?_)
  clear hK K
  simp only [Act.put, List.setIfInBounds_toArray, List.set_cons_zero, List.set_cons_succ]
  refine wpAnyH_take (i := 11) (oi := { dst := some 27, op := _, type := _, pos := _, after := _, guard := _ }) (v := .bool (isoE t ri)) rfl (by kernel_rfl) (by kernel_rfl) (by kernel_rfl) (fun _ _ _ h => h) (Or.inl ⟨by rfl, ?_⟩) (by assumption) ?_
  · intro w9 hSw
    exact y_pick22 (b := true) rfl rfl rfl rfl
  simp only [Act.put, List.setIfInBounds_toArray, List.set_cons_zero, List.set_cons_succ]
  refine wpAnyH_done (by kernel_rfl) ?_ _
  refine NoPanic.normal ?_
  clear hHeld
  rw [HZ.out]
  have Fq2 : Hid (Fr w q2 B (B + 1) ⟨nm, ky, fd, vl, n, m⟩) := Sq2.1
  have hOq2x : Hid (q2.heap[B + 1]? = some (.cells outz 53 (0, 0))) := hOq2
  have Xq2 : Hid (q2.heap[w1.heap.size]? = some (.cells (rwc ⟨rn, rt, ri, rf⟩).toArray 62 (0, 0))) := Sq2.2
  clear SD Sq1 Sq2 hOD hOq1 hOq2
  have hE := cfail_any [87, 82, 79, 78, 71, 84, 89, 80, 69] q2
  go_wp2_with fail
  refine Calls.mono hE ?_
  rintro ex w3 ⟨rfl, hb⟩
  have Fw3 : Hid (Fr w w3 B (B + 1) ⟨nm, ky, fd, vl, n, m⟩) := Fq2.out.below hb
  have hOw3 : Hid (w3.heap[B + 1]? = some (.cells outz 53 (0, 0))) := (hb.block _ (heap_lt22 hOq2x.out)).trans hOq2x.out
  clear hE hb
  have hst := storeVar_out (cs := outx 2 [87, 82, 79, 78, 71, 84, 89, 80, 69] 0 none 0 0 opzz false) hOw3.out rfl rfl (outx_one _ _ _ _ _ _ _ _ _ _ _ _ _ _)
  have hgw4 := setRow_heap w3 (B + 1) _ (outx 2 [87, 82, 79, 78, 71, 84, 89, 80, 69] 0 none 0 0 opzz false) _ _ hOw3.out
  have Fw4 := Fw3.out.set (outx 2 [87, 82, 79, 78, 71, 84, 89, 80, 69] 0 none 0 0 opzz false)
  generalize w3.setRow (B + 1) (outx 2 [87, 82, 79, 78, 71, 84, 89, 80, 69] 0 none 0 0 opzz false) = w4 at *
  go_wp2_with (first | (refine wpList_storeR (ty := 53) (x := .tmp 4) (y := .tmp 28) (ad := ⟨B + 1, 0, none⟩) (v := .agg (outx 2 [87, 82, 79, 78, 71, 84, 89, 80, 69] 0 none 0 0 opzz false)) (w' := w4) rfl rfl rfl rfl hst ?_))
  refine ret_out rfl rfl rfl hgw4 rfl ?_
  first | exact ⟨rfl, Fw4.be⟩ | exact ⟨rfl, by rw [← hB]; exact Fw4.be⟩
end Go.Proofs.YtmlfekbmbnfkjabGreatDoor

/-
  Plan: out of orNew's and outcomeOf's answers.
-/
namespace Go.Proofs.YtmlfekbmbnfkjabGreatDoor
set_option maxRecDepth 100000
open Go.RowKit

theorem enters_ornew (xs : Array Value) (w : World) : (callFunc 16 xs).run Tryz.prog w = .ok (.enter 16 xs) w := enters Tryz.func16 (by kernel_rfl) (by kernel_rfl) xs w
theorem enters_outcomeof (xs : Array Value) (w : World) : (callFunc 15 xs).run Tryz.prog w = .ok (.enter 15 xs) w := enters Tryz.func15 (by kernel_rfl) (by kernel_rfl) xs w
theorem results_cct {fn : Func} {p q u : Tmp} {t1 t2 : TypeId} (h : fn.results = #[.cell p t1, .cell q t2, .tmp u]) (tmps : Array Value) (P : Program) (w : World) :
    (results fn tmps).run P w = ((asAddr (tmps.getD p undef)).run P w).andThen fun a w₁ => ((loadVar t1 a).run P w₁).andThen fun v w₂ => ((asAddr (tmps.getD q undef)).run P w₂).andThen fun a' w₃ => ((loadVar t2 a').run P w₃).andThen fun v' w₄ => .ok (.tuple #[v, v', tmps.getD u undef]) w₄ := by
  simp only [results, h]
  simp [Sem.run_bind, Result.andThen]
theorem ret_plan {fn : Func} {R : Ending → World → Prop} {a : Act} {w : World} {p q u : Tmp} {g h : Nat} {cs ds : Array Value} {v : Value} (hr : fn.results = #[.cell p 30, .cell q 34, .tmp u]) (hp : a.tmps.getD p undef = .pointer (some ⟨g, 0, none⟩)) (hq : a.tmps.getD q undef = .pointer (some ⟨h, 0, none⟩))
    (hu : a.tmps.getD u undef = v) (hd : a.defers = []) (hg : w.heap[g]? = some (.cells cs 30 (0, 0))) (hl : cs.size = 4) (hh : w.heap[h]? = some (.cells ds 34 (0, 0))) (hm : ds.size = 7) (hR : R (.returned (.tuple #[.agg cs, .agg ds, v])) w) : bodyPost Tryz.prog fn R .ret a w := by
  refine bodyPost_ret ?_ hd hR
  rw [results_cct hr, hp, hq, hu]
  simp only [asAddr, Sem.run_pure, Result.andThen_ok, loadVar_rep hg hl, loadVar_opr hh hm]
theorem fieldo (w : World) (b : Nat) : (Instr.fieldAt 53 (.pointer (some ⟨b, 0, none⟩)) 0).run Tryz.prog w = .ok (.pointer (some ⟨b, 0, none⟩)) w := by go_simp
theorem fieldo1 (w : World) (b : Nat) : (Instr.fieldAt 53 (.pointer (some ⟨b, 0, none⟩)) 1).run Tryz.prog w = .ok (.pointer (some ⟨b, 4, none⟩)) w := by go_simp
theorem fieldo2 (w : World) (b : Nat) : (Instr.fieldAt 53 (.pointer (some ⟨b, 0, none⟩)) 2).run Tryz.prog w = .ok (.pointer (some ⟨b, 11, none⟩)) w := by go_simp
theorem alloc_o (w : World) : ∃ w', (Instr.alloc 53 true (.tuple #[])).run Tryz.prog w = .ok (.pointer (some ⟨w.heap.size, 0, none⟩)) w' ∧ w'.heap[w.heap.size]? = some (.cells outz 53 (0, 0)) ∧ Below w.heap.size w w' := by
  refine ⟨w.alloc (.cells outz 53), ?_, heap_alloc_new w _, below_alloc22 w _⟩
  unfold outz
  go_simp
section
variable {W : World} {g : Nat} {k : Int} {t : List UInt8} {d : Int} {ao : Option Addr} {q cc : Nat} {k2 : Int} {y2 f2 v2 : List UInt8} {n2 r2 m2 : Int} {b : Bool}
theorem load_o0 (h : W.heap[g]? = some (.cells (outx k t d ao q cc (opx k2 y2 f2 v2 n2 r2 m2) b) 53 (0, 0))) : (loadVar 30 ⟨g, 0, none⟩).run Tryz.prog W = .ok (.agg (repc k t d (.slice ao q cc))) W :=
  run_loadVar_mid W g 0 30 [.int .i64 k, .string (sb t), .int .i64 d, .slice ao q cc] _ (fun j v hv => by
    rw [cell_of_row W g (0 + j) _ _ _ h]
    match j, hv with
    | 0, hv => exact hv
    | 1, hv => exact hv
    | 2, hv => exact hv
    | 3, hv => exact hv) Tryz.underlying30 rfl (by rw [show ([Value.int .i64 k, .string (sb t), .int .i64 d, .slice ao q cc]).length = 4 from rfl]; kernel_rfl)
theorem load_o1 (h : W.heap[g]? = some (.cells (outx k t d ao q cc (opx k2 y2 f2 v2 n2 r2 m2) b) 53 (0, 0))) : (loadVar 34 ⟨g, 4, none⟩).run Tryz.prog W = .ok (.agg (opx k2 y2 f2 v2 n2 r2 m2)) W :=
  run_loadVar_mid W g 4 34 [.int .i64 k2, .string (sb y2), .string (sb f2), .string (sb v2), .int .i64 n2, .int .i64 r2, .int .i64 m2] _ (fun j v hv => by
    rw [cell_of_row W g (4 + j) _ _ _ h]
    match j, hv with
    | 0, hv => exact hv
    | 1, hv => exact hv
    | 2, hv => exact hv
    | 3, hv => exact hv
    | 4, hv => exact hv
    | 5, hv => exact hv
    | 6, hv => exact hv) Tryz.underlying34 rfl (by rw [show ([Value.int .i64 k2, .string (sb y2), .string (sb f2), .string (sb v2), .int .i64 n2, .int .i64 r2, .int .i64 m2]).length = 7 from rfl]; kernel_rfl)
theorem load_o2 (h : W.heap[g]? = some (.cells (outx k t d ao q cc (opx k2 y2 f2 v2 n2 r2 m2) b) 53 (0, 0))) : (loadVar 4 ⟨g, 11, none⟩).run Tryz.prog W = .ok (.bool b) W := by
  have hc : W.cell? ⟨g, 11, none⟩ = some (.bool b) := by rw [cell_of_row W g 11 _ _ _ h]; rfl
  clear h
  go_simp
end
end Go.Proofs.YtmlfekbmbnfkjabGreatDoor

/-
  What comes of a command, with the texts that it hands on.
-/
namespace Go.Proofs.YtmlfekbmbnfkjabGreatDoor
set_option maxRecDepth 100000
open Go.RowKit

/-- An outcome: the reply's kind, text, number, texts; the operation; whether something is done. -/
structure Po where
  k : Int
  t : List UInt8
  d : Int
  L : List (List UInt8)
  k2 : Int
  y2 : List UInt8
  f2 : List UInt8
  v2 : List UInt8
  n2 : Int
  r2 : Int
  m2 : Int
  b : Bool
def Po.tell (k : Int) (t : List UInt8) (d : Int) (L : List (List UInt8)) : Po := ⟨k, t, d, L, 0, [], [], [], 0, 0, 0, false⟩
def Po.out (O : Po) (ao : Option Addr) (q cc : Nat) : Array Value := outx O.k O.t O.d ao q cc (opx O.k2 O.y2 O.f2 O.v2 O.n2 O.r2 O.m2) O.b
def Po.rep (O : Po) (ao : Option Addr) (q cc : Nat) : Array Value := repc O.k O.t O.d (.slice ao q cc)
def Po.op (O : Po) : Array Value := opx O.k2 O.y2 O.f2 O.v2 O.n2 O.r2 O.m2
theorem Po.out_one (O : Po) (ao : Option Addr) (q cc : Nat) : (O.out ao q cc).all (·.oneCell') = true := outx_one _ _ _ _ _ _ _ _ _ _ _ _ _ _
/-- What a planner comes to. -/
abbrev PlanC (fn : FuncId) (p : Option Addr) (c : Cl) (O : Po) (w : World) : Prop := Calls Tryz.prog fn #[.pointer p, .agg (clc c)] w fun x w' => ∃ ao q cc, x = .returned (.agg (O.out ao q cc)) ∧ TRow w' w.heap.size (.slice ao q cc) O.L ∧ Below w.heap.size w w'
/-- The same, shut. -/
def PlanR (O : Po) (w : World) (x : Ending) (w' : World) : Prop := ∃ ao q cc, x = .returned (.agg (O.out ao q cc)) ∧ TRow w' w.heap.size (.slice ao q cc) O.L ∧ Below w.heap.size w w'
theorem trow_none (w : World) (b : Nat) : TRow w b (.slice none 0 0) [] := World.ownsRow_nil _ _ _ _
/-- Without texts. -/
theorem PlanC.bare {fn : FuncId} {p : Option Addr} {c : Cl} {O : Po} {w : World} (hL : O.L = []) (h : Calls Tryz.prog fn #[.pointer p, .agg (clc c)] w fun x w' => x = .returned (.agg (O.out none 0 0)) ∧ Below w.heap.size w w') : PlanC fn p c O w :=
  h.mono fun x w' ⟨h1, h2⟩ => ⟨none, 0, 0, h1, by rw [hL]; exact trow_none _ _, h2⟩
end Go.Proofs.YtmlfekbmbnfkjabGreatDoor

/-
  outcomeOf, over planners that hand on texts.
-/
namespace Go.Proofs.YtmlfekbmbnfkjabGreatDoor
set_option maxRecDepth 100000
open Go.RowKit

theorem outcomeofL_free (p : Option Addr) (c : Cl) (r : Rw22) (O : Po) (w : World) (hN : rowN c.name = some r) (hEn : ∀ (xs : Array Value) (u : World), (callFunc r.fn xs).run Tryz.prog u = .ok (.enter r.fn xs) u) (hP : ∀ u, Below w.heap.size w u → PlanC r.fn p c O u) (hi : r.is = 0) : PlanC 15 p c O w := by
  obtain ⟨nm, ky, fd, vl, n, m⟩ := c
  have F0 := fr_new w ⟨nm, ky, fd, vl, n, m⟩
  obtain ⟨W0, hW0⟩ : ∃ W0, (w.alloc (.cells (clc ⟨nm, ky, fd, vl, n, m⟩) 38)).alloc (.cells outz 53) = W0 := ⟨_, rfl⟩
  rw [hW0] at F0
  have hW1 : (w.alloc (.cells (clc ⟨nm, ky, fd, vl, n, m⟩) 38)).alloc (.cells #[.int .i64 0, .string ⟨#[]⟩, .int .i64 0, .slice none 0 0, .int .i64 0, .string ⟨#[]⟩, .string ⟨#[]⟩, .string ⟨#[]⟩, .int .i64 0, .int .i64 0, .int .i64 0, .bool false] 53) = W0 := hW0
  obtain ⟨B, hB⟩ : ∃ B, w.heap.size = B := ⟨_, rfl⟩
  rw [hB] at F0
  have FW0 : Hid (Fr w W0 B (B + 1) ⟨nm, ky, fd, vl, n, m⟩) := F0.1
  have hOW0 : Hid (W0.heap[B + 1]? = some (.cells outz 53 (0, 0))) := F0.2
  clear hW0 F0
  obtain ⟨rn, rt, ri, rf⟩ := r
  have HP : Hid (∀ u, Below w.heap.size w u → _) := hP
  clear hP
  have HEN : Hid (∀ (xs : Array Value) (u : World), (callFunc rf xs).run Tryz.prog u = .ok (.enter rf xs) u) := hEn
  clear hEn
  have hRW := rowof_any nm W0
  have hN : rowN nm = some ⟨rn, rt, ri, rf⟩ := hN
  rw [hN] at hRW
  have hc0 : W0.cell? ⟨B, 0, none⟩ = some (.string (sb nm)) := by rw [cell_of_row W0 B 0 _ _ _ FW0.out.cl]; rfl
  have hi : ri = 0 := hi
  subst hi
  go_enter Tryz.func15, Tryz.ntmps15
  have hC := hRW
  have hc1 := FW0.out.c1
  have hc2 := FW0.out.c2
  have hc3 := FW0.out.c3
  have hc4 := FW0.out.c4
  have hc5 := FW0.out.c5
  have hld := FW0.out.load
  go_wp2_with (first | (refine wpList_loadR (ty := 38) (x := .tmp 3) (ad := ⟨B, 0, none⟩) (v := .agg (clc ⟨nm, ky, fd, vl, n, m⟩)) rfl rfl rfl hld ?_))
  refine Calls.mono hC ?_
  rintro ex w1 ⟨rfl, hb⟩
  have Fw1 : Hid (Fr w w1 B (B + 1) ⟨nm, ky, fd, vl, n, m⟩) := FW0.out.below hb
  have hOw1 : Hid (w1.heap[B + 1]? = some (.cells outz 53 (0, 0))) := (hb.block _ (heap_lt22 hOW0.out)).trans hOW0.out
  clear hC hb hc1 hc2 hc3 hc4 hc5 hld
  clear hc0 hRW hN
  have hnew := heap_alloc_new w1 (.cells rwz 62)
  have hst := storeVar_rw (cs := (rwc ⟨rn, rt, 0, rf⟩).toArray) hnew rfl rfl (rwc_one _)
  have hgr := setRow_heap (w1.alloc (.cells rwz 62)) w1.heap.size _ ((rwc ⟨rn, rt, 0, rf⟩).toArray) _ _ hnew
  have hbe : Below w1.heap.size w1 ((w1.alloc (.cells rwz 62)).setRow w1.heap.size ((rwc ⟨rn, rt, 0, rf⟩).toArray)) := below_setRow (below_alloc22 _ _) (Nat.le_refl _) _
  generalize (w1.alloc (.cells rwz 62)).setRow w1.heap.size ((rwc ⟨rn, rt, 0, rf⟩).toArray) = w2 at *
  have Fw2 : Hid (Fr w w2 B (B + 1) ⟨nm, ky, fd, vl, n, m⟩) := Fw1.out.below hbe
  have hOw2 : Hid (w2.heap[B + 1]? = some (.cells outz 53 (0, 0))) := (hbe.block _ (heap_lt22 hOw1.out)).trans hOw1.out
  have Xw2 : Hid (w2.heap[w1.heap.size]? = some (.cells ((rwc ⟨rn, rt, 0, rf⟩).toArray) 62 (0, 0))) := hgr
  have HCB0 : Hid (B + 1 < w1.heap.size) := heap_lt22 hOw1.out
  clear hnew hgr hbe
  have hNE := HCB0.out
  go_wp2_with (first | (refine wpList_storeR (ty := 62) (x := .tmp 5) (y := .tmp 11) (ad := ⟨w1.heap.size, 0, none⟩) (v := .agg ((rwc ⟨rn, rt, 0, rf⟩).toArray)) (w' := w2) rfl rfl rfl rfl hst ?_))
  clear hst
  obtain ⟨D, hD⟩ : ∃ W, W = w2.drew := ⟨_, rfl⟩
  have SD : Fr w D B (B + 1) ⟨nm, ky, fd, vl, n, m⟩ ∧ D.heap[w1.heap.size]? = some (.cells (rwc ⟨rn, rt, 0, rf⟩).toArray 62 (0, 0)) := by rw [hD]; exact ⟨Fw2.out.drew, Xw2.out⟩
  have hOD : D.heap[B + 1]? = some (.cells outz 53 (0, 0)) := by rw [hD]; exact hOw2.out
  refine wp_region_noPanic ?_
  refine wp_region_held_drew (S := fun W' : World => Fr w W' B (B + 1) ⟨nm, ky, fd, vl, n, m⟩ ∧ W'.heap[w1.heap.size]? = some (.cells (rwc ⟨rn, rt, 0, rf⟩).toArray 62 (0, 0))) (by kernel_rfl) (by rw [← hD]; exact SD) (fun hHeld => ?_)
  rw [← hD] at hHeld ⊢
  clear hD
  refine wpAnyH_take (i := 0) (oi := { dst := some 16, op := _, type := _, pos := _, after := _, guard := _ }) (v := .pointer (some ⟨w1.heap.size, 2, none⟩)) rfl (by kernel_rfl) (by kernel_rfl) (by kernel_rfl) (fun _ _ _ h => h) (Or.inl ⟨by rfl, ?_⟩) (by assumption) ?_
  · intro w9 hSw
    exact y_field rfl rfl (field_rw2 _ _)
  simp only [Act.put, List.setIfInBounds_toArray, List.set_cons_zero, List.set_cons_succ]
  refine wpAnyH_take (i := 1) (oi := { dst := some 17, op := _, type := _, pos := _, after := _, guard := _ }) (v := .int .i64 0) rfl (by kernel_rfl) (by kernel_rfl) (by kernel_rfl) (fun _ _ _ h => h) (Or.inl ⟨by rfl, ?_⟩) (by assumption) ?_
  · intro w9 hSw
    exact y_load rfl rfl (row_is22 hSw.2)
  simp only [Act.put, List.setIfInBounds_toArray, List.set_cons_zero, List.set_cons_succ]
  refine wpAnyH_take (i := 2) (oi := { dst := some 18, op := _, type := _, pos := _, after := _, guard := _ }) (v := .bool false) rfl (by kernel_rfl) (by kernel_rfl) (by kernel_rfl) (fun _ _ _ h => h) (Or.inl ⟨by rfl, ?_⟩) (by assumption) ?_
  · intro w9 hSw
    exact y_bin22 rfl rfl rfl (guard_int22 _ _ _) (neq_int22 _ 0 0)
  simp only [Act.put, List.setIfInBounds_toArray, List.set_cons_zero, List.set_cons_succ]
  refine wpAnyH_take (i := 3) (oi := { dst := some 19, op := _, type := _, pos := _, after := _, guard := _ }) (v := .bool false) rfl (by kernel_rfl) (by kernel_rfl) (by kernel_rfl) (fun _ _ _ h => h) (Or.inl ⟨by rfl, ?_⟩) (by assumption) ?_
  · intro w9 hSw
    exact y_move rfl rfl
  simp only [Act.put, List.setIfInBounds_toArray, List.set_cons_zero, List.set_cons_succ]
  refine wpAnyH_take (i := 4) (oi := { dst := some 20, op := _, type := _, pos := _, after := _, guard := _ }) (v := undef) rfl (by kernel_rfl) (by kernel_rfl) (by kernel_rfl) (fun _ _ _ h => h) (Or.inr ⟨by rfl, rfl⟩) (by assumption) ?_
  simp only [Act.put, List.setIfInBounds_toArray, List.set_cons_zero, List.set_cons_succ]
  refine wpAnyH_take (i := 5) (oi := { dst := some 21, op := _, type := _, pos := _, after := _, guard := _ }) (v := undef) rfl (by kernel_rfl) (by kernel_rfl) (by kernel_rfl) (fun _ _ _ h => h) (Or.inr ⟨by rfl, rfl⟩) (by assumption) ?_
  simp only [Act.put, List.setIfInBounds_toArray, List.set_cons_zero, List.set_cons_succ]
  refine wpAnyH_take (i := 6) (oi := { dst := some 22, op := _, type := _, pos := _, after := _, guard := _ }) (v := undef) rfl (by kernel_rfl) (by kernel_rfl) (by kernel_rfl) (fun _ _ _ h => h) (Or.inr ⟨by rfl, rfl⟩) (by assumption) ?_
  simp only [Act.put, List.setIfInBounds_toArray, List.set_cons_zero, List.set_cons_succ]
  refine wpAnyH_take (i := 7) (oi := { dst := some 23, op := _, type := _, pos := _, after := _, guard := _ }) (v := undef) rfl (by kernel_rfl) (by kernel_rfl) (by kernel_rfl) (fun _ _ _ h => h) (Or.inr ⟨by rfl, rfl⟩) (by assumption) ?_
  simp only [Act.put, List.setIfInBounds_toArray, List.set_cons_zero, List.set_cons_succ]
  refine wpAnyH_take (i := 8) (oi := { dst := some 24, op := _, type := _, pos := _, after := _, guard := _ }) (v := undef) rfl (by kernel_rfl) (by kernel_rfl) (by kernel_rfl) (fun _ _ _ h => h) (Or.inr ⟨by rfl, rfl⟩) (by assumption) ?_
  simp only [Act.put, List.setIfInBounds_toArray, List.set_cons_zero, List.set_cons_succ]
  refine wpAnyH_take (i := 9) (oi := { dst := some 25, op := _, type := _, pos := _, after := _, guard := _ }) (v := undef) rfl (by kernel_rfl) (by kernel_rfl) (by kernel_rfl) (fun _ _ _ h => h) (Or.inr ⟨by rfl, rfl⟩) (by assumption) ?_
  simp only [Act.put, List.setIfInBounds_toArray, List.set_cons_zero, List.set_cons_succ]
  refine wpAnyH_take (i := 10) (oi := { dst := some 26, op := _, type := _, pos := _, after := _, guard := _ }) (v := undef) rfl (by kernel_rfl) (by kernel_rfl) (by kernel_rfl) (fun _ _ _ h => h) (Or.inr ⟨by rfl, rfl⟩) (by assumption) ?_
  simp only [Act.put, List.setIfInBounds_toArray, List.set_cons_zero, List.set_cons_succ]
  refine wpAnyH_take (i := 11) (oi := { dst := some 27, op := _, type := _, pos := _, after := _, guard := _ }) (v := .bool false) rfl (by kernel_rfl) (by kernel_rfl) (by kernel_rfl) (fun _ _ _ h => h) (Or.inl ⟨by rfl, ?_⟩) (by assumption) ?_
  · intro w9 hSw
    exact y_pick22 (b := false) rfl rfl rfl rfl
  simp only [Act.put, List.setIfInBounds_toArray, List.set_cons_zero, List.set_cons_succ]
  refine wpAnyH_done (by kernel_rfl) ?_ _
  refine NoPanic.normal ?_
  clear hHeld
  have FD : Hid (Fr w D B (B + 1) ⟨nm, ky, fd, vl, n, m⟩) := SD.1
  have hOD : Hid (D.heap[B + 1]? = some (.cells outz 53 (0, 0))) := hOD
  have XD : Hid (D.heap[w1.heap.size]? = some (.cells (rwc ⟨rn, rt, 0, rf⟩).toArray 62 (0, 0))) := SD.2
  clear SD
  have HLB : Hid (w.heap.size ≤ B) := FW0.out.lo
  have HLU : Hid (B + 1 < D.heap.size) := heap_lt22 hOD.out
  have hld := FD.out.load
  have hcf := row_fn22 XD.out
  have hPP : Calls Tryz.prog rf #[.pointer p, .agg (clc ⟨nm, ky, fd, vl, n, m⟩)] D (PlanR O D) := HP.out D FD.out.be
  go_wp2_with (first | (refine wpList_loadR (ty := 38) (x := .tmp 3) (ad := ⟨B, 0, none⟩) (v := .agg (clc ⟨nm, ky, fd, vl, n, m⟩)) rfl rfl rfl hld ?_) | (refine wpList_dyn (f := rf) (xs := [.tmp 31, .tmp 32]) (vs := [.pointer p, .agg (clc ⟨nm, ky, fd, vl, n, m⟩)]) rfl rfl rfl rfl (HEN.out _ _) hPP ?_))
  rintro ex w3 hPR
  obtain ⟨ao, q9, cc, rfl, hX, hb⟩ := hPR
  refine ⟨_, rfl, ?_⟩
  have Fw3 : Hid (Fr w w3 B (B + 1) ⟨nm, ky, fd, vl, n, m⟩) := FD.out.below hb
  have hOw3 : Hid (w3.heap[B + 1]? = some (.cells outz 53 (0, 0))) := (hb.block _ (heap_lt22 hOD.out)).trans hOD.out
  have HX : Hid (TRow w3 D.heap.size (.slice ao q9 cc) O.L) := hX
  clear hld hcf hPP hb hX
  have hst := storeVar_out (cs := O.out ao q9 cc) hOw3.out rfl rfl (O.out_one _ _ _)
  have hgw4 := setRow_heap w3 (B + 1) _ (O.out ao q9 cc) _ _ hOw3.out
  have Fw4 := Fw3.out.set (O.out ao q9 cc)
  have HR4 : TRow (w3.setRow (B + 1) (O.out ao q9 cc)) D.heap.size (.slice ao q9 cc) O.L := HX.out.keep (fun k hk => setRow_ne22 _ _ _ _ (by have := HX.out.own k hk; have := HLU.out; omega))
  generalize w3.setRow (B + 1) (O.out ao q9 cc) = w4 at *
  go_wp2_with (first | (refine wpList_storeR (ty := 53) (x := .tmp 4) (y := .tmp 33) (ad := ⟨B + 1, 0, none⟩) (v := .agg (O.out ao q9 cc)) (w' := w4) rfl rfl rfl rfl hst ?_))
  refine ret_out rfl rfl rfl hgw4 rfl ?_
  exact ⟨_, _, _, rfl, HR4.lower (by have := HLU.out; have := HLB.out; omega), by first | exact Fw4.be | (rw [← hB]; exact Fw4.be)⟩
theorem outcomeofL_any (p : Option Addr) (c : Cl) (r : Rw22) (O : Po) (t : Int) (w : World) (hN : rowN c.name = some r) (hEn : ∀ (xs : Array Value) (u : World), (callFunc r.fn xs).run Tryz.prog u = .ok (.enter r.fn xs) u) (hP : ∀ u, Below w.heap.size w u → PlanC r.fn p c O u) (hT : ∀ u, Below w.heap.size w u → Calls Tryz.prog 28 #[.pointer p, .string (sb c.key)] u fun x w' => x = .returned (.int .i64 t) ∧ Below u.heap.size u w') (hi : ¬ r.is = 0) (hz : isoE t r.is = false) : PlanC 15 p c O w := by
  obtain ⟨nm, ky, fd, vl, n, m⟩ := c
  have F0 := fr_new w ⟨nm, ky, fd, vl, n, m⟩
  obtain ⟨W0, hW0⟩ : ∃ W0, (w.alloc (.cells (clc ⟨nm, ky, fd, vl, n, m⟩) 38)).alloc (.cells outz 53) = W0 := ⟨_, rfl⟩
  rw [hW0] at F0
  have hW1 : (w.alloc (.cells (clc ⟨nm, ky, fd, vl, n, m⟩) 38)).alloc (.cells #[.int .i64 0, .string ⟨#[]⟩, .int .i64 0, .slice none 0 0, .int .i64 0, .string ⟨#[]⟩, .string ⟨#[]⟩, .string ⟨#[]⟩, .int .i64 0, .int .i64 0, .int .i64 0, .bool false] 53) = W0 := hW0
  obtain ⟨B, hB⟩ : ∃ B, w.heap.size = B := ⟨_, rfl⟩
  rw [hB] at F0
  have FW0 : Hid (Fr w W0 B (B + 1) ⟨nm, ky, fd, vl, n, m⟩) := F0.1
  have hOW0 : Hid (W0.heap[B + 1]? = some (.cells outz 53 (0, 0))) := F0.2
  clear hW0 F0
  obtain ⟨rn, rt, ri, rf⟩ := r
  have HP : Hid (∀ u, Below w.heap.size w u → _) := hP
  clear hP
  have HEN : Hid (∀ (xs : Array Value) (u : World), (callFunc rf xs).run Tryz.prog u = .ok (.enter rf xs) u) := hEn
  clear hEn
  have hRW := rowof_any nm W0
  have hN : rowN nm = some ⟨rn, rt, ri, rf⟩ := hN
  rw [hN] at hRW
  have hc0 : W0.cell? ⟨B, 0, none⟩ = some (.string (sb nm)) := by rw [cell_of_row W0 B 0 _ _ _ FW0.out.cl]; rfl
  have HT : Hid (∀ u, Below w.heap.size w u → _) := hT
  clear hT
  have hi : ¬ ri = 0 := hi
  have HNQ : Hid (∀ W : World, (binOp .neq 3 (.int .i64 ri) (.int .i64 0)).run Tryz.prog W = .ok (.bool true) W) := fun W => by rw [neq_int22]; simp [hi]
  have HZ : Hid (isoE t ri = false) := hz
  clear hi hz
  go_enter Tryz.func15, Tryz.ntmps15
  have hC := hRW
  have hc1 := FW0.out.c1
  have hc2 := FW0.out.c2
  have hc3 := FW0.out.c3
  have hc4 := FW0.out.c4
  have hc5 := FW0.out.c5
  have hld := FW0.out.load
  go_wp2_with (first | (refine wpList_loadR (ty := 38) (x := .tmp 3) (ad := ⟨B, 0, none⟩) (v := .agg (clc ⟨nm, ky, fd, vl, n, m⟩)) rfl rfl rfl hld ?_))
  refine Calls.mono hC ?_
  rintro ex w1 ⟨rfl, hb⟩
  have Fw1 : Hid (Fr w w1 B (B + 1) ⟨nm, ky, fd, vl, n, m⟩) := FW0.out.below hb
  have hOw1 : Hid (w1.heap[B + 1]? = some (.cells outz 53 (0, 0))) := (hb.block _ (heap_lt22 hOW0.out)).trans hOW0.out
  clear hC hb hc1 hc2 hc3 hc4 hc5 hld
  clear hc0 hRW hN
  have hnew := heap_alloc_new w1 (.cells rwz 62)
  have hst := storeVar_rw (cs := (rwc ⟨rn, rt, ri, rf⟩).toArray) hnew rfl rfl (rwc_one _)
  have hgr := setRow_heap (w1.alloc (.cells rwz 62)) w1.heap.size _ ((rwc ⟨rn, rt, ri, rf⟩).toArray) _ _ hnew
  have hbe : Below w1.heap.size w1 ((w1.alloc (.cells rwz 62)).setRow w1.heap.size ((rwc ⟨rn, rt, ri, rf⟩).toArray)) := below_setRow (below_alloc22 _ _) (Nat.le_refl _) _
  generalize (w1.alloc (.cells rwz 62)).setRow w1.heap.size ((rwc ⟨rn, rt, ri, rf⟩).toArray) = w2 at *
  have Fw2 : Hid (Fr w w2 B (B + 1) ⟨nm, ky, fd, vl, n, m⟩) := Fw1.out.below hbe
  have hOw2 : Hid (w2.heap[B + 1]? = some (.cells outz 53 (0, 0))) := (hbe.block _ (heap_lt22 hOw1.out)).trans hOw1.out
  have Xw2 : Hid (w2.heap[w1.heap.size]? = some (.cells ((rwc ⟨rn, rt, ri, rf⟩).toArray) 62 (0, 0))) := hgr
  have HCB0 : Hid (B + 1 < w1.heap.size) := heap_lt22 hOw1.out
  clear hnew hgr hbe
  have hNE := HCB0.out
  go_wp2_with (first | (refine wpList_storeR (ty := 62) (x := .tmp 5) (y := .tmp 11) (ad := ⟨w1.heap.size, 0, none⟩) (v := .agg ((rwc ⟨rn, rt, ri, rf⟩).toArray)) (w' := w2) rfl rfl rfl rfl hst ?_))
  clear hst
  obtain ⟨D, hD⟩ : ∃ W, W = w2.drew := ⟨_, rfl⟩
  have SD : Fr w D B (B + 1) ⟨nm, ky, fd, vl, n, m⟩ ∧ D.heap[w1.heap.size]? = some (.cells (rwc ⟨rn, rt, ri, rf⟩).toArray 62 (0, 0)) := by rw [hD]; exact ⟨Fw2.out.drew, Xw2.out⟩
  have hOD : D.heap[B + 1]? = some (.cells outz 53 (0, 0)) := by rw [hD]; exact hOw2.out
  refine wp_region_noPanic ?_
  refine wp_region_held_drew (S := fun W' : World => Fr w W' B (B + 1) ⟨nm, ky, fd, vl, n, m⟩ ∧ W'.heap[w1.heap.size]? = some (.cells (rwc ⟨rn, rt, ri, rf⟩).toArray 62 (0, 0))) (by kernel_rfl) (by rw [← hD]; exact SD) (fun hHeld => ?_)
  rw [← hD] at hHeld ⊢
  clear hD
  refine wpAnyH_take (i := 0) (oi := { dst := some 16, op := _, type := _, pos := _, after := _, guard := _ }) (v := .pointer (some ⟨w1.heap.size, 2, none⟩)) rfl (by kernel_rfl) (by kernel_rfl) (by kernel_rfl) (fun _ _ _ h => h) (Or.inl ⟨by rfl, ?_⟩) (by assumption) ?_
  · intro w9 hSw
    exact y_field rfl rfl (field_rw2 _ _)
  simp only [Act.put, List.setIfInBounds_toArray, List.set_cons_zero, List.set_cons_succ]
  refine wpAnyH_take (i := 1) (oi := { dst := some 17, op := _, type := _, pos := _, after := _, guard := _ }) (v := .int .i64 ri) rfl (by kernel_rfl) (by kernel_rfl) (by kernel_rfl) (fun _ _ _ h => h) (Or.inl ⟨by rfl, ?_⟩) (by assumption) ?_
  · intro w9 hSw
    exact y_load rfl rfl (row_is22 hSw.2)
  simp only [Act.put, List.setIfInBounds_toArray, List.set_cons_zero, List.set_cons_succ]
  refine wpAnyH_take (i := 2) (oi := { dst := some 18, op := _, type := _, pos := _, after := _, guard := _ }) (v := .bool true) rfl (by kernel_rfl) (by kernel_rfl) (by kernel_rfl) (fun _ _ _ h => h) (Or.inl ⟨by rfl, ?_⟩) (by assumption) ?_
  · intro w9 hSw
    exact y_bin22 rfl rfl rfl (guard_int22 _ _ _) (HNQ.out _)
  simp only [Act.put, List.setIfInBounds_toArray, List.set_cons_zero, List.set_cons_succ]
  refine wpAnyH_take (i := 3) (oi := { dst := some 19, op := _, type := _, pos := _, after := _, guard := _ }) (v := .bool true) rfl (by kernel_rfl) (by kernel_rfl) (by kernel_rfl) (fun _ _ _ h => h) (Or.inl ⟨by rfl, ?_⟩) (by assumption) ?_
  · intro w9 hSw
    exact y_move rfl rfl
  simp only [Act.put, List.setIfInBounds_toArray, List.set_cons_zero, List.set_cons_succ]
  refine wpAnyH_take (i := 4) (oi := { dst := some 20, op := _, type := _, pos := _, after := _, guard := _ }) (v := .pointer p) rfl (by kernel_rfl) (by kernel_rfl) (by kernel_rfl) (fun _ _ _ h => h) (Or.inl ⟨by rfl, ?_⟩) (by assumption) ?_
  · intro w9 hSw
    exact y_move rfl rfl
  simp only [Act.put, List.setIfInBounds_toArray, List.set_cons_zero, List.set_cons_succ]
  refine wpAnyH_take (i := 5) (oi := { dst := some 21, op := _, type := _, pos := _, after := _, guard := _ }) (v := .pointer (some ⟨B, 1, none⟩)) rfl (by kernel_rfl) (by kernel_rfl) (by kernel_rfl) (fun _ _ _ h => h) (Or.inl ⟨by rfl, ?_⟩) (by assumption) ?_
  · intro w9 hSw
    exact y_field rfl rfl (fieldc1 _ _)
  simp only [Act.put, List.setIfInBounds_toArray, List.set_cons_zero, List.set_cons_succ]
  refine wpAnyH_take (i := 6) (oi := { dst := some 22, op := _, type := _, pos := _, after := _, guard := _ }) (v := .string (sb ky)) rfl (by kernel_rfl) (by kernel_rfl) (by kernel_rfl) (fun _ _ _ h => h) (Or.inl ⟨by rfl, ?_⟩) (by assumption) ?_
  · intro w9 hSw
    exact y_load rfl rfl hSw.1.l1
  simp only [Act.put, List.setIfInBounds_toArray, List.set_cons_zero, List.set_cons_succ]
  refine wpAnyH_take (i := 8) (oi := { dst := some 24, op := _, type := _, pos := _, after := _, guard := _ }) (v := .pointer (some ⟨w1.heap.size, 2, none⟩)) rfl (by kernel_rfl) (by kernel_rfl) (by kernel_rfl) (fun _ _ _ h => h) (Or.inl ⟨by rfl, ?_⟩) (by assumption) ?_
  · intro w9 hSw
    exact y_field rfl rfl (field_rw2 _ _)
  simp only [Act.put, List.setIfInBounds_toArray, List.set_cons_zero, List.set_cons_succ]
  refine wpAnyH_take (i := 9) (oi := { dst := some 25, op := _, type := _, pos := _, after := _, guard := _ }) (v := .int .i64 ri) rfl (by kernel_rfl) (by kernel_rfl) (by kernel_rfl) (fun _ _ _ h => h) (Or.inl ⟨by rfl, ?_⟩) (by assumption) ?_
  · intro w9 hSw
    exact y_load rfl rfl (row_is22 hSw.2)
  simp only [Act.put, List.setIfInBounds_toArray, List.set_cons_zero, List.set_cons_succ]
  clear hHeld
  refine wpAnyH_ready (rs := [7]) (by kernel_rfl) (by simp) ?_
  refine AllReadyH.cons (o := { dst := some 23, op := _, type := _, pos := _, after := _, guard := _ }) rfl (fun K hK => ?_) AllReadyH.nil
  rw [if_pos (by rfl)]
  have hCq1 := HT.out D SD.1.be
  refine y_call (f := 28) (xs := [.tmp 20, .tmp 22]) (vs := [.pointer p, .string (sb ky)]) rfl rfl (enters_stype _ _) hCq1 ?_
  rintro ex q1 ⟨rfl, hb⟩
  refine ⟨_, rfl, ?_⟩
  have Sq1 : Fr w q1 B (B + 1) ⟨nm, ky, fd, vl, n, m⟩ ∧ q1.heap[w1.heap.size]? = some (.cells (rwc ⟨rn, rt, ri, rf⟩).toArray 62 (0, 0)) := ⟨SD.1.below hb, (hb.block _ (heap_lt22 SD.2)).trans SD.2⟩
  have hOq1 : q1.heap[B + 1]? = some (.cells outz 53 (0, 0)) := (hb.block _ (heap_lt22 hOD)).trans hOD
  clear hCq1 hb
  refine hK.out _ _ Sq1 (fun hHeld => ?_)
  clear hK K
  simp only [Act.put, List.setIfInBounds_toArray, List.set_cons_zero, List.set_cons_succ]
  clear hHeld
  refine wpAnyH_ready (rs := [10]) (by kernel_rfl) (by simp) ?_
  refine AllReadyH.cons (o := { dst := some 26, op := _, type := _, pos := _, after := _, guard := _ }) rfl (fun K hK => ?_) AllReadyH.nil
  rw [if_pos (by rfl)]
  have hCq2 := isother_any t ri q1
  refine y_call (f := 27) (xs := [.tmp 23, .tmp 25]) (vs := [.int .i64 t, .int .i64 ri]) rfl rfl (enters_isother _ _) hCq2 ?_
  rintro ex q2 ⟨rfl, hb⟩
  refine ⟨_, rfl, ?_⟩
  have Sq2 : Fr w q2 B (B + 1) ⟨nm, ky, fd, vl, n, m⟩ ∧ q2.heap[w1.heap.size]? = some (.cells (rwc ⟨rn, rt, ri, rf⟩).toArray 62 (0, 0)) := ⟨Sq1.1.below hb, (hb.block _ (heap_lt22 Sq1.2)).trans Sq1.2⟩
  have hOq2 : q2.heap[B + 1]? = some (.cells outz 53 (0, 0)) := (hb.block _ (heap_lt22 hOq1)).trans hOq1
  clear hCq2 hb
  refine hK.out _ _ Sq2 (fun hHeld => ?_)
  clear hK K
  simp only [Act.put, List.setIfInBounds_toArray, List.set_cons_zero, List.set_cons_succ]
  refine wpAnyH_take (i := 11) (oi := { dst := some 27, op := _, type := _, pos := _, after := _, guard := _ }) (v := .bool (isoE t ri)) rfl (by kernel_rfl) (by kernel_rfl) (by kernel_rfl) (fun _ _ _ h => h) (Or.inl ⟨by rfl, ?_⟩) (by assumption) ?_
  · intro w9 hSw
    exact y_pick22 (b := true) rfl rfl rfl rfl
  simp only [Act.put, List.setIfInBounds_toArray, List.set_cons_zero, List.set_cons_succ]
  refine wpAnyH_done (by kernel_rfl) ?_ _
  refine NoPanic.normal ?_
  clear hHeld
  rw [HZ.out]
  have Fq2 : Hid (Fr w q2 B (B + 1) ⟨nm, ky, fd, vl, n, m⟩) := Sq2.1
  have hOq2x : Hid (q2.heap[B + 1]? = some (.cells outz 53 (0, 0))) := hOq2
  have Xq2 : Hid (q2.heap[w1.heap.size]? = some (.cells (rwc ⟨rn, rt, ri, rf⟩).toArray 62 (0, 0))) := Sq2.2
  clear SD Sq1 Sq2 hOD hOq1 hOq2
  have HLB : Hid (w.heap.size ≤ B) := FW0.out.lo
  have HLU : Hid (B + 1 < q2.heap.size) := heap_lt22 hOq2x.out
  have hld := Fq2.out.load
  have hcf := row_fn22 Xq2.out
  have hPP : Calls Tryz.prog rf #[.pointer p, .agg (clc ⟨nm, ky, fd, vl, n, m⟩)] q2 (PlanR O q2) := HP.out q2 Fq2.out.be
  go_wp2_with (first | (refine wpList_loadR (ty := 38) (x := .tmp 3) (ad := ⟨B, 0, none⟩) (v := .agg (clc ⟨nm, ky, fd, vl, n, m⟩)) rfl rfl rfl hld ?_) | (refine wpList_dyn (f := rf) (xs := [.tmp 31, .tmp 32]) (vs := [.pointer p, .agg (clc ⟨nm, ky, fd, vl, n, m⟩)]) rfl rfl rfl rfl (HEN.out _ _) hPP ?_))
  rintro ex w3 hPR
  obtain ⟨ao, q9, cc, rfl, hX, hb⟩ := hPR
  refine ⟨_, rfl, ?_⟩
  have Fw3 : Hid (Fr w w3 B (B + 1) ⟨nm, ky, fd, vl, n, m⟩) := Fq2.out.below hb
  have hOw3 : Hid (w3.heap[B + 1]? = some (.cells outz 53 (0, 0))) := (hb.block _ (heap_lt22 hOq2x.out)).trans hOq2x.out
  have HX : Hid (TRow w3 q2.heap.size (.slice ao q9 cc) O.L) := hX
  clear hld hcf hPP hb hX
  have hst := storeVar_out (cs := O.out ao q9 cc) hOw3.out rfl rfl (O.out_one _ _ _)
  have hgw4 := setRow_heap w3 (B + 1) _ (O.out ao q9 cc) _ _ hOw3.out
  have Fw4 := Fw3.out.set (O.out ao q9 cc)
  have HR4 : TRow (w3.setRow (B + 1) (O.out ao q9 cc)) q2.heap.size (.slice ao q9 cc) O.L := HX.out.keep (fun k hk => setRow_ne22 _ _ _ _ (by have := HX.out.own k hk; have := HLU.out; omega))
  generalize w3.setRow (B + 1) (O.out ao q9 cc) = w4 at *
  go_wp2_with (first | (refine wpList_storeR (ty := 53) (x := .tmp 4) (y := .tmp 33) (ad := ⟨B + 1, 0, none⟩) (v := .agg (O.out ao q9 cc)) (w' := w4) rfl rfl rfl rfl hst ?_))
  refine ret_out rfl rfl rfl hgw4 rfl ?_
  exact ⟨_, _, _, rfl, HR4.lower (by have := HLU.out; have := HLB.out; omega), by first | exact Fw4.be | (rw [← hB]; exact Fw4.be)⟩
end Go.Proofs.YtmlfekbmbnfkjabGreatDoor

/-
  Plan, with the texts that it hands on.
-/
namespace Go.Proofs.YtmlfekbmbnfkjabGreatDoor
set_option maxRecDepth 100000
open Go.RowKit

theorem TRow.lt22 {w : World} {base : Nat} {v : Value} {S : List (List UInt8)} (h : TRow w base v S) : ∀ k, v.ownBlock = some k → k < w.heap.size := by
  rcases h.2 with ⟨rfl, -⟩ | ⟨g, cap, cur, rfl, hb, hg, -⟩
  · intro k hk; cases hk
  · intro k hk; cases hk; exact (Array.getElem?_eq_some_iff.1 hg).1
set_option maxHeartbeats 4000000 in
theorem planL_any (J : Option Addr → World → Prop) (p : Option Addr) (c : Cl) (O : Po) (w : World) (hS : ∀ pp (u u' : World), J pp u → Below u.heap.size u u' → J pp u') (hN : ∀ u, Below w.heap.size w u → Calls Tryz.prog 16 #[.pointer p] u fun x w' => ∃ pp, x = .returned (.pointer pp) ∧ J pp w' ∧ Below u.heap.size u w') (hP : ∀ u pp, Below w.heap.size w u → J pp u → PlanC 15 pp c O u) : Calls Tryz.prog 8 #[.pointer p, .agg (clc c)] w fun x w' => ∃ ao q cc, x = .returned (.tuple #[.agg (O.rep ao q cc), .agg O.op, .bool O.b]) ∧ TRow w' w.heap.size (.slice ao q cc) O.L ∧ Below w.heap.size w w' := by
  obtain ⟨k, t, d, LL, k2, y2, f2, v2, n2, r2, m2, b⟩ := O
  have hP : ∀ u pp, Below w.heap.size w u → J pp u → Calls Tryz.prog 15 #[.pointer pp, .agg (clc c)] u fun x w' => ∃ ao q cc, x = .returned (.agg (outx k t d ao q cc (opx k2 y2 f2 v2 n2 r2 m2) b)) ∧ TRow w' u.heap.size (.slice ao q cc) LL ∧ Below u.heap.size u w' := hP
  show Calls Tryz.prog 8 #[.pointer p, .agg (clc c)] w fun x w' => ∃ ao q cc, x = .returned (.tuple #[.agg (repc k t d (.slice ao q cc)), .agg (opx k2 y2 f2 v2 n2 r2 m2), .bool b]) ∧ TRow w' w.heap.size (.slice ao q cc) LL ∧ Below w.heap.size w w'
  obtain ⟨nm, ky, fd, vl, n, m⟩ := c
  have hcl : (((w.alloc (.cells (clc ⟨nm, ky, fd, vl, n, m⟩) 38)).alloc (.cells repz 30)).alloc (.cells opzz 34)).heap[w.heap.size]? = some (.cells (clc ⟨nm, ky, fd, vl, n, m⟩) 38 (0, 0)) := by rw [Below.heap_alloc _ _ _ (by simp; omega), Below.heap_alloc _ _ _ (by simp)]; exact heap_alloc_new w _
  have hre : (((w.alloc (.cells (clc ⟨nm, ky, fd, vl, n, m⟩) 38)).alloc (.cells repz 30)).alloc (.cells opzz 34)).heap[w.heap.size + 1]? = some (.cells repz 30 (0, 0)) := by rw [Below.heap_alloc _ _ _ (by simp)]; exact alloc_two w _ _
  have hop := alloc_three w (.cells (clc ⟨nm, ky, fd, vl, n, m⟩) 38) (.cells repz 30) (.cells opzz 34)
  have hbb := below_three w (.cells (clc ⟨nm, ky, fd, vl, n, m⟩) 38) (.cells repz 30) (.cells opzz 34)
  obtain ⟨W0, hW0⟩ : ∃ W0, ((w.alloc (.cells (clc ⟨nm, ky, fd, vl, n, m⟩) 38)).alloc (.cells repz 30)).alloc (.cells opzz 34) = W0 := ⟨_, rfl⟩
  rw [hW0] at hcl hre hop hbb
  have hW1 : ((w.alloc (.cells (clc ⟨nm, ky, fd, vl, n, m⟩) 38)).alloc (.cells #[.int .i64 0, .string ⟨#[]⟩, .int .i64 0, .slice none 0 0] 30)).alloc (.cells #[.int .i64 0, .string ⟨#[]⟩, .string ⟨#[]⟩, .string ⟨#[]⟩, .int .i64 0, .int .i64 0, .int .i64 0] 34) = W0 := hW0
  obtain ⟨B, hB⟩ : ∃ B, w.heap.size = B := ⟨_, rfl⟩
  rw [hB] at hcl hre hop
  have F0 : Hid (Fr w W0 B (B + 2) ⟨nm, ky, fd, vl, n, m⟩) := ⟨hcl, hbb, by omega, by omega⟩
  have HRE : Hid (W0.heap[B + 1]? = some (.cells repz 30 (0, 0))) := hre
  have HOP : Hid (W0.heap[B + 2]? = some (.cells opzz 34 (0, 0))) := hop
  clear hW0 hcl hre hop hbb
  have HN : Hid (∀ u, Below w.heap.size w u → _) := hN
  have HP : Hid (∀ u pp, Below w.heap.size w u → J pp u → _) := hP
  have HS : Hid (∀ pp (u u' : World), J pp u → Below u.heap.size u u' → J pp u') := hS
  clear hN hP hS
  go_enter Tryz.func8, Tryz.ntmps8
  go_wp2_with fail
  obtain ⟨D, hD⟩ : ∃ W, W = W0.drew := ⟨_, rfl⟩
  have FD : Fr w D B (B + 2) ⟨nm, ky, fd, vl, n, m⟩ := by rw [hD]; exact F0.out.drew
  have reD : D.heap[B + 1]? = some (.cells repz 30 (0, 0)) := by rw [hD]; exact HRE.out
  have opD : D.heap[B + 2]? = some (.cells opzz 34 (0, 0)) := by rw [hD]; exact HOP.out
  refine wp_region_noPanic ?_
  refine wp_region_held_drew (S := fun W' : World => Fr w W' B (B + 2) ⟨nm, ky, fd, vl, n, m⟩) (by kernel_rfl) (by rw [← hD]; exact FD) (fun hHeld => ?_)
  rw [← hD] at hHeld ⊢
  clear hD
  refine wpAnyH_take (i := 0) (oi := { dst := some 8, op := _, type := _, pos := _, after := _, guard := _ }) (v := .pointer p) rfl (by kernel_rfl) (by kernel_rfl) (by kernel_rfl) (fun _ _ _ h => h) (Or.inl ⟨by rfl, ?_⟩) (by assumption) ?_
  · intro w9 hSw
    exact y_move rfl rfl
  simp only [Act.put, List.setIfInBounds_toArray, List.set_cons_zero, List.set_cons_succ]
  refine wpAnyH_take (i := 2) (oi := { dst := some 10, op := _, type := _, pos := _, after := _, guard := _ }) (v := .agg (clc ⟨nm, ky, fd, vl, n, m⟩)) rfl (by kernel_rfl) (by kernel_rfl) (by kernel_rfl) (fun _ _ _ h => h) (Or.inl ⟨by rfl, ?_⟩) (by assumption) ?_
  · intro w9 hSw
    exact y_load rfl rfl hSw.load
  simp only [Act.put, List.setIfInBounds_toArray, List.set_cons_zero, List.set_cons_succ]
  clear hHeld
  refine wpAnyH_ready (rs := [1, 4]) (by kernel_rfl) (by simp) ?_
  refine AllReadyH.cons (o := { dst := some 9, op := _, type := _, pos := _, after := _, guard := _ }) rfl (fun K hK => ?_) ?_
  · rw [if_pos (by rfl)]
    have hCq1 := HN.out D FD.be
    refine y_call (f := 16) (xs := [.tmp 8]) (vs := [.pointer p]) rfl rfl (enters_ornew _ _) hCq1 ?_
    rintro ex q1 ⟨pp, rfl, iI, bq1⟩
    refine ⟨_, rfl, ?_⟩
    have Fq1 := FD.below bq1
    have req1 := (bq1.block _ (heap_lt22 reD)).trans reD
    have opq1 := (bq1.block _ (heap_lt22 opD)).trans opD
    have Iq1 := iI
    clear iI
    clear hCq1
    refine hK.out _ _ Fq1 (fun hHeld => ?_)
    clear hK K
    simp only [Act.put, List.setIfInBounds_toArray, List.set_cons_zero, List.set_cons_succ]
    clear hHeld
    refine wpAnyH_ready (rs := [3, 4]) (by kernel_rfl) (by simp) ?_
    refine AllReadyH.cons (o := { dst := some 11, op := _, type := _, pos := _, after := _, guard := _ }) rfl (fun K hK => ?_) ?_
    · rw [if_pos (by rfl)]
      have hCq2 := HP.out q1 pp Fq1.be Iq1
      refine y_call (f := 15) (xs := [.tmp 9, .tmp 10]) (vs := [.pointer pp, .agg (clc ⟨nm, ky, fd, vl, n, m⟩)]) rfl rfl (enters_outcomeof _ _) hCq2 ?_
      rintro ex q2 ⟨ao, q, cc, rfl, hX, bq2⟩
      refine ⟨_, rfl, ?_⟩
      have Fq2 := Fq1.below bq2
      have req2 := (bq2.block _ (heap_lt22 req1)).trans req1
      have opq2 := (bq2.block _ (heap_lt22 opq1)).trans opq1
      have Xq2 : TRow q2 (B + 3) (.slice ao q cc) LL := hX.lower (heap_lt22 opq1)
      clear hX
      clear hCq2
      refine hK.out _ _ Fq2 (fun hHeld => ?_)
      clear hK K
      simp only [Act.put, List.setIfInBounds_toArray, List.set_cons_zero, List.set_cons_succ]
      clear hHeld
      refine wpAnyH_ready (rs := [4]) (by kernel_rfl) (by simp) ?_
      refine AllReadyH.cons (o := { dst := some 7, op := _, type := _, pos := _, after := _, guard := _ }) rfl (fun K hK => ?_) AllReadyH.nil
      rw [if_pos (by rfl)]
      obtain ⟨q3, eq3, cq3, bq3⟩ := alloc_o q2
      have Fq3 := Fq2.below bq3
      have req3 := (bq3.block _ (heap_lt22 req2)).trans req2
      have opq3 := (bq3.block _ (heap_lt22 opq2)).trans opq2
      have Xq3 := Xq2.below bq3 (Nat.le_refl _)
      have Nq3 : ∀ kk, (Value.slice ao q cc).ownBlock = some kk → kk ≠ q2.heap.size := fun kk hk => by have := Xq2.lt22 kk hk; omega
      have lq3 : B + 2 < q2.heap.size := heap_lt22 opq2
      refine y_alloc22 rfl eq3 ?_
      refine hK.out _ _ Fq3 (fun hHeld => ?_)
      clear hK K
      simp only [Act.put, List.setIfInBounds_toArray, List.set_cons_zero, List.set_cons_succ]
      clear hHeld
      refine wpAnyH_ready (rs := [5]) (by kernel_rfl) (by simp) ?_
      refine AllReadyH.cons (o := { dst := none, op := _, type := _, pos := _, after := _, guard := _ }) rfl (fun K hK => ?_) AllReadyH.nil
      rw [if_pos (by rfl)]
      have hst := storeVar_out (cs := outx k t d ao q cc (opx k2 y2 f2 v2 n2 r2 m2) b) cq3 rfl rfl (outx_one _ _ _ _ _ _ _ _ _ _ _ _ _ _)
      have Gq4 := setRow_heap q3 (q2.heap.size) _ (outx k t d ao q cc (opx k2 y2 f2 v2 n2 r2 m2) b) _ _ cq3
      have bq4 : Below (q2.heap.size) q3 (q3.setRow (q2.heap.size) (outx k t d ao q cc (opx k2 y2 f2 v2 n2 r2 m2) b)) := below_setRow (Below.refl _ _) (Nat.le_refl _) _
      have Fq4 := Fq3.belowC bq4 lq3
      have req4 := (bq4.block _ (Nat.lt_of_succ_lt lq3)).trans req3
      have opq4 := (bq4.block _ (lq3)).trans opq3
      have Xq4 : TRow (q3.setRow (q2.heap.size) (outx k t d ao q cc (opx k2 y2 f2 v2 n2 r2 m2) b)) (B + 3) (.slice ao q cc) LL := Xq3.keep (fun kk hk => setRow_ne22 _ _ _ _ (Nq3 kk hk))
      generalize q3.setRow (q2.heap.size) (outx k t d ao q cc (opx k2 y2 f2 v2 n2 r2 m2) b) = q4 at *
      refine y_store (ty := 53) (x := .tmp 7) (y := .tmp 11) (ad := ⟨q2.heap.size, 0, none⟩) (v := .agg (outx k t d ao q cc (opx k2 y2 f2 v2 n2 r2 m2) b)) (w' := q4) rfl rfl rfl hst ?_
      refine hK.out _ _ Fq4 (fun hHeld => ?_)
      clear hK K
      simp only [Act.put]
      clear hHeld hst
      have hHeld := Fq4
      refine wpAnyH_done (by kernel_rfl) ?_ _
      refine NoPanic.normal ?_
      clear hHeld
      have HF : Hid (Fr w q4 B (B + 2) ⟨nm, ky, fd, vl, n, m⟩) := Fq4
      have HRE2 : Hid (q4.heap[B + 1]? = some (.cells repz 30 (0, 0))) := req4
      have HOP2 : Hid (q4.heap[B + 2]? = some (.cells opzz 34 (0, 0))) := opq4
      have HG : Hid (q4.heap[q2.heap.size]? = some (.cells (outx k t d ao q cc (opx k2 y2 f2 v2 n2 r2 m2) b) 53 (0, 0))) := Gq4
      have HLT : Hid (B + 2 < q2.heap.size) := lq3
      have HXX : Hid (TRow q4 (B + 3) (.slice ao q cc) LL) := Xq4
      go_wp2_with fail
      obtain ⟨E, hE⟩ : ∃ W, W = q4.drew := ⟨_, rfl⟩
      have bE : Below w.heap.size w E := by rw [hE]; exact HF.out.be.drew
      have GE : E.heap[q2.heap.size]? = some (.cells (outx k t d ao q cc (opx k2 y2 f2 v2 n2 r2 m2) b) 53 (0, 0)) := by rw [hE]; exact HG.out
      have reE : E.heap[B + 1]? = some (.cells repz 30 (0, 0)) := by rw [hE]; exact HRE2.out
      have opE : E.heap[B + 2]? = some (.cells opzz 34 (0, 0)) := by rw [hE]; exact HOP2.out
      have xE : TRow E (B + 3) (.slice ao q cc) LL := by rw [hE]; exact HXX.out
      refine wp_region_noPanic ?_
      refine wp_region_held_drew (S := fun W' : World => W'.heap[q2.heap.size]? = some (.cells (outx k t d ao q cc (opx k2 y2 f2 v2 n2 r2 m2) b) 53 (0, 0))) (by kernel_rfl) (by rw [← hE]; exact GE) (fun hHeld => ?_)
      rw [← hE] at hHeld ⊢
      clear hE
      refine wpAnyH_take (i := 0) (oi := { dst := some 12, op := _, type := _, pos := _, after := _, guard := _ }) (v := .pointer (some ⟨q2.heap.size, 0, none⟩)) rfl (by kernel_rfl) (by kernel_rfl) (by kernel_rfl) (fun _ _ _ h => h) (Or.inl ⟨by rfl, ?_⟩) (by assumption) ?_
      · intro w9 hSw
        exact y_field rfl rfl (fieldo _ _)
      simp only [Act.put, List.setIfInBounds_toArray, List.set_cons_zero, List.set_cons_succ]
      refine wpAnyH_take (i := 1) (oi := { dst := some 13, op := _, type := _, pos := _, after := _, guard := _ }) (v := .agg (repc k t d (.slice ao q cc))) rfl (by kernel_rfl) (by kernel_rfl) (by kernel_rfl) (fun _ _ _ h => h) (Or.inl ⟨by rfl, ?_⟩) (by assumption) ?_
      · intro w9 hSw
        exact y_load rfl rfl (load_o0 hSw)
      simp only [Act.put, List.setIfInBounds_toArray, List.set_cons_zero, List.set_cons_succ]
      refine wpAnyH_take (i := 2) (oi := { dst := some 14, op := _, type := _, pos := _, after := _, guard := _ }) (v := .pointer (some ⟨q2.heap.size, 4, none⟩)) rfl (by kernel_rfl) (by kernel_rfl) (by kernel_rfl) (fun _ _ _ h => h) (Or.inl ⟨by rfl, ?_⟩) (by assumption) ?_
      · intro w9 hSw
        exact y_field rfl rfl (fieldo1 _ _)
      simp only [Act.put, List.setIfInBounds_toArray, List.set_cons_zero, List.set_cons_succ]
      refine wpAnyH_take (i := 3) (oi := { dst := some 15, op := _, type := _, pos := _, after := _, guard := _ }) (v := .agg (opx k2 y2 f2 v2 n2 r2 m2)) rfl (by kernel_rfl) (by kernel_rfl) (by kernel_rfl) (fun _ _ _ h => h) (Or.inl ⟨by rfl, ?_⟩) (by assumption) ?_
      · intro w9 hSw
        exact y_load rfl rfl (load_o1 hSw)
      simp only [Act.put, List.setIfInBounds_toArray, List.set_cons_zero, List.set_cons_succ]
      refine wpAnyH_take (i := 4) (oi := { dst := some 16, op := _, type := _, pos := _, after := _, guard := _ }) (v := .pointer (some ⟨q2.heap.size, 11, none⟩)) rfl (by kernel_rfl) (by kernel_rfl) (by kernel_rfl) (fun _ _ _ h => h) (Or.inl ⟨by rfl, ?_⟩) (by assumption) ?_
      · intro w9 hSw
        exact y_field rfl rfl (fieldo2 _ _)
      simp only [Act.put, List.setIfInBounds_toArray, List.set_cons_zero, List.set_cons_succ]
      refine wpAnyH_take (i := 5) (oi := { dst := some 17, op := _, type := _, pos := _, after := _, guard := _ }) (v := .bool b) rfl (by kernel_rfl) (by kernel_rfl) (by kernel_rfl) (fun _ _ _ h => h) (Or.inl ⟨by rfl, ?_⟩) (by assumption) ?_
      · intro w9 hSw
        exact y_load rfl rfl (load_o2 hSw)
      simp only [Act.put, List.setIfInBounds_toArray, List.set_cons_zero, List.set_cons_succ]
      clear hHeld
      refine wpAnyH_ready (rs := [6]) (by kernel_rfl) (by simp) ?_
      refine AllReadyH.cons (o := { dst := none, op := _, type := _, pos := _, after := _, guard := _ }) rfl (fun K hK => ?_) AllReadyH.nil
      rw [if_pos (by rfl)]
      have hs1 := storeVar_rep (cs := repc k t d (.slice ao q cc)) reE rfl rfl (repc_one _ _ _ _ _ _)
      have r1 := setRow_heap E (B + 1) _ (repc k t d (.slice ao q cc)) _ _ reE
      have o1 := (setRow_ne22 E (B + 1) (B + 2) (repc k t d (.slice ao q cc)) (by omega)).trans opE
      have g1 := (setRow_ne22 E (B + 1) (q2.heap.size) (repc k t d (.slice ao q cc)) (by have := HLT.out; omega)).trans GE
      have b1 : Below w.heap.size w (E.setRow (B + 1) (repc k t d (.slice ao q cc))) := below_setRow bE (by omega) _
      have x1 : TRow (E.setRow (B + 1) (repc k t d (.slice ao q cc))) (B + 3) (.slice ao q cc) LL := xE.keep (fun kk hk => setRow_ne22 _ _ _ _ (by have := xE.own kk hk; omega))
      generalize E.setRow (B + 1) (repc k t d (.slice ao q cc)) = E1 at *
      refine y_store (ty := 30) (x := .tmp 4) (y := .tmp 13) (ad := ⟨B + 1, 0, none⟩) (v := .agg (repc k t d (.slice ao q cc))) (w' := E1) rfl rfl rfl hs1 ?_
      refine hK.out _ _ g1 (fun hHeld => ?_)
      clear hK K
      simp only [Act.put]
      clear hHeld hs1
      refine wpAnyH_ready (rs := [7]) (by kernel_rfl) (by simp) ?_
      refine AllReadyH.cons (o := { dst := none, op := _, type := _, pos := _, after := _, guard := _ }) rfl (fun K hK => ?_) AllReadyH.nil
      rw [if_pos (by rfl)]
      have hs2 := storeVar_opr (cs := opx k2 y2 f2 v2 n2 r2 m2) o1 rfl rfl (opx_one _ _ _ _ _ _ _)
      have o2 := setRow_heap E1 (B + 2) _ (opx k2 y2 f2 v2 n2 r2 m2) _ _ o1
      have r2' := (setRow_ne22 E1 (B + 2) (B + 1) (opx k2 y2 f2 v2 n2 r2 m2) (by omega)).trans r1
      have g2 := (setRow_ne22 E1 (B + 2) (q2.heap.size) (opx k2 y2 f2 v2 n2 r2 m2) (by have := HLT.out; omega)).trans g1
      have b2 : Below w.heap.size w (E1.setRow (B + 2) (opx k2 y2 f2 v2 n2 r2 m2)) := below_setRow b1 (by omega) _
      have x2 : TRow (E1.setRow (B + 2) (opx k2 y2 f2 v2 n2 r2 m2)) (B + 3) (.slice ao q cc) LL := x1.keep (fun kk hk => setRow_ne22 _ _ _ _ (by have := x1.own kk hk; omega))
      generalize E1.setRow (B + 2) (opx k2 y2 f2 v2 n2 r2 m2) = E2 at *
      refine y_store (ty := 34) (x := .tmp 5) (y := .tmp 15) (ad := ⟨B + 2, 0, none⟩) (v := .agg (opx k2 y2 f2 v2 n2 r2 m2)) (w' := E2) rfl rfl rfl hs2 ?_
      refine hK.out _ _ g2 (fun hHeld => ?_)
      clear hK K
      simp only [Act.put]
      refine wpAnyH_take (i := 8) (oi := { dst := some 6, op := _, type := _, pos := _, after := _, guard := _ }) (v := .bool b) rfl (by kernel_rfl) (by kernel_rfl) (by kernel_rfl) (fun _ _ _ h => h) (Or.inl ⟨by rfl, ?_⟩) (by assumption) ?_
      · intro w9 hSw
        exact y_assign rfl rfl
      simp only [Act.put, List.setIfInBounds_toArray, List.set_cons_zero, List.set_cons_succ]
      refine wpAnyH_done (by kernel_rfl) ?_ _
      refine NoPanic.normal ?_
      clear hHeld
      go_wp2
      refine ret_plan rfl rfl rfl rfl rfl r2' rfl o2 rfl ?_
      exact ⟨_, _, _, rfl, by first | exact x2.lower (by omega) | (rw [hB]; exact x2.lower (by omega)), by first | exact b2 | (rw [← hB]; exact b2)⟩
    refine AllReadyH.cons (o := { dst := some 7, op := _, type := _, pos := _, after := _, guard := _ }) rfl (fun K hK => ?_) AllReadyH.nil
    rw [if_pos (by rfl)]
    obtain ⟨q5, eq5, cq5, bq5⟩ := alloc_o q1
    have Fq5 := Fq1.below bq5
    have req5 := (bq5.block _ (heap_lt22 req1)).trans req1
    have opq5 := (bq5.block _ (heap_lt22 opq1)).trans opq1
    have Iq5 := HS.out _ _ _ Iq1 bq5
    have lq5 : B + 2 < q1.heap.size := heap_lt22 opq1
    refine y_alloc22 rfl eq5 ?_
    refine hK.out _ _ Fq5 (fun hHeld => ?_)
    clear hK K
    simp only [Act.put, List.setIfInBounds_toArray, List.set_cons_zero, List.set_cons_succ]
    clear hHeld
    refine wpAnyH_ready (rs := [3]) (by kernel_rfl) (by simp) ?_
    refine AllReadyH.cons (o := { dst := some 11, op := _, type := _, pos := _, after := _, guard := _ }) rfl (fun K hK => ?_) AllReadyH.nil
    rw [if_pos (by rfl)]
    have hCq6 := HP.out q5 pp Fq5.be Iq5
    refine y_call (f := 15) (xs := [.tmp 9, .tmp 10]) (vs := [.pointer pp, .agg (clc ⟨nm, ky, fd, vl, n, m⟩)]) rfl rfl (enters_outcomeof _ _) hCq6 ?_
    rintro ex q6 ⟨ao, q, cc, rfl, hX, bq6⟩
    refine ⟨_, rfl, ?_⟩
    have Fq6 := Fq5.below bq6
    have req6 := (bq6.block _ (heap_lt22 req5)).trans req5
    have opq6 := (bq6.block _ (heap_lt22 opq5)).trans opq5
    have Gq6 := (bq6.block _ (heap_lt22 cq5)).trans cq5
    have Xq6 : TRow q6 (B + 3) (.slice ao q cc) LL := hX.lower (heap_lt22 opq5)
    have Nq6 : ∀ kk, (Value.slice ao q cc).ownBlock = some kk → kk ≠ q1.heap.size := fun kk hk => by have := hX.own kk hk; have := heap_lt22 cq5; omega
    clear hX
    clear hCq6
    refine hK.out _ _ Fq6 (fun hHeld => ?_)
    clear hK K
    simp only [Act.put, List.setIfInBounds_toArray, List.set_cons_zero, List.set_cons_succ]
    clear hHeld
    refine wpAnyH_ready (rs := [5]) (by kernel_rfl) (by simp) ?_
    refine AllReadyH.cons (o := { dst := none, op := _, type := _, pos := _, after := _, guard := _ }) rfl (fun K hK => ?_) AllReadyH.nil
    rw [if_pos (by rfl)]
    have hst := storeVar_out (cs := outx k t d ao q cc (opx k2 y2 f2 v2 n2 r2 m2) b) Gq6 rfl rfl (outx_one _ _ _ _ _ _ _ _ _ _ _ _ _ _)
    have Gq7 := setRow_heap q6 (q1.heap.size) _ (outx k t d ao q cc (opx k2 y2 f2 v2 n2 r2 m2) b) _ _ Gq6
    have bq7 : Below (q1.heap.size) q6 (q6.setRow (q1.heap.size) (outx k t d ao q cc (opx k2 y2 f2 v2 n2 r2 m2) b)) := below_setRow (Below.refl _ _) (Nat.le_refl _) _
    have Fq7 := Fq6.belowC bq7 lq5
    have req7 := (bq7.block _ (Nat.lt_of_succ_lt lq5)).trans req6
    have opq7 := (bq7.block _ (lq5)).trans opq6
    have Xq7 : TRow (q6.setRow (q1.heap.size) (outx k t d ao q cc (opx k2 y2 f2 v2 n2 r2 m2) b)) (B + 3) (.slice ao q cc) LL := Xq6.keep (fun kk hk => setRow_ne22 _ _ _ _ (Nq6 kk hk))
    generalize q6.setRow (q1.heap.size) (outx k t d ao q cc (opx k2 y2 f2 v2 n2 r2 m2) b) = q7 at *
    refine y_store (ty := 53) (x := .tmp 7) (y := .tmp 11) (ad := ⟨q1.heap.size, 0, none⟩) (v := .agg (outx k t d ao q cc (opx k2 y2 f2 v2 n2 r2 m2) b)) (w' := q7) rfl rfl rfl hst ?_
    refine hK.out _ _ Fq7 (fun hHeld => ?_)
    clear hK K
    simp only [Act.put]
    clear hHeld hst
    have hHeld := Fq7
    refine wpAnyH_done (by kernel_rfl) ?_ _
    refine NoPanic.normal ?_
    clear hHeld
    have HF : Hid (Fr w q7 B (B + 2) ⟨nm, ky, fd, vl, n, m⟩) := Fq7
    have HRE2 : Hid (q7.heap[B + 1]? = some (.cells repz 30 (0, 0))) := req7
    have HOP2 : Hid (q7.heap[B + 2]? = some (.cells opzz 34 (0, 0))) := opq7
    have HG : Hid (q7.heap[q1.heap.size]? = some (.cells (outx k t d ao q cc (opx k2 y2 f2 v2 n2 r2 m2) b) 53 (0, 0))) := Gq7
    have HLT : Hid (B + 2 < q1.heap.size) := lq5
    have HXX : Hid (TRow q7 (B + 3) (.slice ao q cc) LL) := Xq7
    go_wp2_with fail
    obtain ⟨E, hE⟩ : ∃ W, W = q7.drew := ⟨_, rfl⟩
    have bE : Below w.heap.size w E := by rw [hE]; exact HF.out.be.drew
    have GE : E.heap[q1.heap.size]? = some (.cells (outx k t d ao q cc (opx k2 y2 f2 v2 n2 r2 m2) b) 53 (0, 0)) := by rw [hE]; exact HG.out
    have reE : E.heap[B + 1]? = some (.cells repz 30 (0, 0)) := by rw [hE]; exact HRE2.out
    have opE : E.heap[B + 2]? = some (.cells opzz 34 (0, 0)) := by rw [hE]; exact HOP2.out
    have xE : TRow E (B + 3) (.slice ao q cc) LL := by rw [hE]; exact HXX.out
    refine wp_region_noPanic ?_
    refine wp_region_held_drew (S := fun W' : World => W'.heap[q1.heap.size]? = some (.cells (outx k t d ao q cc (opx k2 y2 f2 v2 n2 r2 m2) b) 53 (0, 0))) (by kernel_rfl) (by rw [← hE]; exact GE) (fun hHeld => ?_)
    rw [← hE] at hHeld ⊢
    clear hE
    refine wpAnyH_take (i := 0) (oi := { dst := some 12, op := _, type := _, pos := _, after := _, guard := _ }) (v := .pointer (some ⟨q1.heap.size, 0, none⟩)) rfl (by kernel_rfl) (by kernel_rfl) (by kernel_rfl) (fun _ _ _ h => h) (Or.inl ⟨by rfl, ?_⟩) (by assumption) ?_
    · intro w9 hSw
      exact y_field rfl rfl (fieldo _ _)
    simp only [Act.put, List.setIfInBounds_toArray, List.set_cons_zero, List.set_cons_succ]
    refine wpAnyH_take (i := 1) (oi := { dst := some 13, op := _, type := _, pos := _, after := _, guard := _ }) (v := .agg (repc k t d (.slice ao q cc))) rfl (by kernel_rfl) (by kernel_rfl) (by kernel_rfl) (fun _ _ _ h => h) (Or.inl ⟨by rfl, ?_⟩) (by assumption) ?_
    · intro w9 hSw
      exact y_load rfl rfl (load_o0 hSw)
    simp only [Act.put, List.setIfInBounds_toArray, List.set_cons_zero, List.set_cons_succ]
    refine wpAnyH_take (i := 2) (oi := { dst := some 14, op := _, type := _, pos := _, after := _, guard := _ }) (v := .pointer (some ⟨q1.heap.size, 4, none⟩)) rfl (by kernel_rfl) (by kernel_rfl) (by kernel_rfl) (fun _ _ _ h => h) (Or.inl ⟨by rfl, ?_⟩) (by assumption) ?_
    · intro w9 hSw
      exact y_field rfl rfl (fieldo1 _ _)
    simp only [Act.put, List.setIfInBounds_toArray, List.set_cons_zero, List.set_cons_succ]
    refine wpAnyH_take (i := 3) (oi := { dst := some 15, op := _, type := _, pos := _, after := _, guard := _ }) (v := .agg (opx k2 y2 f2 v2 n2 r2 m2)) rfl (by kernel_rfl) (by kernel_rfl) (by kernel_rfl) (fun _ _ _ h => h) (Or.inl ⟨by rfl, ?_⟩) (by assumption) ?_
    · intro w9 hSw
      exact y_load rfl rfl (load_o1 hSw)
    simp only [Act.put, List.setIfInBounds_toArray, List.set_cons_zero, List.set_cons_succ]
    refine wpAnyH_take (i := 4) (oi := { dst := some 16, op := _, type := _, pos := _, after := _, guard := _ }) (v := .pointer (some ⟨q1.heap.size, 11, none⟩)) rfl (by kernel_rfl) (by kernel_rfl) (by kernel_rfl) (fun _ _ _ h => h) (Or.inl ⟨by rfl, ?_⟩) (by assumption) ?_
    · intro w9 hSw
      exact y_field rfl rfl (fieldo2 _ _)
    simp only [Act.put, List.setIfInBounds_toArray, List.set_cons_zero, List.set_cons_succ]
    refine wpAnyH_take (i := 5) (oi := { dst := some 17, op := _, type := _, pos := _, after := _, guard := _ }) (v := .bool b) rfl (by kernel_rfl) (by kernel_rfl) (by kernel_rfl) (fun _ _ _ h => h) (Or.inl ⟨by rfl, ?_⟩) (by assumption) ?_
    · intro w9 hSw
      exact y_load rfl rfl (load_o2 hSw)
    simp only [Act.put, List.setIfInBounds_toArray, List.set_cons_zero, List.set_cons_succ]
    clear hHeld
    refine wpAnyH_ready (rs := [6]) (by kernel_rfl) (by simp) ?_
    refine AllReadyH.cons (o := { dst := none, op := _, type := _, pos := _, after := _, guard := _ }) rfl (fun K hK => ?_) AllReadyH.nil
    rw [if_pos (by rfl)]
    have hs1 := storeVar_rep (cs := repc k t d (.slice ao q cc)) reE rfl rfl (repc_one _ _ _ _ _ _)
    have r1 := setRow_heap E (B + 1) _ (repc k t d (.slice ao q cc)) _ _ reE
    have o1 := (setRow_ne22 E (B + 1) (B + 2) (repc k t d (.slice ao q cc)) (by omega)).trans opE
    have g1 := (setRow_ne22 E (B + 1) (q1.heap.size) (repc k t d (.slice ao q cc)) (by have := HLT.out; omega)).trans GE
    have b1 : Below w.heap.size w (E.setRow (B + 1) (repc k t d (.slice ao q cc))) := below_setRow bE (by omega) _
    have x1 : TRow (E.setRow (B + 1) (repc k t d (.slice ao q cc))) (B + 3) (.slice ao q cc) LL := xE.keep (fun kk hk => setRow_ne22 _ _ _ _ (by have := xE.own kk hk; omega))
    generalize E.setRow (B + 1) (repc k t d (.slice ao q cc)) = E1 at *
    refine y_store (ty := 30) (x := .tmp 4) (y := .tmp 13) (ad := ⟨B + 1, 0, none⟩) (v := .agg (repc k t d (.slice ao q cc))) (w' := E1) rfl rfl rfl hs1 ?_
    refine hK.out _ _ g1 (fun hHeld => ?_)
    clear hK K
    simp only [Act.put]
    clear hHeld hs1
    refine wpAnyH_ready (rs := [7]) (by kernel_rfl) (by simp) ?_
    refine AllReadyH.cons (o := { dst := none, op := _, type := _, pos := _, after := _, guard := _ }) rfl (fun K hK => ?_) AllReadyH.nil
    rw [if_pos (by rfl)]
    have hs2 := storeVar_opr (cs := opx k2 y2 f2 v2 n2 r2 m2) o1 rfl rfl (opx_one _ _ _ _ _ _ _)
    have o2 := setRow_heap E1 (B + 2) _ (opx k2 y2 f2 v2 n2 r2 m2) _ _ o1
    have r2' := (setRow_ne22 E1 (B + 2) (B + 1) (opx k2 y2 f2 v2 n2 r2 m2) (by omega)).trans r1
    have g2 := (setRow_ne22 E1 (B + 2) (q1.heap.size) (opx k2 y2 f2 v2 n2 r2 m2) (by have := HLT.out; omega)).trans g1
    have b2 : Below w.heap.size w (E1.setRow (B + 2) (opx k2 y2 f2 v2 n2 r2 m2)) := below_setRow b1 (by omega) _
    have x2 : TRow (E1.setRow (B + 2) (opx k2 y2 f2 v2 n2 r2 m2)) (B + 3) (.slice ao q cc) LL := x1.keep (fun kk hk => setRow_ne22 _ _ _ _ (by have := x1.own kk hk; omega))
    generalize E1.setRow (B + 2) (opx k2 y2 f2 v2 n2 r2 m2) = E2 at *
    refine y_store (ty := 34) (x := .tmp 5) (y := .tmp 15) (ad := ⟨B + 2, 0, none⟩) (v := .agg (opx k2 y2 f2 v2 n2 r2 m2)) (w' := E2) rfl rfl rfl hs2 ?_
    refine hK.out _ _ g2 (fun hHeld => ?_)
    clear hK K
    simp only [Act.put]
    refine wpAnyH_take (i := 8) (oi := { dst := some 6, op := _, type := _, pos := _, after := _, guard := _ }) (v := .bool b) rfl (by kernel_rfl) (by kernel_rfl) (by kernel_rfl) (fun _ _ _ h => h) (Or.inl ⟨by rfl, ?_⟩) (by assumption) ?_
    · intro w9 hSw
      exact y_assign rfl rfl
    simp only [Act.put, List.setIfInBounds_toArray, List.set_cons_zero, List.set_cons_succ]
    refine wpAnyH_done (by kernel_rfl) ?_ _
    refine NoPanic.normal ?_
    clear hHeld
    go_wp2
    refine ret_plan rfl rfl rfl rfl rfl r2' rfl o2 rfl ?_
    exact ⟨_, _, _, rfl, by first | exact x2.lower (by omega) | (rw [hB]; exact x2.lower (by omega)), by first | exact b2 | (rw [← hB]; exact b2)⟩
  refine AllReadyH.cons (o := { dst := some 7, op := _, type := _, pos := _, after := _, guard := _ }) rfl (fun K hK => ?_) AllReadyH.nil
  rw [if_pos (by rfl)]
  obtain ⟨q8, eq8, cq8, bq8⟩ := alloc_o D
  have Fq8 := FD.below bq8
  have req8 := (bq8.block _ (heap_lt22 reD)).trans reD
  have opq8 := (bq8.block _ (heap_lt22 opD)).trans opD
  have lq8 : B + 2 < D.heap.size := heap_lt22 opD
  refine y_alloc22 rfl eq8 ?_
  refine hK.out _ _ Fq8 (fun hHeld => ?_)
  clear hK K
  simp only [Act.put, List.setIfInBounds_toArray, List.set_cons_zero, List.set_cons_succ]
  clear hHeld
  refine wpAnyH_ready (rs := [1]) (by kernel_rfl) (by simp) ?_
  refine AllReadyH.cons (o := { dst := some 9, op := _, type := _, pos := _, after := _, guard := _ }) rfl (fun K hK => ?_) AllReadyH.nil
  rw [if_pos (by rfl)]
  have hCq9 := HN.out q8 Fq8.be
  refine y_call (f := 16) (xs := [.tmp 8]) (vs := [.pointer p]) rfl rfl (enters_ornew _ _) hCq9 ?_
  rintro ex q9 ⟨pp, rfl, iI, bq9⟩
  refine ⟨_, rfl, ?_⟩
  have Fq9 := Fq8.below bq9
  have req9 := (bq9.block _ (heap_lt22 req8)).trans req8
  have opq9 := (bq9.block _ (heap_lt22 opq8)).trans opq8
  have Gq9 := (bq9.block _ (heap_lt22 cq8)).trans cq8
  have Iq9 := iI
  clear iI
  clear hCq9
  refine hK.out _ _ Fq9 (fun hHeld => ?_)
  clear hK K
  simp only [Act.put, List.setIfInBounds_toArray, List.set_cons_zero, List.set_cons_succ]
  clear hHeld
  refine wpAnyH_ready (rs := [3]) (by kernel_rfl) (by simp) ?_
  refine AllReadyH.cons (o := { dst := some 11, op := _, type := _, pos := _, after := _, guard := _ }) rfl (fun K hK => ?_) AllReadyH.nil
  rw [if_pos (by rfl)]
  have hCq10 := HP.out q9 pp Fq9.be Iq9
  refine y_call (f := 15) (xs := [.tmp 9, .tmp 10]) (vs := [.pointer pp, .agg (clc ⟨nm, ky, fd, vl, n, m⟩)]) rfl rfl (enters_outcomeof _ _) hCq10 ?_
  rintro ex q10 ⟨ao, q, cc, rfl, hX, bq10⟩
  refine ⟨_, rfl, ?_⟩
  have Fq10 := Fq9.below bq10
  have req10 := (bq10.block _ (heap_lt22 req9)).trans req9
  have opq10 := (bq10.block _ (heap_lt22 opq9)).trans opq9
  have Gq10 := (bq10.block _ (heap_lt22 Gq9)).trans Gq9
  have Xq10 : TRow q10 (B + 3) (.slice ao q cc) LL := hX.lower (heap_lt22 opq9)
  have Nq10 : ∀ kk, (Value.slice ao q cc).ownBlock = some kk → kk ≠ D.heap.size := fun kk hk => by have := hX.own kk hk; have := heap_lt22 Gq9; omega
  clear hX
  clear hCq10
  refine hK.out _ _ Fq10 (fun hHeld => ?_)
  clear hK K
  simp only [Act.put, List.setIfInBounds_toArray, List.set_cons_zero, List.set_cons_succ]
  clear hHeld
  refine wpAnyH_ready (rs := [5]) (by kernel_rfl) (by simp) ?_
  refine AllReadyH.cons (o := { dst := none, op := _, type := _, pos := _, after := _, guard := _ }) rfl (fun K hK => ?_) AllReadyH.nil
  rw [if_pos (by rfl)]
  have hst := storeVar_out (cs := outx k t d ao q cc (opx k2 y2 f2 v2 n2 r2 m2) b) Gq10 rfl rfl (outx_one _ _ _ _ _ _ _ _ _ _ _ _ _ _)
  have Gq11 := setRow_heap q10 (D.heap.size) _ (outx k t d ao q cc (opx k2 y2 f2 v2 n2 r2 m2) b) _ _ Gq10
  have bq11 : Below (D.heap.size) q10 (q10.setRow (D.heap.size) (outx k t d ao q cc (opx k2 y2 f2 v2 n2 r2 m2) b)) := below_setRow (Below.refl _ _) (Nat.le_refl _) _
  have Fq11 := Fq10.belowC bq11 lq8
  have req11 := (bq11.block _ (Nat.lt_of_succ_lt lq8)).trans req10
  have opq11 := (bq11.block _ (lq8)).trans opq10
  have Xq11 : TRow (q10.setRow (D.heap.size) (outx k t d ao q cc (opx k2 y2 f2 v2 n2 r2 m2) b)) (B + 3) (.slice ao q cc) LL := Xq10.keep (fun kk hk => setRow_ne22 _ _ _ _ (Nq10 kk hk))
  generalize q10.setRow (D.heap.size) (outx k t d ao q cc (opx k2 y2 f2 v2 n2 r2 m2) b) = q11 at *
  refine y_store (ty := 53) (x := .tmp 7) (y := .tmp 11) (ad := ⟨D.heap.size, 0, none⟩) (v := .agg (outx k t d ao q cc (opx k2 y2 f2 v2 n2 r2 m2) b)) (w' := q11) rfl rfl rfl hst ?_
  refine hK.out _ _ Fq11 (fun hHeld => ?_)
  clear hK K
  simp only [Act.put]
  clear hHeld hst
  have hHeld := Fq11
  refine wpAnyH_done (by kernel_rfl) ?_ _
  refine NoPanic.normal ?_
  clear hHeld
  have HF : Hid (Fr w q11 B (B + 2) ⟨nm, ky, fd, vl, n, m⟩) := Fq11
  have HRE2 : Hid (q11.heap[B + 1]? = some (.cells repz 30 (0, 0))) := req11
  have HOP2 : Hid (q11.heap[B + 2]? = some (.cells opzz 34 (0, 0))) := opq11
  have HG : Hid (q11.heap[D.heap.size]? = some (.cells (outx k t d ao q cc (opx k2 y2 f2 v2 n2 r2 m2) b) 53 (0, 0))) := Gq11
  have HLT : Hid (B + 2 < D.heap.size) := lq8
  have HXX : Hid (TRow q11 (B + 3) (.slice ao q cc) LL) := Xq11
  go_wp2_with fail
  obtain ⟨E, hE⟩ : ∃ W, W = q11.drew := ⟨_, rfl⟩
  have bE : Below w.heap.size w E := by rw [hE]; exact HF.out.be.drew
  have GE : E.heap[D.heap.size]? = some (.cells (outx k t d ao q cc (opx k2 y2 f2 v2 n2 r2 m2) b) 53 (0, 0)) := by rw [hE]; exact HG.out
  have reE : E.heap[B + 1]? = some (.cells repz 30 (0, 0)) := by rw [hE]; exact HRE2.out
  have opE : E.heap[B + 2]? = some (.cells opzz 34 (0, 0)) := by rw [hE]; exact HOP2.out
  have xE : TRow E (B + 3) (.slice ao q cc) LL := by rw [hE]; exact HXX.out
  refine wp_region_noPanic ?_
  refine wp_region_held_drew (S := fun W' : World => W'.heap[D.heap.size]? = some (.cells (outx k t d ao q cc (opx k2 y2 f2 v2 n2 r2 m2) b) 53 (0, 0))) (by kernel_rfl) (by rw [← hE]; exact GE) (fun hHeld => ?_)
  rw [← hE] at hHeld ⊢
  clear hE
  refine wpAnyH_take (i := 0) (oi := { dst := some 12, op := _, type := _, pos := _, after := _, guard := _ }) (v := .pointer (some ⟨D.heap.size, 0, none⟩)) rfl (by kernel_rfl) (by kernel_rfl) (by kernel_rfl) (fun _ _ _ h => h) (Or.inl ⟨by rfl, ?_⟩) (by assumption) ?_
  · intro w9 hSw
    exact y_field rfl rfl (fieldo _ _)
  simp only [Act.put, List.setIfInBounds_toArray, List.set_cons_zero, List.set_cons_succ]
  refine wpAnyH_take (i := 1) (oi := { dst := some 13, op := _, type := _, pos := _, after := _, guard := _ }) (v := .agg (repc k t d (.slice ao q cc))) rfl (by kernel_rfl) (by kernel_rfl) (by kernel_rfl) (fun _ _ _ h => h) (Or.inl ⟨by rfl, ?_⟩) (by assumption) ?_
  · intro w9 hSw
    exact y_load rfl rfl (load_o0 hSw)
  simp only [Act.put, List.setIfInBounds_toArray, List.set_cons_zero, List.set_cons_succ]
  refine wpAnyH_take (i := 2) (oi := { dst := some 14, op := _, type := _, pos := _, after := _, guard := _ }) (v := .pointer (some ⟨D.heap.size, 4, none⟩)) rfl (by kernel_rfl) (by kernel_rfl) (by kernel_rfl) (fun _ _ _ h => h) (Or.inl ⟨by rfl, ?_⟩) (by assumption) ?_
  · intro w9 hSw
    exact y_field rfl rfl (fieldo1 _ _)
  simp only [Act.put, List.setIfInBounds_toArray, List.set_cons_zero, List.set_cons_succ]
  refine wpAnyH_take (i := 3) (oi := { dst := some 15, op := _, type := _, pos := _, after := _, guard := _ }) (v := .agg (opx k2 y2 f2 v2 n2 r2 m2)) rfl (by kernel_rfl) (by kernel_rfl) (by kernel_rfl) (fun _ _ _ h => h) (Or.inl ⟨by rfl, ?_⟩) (by assumption) ?_
  · intro w9 hSw
    exact y_load rfl rfl (load_o1 hSw)
  simp only [Act.put, List.setIfInBounds_toArray, List.set_cons_zero, List.set_cons_succ]
  refine wpAnyH_take (i := 4) (oi := { dst := some 16, op := _, type := _, pos := _, after := _, guard := _ }) (v := .pointer (some ⟨D.heap.size, 11, none⟩)) rfl (by kernel_rfl) (by kernel_rfl) (by kernel_rfl) (fun _ _ _ h => h) (Or.inl ⟨by rfl, ?_⟩) (by assumption) ?_
  · intro w9 hSw
    exact y_field rfl rfl (fieldo2 _ _)
  simp only [Act.put, List.setIfInBounds_toArray, List.set_cons_zero, List.set_cons_succ]
  refine wpAnyH_take (i := 5) (oi := { dst := some 17, op := _, type := _, pos := _, after := _, guard := _ }) (v := .bool b) rfl (by kernel_rfl) (by kernel_rfl) (by kernel_rfl) (fun _ _ _ h => h) (Or.inl ⟨by rfl, ?_⟩) (by assumption) ?_
  · intro w9 hSw
    exact y_load rfl rfl (load_o2 hSw)
  simp only [Act.put, List.setIfInBounds_toArray, List.set_cons_zero, List.set_cons_succ]
  clear hHeld
  refine wpAnyH_ready (rs := [6]) (by kernel_rfl) (by simp) ?_
  refine AllReadyH.cons (o := { dst := none, op := _, type := _, pos := _, after := _, guard := _ }) rfl (fun K hK => ?_) AllReadyH.nil
  rw [if_pos (by rfl)]
  have hs1 := storeVar_rep (cs := repc k t d (.slice ao q cc)) reE rfl rfl (repc_one _ _ _ _ _ _)
  have r1 := setRow_heap E (B + 1) _ (repc k t d (.slice ao q cc)) _ _ reE
  have o1 := (setRow_ne22 E (B + 1) (B + 2) (repc k t d (.slice ao q cc)) (by omega)).trans opE
  have g1 := (setRow_ne22 E (B + 1) (D.heap.size) (repc k t d (.slice ao q cc)) (by have := HLT.out; omega)).trans GE
  have b1 : Below w.heap.size w (E.setRow (B + 1) (repc k t d (.slice ao q cc))) := below_setRow bE (by omega) _
  have x1 : TRow (E.setRow (B + 1) (repc k t d (.slice ao q cc))) (B + 3) (.slice ao q cc) LL := xE.keep (fun kk hk => setRow_ne22 _ _ _ _ (by have := xE.own kk hk; omega))
  generalize E.setRow (B + 1) (repc k t d (.slice ao q cc)) = E1 at *
  refine y_store (ty := 30) (x := .tmp 4) (y := .tmp 13) (ad := ⟨B + 1, 0, none⟩) (v := .agg (repc k t d (.slice ao q cc))) (w' := E1) rfl rfl rfl hs1 ?_
  refine hK.out _ _ g1 (fun hHeld => ?_)
  clear hK K
  simp only [Act.put]
  clear hHeld hs1
  refine wpAnyH_ready (rs := [7]) (by kernel_rfl) (by simp) ?_
  refine AllReadyH.cons (o := { dst := none, op := _, type := _, pos := _, after := _, guard := _ }) rfl (fun K hK => ?_) AllReadyH.nil
  rw [if_pos (by rfl)]
  have hs2 := storeVar_opr (cs := opx k2 y2 f2 v2 n2 r2 m2) o1 rfl rfl (opx_one _ _ _ _ _ _ _)
  have o2 := setRow_heap E1 (B + 2) _ (opx k2 y2 f2 v2 n2 r2 m2) _ _ o1
  have r2' := (setRow_ne22 E1 (B + 2) (B + 1) (opx k2 y2 f2 v2 n2 r2 m2) (by omega)).trans r1
  have g2 := (setRow_ne22 E1 (B + 2) (D.heap.size) (opx k2 y2 f2 v2 n2 r2 m2) (by have := HLT.out; omega)).trans g1
  have b2 : Below w.heap.size w (E1.setRow (B + 2) (opx k2 y2 f2 v2 n2 r2 m2)) := below_setRow b1 (by omega) _
  have x2 : TRow (E1.setRow (B + 2) (opx k2 y2 f2 v2 n2 r2 m2)) (B + 3) (.slice ao q cc) LL := x1.keep (fun kk hk => setRow_ne22 _ _ _ _ (by have := x1.own kk hk; omega))
  generalize E1.setRow (B + 2) (opx k2 y2 f2 v2 n2 r2 m2) = E2 at *
  refine y_store (ty := 34) (x := .tmp 5) (y := .tmp 15) (ad := ⟨B + 2, 0, none⟩) (v := .agg (opx k2 y2 f2 v2 n2 r2 m2)) (w' := E2) rfl rfl rfl hs2 ?_
  refine hK.out _ _ g2 (fun hHeld => ?_)
  clear hK K
  simp only [Act.put]
  refine wpAnyH_take (i := 8) (oi := { dst := some 6, op := _, type := _, pos := _, after := _, guard := _ }) (v := .bool b) rfl (by kernel_rfl) (by kernel_rfl) (by kernel_rfl) (fun _ _ _ h => h) (Or.inl ⟨by rfl, ?_⟩) (by assumption) ?_
  · intro w9 hSw
    exact y_assign rfl rfl
  simp only [Act.put, List.setIfInBounds_toArray, List.set_cons_zero, List.set_cons_succ]
  refine wpAnyH_done (by kernel_rfl) ?_ _
  refine NoPanic.normal ?_
  clear hHeld
  go_wp2
  refine ret_plan rfl rfl rfl rfl rfl r2' rfl o2 rfl ?_
  exact ⟨_, _, _, rfl, by first | exact x2.lower (by omega) | (rw [hB]; exact x2.lower (by omega)), by first | exact b2 | (rw [← hB]; exact b2)⟩
end Go.Proofs.YtmlfekbmbnfkjabGreatDoor

/-
  orNew.
-/
namespace Go.Proofs.YtmlfekbmbnfkjabGreatDoor
set_option maxRecDepth 100000
open Go.RowKit

theorem ornew_some (ad : Addr) (w : World) : Calls Tryz.prog 16 #[.pointer (some ad)] w fun x w' => x = .returned (.pointer (some ad)) ∧ Below w.heap.size w w' := by
  have he := eql_ps w ad
  go_enter Tryz.func16, Tryz.ntmps16
  go_wp2
  go_ret
  exact ⟨rfl, Below.refl _ _⟩
end Go.Proofs.YtmlfekbmbnfkjabGreatDoor

/-
  few; and seen: a space that has seen those of events that were ready, and these.
-/
namespace Go.Proofs.YtmlfekbmbnfkjabGreatDoor
set_option maxRecDepth 100000
open Go.RowKit

set_option maxHeartbeats 1000000 in
theorem cfew_any (ao : Option Addr) (m c : Nat) (E : List Ev) (w : World) (hE : Evs w ao m c E) :
    Calls Tryz.prog 6 #[.slice ao m c] w fun e w' => ∃ t : Bool, e = .returned (.bool t) ∧ (t = true → m ≤ 60) ∧ Below w.heap.size w w' := by
  have HE : Aside (Evs w ao m c E) := hE
  clear hE
  by_cases hbig : 60 < m
  · have hz : (60 : Int) < (m : Int) := by omega
    go_enter Tryz.func6, Tryz.ntmps6
    go_wp2
    go_ret
    exact ⟨_, rfl, by simp, Below.refl _ _⟩
  · have hz : ¬ (60 : Int) < (m : Int) := by omega
    go_enter Tryz.func6, Tryz.ntmps6
    go_wp2
    go_loopg [9] m (fun kx s9 wr => ∃ i : Nat, s9 = .int .i64 i ∧ i ≤ m ∧ m - i ≤ kx ∧ Below w.heap.size w wr)
    case atStart => exact ⟨0, rfl, Nat.zero_le _, by omega, Below.refl _ _⟩
    case round =>
      obtain ⟨i, rfl, him, hkx, hb⟩ := hrel
      by_cases hlt : i < m
      · have hltz : (i : Int) < (m : Int) := by omega
        obtain ⟨b, off, u, rfl, hui, hu, hr, hbl⟩ := (HE.out.below hb (Nat.le_refl _)).at hlt
        have hix := fun W : World => index_ev W (b := b) (off := off) (k := i) (m := m) (c := c) hlt
        have ck := range_key hr hu.1
        have cf := range_field hr hu.1
        have cv := range_value hr hu.1
        have HB : Hid (Below w.heap.size w wr) := hb
        clear hr hb
        obtain ⟨y, hyy⟩ : ∃ y, IntKind.i64.wrap (((sb u.key).size : Int) + ((sb u.field).size : Int)) = y := ⟨_, rfl⟩
        obtain ⟨z, hzz⟩ : ∃ z, IntKind.i64.wrap (y + ((sb u.value).size : Int)) = z := ⟨_, rfl⟩
        by_cases hg : 1000 < z
        · have hgb : decide (1000 < z) = true := decide_eq_true hg
          go_wp2_with fail
          go_quiet (fail)
          go_wp2
          go_ret
          exact ⟨_, rfl, fun _ => by omega, Below.drewN HB.out nq⟩
        · have hgb : decide (1000 < z) = false := decide_eq_false hg
          go_wp2_with fail
          go_quiet (fail)
          go_wp2
          go_roundg (m - (i + 1))
          case measure => omega
          case rel => exact ⟨i + 1, by go_num, by omega, Nat.le_refl _, Below.drewN HB.out nq⟩
      · have hltz : ¬ (i : Int) < (m : Int) := by omega
        have HB : Hid (Below w.heap.size w wr) := hb
        clear hb
        go_wp2
        go_ret
        exact .inr ⟨rfl, by omega, HB.out⟩
theorem Row.keep22 {w w' : World} {base : Nat} {v : Value} {E : List Ev} (h : Row w base v E) (hk : ∀ k, v.ownBlock = some k → w'.heap[k]? = w.heap[k]?) : Row w' base v E := by
  refine ⟨h.1, ?_⟩
  rcases h.2 with hn | ⟨g, cap, cur, rfl, hbg, hg, rest⟩
  · exact .inl hn
  · exact .inr ⟨g, cap, cur, rfl, hbg, by rw [hk g rfl]; exact hg, rest⟩
theorem SpK.free_new {Y : Lay} {w : World} {g : Nat} {s : St} {x : Option Key} (h : SpK Y w g s x) {j : Nat} (hj : w.heap.size ≤ j) : Free Y g j := by
  refine ⟨by have := h.lt; omega, fun e => by have := (h.mlt _ e).1; omega, ?_⟩
  cases hy : Y.own j with
  | none => rfl
  | some k => have := h.ol j (by rw [hy]; simp); omega
theorem Came.short {l : List Ev} (h : Came l) : (seenS l).L.length ≤ l.length ∧ (seenS l).DL.length ≤ l.length := by
  refine ⟨?_, ?_⟩
  · rw [h.live.length_eq]; exact List.length_filter_le _ _
  · have := h.dead.length_eq
    rw [List.length_map] at this
    rw [this]; exact List.length_filter_le _ _
/-- A space that has seen l, and these in a row of their own. -/
structure Sn (w wr : World) (Y : Lay) (g : Nat) (v : Value) (l : List Ev) : Prop where
  sp : SpK Y wr g (seenS l) none
  ab : Above w.heap.size g Y
  row : Row wr w.heap.size v l
  free : ∀ j, v.ownBlock = some j → Free Y g j
  be : Below w.heap.size w wr
  came : Came l
theorem Sn.below {w wr w' : World} {Y : Lay} {g : Nat} {v : Value} {l : List Ev} (h : Sn w wr Y g v l) (hb : Below wr.heap.size wr w') : Sn w w' Y g v l :=
  ⟨h.sp.below hb (Nat.le_refl _), h.ab, h.row.below hb (Nat.le_refl _), h.free, h.be.trans (hb.mono h.be.size), h.came⟩
set_option maxHeartbeats 4000000 in
theorem cseen_any (ao : Option Addr) (m c : Nat) (E : List Ev) (w : World) (hE : Evs w ao m c E) (hm : m ≤ 60) :
    Calls Tryz.prog 7 #[.slice ao m c] w fun x w' => ∃ (g : Nat) (Y : Lay) (v : Value) (l : List Ev), x = .returned (.tuple #[.pointer (some ⟨g, 0, none⟩), v]) ∧ Sn w w' Y g v l ∧ l.length ≤ m := by
  have HE : Aside (Evs w ao m c E) := hE
  have hN := new_any w
  clear hE
  go_enter Tryz.func7, Tryz.ntmps7
  go_wp2_with fail
  refine Calls.mono hN ?_
  rintro x w1 ⟨rfl, hw1⟩
  obtain ⟨g, hg⟩ : ∃ g, w.heap.size = g := ⟨_, rfl⟩
  have H0 : Aside (Sn w w1 lay0 g (.slice none 0 0) [] ∧ ([] : List Ev).length ≤ 0) := ⟨⟨by rw [hw1, ← hg]; exact sp_new w, by rw [← hg]; exact above_new w, row_nil _ _, (fun j hj => by cases hj), by rw [hw1]; exact (Below.refl _ w).alloc (Nat.le_refl _) _, Came.nil⟩, Nat.le_refl _⟩
  have HG : Hid (w.heap.size = g) := hg
  rw [hg]
  clear hN hw1 hg
  go_wp2_with fail
  go_loopw [5, 10] (fun v5 i wr => ∃ (k : Nat) (Y : Lay) (l : List Ev), k ≤ m ∧ i = .int .i64 (k : Int) ∧ Aside (Sn w wr Y g v5 l ∧ l.length ≤ k)) (fun _ i _ => m - (intOf i).toNat)
  case atStart => exact ⟨0, lay0, [], Nat.zero_le _, rfl, H0⟩
  case round =>
    clear H0
    obtain ⟨k, Y, l, hk, rfl, HS⟩ := hrel
    by_cases hlt : k < m
    · have hlt' : (k : Int) < (m : Int) := by omega
      have hll : l.length ≤ 60 := by have := HS.out.2; omega
      obtain ⟨b, off, u, rfl, hui, hu, hr, hbl⟩ := (HE.out.below HS.out.1.be (Nat.le_refl _)).at hlt
      have hu16 := hu.1
      have hix := fun W : World => index_ev W (b := b) (off := off) (k := k) (m := m) (c := c) hlt
      have hA := apply_any Y wr g (seenS l) u HS.out.1.sp HS.out.1.came.inv hu (by have := HS.out.1.came.short.1; omega)
      have HBL : Hid (b < wr.heap.size) := hbl
      have HU : Hid (Wide u) := hu
      clear hu hbl
      go_wp2_with (first | refine load_ev_mid rfl rfl rfl hr hu16 ?_)
      refine Calls.mono hA ?_
      rintro x w2 ⟨rfl, Y2, hS2, hT2⟩
      have hB := hT2.below HS.out.1.ab HS.out.1.be.size
      have hrow2 : Row w2 w.heap.size u5 l := HS.out.1.row.keep22 fun j hj => hT2.block j (HS.out.1.row.cellsAt j hj).2.1 (HS.out.1.free j hj).g (HS.out.1.free j hj).km (HS.out.1.free j hj).own
      have hfree2 : ∀ j, u5.ownBlock = some j → Free Y2 g j := fun j hj => hT2.free (HS.out.1.row.cellsAt j hj).2.1 (HS.out.1.free j hj)
      cases hre : readyE (seenS l) u
      · have hne : ¬ applyE (seenS l) u = 0 := by
          unfold applyE
          rw [hre]
          cases okev u <;> simp
        have hsame : applyS (seenS l) u = seenS l := by unfold applyS; rw [hre]; rfl
        rw [hsame] at hS2
        have HS2 : Aside (Sn w w2 Y2 g u5 l ∧ l.length ≤ k + 1) := ⟨⟨hS2, hB.2, hrow2, hfree2, HS.out.1.be.trans hB.1, HS.out.1.came⟩, by have := HS.out.2; omega⟩
        generalize applyE (seenS l) u = z at *
        have hz : (z == 0) = false := by simpa using hne
        clear hA hS2 hT2 hB hrow2 hfree2 hr hre hsame HS hix
        go_wp2
        go_roundw
        case rel => exact ⟨k + 1, Y2, l, by omega, by go_num, HS2⟩
        case measure => simp [intOf]; omega
      · have hok : okev u = true := by
          unfold readyE at hre
          simp only [Bool.and_eq_true] at hre
          exact hre.1
        have he0 : applyE (seenS l) u = 0 := by unfold applyE; rw [hok, hre]; rfl
        have hsee : applyS (seenS l) u = seeE (seenS l) u := by unfold applyS; rw [hre]; rfl
        rw [hsee, ← seenS_snoc] at hS2
        rw [he0]
        have hr2 : w2.rangeAt b (off + k * 26) (evl u) := by
          have := (HE.out.below (HS.out.1.be.trans hB.1) (Nat.le_refl _)).at hlt
          obtain ⟨b', off', u', e1, hui', hu', hr', -⟩ := this
          simp only [Option.some.injEq, Addr.mk.injEq, and_true] at e1
          obtain ⟨rfl, rfl⟩ := e1
          rw [hui] at hui'
          obtain rfl := Option.some.inj hui'
          exact hr'
        have hb6 : Below w2.heap.size w2 (w2.alloc (.cells (evc u) 47)) := (Below.refl _ w2).alloc (Nat.le_refl _) _
        have hF : Evs (w2.alloc (.cells (evc u) 47)) (some ⟨w2.heap.size, 0, none⟩) 1 1 [u] := evs_single _ _ u HU.out (liesE_new w2 u)
        have hRow : Row (w2.alloc (.cells (evc u) 47)) w.heap.size u5 l := hrow2.below hb6 (Nat.le_refl _)
        have hbe2 : Below w.heap.size w w2 := HS.out.1.be.trans hB.1
        have hle : w.heap.size ≤ (w2.alloc (.cells (evc u) 47)).heap.size := Nat.le_trans hbe2.size hb6.size
        have hS6 : SpK Y2 (w2.alloc (.cells (evc u) 47)) g (seenS (l ++ [u])) none := hS2.below hb6 (Nat.le_refl _)
        have HFIN : Hid (∀ v' w', Row w' w.heap.size v' (l ++ [u]) → (w2.alloc (.cells (evc u) 47)).grownBy w' u5.ownBlock → (∀ j, v'.ownBlock = some j → u5.ownBlock = some j ∨ w2.heap.size + 1 ≤ j) → Sn w w' Y2 g v' (l ++ [u]) ∧ (l ++ [u]).length ≤ k + 1) := fun v' w' h1 h2 h3 =>
          ⟨⟨hS6.kept (fun j hj hjo => h2.block j hj (fun e => by
              have hf := hfree2 j e.symm
              rcases hjo with h | h | h
              · exact hf.g h
              · exact hf.km h
              · exact h hf.own)) h2.size, hB.2, h1, fun j hj => by
              rcases h3 j hj with h | h
              · exact hfree2 j h
              · exact hS6.free_new (by simpa using h),
            (hbe2.trans (hb6.mono hbe2.size)).grown h2 hle (fun k e => (hRow.cellsAt k e).1), HS.out.1.came.snoc HU.out hre⟩, by rw [List.length_append]; have := HS.out.2; simp; omega⟩
        clear hA hS2 hT2 hB hrow2 hfree2 hr hre HS he0 hsee hok hbe2 hb6 hS6
        go_wp2_with (first
          | refine load_ev_mid rfl rfl rfl hr2 hu16 ?_
          | refine build_ev1 rfl rfl rfl hu16 ?_
          | refine wpList_appE rfl _ _ rfl w.heap.size _ l rfl hRow _ 1 1 [u] rfl hF (by omega) hle ?_)
        intro v' w' h1 h2 h3
        have H6 : Aside _ := HFIN.out v' w' h1 h2 h3
        clear h1 h2 h3 hr2 hF hRow hle HFIN hix
        go_wp2
        go_roundw
        case rel => exact ⟨k + 1, Y2, l ++ [u], by omega, by go_num, H6⟩
        case measure => simp [intOf]; omega
    · have hlt' : ¬ (k : Int) < (m : Int) := by omega
      have FIN : Hid (Sn w wr Y g u5 l ∧ l.length ≤ m) := ⟨HS.out.1, Nat.le_trans HS.out.2 hk⟩
      clear HS
      go_wp2
      go_ret2
      exact ⟨g, Y, _, rfl, l, FIN.out⟩
end Go.Proofs.YtmlfekbmbnfkjabGreatDoor

/-
  What a command comes to over a space, out of its row's planner; KEYS, TYPE, DEL.
-/
namespace Go.Proofs.YtmlfekbmbnfkjabGreatDoor
set_option maxRecDepth 100000
open Go.RowKit

def typS (s : St) (k : Key) : Int := typeE (ofKeyE k s.L) k
def Po.dif (b : Bool) (k : Int) (ky f v : List UInt8) (n r m : Int) : Po := if b then ⟨3, [], 1, [], k, ky, f, v, n, r, m, true⟩ else Po.tell 3 [] 0 []
theorem Po.dif_out (b : Bool) (k : Int) (ky f v : List UInt8) (n r m : Int) : (Po.dif b k ky f v n r m).out none 0 0 = outd b k ky f v n r m := by cases b <;> rfl
theorem Po.dif_L (b : Bool) (k : Int) (ky f v : List UInt8) (n r m : Int) : (Po.dif b k ky f v n r m).L = [] := by cases b <;> rfl
theorem typE_range (k : Int) : ∃ i : Nat, i < 7 ∧ typE k = (i : Int) := by
  unfold typE
  split
  · exact ⟨1, by omega, rfl⟩
  split
  · exact ⟨2, by omega, rfl⟩
  split
  · exact ⟨3, by omega, rfl⟩
  split
  · exact ⟨4, by omega, rfl⟩
  split
  · exact ⟨5, by omega, rfl⟩
  split
  · exact ⟨6, by omega, rfl⟩
  exact ⟨0, by omega, rfl⟩
theorem typS_range (s : St) (k : Key) : ∃ i : Nat, i < 7 ∧ typS s k = (i : Int) := by
  unfold typS typeE lastE
  split
  · exact typE_range _
  · exact ⟨0, by omega, rfl⟩
theorem rise_sub {L : List (List UInt8)} : ∀ t ∈ riseE L, t ∈ L := by
  intro t ht
  unfold riseE at ht
  split at ht
  · rename_i h
    exact (h.choose_spec.2 t).1 ht
  · cases ht
theorem rise_lt {L : List (List UInt8)} : (riseE L).Pairwise (· < ·) := by
  unfold riseE
  split
  · rename_i h
    exact h.choose_spec.1
  · exact List.Pairwise.nil
theorem nodup_short : ∀ {R L : List (List UInt8)}, R.Nodup → (∀ t ∈ R, t ∈ L) → R.length ≤ L.length
  | [], _, _, _ => Nat.zero_le _
  | x :: R, L, hn, hs => by
    obtain ⟨h1, h2⟩ := List.nodup_cons.1 hn
    have hx : x ∈ L := hs x (by simp)
    have := nodup_short (R := R) (L := L.erase x) h2 fun t ht => (List.mem_erase_of_ne (fun e => by subst e; exact h1 ht)).2 (hs t (by simp [ht]))
    rw [List.length_erase_of_mem hx] at this
    have hp : 0 < L.length := List.length_pos_of_mem hx
    simp only [List.length_cons]
    omega
theorem rise_short {L : List (List UInt8)} : (riseE L).length ≤ L.length :=
  nodup_short ((rise_lt (L := L)).imp fun h e => by subst e; exact List.lt_irrefl _ h) rise_sub
/-- Of what size a space is here. -/
structure Fine22 (s : St) : Prop where
  len : s.L.length + s.DL.length ≤ 900
  fld : ∀ a ∈ s.L, a.field.length ≤ 1000
  num : ∀ a ∈ s.L, -9223372036854775808 ≤ a.num ∧ a.num ≤ 9223372036854775807
/-- What is told where a space lies. -/
structure At22 (Y : Lay) (g : Nat) (s : St) (w : World) : Prop where
  sp : SpK Y w g s none
  fine : Fine22 s
theorem At22.below {Y : Lay} {g : Nat} {s : St} {w w' : World} (h : At22 Y g s w) (hb : Below w.heap.size w w') : At22 Y g s w' := ⟨h.sp.below hb (Nat.le_refl _), h.fine⟩
abbrev pg (g : Nat) : Option Addr := some ⟨g, 0, none⟩
section
variable {w : World}
theorem bare_dif {fn : FuncId} {p : Option Addr} {c : Cl} {b : Bool} {k : Int} {ky f v : List UInt8} {n r m : Int} (h : Calls Tryz.prog fn #[.pointer p, .agg (clc c)] w fun x w' => x = .returned (.agg (outd b k ky f v n r m)) ∧ Below w.heap.size w w') : PlanC fn p c (Po.dif b k ky f v n r m) w :=
  PlanC.bare (Po.dif_L _ _ _ _ _ _ _ _) (by rw [Po.dif_out]; exact h)
end
/-! The row of a name. -/
def ixN (nm : List UInt8) : Option Nat := TB.findIdx? fun r => decide (r.name = nm)
theorem ixN_find (nm : List UInt8) : rowN nm = (ixN nm).bind fun i => TB[i]? := by
  unfold rowN ixN
  rw [List.find?_eq_bind_findIdx?_getElem?]
theorem ixN_lt {nm : List UInt8} {i : Nat} (h : ixN nm = some i) : i < 25 ∧ ∃ r, TB[i]? = some r ∧ r.name = nm := by
  unfold ixN at h
  obtain ⟨h1, h2, -⟩ := List.findIdx?_eq_some_iff_getElem.1 h
  exact ⟨h1, _, List.getElem?_eq_getElem h1, of_decide_eq_true h2⟩
/-- A row's planner is a function of the program. -/
theorem row_enters {i : Nat} {r : Rw22} (h : TB[i]? = some r) : ∀ (xs : Array Value) (u : World), (callFunc r.fn xs).run Tryz.prog u = .ok (.enter r.fn xs) u := by
  match i, h with
  | 0, h => cases h; exact enters Tryz.func61 (by kernel_rfl) (by kernel_rfl)
  | 1, h => cases h; exact enters Tryz.func62 (by kernel_rfl) (by kernel_rfl)
  | 2, h => cases h; exact enters Tryz.func63 (by kernel_rfl) (by kernel_rfl)
  | 3, h => cases h; exact enters Tryz.func64 (by kernel_rfl) (by kernel_rfl)
  | 4, h => cases h; exact enters Tryz.func65 (by kernel_rfl) (by kernel_rfl)
  | 5, h => cases h; exact enters Tryz.func66 (by kernel_rfl) (by kernel_rfl)
  | 6, h => cases h; exact enters Tryz.func67 (by kernel_rfl) (by kernel_rfl)
  | 7, h => cases h; exact enters Tryz.func68 (by kernel_rfl) (by kernel_rfl)
  | 8, h => cases h; exact enters Tryz.func69 (by kernel_rfl) (by kernel_rfl)
  | 9, h => cases h; exact enters Tryz.func70 (by kernel_rfl) (by kernel_rfl)
  | 10, h => cases h; exact enters Tryz.func71 (by kernel_rfl) (by kernel_rfl)
  | 11, h => cases h; exact enters Tryz.func72 (by kernel_rfl) (by kernel_rfl)
  | 12, h => cases h; exact enters Tryz.func73 (by kernel_rfl) (by kernel_rfl)
  | 13, h => cases h; exact enters Tryz.func74 (by kernel_rfl) (by kernel_rfl)
  | 14, h => cases h; exact enters Tryz.func75 (by kernel_rfl) (by kernel_rfl)
  | 15, h => cases h; exact enters Tryz.func76 (by kernel_rfl) (by kernel_rfl)
  | 16, h => cases h; exact enters Tryz.func77 (by kernel_rfl) (by kernel_rfl)
  | 17, h => cases h; exact enters Tryz.func78 (by kernel_rfl) (by kernel_rfl)
  | 18, h => cases h; exact enters Tryz.func79 (by kernel_rfl) (by kernel_rfl)
  | 19, h => cases h; exact enters Tryz.func80 (by kernel_rfl) (by kernel_rfl)
  | 20, h => cases h; exact enters Tryz.func81 (by kernel_rfl) (by kernel_rfl)
  | 21, h => cases h; exact enters Tryz.func82 (by kernel_rfl) (by kernel_rfl)
  | 22, h => cases h; exact enters Tryz.func83 (by kernel_rfl) (by kernel_rfl)
  | 23, h => cases h; exact enters Tryz.func84 (by kernel_rfl) (by kernel_rfl)
  | 24, h => cases h; exact enters Tryz.func85 (by kernel_rfl) (by kernel_rfl)
  | i + 25, h => simp [TB] at h
noncomputable def planBy (D : Nat → Po) (s : St) (c : Cl) : Po := match ixN c.name with
  | none => Po.tell 2 [69, 82, 82] 0 []
  | some i => if !((TB.getD i ⟨[], [], 0, 0⟩).is == 0) && isoE (typS s c.key) (TB.getD i ⟨[], [], 0, 0⟩).is then Po.tell 2 [87, 82, 79, 78, 71, 84, 89, 80, 69] 0 [] else D i
theorem outcome_by (D : Nat → Po) {Y : Lay} {g : Nat} {s : St} {w : World} (c : Cl) (h : At22 Y g s w) (hP : ∀ i r, ixN c.name = some i → TB[i]? = some r → ∀ u, Below w.heap.size w u → At22 Y g s u → PlanC r.fn (pg g) c (D i) u) : PlanC 15 (pg g) c (planBy D s c) w := by
  cases hi : ixN c.name with
  | none =>
    have hN : rowN c.name = none := by rw [ixN_find, hi]; rfl
    have e : planBy D s c = Po.tell 2 [69, 82, 82] 0 [] := by unfold planBy; rw [hi]
    rw [e]
    exact PlanC.bare rfl (outcomeof_none _ c w hN)
  | some i =>
    obtain ⟨h25, r, hr, hn⟩ := ixN_lt hi
    have hN : rowN c.name = some r := by rw [ixN_find, hi]; exact hr
    have hg : TB.getD i ⟨[], [], 0, 0⟩ = r := by rw [List.getD_eq_getElem?_getD, hr]; rfl
    have e : planBy D s c = if !(r.is == 0) && isoE (typS s c.key) r.is then Po.tell 2 [87, 82, 79, 78, 71, 84, 89, 80, 69] 0 [] else D i := by
      unfold planBy
      rw [hi]
      show (if !((TB.getD i ⟨[], [], 0, 0⟩).is == 0) && isoE (typS s c.key) (TB.getD i ⟨[], [], 0, 0⟩).is then _ else _) = _
      rw [hg]
    have hT : ∀ u, Below w.heap.size w u → Calls Tryz.prog 28 #[.pointer (pg g), .string (sb c.key)] u fun x w' => x = .returned (.int .i64 (typS s c.key)) ∧ Below u.heap.size u w' := fun u hb => stype_any Y u g s c.key (h.below hb).sp (by have := h.fine.len; omega)
    have hQ := fun u (hb : Below w.heap.size w u) => hP i r hi hr u hb (h.below hb)
    rw [e]
    by_cases h0 : r.is = 0
    · rw [if_neg (by simp [h0])]
      exact outcomeofL_free _ c r _ w hN (row_enters hr) hQ h0
    · cases hz : isoE (typS s c.key) r.is
      · rw [if_neg (by simp)]
        exact outcomeofL_any _ c r _ _ w hN (row_enters hr) hQ hT h0 hz
      · rw [if_pos (by simp [h0])]
        exact PlanC.bare rfl (outcomeof_other _ c r _ w hN hT h0 hz)
/-- Plan, over a space. -/
theorem plan_by (D : Nat → Po) {Y : Lay} {g : Nat} {s : St} {w : World} (c : Cl) (h : At22 Y g s w) (hP : ∀ i r, ixN c.name = some i → TB[i]? = some r → ∀ u, Below w.heap.size w u → At22 Y g s u → PlanC r.fn (pg g) c (D i) u) :
    Calls Tryz.prog 8 #[.pointer (pg g), .agg (clc c)] w fun x w' => ∃ ao q cc, x = .returned (.tuple #[.agg ((planBy D s c).rep ao q cc), .agg (planBy D s c).op, .bool (planBy D s c).b]) ∧ TRow w' w.heap.size (.slice ao q cc) (planBy D s c).L ∧ Below w.heap.size w w' := by
  refine planL_any (fun pp u => pp = pg g ∧ At22 Y g s u) (pg g) c (planBy D s c) w (fun pp u u' hj hb => ⟨hj.1, hj.2.below hb⟩) (fun u hb => ?_) (fun u pp hb hj => ?_)
  · exact (ornew_some _ u).mono fun _ _ ⟨h1, h2⟩ => ⟨pg g, h1, ⟨rfl, (h.below hb).below h2⟩, h2⟩
  · obtain ⟨rfl, hj⟩ := hj
    exact outcome_by D c hj fun i r h1 h2 v hv h3 => hP i r h1 h2 v (hb.trans (hv.mono hb.size)) h3
section
variable {Y : Lay} {g : Nat} {s : St} {w : World}
theorem q_del (c : Cl) (h : At22 Y g s w) : PlanC 83 (pg g) c (Po.dif (!(typS s c.key == 0)) 11 c.key [] [] 0 0 0) w :=
  bare_dif (removekey_any _ c _ w fun u hb => stype_any Y u g s c.key (h.below hb).sp (by have := h.fine.len; omega))
theorem q_type (c : Cl) (h : At22 Y g s w) : PlanC 84 (pg g) c (Po.tell 1 (TYW.getD (typS s c.key).toNat []) 0 []) w := by
  obtain ⟨i, hi, e⟩ := typS_range s c.key
  have := telltype_any (pg g) c i hi w fun u hb => by
    have := stype_any Y u g s c.key (h.below hb).sp (by have := h.fine.len; omega)
    unfold typS at e
    rw [e] at this
    exact this
  have e2 : Po.tell 1 (TYW.getD (typS s c.key).toNat []) 0 [] = Po.tell 1 (TYW.getD i []) 0 [] := by
    rw [e]
    rfl
  rw [e2]
  exact PlanC.bare rfl this
theorem q_keys (c : Cl) (h : At22 Y g s w) : PlanC 85 (pg g) c (Po.tell 6 [] 0 (keysS s)) w :=
  tellkeys_any _ c _ w fun u hb => skeys_any Y u g s (h.below hb).sp (by have := h.fine.len; omega) (by have := h.fine.len; omega)
theorem planBy_free {D : Nat → Po} {s : St} {c : Cl} {i : Nat} (hi : ixN c.name = some i) (h0 : (TB.getD i ⟨[], [], 0, 0⟩).is = 0) : planBy D s c = D i := by
  unfold planBy
  rw [hi]
  show (if !((TB.getD i ⟨[], [], 0, 0⟩).is == 0) && isoE (typS s c.key) (TB.getD i ⟨[], [], 0, 0⟩).is then _ else _) = _
  rw [if_neg (by rw [h0]; simp)]
theorem ix_keys : ixN [75, 69, 89, 83] = some 24 := by decide
theorem ix_type : ixN [84, 89, 80, 69] = some 23 := by decide
theorem ix_del : ixN [68, 69, 76] = some 22 := by decide
/-- Plan's answer. -/
abbrev PlanT (p : Option Addr) (c : Cl) (O : Po) (w : World) : Prop := Calls Tryz.prog 8 #[.pointer p, .agg (clc c)] w fun x w' => ∃ ao q cc, x = .returned (.tuple #[.agg (O.rep ao q cc), .agg O.op, .bool O.b]) ∧ TRow w' w.heap.size (.slice ao q cc) O.L ∧ Below w.heap.size w w'
theorem plan_row (c : Cl) (h : At22 Y g s w) {i : Nat} {r : Rw22} {O : Po} (hi : ixN c.name = some i) (hr : TB[i]? = some r) (h0 : r.is = 0) (hP : ∀ u, Below w.heap.size w u → At22 Y g s u → PlanC r.fn (pg g) c O u) : PlanT (pg g) c O w := by
  have := plan_by (fun _ => O) c h (fun j r' h1 h2 u hb hA => by
    rw [hi] at h1
    obtain rfl := Option.some.inj h1
    rw [hr] at h2
    obtain rfl := Option.some.inj h2
    exact hP u hb hA)
  rw [planBy_free hi (by rw [List.getD_eq_getElem?_getD, hr]; exact h0)] at this
  exact this
theorem plan_keys (h : At22 Y g s w) : PlanT (pg g) ⟨[75, 69, 89, 83], [], [], [], 0, 0⟩ (Po.tell 6 [] 0 (keysS s)) w := plan_row _ h ix_keys rfl rfl fun _ _ hA => q_keys _ hA
theorem plan_type (k : List UInt8) (h : At22 Y g s w) : PlanT (pg g) ⟨[84, 89, 80, 69], k, [], [], 0, 0⟩ (Po.tell 1 (TYW.getD (typS s k).toNat []) 0 []) w := plan_row _ h ix_type rfl rfl fun _ _ hA => q_type _ hA
theorem plan_del (k : List UInt8) (h : At22 Y g s w) : PlanT (pg g) ⟨[68, 69, 76], k, [], [], 0, 0⟩ (Po.dif (!(typS s k == 0)) 11 k [] [] 0 0 0) w := plan_row _ h ix_del rfl rfl fun _ _ hA => q_del _ hA
end
end Go.Proofs.YtmlfekbmbnfkjabGreatDoor

/-
  What the laws on Plan share: a reply and an operation that are laid; spaces that came of events.
-/
namespace Go.Proofs.YtmlfekbmbnfkjabGreatDoor
set_option maxRecDepth 100000
open Go.RowKit

theorem po_rep_one (O : Po) (ao : Option Addr) (q cc : Nat) : (O.rep ao q cc).all (·.oneCell') = true := repc_one _ _ _ _ _ _
theorem po_op_one (O : Po) : O.op.all (·.oneCell') = true := opx_one _ _ _ _ _ _ _
/-- A reply's and an operation's variable, each laid and stored into. -/
theorem two_laid (w : World) (O : Po) (ao : Option Addr) (q cc : Nat) : ∃ W2 W3,
    (storeVar 30 ⟨w.heap.size, 0, none⟩ (.agg (O.rep ao q cc))).run Tryz.prog ((w.alloc (.cells repz 30)).alloc (.cells opzz 34)) = .ok () W2 ∧
    (storeVar 34 ⟨w.heap.size + 1, 0, none⟩ (.agg O.op)).run Tryz.prog W2 = .ok () W3 ∧
    W3.heap[w.heap.size]? = some (.cells (O.rep ao q cc) 30 (0, 0)) ∧ W3.heap[w.heap.size + 1]? = some (.cells O.op 34 (0, 0)) ∧ Below w.heap.size w W3 ∧ w.heap.size + 2 = W3.heap.size := by
  have h0 : ((w.alloc (.cells repz 30)).alloc (.cells opzz 34)).heap[w.heap.size]? = some (.cells repz 30 (0, 0)) := by rw [Below.heap_alloc _ _ _ (by simp)]; exact heap_alloc_new w _
  have h1 := alloc_two w (.cells repz 30) (.cells opzz 34)
  have hb := below_two w (.cells repz 30) (.cells opzz 34)
  have hsz : ((w.alloc (.cells repz 30)).alloc (.cells opzz 34)).heap.size = w.heap.size + 2 := by simp
  generalize (w.alloc (.cells repz 30)).alloc (.cells opzz 34) = W at *
  have hs1 := storeVar_rep (cs := O.rep ao q cc) h0 rfl rfl (po_rep_one O ao q cc)
  have g0 := setRow_heap W w.heap.size _ (O.rep ao q cc) _ _ h0
  have g1 := (setRow_ne22 W w.heap.size (w.heap.size + 1) (O.rep ao q cc) (by omega)).trans h1
  have b1 : Below w.heap.size w (W.setRow w.heap.size (O.rep ao q cc)) := below_setRow hb (Nat.le_refl _) _
  have z1 : (W.setRow w.heap.size (O.rep ao q cc)).heap.size = w.heap.size + 2 := by rw [← hsz]; simp [World.setRow]
  generalize W.setRow w.heap.size (O.rep ao q cc) = W2 at *
  have hs2 := storeVar_opr (cs := O.op) g1 rfl rfl (po_op_one O)
  refine ⟨W2, _, hs1, hs2, (setRow_ne22 W2 (w.heap.size + 1) w.heap.size O.op (by omega)).trans g0, setRow_heap W2 _ _ O.op _ _ g1, below_setRow b1 (by omega) _, ?_⟩
  rw [← z1]; simp [World.setRow]
theorem ev_texts {e : Ev} (h : okev e = true) : e.key ≠ [] ∧ e.key.length ≤ 64 ∧ e.field.length ≤ 64 ∧ e.value.length ≤ 64 ∧ -1099511627776 ≤ e.num ∧ e.num ≤ 1099511627776 := by
  obtain ⟨-, -, -, -, h5, h6, h7, -, -⟩ := okev_parts h
  obtain ⟨t1, t2, t3⟩ := of_decide_eq_true h6
  obtain ⟨n1, n2⟩ := of_decide_eq_true h7
  exact ⟨h5, t1, t2, t3, n1, n2⟩
theorem came_fine {l : List Ev} (h : Came l) (hl : l.length ≤ 400) : Fine22 (seenS l) := by
  refine ⟨by have := h.short; omega, fun a ha => ?_, fun a ha => ?_⟩
  · have := ev_texts (h.ok a (h.mem.1 ha).1)
    omega
  · have := ev_texts (h.ok a (h.mem.1 ha).1)
    omega
theorem Sn.at22 {w wr : World} {Y : Lay} {g : Nat} {v : Value} {l : List Ev} (h : Sn w wr Y g v l) (hl : l.length ≤ 400) : At22 Y g (seenS l) wr := ⟨h.sp, came_fine h.came hl⟩
theorem sb_lit (T l : List UInt8) : ((sb T).toList == l) = decide (T = l) := by
  rw [ByteArray.toList_eq, data_sb, Bool.eq_iff_iff]
  simp
theorem dups_nodup (L : List (List UInt8)) : L.eraseDups.Nodup := by
  induction h : L.length using Nat.strongRecOn generalizing L with
  | ind n ih =>
    cases L with
    | nil => simp
    | cons a L =>
      rw [List.eraseDups_cons, List.nodup_cons]
      refine ⟨fun hm => ?_, ih _ ?_ _ rfl⟩
      · rw [List.mem_eraseDups] at hm
        have := (List.mem_filter.1 hm).2
        simp at this
      · have := List.length_filter_le (fun b => !b == a) L
        simp only [List.length_cons] at h
        omega
/-- Each list can be put so that it rises. -/
noncomputable def riseM (L : List (List UInt8)) : List (List UInt8) := tsort L.eraseDups
theorem rise_made (L : List (List UInt8)) : (riseM L).Pairwise (· < ·) := by
  have h1 : (riseM L).Pairwise (fun a b => a ≤ b) := (List.pairwise_mergeSort (fun a b c h1 h2 => by simp only [decide_eq_true_eq] at *; exact List.le_trans h1 h2) (fun a b => by simp only [Bool.or_eq_true, decide_eq_true_eq]; exact List.le_total a b) L.eraseDups).imp (fun h => of_decide_eq_true h)
  exact pairwise_lt h1 ((List.mergeSort_perm L.eraseDups _).nodup_iff.2 (dups_nodup L))
theorem rise_made_mem (L : List (List UInt8)) (z : List UInt8) : z ∈ riseM L ↔ z ∈ L := by
  unfold riseM tsort
  rw [(List.mergeSort_perm L.eraseDups _).mem_iff, List.mem_eraseDups]
/-- A key is told just if it has a type. -/
theorem mem_keysS {s : St} {k : Key} : k ∈ keysS s ↔ typS s k ≠ 0 := by
  constructor
  · intro h
    have := (List.mem_filter.1 (rise_sub _ h)).2
    unfold hasT at this
    unfold typS
    simpa using this
  · intro h
    have h1 : hasT s k = true := by unfold hasT; unfold typS at h; simpa using h
    have h2 := hasT_key h1
    obtain ⟨e, he⟩ := List.exists_mem_of_ne_nil _ h2
    obtain ⟨h3, h4⟩ := List.mem_filter.1 he
    have h5 : k ∈ (s.L.map Ev.key).filter (hasT s) := List.mem_filter.2 ⟨List.mem_map.2 ⟨e, h3, by simpa using h4⟩, h1⟩
    unfold keysS riseE
    rw [dif_pos ⟨_, rise_made _, rise_made_mem _⟩]
    exact ((Classical.choose_spec (⟨_, rise_made _, rise_made_mem _⟩ : ∃ R : List (List UInt8), R.Pairwise (· < ·) ∧ ∀ z, z ∈ R ↔ z ∈ (s.L.map Ev.key).filter (hasT s))).2 k).2 h5
theorem keys_short (s : St) : (keysS s).length ≤ s.L.length := Nat.le_trans rise_short (Nat.le_trans (List.length_filter_le _ _) (by rw [List.length_map]; exact Nat.le_refl _))
theorem tyw_none {i : Nat} (hi : i < 7) : (TYW.getD i [] = [110, 111, 110, 101]) ↔ i = 0 := by
  revert i
  decide
end Go.Proofs.YtmlfekbmbnfkjabGreatDoor

/-
  CommandKeys: of the keys that KEYS tells each has a type, of a key that it doesn't tell TYPE tells none, and DEL does nothing; whatever was seen. For every input.
-/
namespace Go.Proofs.YtmlfekbmbnfkjabGreatDoor
set_option maxRecDepth 100000
open Go.RowKit

set_option maxHeartbeats 8000000 in
theorem keys_walk (ao : Option Addr) (m c : Nat) (E : List Ev) (kb : ByteArray) (w : World) (hE : Evs w ao m c E) (ht : Tb w) :
    Calls Tryz.prog 3 #[.slice ao m c, .string kb] w fun x w' => x = .returned (.bool true) ∧ Below w.heap.size w w' := by
  obtain ⟨ky, rfl⟩ : ∃ ky, kb = sb ky := ⟨kb.data.toList, by cases kb; simp [sb]⟩
  have hsz : (sb ky).size = ky.length := size_sb ky
  have HE : Aside (Evs w ao m c E ∧ Tb w) := ⟨hE, ht⟩
  have hA := cawake_any w ht
  clear hE ht
  go_enter Tryz.func3, Tryz.ntmps3
  go_wp2_with fail
  refine Calls.mono hA ?_
  rintro x w1 ⟨rfl, hb1⟩
  have HB1 : Hid (Below w.heap.size w w1) := hb1
  have hF := cfew_any ao m c E w1 (HE.out.1.below hb1 (Nat.le_refl _))
  clear hA hb1
  go_wp2_with fail
  refine Calls.mono hF ?_
  rintro x w2 ⟨t, rfl, h60, hb2⟩
  have HB2 : Hid (Below w.heap.size w w2) := HB1.out.trans (hb2.mono HB1.out.size)
  have H60 : Hid (t = true → m ≤ 60) := h60
  have hA2 := cawake_any w2 (HE.out.2.below HB2.out)
  have HL : Hid ((∀ w3, Below w2.heap.size w2 w3 → Below w.heap.size w w3)) := fun w3 hb3 => HB2.out.trans (hb3.mono HB2.out.size)
  obtain ⟨kl, hkl⟩ : ∃ kl, ky.length = kl := ⟨_, rfl⟩
  rw [hkl] at hsz
  clear hF hb2 h60 hkl
  cases t with
  | false =>
    go_wp2_with fail
    refine Calls.mono hA2 ?_
    rintro x w3 ⟨rfl, hb3⟩
    have FIN : Hid (Below w.heap.size w w3) := HL.out w3 hb3
    clear hb3 hA2
    go_wp2
    go_ret
    exact ⟨rfl, FIN.out⟩
  | true =>
    have hm60 := H60.out rfl
    by_cases hk1 : (kl : Int) < 1
    · go_wp2_with fail
      refine Calls.mono hA2 ?_
      rintro x w3 ⟨rfl, hb3⟩
      have FIN : Hid (Below w.heap.size w w3) := HL.out w3 hb3
      clear hb3 hA2
      go_wp2
      go_ret
      exact ⟨rfl, FIN.out⟩
    by_cases hk2 : (64 : Int) < kl
    · go_wp2_with fail
      refine Calls.mono hA2 ?_
      rintro x w3 ⟨rfl, hb3⟩
      have FIN : Hid (Below w.heap.size w w3) := HL.out w3 hb3
      clear hb3 hA2
      go_wp2
      go_ret
      exact ⟨rfl, FIN.out⟩
    clear hA2 HL
    have hC := cseen_any ao m c E w2 (HE.out.1.below HB2.out (Nat.le_refl _)) hm60
    go_wp2_with fail
    refine Calls.mono hC ?_
    rintro x w3 ⟨g, Y, v, l, rfl, hSn, hlm⟩
    have hwb : Below w.heap.size w w3 := HB2.out.trans (hSn.be.mono HB2.out.size)
    have hAt := hSn.at22 (by omega)
    have hsl := hSn.came.short
    obtain ⟨s, hs⟩ : ∃ s, seenS l = s := ⟨_, rfl⟩
    rw [hs] at hAt hsl
    have HUw3 : Hid (At22 Y g s w3 ∧ Tb w3 ∧ Below w.heap.size w w3) := ⟨hAt, HE.out.2.below hwb, hwb⟩
    have HSL : Hid (s.L.length ≤ 60) := by show s.L.length ≤ 60; have := hsl.1; omega
    clear hC hSn hwb hAt hsl hs hlm HB1 HB2 HE H60
    have hP := plan_keys HUw3.out.1
    go_wp2_with fail
    refine Calls.mono hP ?_
    rintro x W4a ⟨aoW4, qW4, cW4, rfl, hT, hb⟩
    obtain ⟨W4b, W4, hs1, hs2, hg1, hg2, hb2, hsz⟩ := two_laid W4a (Po.tell 6 [] 0 (keysS s)) aoW4 qW4 cW4
    have hbb : Below w3.heap.size w3 W4 := hb.trans (hb2.mono hb.size)
    have HUW4 : Hid (At22 Y g s W4 ∧ Tb W4 ∧ Below w.heap.size w W4) := ⟨HUw3.out.1.below hbb, HUw3.out.2.1.below hbb, HUw3.out.2.2.trans (hbb.mono HUw3.out.2.2.size)⟩
    have HBW4 : Hid (Below w3.heap.size w3 W4) := hbb
    have HTW4 : Hid (TRow W4 w3.heap.size (.slice aoW4 qW4 cW4) (Po.tell 6 [] 0 (keysS s)).L) := hT.below hb2 (Nat.le_refl _)
    have HGW4 : Hid (W4.heap[W4a.heap.size]? = some (.cells ((Po.tell 6 [] 0 (keysS s)).rep aoW4 qW4 cW4) 30 (0, 0)) ∧ W4.heap[W4a.heap.size + 1]? = some (.cells (Po.tell 6 [] 0 (keysS s)).op 34 (0, 0)) ∧ W4a.heap.size + 2 = W4.heap.size ∧ w3.heap.size ≤ W4a.heap.size) := ⟨hg1, hg2, hsz, hb.size⟩
    clear hP hT hb hb2 hbb hg1 hg2 hsz
    obtain ⟨N, hN⟩ : ∃ N, (keysS s).length = N := ⟨_, rfl⟩
    have HT0 : Hid (TRow W4 w3.heap.size (.slice aoW4 qW4 cW4) (keysS s)) := HTW4.out
    obtain ⟨a8, c8, e8, hTL⟩ := HT0.out.tl
    simp only [Value.slice.injEq] at e8
    obtain ⟨rfl, e9, rfl⟩ := e8
    rw [hN] at e9
    subst e9
    have HTL : Hid (TL W4 aoW4 (keysS s) ∧ (keysS s).length = qW4 ∧ qW4 ≤ 60) := ⟨hTL, hN, by have := keys_short s; have := HSL.out; omega⟩
    have hq60 : qW4 ≤ 60 := HTL.out.2.2
    have hcl : W4.cell? ⟨W4a.heap.size, 3, none⟩ = some (.slice aoW4 qW4 cW4) := by rw [cell_of_row W4 _ 3 _ _ _ HGW4.out.1]; rfl
    have HR : Hid (∀ W, Below W4.heap.size W4 W → W.cell? ⟨W4a.heap.size, 3, none⟩ = some (.slice aoW4 qW4 cW4) ∧ W.cell? ⟨W4a.heap.size, 0, none⟩ = some (.int .i64 6)) := fun W hb => ⟨(hb.cell (p := ⟨W4a.heap.size, 3, none⟩) (by have := HGW4.out.2.2.1; show W4a.heap.size < _; omega)).trans hcl, (hb.cell (p := ⟨W4a.heap.size, 0, none⟩) (by have := HGW4.out.2.2.1; show W4a.heap.size < _; omega)).trans (by rw [cell_of_row W4 _ 0 _ _ _ HGW4.out.1]; rfl)⟩
    clear hTL hN
    go_wp2_with (first | (refine wpList_storeR (ty := 30) (x := .tmp 7) (y := .tmp 51) (ad := ⟨W4a.heap.size, 0, none⟩) (v := .agg ((Po.tell 6 [] 0 (keysS s)).rep aoW4 qW4 cW4)) (w' := W4b) rfl rfl rfl rfl hs1 ?_) | (refine wpList_storeR (ty := 34) (x := .tmp 8) (y := .tmp 52) (ad := ⟨W4a.heap.size + 1, 0, none⟩) (v := .agg ((Po.tell 6 [] 0 (keysS s)).op)) (w' := W4) rfl rfl rfl rfl hs2 ?_))
    clear hs1 hs2 hcl
    go_loopw [10, 57] (fun vb i wr => ∃ k : Nat, k ≤ qW4 ∧ i = .int .i64 (k : Int) ∧ vb = .bool (decide (ky ∈ (keysS s).take k)) ∧ Hid (Below W4.heap.size W4 wr)) (fun _ i _ => qW4 - (intOf i).toNat)
    case atStart => exact ⟨0, Nat.zero_le _, rfl, rfl, Below.refl _ _⟩
    case round =>
      obtain ⟨k, hk, rfl, rfl, HW⟩ := hrel
      have HUwr : Hid (At22 Y g s wr ∧ Tb wr ∧ Below w.heap.size w wr) := ⟨HUW4.out.1.below HW.out, HUW4.out.2.1.below HW.out, HUW4.out.2.2.trans (HW.out.mono HUW4.out.2.2.size)⟩
      have hcl := (HR.out wr HW.out).1
      by_cases hlt : k < qW4
      · have hlt' : (k : Int) < (qW4 : Int) := by omega
        obtain ⟨u, hu⟩ : ∃ u, (keysS s)[k]? = some u := ⟨_, List.getElem?_eq_getElem (by have := HTL.out.2.1; omega)⟩
        obtain ⟨b, rfl, hce⟩ := HTL.out.1 k u hu
        have hcu : wr.cell? ⟨b, k, none⟩ = some (.string (sb u)) := (HW.out.cell (World.block_lt_of_cell? _ _ hce)).trans hce
        have HU9 : Hid ((keysS s)[k]? = some u) := hu
        have HCE : Hid (W4.cell? ⟨b, k, none⟩ = some (.string (sb u))) := hce
        clear hu hce
        have hP := plan_type u HUwr.out.1
        go_wp2_with fail
        refine Calls.mono hP ?_
        rintro x W5a ⟨aoW5, qW5, cW5, rfl, hT, hb⟩
        obtain ⟨W5b, W5, hs1, hs2, hg1, hg2, hb2, hsz⟩ := two_laid W5a (Po.tell 1 (TYW.getD (typS s u).toNat []) 0 []) aoW5 qW5 cW5
        have hbb : Below wr.heap.size wr W5 := hb.trans (hb2.mono hb.size)
        have HUW5 : Hid (At22 Y g s W5 ∧ Tb W5 ∧ Below w.heap.size w W5) := ⟨HUwr.out.1.below hbb, HUwr.out.2.1.below hbb, HUwr.out.2.2.trans (hbb.mono HUwr.out.2.2.size)⟩
        have HBW5 : Hid (Below wr.heap.size wr W5) := hbb
        have HTW5 : Hid (TRow W5 wr.heap.size (.slice aoW5 qW5 cW5) (Po.tell 1 (TYW.getD (typS s u).toNat []) 0 []).L) := hT.below hb2 (Nat.le_refl _)
        have HGW5 : Hid (W5.heap[W5a.heap.size]? = some (.cells ((Po.tell 1 (TYW.getD (typS s u).toNat []) 0 []).rep aoW5 qW5 cW5) 30 (0, 0)) ∧ W5.heap[W5a.heap.size + 1]? = some (.cells (Po.tell 1 (TYW.getD (typS s u).toNat []) 0 []).op 34 (0, 0)) ∧ W5a.heap.size + 2 = W5.heap.size ∧ wr.heap.size ≤ W5a.heap.size) := ⟨hg1, hg2, hsz, hb.size⟩
        clear hP hT hb hb2 hbb hg1 hg2 hsz
        have hcl5 := (HR.out W5 (HW.out.trans (HBW5.out.mono HW.out.size))).1
        have hcu5 : W5.cell? ⟨b, k, none⟩ = some (.string (sb u)) := (HBW5.out.cell (World.block_lt_of_cell? _ _ hcu)).trans hcu
        clear hcl hcu
        have hP := plan_del u HUW5.out.1
        go_wp2_with (first | (refine wpList_storeR (ty := 30) (x := .tmp 12) (y := .tmp 69) (ad := ⟨W5a.heap.size, 0, none⟩) (v := .agg ((Po.tell 1 (TYW.getD (typS s u).toNat []) 0 []).rep aoW5 qW5 cW5)) (w' := W5b) rfl rfl rfl rfl hs1 ?_) | (refine wpList_storeR (ty := 34) (x := .tmp 13) (y := .tmp 70) (ad := ⟨W5a.heap.size + 1, 0, none⟩) (v := .agg ((Po.tell 1 (TYW.getD (typS s u).toNat []) 0 []).op)) (w' := W5) rfl rfl rfl rfl hs2 ?_))
        clear hs1 hs2
        refine Calls.mono hP ?_
        rintro x W6a ⟨aoW6, qW6, cW6, rfl, hT, hb⟩
        obtain ⟨W6b, W6, hs1, hs2, hg1, hg2, hb2, hsz⟩ := two_laid W6a (Po.dif (!(typS s u == 0)) 11 u [] [] 0 0 0) aoW6 qW6 cW6
        have hbb : Below W5.heap.size W5 W6 := hb.trans (hb2.mono hb.size)
        have HUW6 : Hid (At22 Y g s W6 ∧ Tb W6 ∧ Below w.heap.size w W6) := ⟨HUW5.out.1.below hbb, HUW5.out.2.1.below hbb, HUW5.out.2.2.trans (hbb.mono HUW5.out.2.2.size)⟩
        have HBW6 : Hid (Below W5.heap.size W5 W6) := hbb
        have HTW6 : Hid (TRow W6 W5.heap.size (.slice aoW6 qW6 cW6) (Po.dif (!(typS s u == 0)) 11 u [] [] 0 0 0).L) := hT.below hb2 (Nat.le_refl _)
        have HGW6 : Hid (W6.heap[W6a.heap.size]? = some (.cells ((Po.dif (!(typS s u == 0)) 11 u [] [] 0 0 0).rep aoW6 qW6 cW6) 30 (0, 0)) ∧ W6.heap[W6a.heap.size + 1]? = some (.cells (Po.dif (!(typS s u == 0)) 11 u [] [] 0 0 0).op 34 (0, 0)) ∧ W6a.heap.size + 2 = W6.heap.size ∧ W5.heap.size ≤ W6a.heap.size) := ⟨hg1, hg2, hsz, hb.size⟩
        clear hP hT hb hb2 hbb hg1 hg2 hsz
        have hty : typS s u ≠ 0 := mem_keysS.1 (List.mem_of_getElem? HU9.out)
        obtain ⟨i, hi7, hti⟩ := typS_range s u
        have hi0 : i ≠ 0 := fun e => hty (by rw [hti, e]; rfl)
        have hd0 : (!(typS s u == 0)) = true := by simpa using hty
        have c50 : W6.cell? ⟨W5a.heap.size, 0, none⟩ = some (.int .i64 1) := (HBW6.out.cell (p := ⟨W5a.heap.size, 0, none⟩) (by have := HGW5.out.2.2.1; show W5a.heap.size < _; omega)).trans (by rw [cell_of_row W5 _ 0 _ _ _ HGW5.out.1]; rfl)
        have c51 : W6.cell? ⟨W5a.heap.size, 1, none⟩ = some (.string (sb (TYW.getD (typS s u).toNat []))) := (HBW6.out.cell (p := ⟨W5a.heap.size, 1, none⟩) (by have := HGW5.out.2.2.1; show W5a.heap.size < _; omega)).trans (by rw [cell_of_row W5 _ 1 _ _ _ HGW5.out.1]; rfl)
        have c62 : W6.cell? ⟨W6a.heap.size, 2, none⟩ = some (.int .i64 1) := by
          have h := HGW6.out.1
          have e : Po.dif (!(typS s u == 0)) 11 u [] [] 0 0 0 = ⟨3, [], 1, [], 11, u, [], [], 0, 0, 0, true⟩ := by
            show Po.dif (!(typS s u == 0)) 11 u [] [] 0 0 0 = _
            rw [hd0]
            rfl
          rw [e] at h
          rw [cell_of_row W6 _ 2 _ _ _ h]
          rfl
        have hdb : (Po.dif (!(typS s u == 0)) 11 u [] [] 0 0 0).b = true := by
          show (Po.dif (!(typS s u == 0)) 11 u [] [] 0 0 0).b = true
          rw [hd0]
          rfl
        have hTN : TYW.getD (typS s u).toNat [] ≠ [110, 111, 110, 101] := by
          rw [hti]
          exact fun e => hi0 ((tyw_none hi7).1 e)
        generalize TYW.getD (typS s u).toNat [] = T at *
        have hq1 : ((sb T).toList == [110, 111, 110, 101]) = false := by rw [sb_lit]; exact decide_eq_false hTN
        have hcl6 := (HR.out W6 ((HW.out.trans (HBW5.out.mono HW.out.size)).trans (HBW6.out.mono (HW.out.trans (HBW5.out.mono HW.out.size)).size))).1
        have hcu6 : W6.cell? ⟨b, k, none⟩ = some (.string (sb u)) := (HBW6.out.cell (World.block_lt_of_cell? _ _ hcu5)).trans hcu5
        have hq2 : ((sb u).toList == (sb ky).toList) = decide (u = ky) := sb_beq _ _
        have HNX : Hid (decide (ky ∈ (keysS s).take (k + 1)) = (decide (ky ∈ (keysS s).take k) || decide (u = ky))) := by
          show _ = _
          rw [List.take_add_one, HU9.out, Bool.eq_iff_iff]
          simp only [List.mem_append, Option.toList_some, List.mem_singleton, Bool.or_eq_true, decide_eq_true_eq]
          exact or_congr_right ⟨Eq.symm, Eq.symm⟩
        have HW6 : Hid (Below W4.heap.size W4 W6) := (HW.out.trans (HBW5.out.mono HW.out.size)).trans (HBW6.out.mono (HW.out.trans (HBW5.out.mono HW.out.size)).size)
        clear hcl5 hcu5 hty hti hi0 hi7 hd0 hTN HBW5 HBW6 HGW5 HGW6 HTW5 HTW6 HUwr HUW5 HUW6 HW
        cases hin : decide (ky ∈ (keysS s).take k)
        · generalize decide (u = ky) = z at *
          have HNX : Hid (decide (ky ∈ (keysS s).take (k + 1)) = z) := by
            show _ = _
            have := HNX.out
            rw [hin] at this
            simpa using this
          rw [hdb]
          go_wp2_with (first | (refine wpList_storeR (ty := 30) (x := .tmp 15) (y := .tmp 81) (ad := ⟨W6a.heap.size, 0, none⟩) (v := .agg ((Po.dif (!(typS s u == 0)) 11 u [] [] 0 0 0).rep aoW6 qW6 cW6)) (w' := W6b) rfl rfl rfl rfl hs1 ?_) | (refine wpList_storeR (ty := 34) (x := .tmp 16) (y := .tmp 82) (ad := ⟨W6a.heap.size + 1, 0, none⟩) (v := .agg ((Po.dif (!(typS s u == 0)) 11 u [] [] 0 0 0).op)) (w' := W6) rfl rfl rfl rfl hs2 ?_))
          go_roundw
          case rel => exact ⟨k + 1, by omega, by go_num, by rw [HNX.out], HW6⟩
          case measure => simp [intOf]; omega
        · generalize decide (u = ky) = z at *
          have HNX : Hid (decide (ky ∈ (keysS s).take (k + 1)) = true) := by
            show _ = _
            have := HNX.out
            rw [hin] at this
            simpa using this
          rw [hdb]
          go_wp2_with (first | (refine wpList_storeR (ty := 30) (x := .tmp 15) (y := .tmp 81) (ad := ⟨W6a.heap.size, 0, none⟩) (v := .agg ((Po.dif (!(typS s u == 0)) 11 u [] [] 0 0 0).rep aoW6 qW6 cW6)) (w' := W6b) rfl rfl rfl rfl hs1 ?_) | (refine wpList_storeR (ty := 34) (x := .tmp 16) (y := .tmp 82) (ad := ⟨W6a.heap.size + 1, 0, none⟩) (v := .agg ((Po.dif (!(typS s u == 0)) 11 u [] [] 0 0 0).op)) (w' := W6) rfl rfl rfl rfl hs2 ?_))
          go_roundw
          case rel => exact ⟨k + 1, by omega, by go_num, by rw [HNX.out], HW6⟩
          case measure => simp [intOf]; omega
      · have hlt' : ¬ (k : Int) < (qW4 : Int) := by omega
        have HIN : Hid (decide (ky ∈ (keysS s).take k) = decide (ky ∈ keysS s)) := by
          show _ = _
          rw [List.take_of_length_le (by have := HTL.out.2.1; omega)]
        rw [HIN.out]
        clear hcl
        have hP := plan_type ky HUwr.out.1
        go_wp2_with fail
        refine Calls.mono hP ?_
        rintro x W7a ⟨aoW7, qW7, cW7, rfl, hT, hb⟩
        obtain ⟨W7b, W7, hs1, hs2, hg1, hg2, hb2, hsz⟩ := two_laid W7a (Po.tell 1 (TYW.getD (typS s ky).toNat []) 0 []) aoW7 qW7 cW7
        have hbb : Below wr.heap.size wr W7 := hb.trans (hb2.mono hb.size)
        have HUW7 : Hid (At22 Y g s W7 ∧ Tb W7 ∧ Below w.heap.size w W7) := ⟨HUwr.out.1.below hbb, HUwr.out.2.1.below hbb, HUwr.out.2.2.trans (hbb.mono HUwr.out.2.2.size)⟩
        have HBW7 : Hid (Below wr.heap.size wr W7) := hbb
        have HTW7 : Hid (TRow W7 wr.heap.size (.slice aoW7 qW7 cW7) (Po.tell 1 (TYW.getD (typS s ky).toNat []) 0 []).L) := hT.below hb2 (Nat.le_refl _)
        have HGW7 : Hid (W7.heap[W7a.heap.size]? = some (.cells ((Po.tell 1 (TYW.getD (typS s ky).toNat []) 0 []).rep aoW7 qW7 cW7) 30 (0, 0)) ∧ W7.heap[W7a.heap.size + 1]? = some (.cells (Po.tell 1 (TYW.getD (typS s ky).toNat []) 0 []).op 34 (0, 0)) ∧ W7a.heap.size + 2 = W7.heap.size ∧ wr.heap.size ≤ W7a.heap.size) := ⟨hg1, hg2, hsz, hb.size⟩
        clear hP hT hb hb2 hbb hg1 hg2 hsz
        have hP := plan_del ky HUW7.out.1
        go_wp2_with (first | (refine wpList_storeR (ty := 30) (x := .tmp 18) (y := .tmp 117) (ad := ⟨W7a.heap.size, 0, none⟩) (v := .agg ((Po.tell 1 (TYW.getD (typS s ky).toNat []) 0 []).rep aoW7 qW7 cW7)) (w' := W7b) rfl rfl rfl rfl hs1 ?_) | (refine wpList_storeR (ty := 34) (x := .tmp 19) (y := .tmp 118) (ad := ⟨W7a.heap.size + 1, 0, none⟩) (v := .agg ((Po.tell 1 (TYW.getD (typS s ky).toNat []) 0 []).op)) (w' := W7) rfl rfl rfl rfl hs2 ?_))
        clear hs1 hs2
        refine Calls.mono hP ?_
        rintro x W8a ⟨aoW8, qW8, cW8, rfl, hT, hb⟩
        obtain ⟨W8b, W8, hs1, hs2, hg1, hg2, hb2, hsz⟩ := two_laid W8a (Po.dif (!(typS s ky == 0)) 11 ky [] [] 0 0 0) aoW8 qW8 cW8
        have hbb : Below W7.heap.size W7 W8 := hb.trans (hb2.mono hb.size)
        have HUW8 : Hid (At22 Y g s W8 ∧ Tb W8 ∧ Below w.heap.size w W8) := ⟨HUW7.out.1.below hbb, HUW7.out.2.1.below hbb, HUW7.out.2.2.trans (hbb.mono HUW7.out.2.2.size)⟩
        have HBW8 : Hid (Below W7.heap.size W7 W8) := hbb
        have HTW8 : Hid (TRow W8 W7.heap.size (.slice aoW8 qW8 cW8) (Po.dif (!(typS s ky == 0)) 11 ky [] [] 0 0 0).L) := hT.below hb2 (Nat.le_refl _)
        have HGW8 : Hid (W8.heap[W8a.heap.size]? = some (.cells ((Po.dif (!(typS s ky == 0)) 11 ky [] [] 0 0 0).rep aoW8 qW8 cW8) 30 (0, 0)) ∧ W8.heap[W8a.heap.size + 1]? = some (.cells (Po.dif (!(typS s ky == 0)) 11 ky [] [] 0 0 0).op 34 (0, 0)) ∧ W8a.heap.size + 2 = W8.heap.size ∧ W7.heap.size ≤ W8a.heap.size) := ⟨hg1, hg2, hsz, hb.size⟩
        clear hP hT hb hb2 hbb hg1 hg2 hsz
        have hbr : Below W4.heap.size W4 W8 := (HW.out.trans (HBW7.out.mono HW.out.size)).trans (HBW8.out.mono (HW.out.trans (HBW7.out.mono HW.out.size)).size)
        have c40 := (HR.out W8 hbr).2
        have c71 : W8.cell? ⟨W7a.heap.size, 1, none⟩ = some (.string (sb (TYW.getD (typS s ky).toNat []))) := (HBW8.out.cell (p := ⟨W7a.heap.size, 1, none⟩) (by have := HGW7.out.2.2.1; show W7a.heap.size < _; omega)).trans (by rw [cell_of_row W7 _ 1 _ _ _ HGW7.out.1]; rfl)
        have FIN : Hid (Below w.heap.size w W8) := HUW8.out.2.2
        have hdb : (Po.dif (!(typS s ky == 0)) 11 ky [] [] 0 0 0).b = !(typS s ky == 0) := by
          show (Po.dif (!(typS s ky == 0)) 11 ky [] [] 0 0 0).b = _
          cases (typS s ky == 0) <;> rfl
        rw [hdb]
        have hq1 : ((sb (TYW.getD (typS s ky).toNat [])).toList == [110, 111, 110, 101]) = (typS s ky == 0) := by
          obtain ⟨i, hi7, hti⟩ := typS_range s ky
          rw [sb_lit, hti]
          show decide (TYW.getD i [] = _) = _
          rw [Bool.eq_iff_iff]
          simp only [decide_eq_true_eq, tyw_none hi7, beq_iff_eq]
          omega
        have hmk : decide (ky ∈ keysS s) = !(typS s ky == 0) := by
          rw [Bool.eq_iff_iff]
          simp only [decide_eq_true_eq, mem_keysS, Bool.not_eq_true', beq_eq_false_iff_ne]
        rw [hmk]
        generalize TYW.getD (typS s ky).toNat [] = T at *
        generalize (typS s ky == 0) = z at *
        clear HBW7 HBW8 HGW7 HGW8 HTW7 HTW8 HUwr HUW7 HUW8 hbr HW hdb hmk
        cases z
        · go_wp2_with (first | (refine wpList_storeR (ty := 30) (x := .tmp 21) (y := .tmp 125) (ad := ⟨W8a.heap.size, 0, none⟩) (v := .agg ((Po.dif (!false) 11 ky [] [] 0 0 0).rep aoW8 qW8 cW8)) (w' := W8b) rfl rfl rfl rfl hs1 ?_) | (refine wpList_storeR (ty := 34) (x := .tmp 22) (y := .tmp 126) (ad := ⟨W8a.heap.size + 1, 0, none⟩) (v := .agg ((Po.dif (!false) 11 ky [] [] 0 0 0).op)) (w' := W8) rfl rfl rfl rfl hs2 ?_))
          go_ret
          exact ⟨rfl, FIN.out⟩
        · go_wp2_with (first | (refine wpList_storeR (ty := 30) (x := .tmp 21) (y := .tmp 125) (ad := ⟨W8a.heap.size, 0, none⟩) (v := .agg ((Po.dif (!true) 11 ky [] [] 0 0 0).rep aoW8 qW8 cW8)) (w' := W8b) rfl rfl rfl rfl hs1 ?_) | (refine wpList_storeR (ty := 34) (x := .tmp 22) (y := .tmp 126) (ad := ⟨W8a.heap.size + 1, 0, none⟩) (v := .agg ((Po.dif (!true) 11 ky [] [] 0 0 0).op)) (w' := W8) rfl rfl rfl rfl hs2 ?_))
          go_ret
          exact ⟨rfl, FIN.out⟩
end Go.Proofs.YtmlfekbmbnfkjabGreatDoor

