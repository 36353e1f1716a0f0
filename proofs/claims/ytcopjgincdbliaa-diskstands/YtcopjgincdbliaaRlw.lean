/-
  Laws for single operations of a region: a text or a number is read, two are compared, a call is entered.
-/
import Derived.Test.YtcopjgincdbliaaRgo
import Derived.Test.YtcopjgincdbliaaDre
import Derived.Laws.Strings
namespace Go.Proofs.Ytcopjgincdbliaa
open Go Go.RowKit

theorem region_at {P : Program} {l : List Oper} {Q : Exit → Act → World → Prop} {id : Nat} {a : Act} {w : World} (ds : List Tmp) (vs : List Value) (q : Nat) (Rq : Value → World → Prop) (E : Value → Act) (hm : P.follows .mixedOrders = true)
    (he : early .any l.toArray = true) (hd : l.map (·.dst) = ds.map some) (hn : ds.Nodup) (hc : covered ds l = true) (hql : q < l.length) (hqv : q < vs.length) (hE : ∀ v0, lay a ds 0 ((vs.set q v0).getD · undef) = E v0)
    (hRq : ∀ v w w', Below w.heap.size w w' → Rq v w → Rq v w')
    (hop : Each (fun i o => OkOne P l.toArray E w q Rq (vs.getD i undef) i o) 0 l)
    (hend : ∀ v0 w', Below w.heap.size w w' → Rq v0 w' → Q .normal (E v0) w') : (Code.region id l.toArray true).wp P Q a w := by
  refine region_one ds vs q Rq E hm he hd hn hc hql (fun v0 => ?_) hRq hop hend
  rw [← hE v0]
  congr 1
  funext j
  by_cases e : j = q
  · subst e
    rw [if_pos rfl, List.getD_eq_getElem?_getD, List.getElem?_set_self hqv]; rfl
  · rw [if_neg e, List.getD_eq_getElem?_getD, List.getD_eq_getElem?_getD, List.getElem?_set_ne (fun h => e h.symm)]

section
variable {E : Act} {w : World} {o : Oper}
theorem yields_nil {x : Operand} (ho : o.op = .nilCheck x) {ad : Addr} (hx : E.eval x = .pointer (some ad)) : Yields Try.prog (.pointer (some ad)) w ((execOp E.eval o).run Try.prog w) := by
  unfold execOp
  simp only [ho, hx, Sem.run_pure]
  exact ⟨rfl, Below.refl _ _⟩
end
theorem load_int_run {w : World} {ad : Addr} {v : Value} (h : w.cell? ad = some v) : (loadVar 3 ad).run Try.prog w = .ok v w := by
  have h3 : Try.prog.underlying 3 = some (.int .i64) := by kernel_rfl
  simp [loadVar, isAgg, run_underlying h3, Sem.run_bind, h]
theorem load_str_run {w : World} {ad : Addr} {v : Value} (h : w.cell? ad = some v) : (loadVar 9 ad).run Try.prog w = .ok v w := by
  have h3 : Try.prog.underlying 9 = some .string := by kernel_rfl
  simp [loadVar, isAgg, run_underlying h3, Sem.run_bind, h]
theorem field0_run (w : World) (g : Nat) : (Instr.fieldAt 31 (.pointer (some ⟨g, 0, none⟩)) 0).run Try.prog w = .ok (.pointer (some ⟨g, 0, none⟩)) w := by kernel_rfl
theorem field1_run (w : World) (g : Nat) : (Instr.fieldAt 31 (.pointer (some ⟨g, 0, none⟩)) 1).run Try.prog w = .ok (.pointer (some ⟨g, 1, none⟩)) w := by kernel_rfl
theorem eqGuard_int (w : World) {op : BinOp} {x y : Operand} {a b : Int} : (eqGuard op 3 x y (.int .i64 a) (.int .i64 b)).run Try.prog w = .ok () w := by
  cases op <;> simp [eqGuard]
theorem eqGuard_str (w : World) {op : BinOp} {x y : Operand} {a b : ByteArray} : (eqGuard op 9 x y (.string a) (.string b)).run Try.prog w = .ok () w := by
  cases op <;> simp [eqGuard]
theorem neq_int_same (w : World) (a : Int) : (binOp .neq 3 (.int .i64 a) (.int .i64 a)).run Try.prog w = .ok (.bool false) w := by rw [binOp_neq]; simp
theorem neq_str_same (w : World) (a : ByteArray) : (binOp .neq 9 (.string a) (.string a)).run Try.prog w = .ok (.bool false) w := by
  simp [binOp, Op.stringOp, go_sem]
theorem eql_str_same (w : World) (a : ByteArray) : (binOp .eql 9 (.string a) (.string a)).run Try.prog w = .ok (.bool true) w := by
  simp [binOp, Op.stringOp, go_sem]
theorem enters_bytes (xs : Array Value) (w : World) : (callFunc 19 xs).run Try.prog w = .ok (.enter 19 xs) w := enters Try.func19 (by kernel_rfl) (by kernel_rfl) xs w
theorem enters_fast (xs : Array Value) (w : World) : (callFunc 20 xs).run Try.prog w = .ok (.enter 20 xs) w := enters Try.func20 (by kernel_rfl) (by kernel_rfl) xs w

/-- Bytes that a call made, as a slice. -/
def Mb (l : List UInt8) (v : Value) (w : World) : Prop := ∃ ao c, v = .slice ao l.length c ∧ Bytes w ao l.length c l
theorem Mb.stable {l : List UInt8} (v : Value) (w w' : World) (hb : Below w.heap.size w w') (h : Mb l v w) : Mb l v w' := by
  obtain ⟨ao, c, h1, h2⟩ := h
  exact ⟨ao, c, h1, h2.below hb (Nat.le_refl _)⟩
theorem own_mb {w : World} {base : Nat} {v : Value} {l : List UInt8} (h : w.ownsRow base 5 1 v l.length (bs l)) : Mb l v w := by
  rcases h.2 with ⟨rfl, h0⟩ | ⟨g', cap, cur, rfl, hb, hg, hnc, hcm, hcs, htake⟩
  · have h1 : l = [] := List.eq_nil_of_length_eq_zero h0
    subst h1
    exact ⟨none, 0, rfl, Bytes.nil w⟩
  · exact ⟨some ⟨g', 0, none⟩, cap, rfl, Bytes.own h⟩
theorem conv_mb {l : List UInt8} {v : Value} {w : World} (h : Mb l v w) : (convert 38 9 v).run Try.prog w = .ok (.string (tx l)) w := by
  obtain ⟨ao, c, rfl, hB⟩ := h
  exact conv_any (t := tx l) (by rw [tx_list]; exact hB)
theorem bytes_mb {base g : Nat} {v : Value} {l : List UInt8} {f r : Nat} {w : World} (h : Dsk w base g v l f r) : Calls Try.prog 19 #[.pointer (some ⟨g, 0, none⟩)] w fun e w' => ∃ v', e = .returned v' ∧ Mb l v' w' ∧ Below w.heap.size w w' := by
  refine (bytes_any _ _ _ _ _ _ _ _ _ (orz_some _ _) h).mono ?_
  rintro e w9 ⟨v9, rfl, h9, b9⟩
  exact ⟨v9, rfl, own_mb h9, b9⟩
theorem fast_mb {base g : Nat} {v : Value} {l : List UInt8} {f r : Nat} {w : World} (h : Dsk w base g v l f r) : Calls Try.prog 20 #[.pointer (some ⟨g, 0, none⟩)] w fun e w' => e = .returned (.int .i64 (f : Int)) ∧ Below w.heap.size w w' := by
  refine (fast_any _ _ _ _ _ _ _ _ _ (orz_some _ _) h).mono ?_
  rintro e w9 ⟨rfl, rfl⟩
  exact ⟨rfl, Below.refl _ _⟩
end Go.Proofs.Ytcopjgincdbliaa
