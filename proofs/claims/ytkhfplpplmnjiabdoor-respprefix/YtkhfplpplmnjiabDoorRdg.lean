/-
  What the reference's Digits comes to: a number's numeral, and its line: the recursion, and the regions that draw their order.
-/
import Derived.Test.YtkhfplpplmnjiabDoorRgo
import Derived.Test.YtkhfplpplmnjiabDoorPut
import Derived.Laws.Strings
namespace Go.Proofs.YtkhfplpplmnjiabDoor
set_option maxRecDepth 100000
open Go.RowKit Go.Sort

theorem region_at {P : Program} {l : List Oper} {Q : Exit → Act → World → Prop} {id : Nat} {a : Act} {w : World} (ds : List Tmp) (vs : List Value) (q : Nat) (Rq : Value → World → Prop) (E : Value → Act) (hm : P.follows .mixedOrders = true)
    (he : early .any l.toArray = true) (hd : l.map (·.dst) = ds.map some) (hn : ds.Nodup) (hc : covered ds l = true) (hql : q < l.length) (hqv : q < vs.length) (hE : ∀ v0, lay a ds 0 ((vs.set q v0).getD · undef) = E v0)
    (hRq : ∀ v w w', Below w.heap.size w w' → Rq v w → Rq v w')
    (hop : Each (fun i o => OkOne P l.toArray E w q Rq (vs.getD i undef) i o) 0 l)
    (hend : ∀ v0 w', Below w.heap.size w w' → Rq v0 w' → Q .normal (E v0) w') : (Code.region id l.toArray true).wp P Q a w := by
  refine region_one ds vs q Rq E hm he hd hn hc hql (fun v0 => ?_) hRq hop hend
  rw [← hE v0]
  congr 1
  funext j
  by_cases e : j = q
  · subst e
    rw [if_pos rfl, List.getD_eq_getElem?_getD, List.getElem?_set_self hqv]; rfl
  · rw [if_neg e, List.getD_eq_getElem?_getD, List.getD_eq_getElem?_getD, List.getElem?_set_ne (fun h => e h.symm)]
theorem eqGuard_str (w : World) {op : BinOp} {x y : Operand} {a b : ByteArray} : (eqGuard op 9 x y (.string a) (.string b)).run Tryd.prog w = .ok () w := by
  cases op <;> simp [eqGuard]

/-- Bytes that a call made, as a slice. -/
def Mb (l : List UInt8) (v : Value) (w : World) : Prop := ∃ ao c, v = .slice ao l.length c ∧ Bytes w ao l.length c l
theorem Mb.stable {l : List UInt8} (v : Value) (w w' : World) (hb : Below w.heap.size w w') (h : Mb l v w) : Mb l v w' := by
  obtain ⟨ao, c, h1, h2⟩ := h
  exact ⟨ao, c, h1, h2.below hb (Nat.le_refl _)⟩
theorem conv_mb {l : List UInt8} {v : Value} {w : World} (h : Mb l v w) : (convert 25 9 v).run Tryd.prog w = .ok (.string (tx l)) w := by
  obtain ⟨ao, c, rfl, hB⟩ := h
  cases ao with
  | some ad => 
    have hl := hB.len
    refine run_convert_bytes_back w 25 9 5 ad c l Tryd.underlying25 Tryd.underlying5 Tryd.underlying9 ?_
    intro j hj
    refine hB.cells ad rfl j _ ?_
    simp [bs, hj]
  | none =>
    obtain ⟨h0, rfl⟩ := hB.none rfl
    have hl : l = [] := List.eq_nil_of_length_eq_zero h0
    subst hl
    rw [run_convert_bytes_string w 25 9 5 none _ 0 Tryd.underlying25 Tryd.underlying5 Tryd.underlying9]
    simp [Conv.bytesToString]
    rfl
theorem build_one (w : World) (z : Int) : (Instr.buildSlice 25 1 #[(0, .int .u8 z)]).run Tryd.prog w = .ok (.slice (some ⟨w.heap.size, 0, none⟩) 1 1) (w.alloc (.cells #[.int .u8 z] 5)) := by
  go_simp
theorem quo_ten (w : World) (n : Nat) (h : n < 9223372036854775808) : (binOp .quo 3 (.int .i64 (n : Int)) (.int .i64 10)).run Tryd.prog w = .ok (.int .i64 ((n / 10 : Nat) : Int)) w := by
  go_simp
  rw [IntKind.wrap_i64]; omega
theorem rem_ten (w : World) (n : Nat) (h : n < 9223372036854775808) : (binOp .rem 3 (.int .i64 (n : Int)) (.int .i64 10)).run Tryd.prog w = .ok (.int .i64 ((n % 10 : Nat) : Int)) w := by
  go_simp
  exact Int.tmod_eq_emod_of_nonneg (by omega)
theorem quo_neg (w : World) (n : Nat) (h : n ≤ 9223372036854775808) : (binOp .quo 3 (.int .i64 (-(n : Int))) (.int .i64 10)).run Tryd.prog w = .ok (.int .i64 (-((n / 10 : Nat) : Int))) w := by
  go_simp
  rw [IntKind.wrap_i64]; omega
theorem rem_neg (w : World) (n : Nat) (h : n ≤ 9223372036854775808) : (binOp .rem 3 (.int .i64 (-(n : Int))) (.int .i64 10)).run Tryd.prog w = .ok (.int .i64 (-((n % 10 : Nat) : Int))) w := by
  go_simp
  exact Int.tmod_eq_emod_of_nonneg (by omega)
theorem add_48 (w : World) (n : Nat) (h : n < 10) : (binOp .add 3 (.int .i64 48) (.int .i64 (n : Int))).run Tryd.prog w = .ok (.int .i64 ((48 + n : Nat) : Int)) w := by
  go_simp
  rw [IntKind.wrap_i64]; omega
theorem sub_48 (w : World) (n : Nat) (h : n < 10) : (binOp .sub 3 (.int .i64 48) (.int .i64 (-(n : Int)))).run Tryd.prog w = .ok (.int .i64 ((48 + n : Nat) : Int)) w := by
  go_simp
  rw [IntKind.wrap_i64]; omega
theorem conv_u8 (w : World) (n : Nat) (h : n < 256) : (convert 3 5 (.int .i64 (n : Int))).run Tryd.prog w = .ok (.int .u8 (n : Int)) w := by
  go_simp
  rw [IntKind.wrap_u8]; omega
theorem add_str (w : World) (a b : ByteArray) (h : a.size + b.size ≤ 9223372036854775807) : (binOp .add 9 (.string a) (.string b)).run Tryd.prog w = .ok (.string (a ++ b)) w := by
  go_simp

theorem tx_app (a b : List UInt8) : tx a ++ tx b = tx (a ++ b) := by
  apply ByteArray.ext
  simp [tx]
theorem build_yields {E : Act} {w : World} {o : Oper} {x : Operand} {c : UInt8} (ho : o.op = .buildSlice 25 1 #[(0, x)]) (hx : E.eval x = .int .u8 (c.toNat : Int)) : YieldsR Tryd.prog (Mb [c]) w ((execOp E.eval o).run Tryd.prog w) := by
  unfold execOp
  simp only [ho, List.map_toArray, List.map_cons, List.map_nil, hx, Sem.run_bind, Sem.run_pure, Result.andThen_ok, build_one w (c.toNat : Int)]
  refine ⟨⟨_, 1, rfl, rfl, Nat.le_refl _, (fun h => by cases h), fun ad had j u hu => ?_⟩, (Below.refl _ _).alloc (Nat.le_refl _) _⟩
  obtain rfl := Option.some.inj had
  exact new_one w _ _ j u hu
def dgt (n : Nat) : UInt8 := UInt8.ofNat (48 + n % 10)
theorem dgt_nat (n : Nat) : (dgt n).toNat = 48 + n % 10 := by rw [dgt, UInt8.toNat_ofNat']; omega
theorem dec_ten (n : Nat) (h : ¬ n < 10) : Lib.decDigits n = Lib.decDigits (n / 10) ++ [dgt n] := by rw [Lib.decDigits, dif_neg h]; rfl
theorem dec_len (n : Nat) (h : n ≤ 9223372036854775808) : (Lib.decDigits n).length ≤ 30 := by
  by_cases h1 : n = 9223372036854775808
  · subst h1
    have := Lib.itoa_length_le (-9223372036854775808) (by omega) (by omega)
    unfold Lib.itoa at this
    rw [if_pos (by omega), List.length_cons] at this
    have e : (-9223372036854775808 : Int).natAbs = 9223372036854775808 := by decide
    rw [e] at this
    omega
  · have := Lib.itoa_length_le (n : Int) (by omega) (by omega)
    unfold Lib.itoa at this
    rw [if_neg (by omega), Int.toNat_natCast] at this
    omega

end Go.Proofs.YtkhfplpplmnjiabDoor
