/-
  What the reference's Digits comes to: a number's numeral, and its line: the recursion, and the regions that draw their order.
-/
import Derived.Test.YtkhfplpplmnjiaaDoorRgo
import Derived.Test.YtkhfplpplmnjiaaDoorPut
import Derived.Laws.Strings
namespace Go.Proofs.YtkhfplpplmnjiaaDoor
set_option maxRecDepth 100000
open Go.RowKit Go.Sort

theorem region_at {P : Program} {l : List Oper} {Q : Exit → Act → World → Prop} {id : Nat} {a : Act} {w : World} (ds : List Tmp) (vs : List Value) (q : Nat) (Rq : Value → World → Prop) (E : Value → Act) (hm : P.follows .mixedOrders = true)
    (he : early .any l.toArray = true) (hd : l.map (·.dst) = ds.map some) (hn : ds.Nodup) (hc : covered ds l = true) (hql : q < l.length) (hqv : q < vs.length) (hE : ∀ v0, lay a ds 0 ((vs.set q v0).getD · undef) = E v0)
    (hRq : ∀ v w w', Below w.heap.size w w' → Rq v w → Rq v w')
    (hop : Each (fun i o => OkOne P l.toArray E w q Rq (vs.getD i undef) i o) 0 l)
    (hend : ∀ v0 w', Below w.heap.size w w' → Rq v0 w' → Q .normal (E v0) w') : (Code.region id l.toArray true).wp P Q a w := by
  refine region_one ds vs q Rq E hm he hd hn hc hql (fun v0 => ?_) hRq hop hend
  rw [← hE v0]
  congr 1
  funext j
  by_cases e : j = q
  · subst e
    rw [if_pos rfl, List.getD_eq_getElem?_getD, List.getElem?_set_self hqv]; rfl
  · rw [if_neg e, List.getD_eq_getElem?_getD, List.getD_eq_getElem?_getD, List.getElem?_set_ne (fun h => e h.symm)]
theorem eqGuard_str (w : World) {op : BinOp} {x y : Operand} {a b : ByteArray} : (eqGuard op 9 x y (.string a) (.string b)).run Tryd.prog w = .ok () w := by
  cases op <;> simp [eqGuard]

/-- Bytes that a call made, as a slice. -/
def Mb (l : List UInt8) (v : Value) (w : World) : Prop := ∃ ao c, v = .slice ao l.length c ∧ Bytes w ao l.length c l
theorem Mb.stable {l : List UInt8} (v : Value) (w w' : World) (hb : Below w.heap.size w w') (h : Mb l v w) : Mb l v w' := by
  obtain ⟨ao, c, h1, h2⟩ := h
  exact ⟨ao, c, h1, h2.below hb (Nat.le_refl _)⟩
theorem conv_mb {l : List UInt8} {v : Value} {w : World} (h : Mb l v w) : (convert 27 9 v).run Tryd.prog w = .ok (.string (tx l)) w := by
  obtain ⟨ao, c, rfl, hB⟩ := h
  cases ao with
  | some ad => 
    have hl := hB.len
    refine run_convert_bytes_back w 27 9 5 ad c l Tryd.underlying27 Tryd.underlying5 Tryd.underlying9 ?_
    intro j hj
    refine hB.cells ad rfl j _ ?_
    simp [bs, hj]
  | none =>
    obtain ⟨h0, rfl⟩ := hB.none rfl
    have hl : l = [] := List.eq_nil_of_length_eq_zero h0
    subst hl
    rw [run_convert_bytes_string w 27 9 5 none _ 0 Tryd.underlying27 Tryd.underlying5 Tryd.underlying9]
    simp [Conv.bytesToString]
    rfl
theorem build_one (w : World) (z : Int) : (Instr.buildSlice 27 1 #[(0, .int .u8 z)]).run Tryd.prog w = .ok (.slice (some ⟨w.heap.size, 0, none⟩) 1 1) (w.alloc (.cells #[.int .u8 z] 5)) := by
  go_simp
theorem quo_ten (w : World) (n : Nat) (h : n < 9223372036854775808) : (binOp .quo 3 (.int .i64 (n : Int)) (.int .i64 10)).run Tryd.prog w = .ok (.int .i64 ((n / 10 : Nat) : Int)) w := by
  go_simp
  rw [IntKind.wrap_i64]; omega
theorem rem_ten (w : World) (n : Nat) (h : n < 9223372036854775808) : (binOp .rem 3 (.int .i64 (n : Int)) (.int .i64 10)).run Tryd.prog w = .ok (.int .i64 ((n % 10 : Nat) : Int)) w := by
  go_simp
  exact Int.tmod_eq_emod_of_nonneg (by omega)
theorem quo_neg (w : World) (n : Nat) (h : n ≤ 9223372036854775808) : (binOp .quo 3 (.int .i64 (-(n : Int))) (.int .i64 10)).run Tryd.prog w = .ok (.int .i64 (-((n / 10 : Nat) : Int))) w := by
  go_simp
  rw [IntKind.wrap_i64]; omega
theorem rem_neg (w : World) (n : Nat) (h : n ≤ 9223372036854775808) : (binOp .rem 3 (.int .i64 (-(n : Int))) (.int .i64 10)).run Tryd.prog w = .ok (.int .i64 (-((n % 10 : Nat) : Int))) w := by
  go_simp
  exact Int.tmod_eq_emod_of_nonneg (by omega)
theorem add_48 (w : World) (n : Nat) (h : n < 10) : (binOp .add 3 (.int .i64 48) (.int .i64 (n : Int))).run Tryd.prog w = .ok (.int .i64 ((48 + n : Nat) : Int)) w := by
  go_simp
  rw [IntKind.wrap_i64]; omega
theorem sub_48 (w : World) (n : Nat) (h : n < 10) : (binOp .sub 3 (.int .i64 48) (.int .i64 (-(n : Int)))).run Tryd.prog w = .ok (.int .i64 ((48 + n : Nat) : Int)) w := by
  go_simp
  rw [IntKind.wrap_i64]; omega
theorem conv_u8 (w : World) (n : Nat) (h : n < 256) : (convert 3 5 (.int .i64 (n : Int))).run Tryd.prog w = .ok (.int .u8 (n : Int)) w := by
  go_simp
  rw [IntKind.wrap_u8]; omega
theorem add_str (w : World) (a b : ByteArray) (h : a.size + b.size ≤ 9223372036854775807) : (binOp .add 9 (.string a) (.string b)).run Tryd.prog w = .ok (.string (a ++ b)) w := by
  go_simp

theorem tx_app (a b : List UInt8) : tx a ++ tx b = tx (a ++ b) := by
  apply ByteArray.ext
  simp [tx]
theorem build_yields {E : Act} {w : World} {o : Oper} {x : Operand} {c : UInt8} (ho : o.op = .buildSlice 27 1 #[(0, x)]) (hx : E.eval x = .int .u8 (c.toNat : Int)) : YieldsR Tryd.prog (Mb [c]) w ((execOp E.eval o).run Tryd.prog w) := by
  unfold execOp
  simp only [ho, List.map_toArray, List.map_cons, List.map_nil, hx, Sem.run_bind, Sem.run_pure, Result.andThen_ok, build_one w (c.toNat : Int)]
  refine ⟨⟨_, 1, rfl, rfl, Nat.le_refl _, (fun h => by cases h), fun ad had j u hu => ?_⟩, (Below.refl _ _).alloc (Nat.le_refl _) _⟩
  obtain rfl := Option.some.inj had
  exact new_one w _ _ j u hu
theorem enters_dig (xs : Array Value) (w : World) : (callFunc 25 xs).run Tryd.prog w = .ok (.enter 25 xs) w := enters Tryd.func25 (by kernel_rfl) (by kernel_rfl) xs w
def dgt (n : Nat) : UInt8 := UInt8.ofNat (48 + n % 10)
theorem dgt_nat (n : Nat) : (dgt n).toNat = 48 + n % 10 := by rw [dgt, UInt8.toNat_ofNat']; omega
theorem dec_ten (n : Nat) (h : ¬ n < 10) : Lib.decDigits n = Lib.decDigits (n / 10) ++ [dgt n] := by rw [Lib.decDigits, dif_neg h]; rfl
theorem dec_len (n : Nat) (h : n ≤ 9223372036854775808) : (Lib.decDigits n).length ≤ 30 := by
  by_cases h1 : n = 9223372036854775808
  · subst h1
    have := Lib.itoa_length_le (-9223372036854775808) (by omega) (by omega)
    unfold Lib.itoa at this
    rw [if_pos (by omega), List.length_cons] at this
    have e : (-9223372036854775808 : Int).natAbs = 9223372036854775808 := by decide
    rw [e] at this
    omega
  · have := Lib.itoa_length_le (n : Int) (by omega) (by omega)
    unfold Lib.itoa at this
    rw [if_neg (by omega), Int.toNat_natCast] at this
    omega

set_option maxHeartbeats 2000000 in
theorem rdigits_nat : ∀ (f n : Nat), n < f → n < 9223372036854775808 → ∀ w : World, Calls Tryd.prog 25 #[.int .i64 (n : Int)] w fun e w' => e = .returned (.string (tx (Lib.decDigits n))) ∧ Below w.heap.size w w'
  | 0, _, h, _, _ => by omega
  | f + 1, n, hf, hn, w => by
    have h0 : ¬ (n : Int) < 0 := by omega
    by_cases h10 : n < 10
    · have h10' : (n : Int) < 10 := by omega
      have hb : ∀ W : World, (convert 27 9 (.slice (some ⟨W.heap.size, 0, none⟩) 1 1)).run Tryd.prog (W.alloc (.cells #[.int .u8 (48 + (n : Int))] 5)) = .ok (.string (tx (Lib.decDigits n))) (W.alloc (.cells #[.int .u8 (48 + (n : Int))] 5)) := fun W => by
        have e : (UInt8.ofNat (48 + n)).toNat = 48 + n := by rw [UInt8.toNat_ofNat']; omega
        rw [Lib.decDigits_one h10]
        refine conv_mb ⟨_, 1, rfl, rfl, Nat.le_refl _, (fun h => by cases h), fun ad had j u hu => ?_⟩
        obtain rfl := Option.some.inj had
        refine new_one W _ _ j u ?_
        rw [← hu]
        simp only [bs, List.map_cons, List.map_nil, e]
        rfl
      go_enter Tryd.func25, Tryd.ntmps25
      go_wp2
      go_ret
      exact ⟨rfl, (Below.refl _ _).alloc (Nat.le_refl _) _⟩
    · have h10' : ¬ (n : Int) < 10 := by omega
      have IH := rdigits_nat f (n / 10) (by omega) (by omega)
      have hdl := dec_len (n / 10) (by omega)
      have HD : Hid (tx (Lib.decDigits n) = tx (Lib.decDigits (n / 10)) ++ tx [dgt n]) := by rw [Hid, tx_app, dec_ten n h10]
      have hdg := dgt_nat n
      have hadd := fun W => add_str W (tx (Lib.decDigits (n / 10))) (tx [dgt n]) (by rw [tx_size, tx_size]; simp only [List.length_cons, List.length_nil]; omega)
      generalize tx (Lib.decDigits (n / 10)) = T at *
      go_enter Tryd.func25, Tryd.ntmps25
      go_wp2_with fail
      refine region_at [28, 29, 30, 31, 32, 33, 34, 35, 36, 37, 2] [.int .i64 (n : Int), .int .i64 ((n / 10 : Nat) : Int), .string T, .int .i64 (n : Int), .int .i64 ((n % 10 : Nat) : Int), .int .i64 ((48 + n % 10 : Nat) : Int), .int .u8 ((48 + n % 10 : Nat) : Int), undef, .string (tx [dgt n]), .string (T ++ tx [dgt n]), .string (T ++ tx [dgt n])] 7 (Mb [dgt n]) _ (by kernel_rfl) (by kernel_rfl) (by rfl) (by decide) (by kernel_rfl) (by decide) (by simp) (fun v0 => by simp only [lay, Act.put, List.setIfInBounds_toArray, List.set_cons_zero, List.set_cons_succ, List.getD_cons_zero, List.getD_cons_succ, Nat.reduceAdd]; rfl) Mb.stable ⟨?_, ?_, ?_, ?_, ?_, ?_, ?_, ?_, ?_, ?_, ?_, trivial⟩ ?_
      · exact OkOne.at (by decide) (fun v0 => rfl) (fun v0 W hb hq => yields_move rfl rfl)
      · exact OkOne.at (by decide) (fun v0 => rfl) (fun v0 W hb hq => yields_bin rfl rfl rfl (eqGuard_int W) (quo_ten W n hn))
      · exact OkOne.at (by decide) (fun v0 => rfl) (fun v0 W hb hq => yields_call (vs := [.int .i64 ((n / 10 : Nat) : Int)]) (v := .string T) rfl rfl (enters_dig _ _) (IH W))
      · exact OkOne.at (by decide) (fun v0 => rfl) (fun v0 W hb hq => yields_move rfl rfl)
      · exact OkOne.at (by decide) (fun v0 => rfl) (fun v0 W hb hq => yields_bin rfl rfl rfl (eqGuard_int W) (rem_ten W n hn))
      · exact OkOne.at (by decide) (fun v0 => rfl) (fun v0 W hb hq => yields_bin rfl rfl rfl (eqGuard_int W) (add_48 W (n % 10) (Nat.mod_lt _ (by decide))))
      · exact OkOne.at (by decide) (fun v0 => rfl) (fun v0 W hb hq => yields_convert rfl rfl (conv_u8 W _ (by omega)))
      · exact OkOne.it (fun v0 => rfl) (fun v0 W hb => build_yields rfl (by rw [hdg]; rfl))
      · exact OkOne.at (by decide) (fun v0 => rfl) (fun v0 W hb hq => yields_convert (vx := v0) rfl rfl (conv_mb (hq (by kernel_rfl))))
      · exact OkOne.at (by decide) (fun v0 => rfl) (fun v0 W hb hq => yields_bin rfl rfl rfl (eqGuard_str W) (hadd W))
      · exact OkOne.at (by decide) (fun v0 => rfl) (fun v0 W hb hq => yields_assign rfl rfl)
      intro v0 W hb hMb
      clear hMb hadd IH
      go_wp2
      go_ret
      rw [HD.out]
      exact ⟨rfl, hb⟩
end Go.Proofs.YtkhfplpplmnjiaaDoor
