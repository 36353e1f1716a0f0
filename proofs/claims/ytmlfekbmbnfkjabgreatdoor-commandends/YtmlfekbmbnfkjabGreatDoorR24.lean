/-
  What rightTexts and onlyUsed come to.
-/
import Derived.Test.YtmlfekbmbnfkjabGreatDoorR05
import Derived.Test.YtmlfekbmbnfkjabGreatDoorR23
import Derived.Laws.Cover1
import Derived.Deep.Cut
import Derived.Test.YtmlfekbmbnfkjabGreatDoorR03
import Derived.Test.YtmlfekbmbnfkjabGreatDoorR01
import Derived.BigQuiet
namespace Go.Proofs.YtmlfekbmbnfkjabGreatDoor
set_option maxRecDepth 100000
open Go.RowKit

def textsE (e : Ev) : Bool := decide (e.key.length ≤ 64 ∧ e.field.length ≤ 64 ∧ e.value.length ≤ 64)

theorem run_max3 (w : World) (x y z : Int) : (Builtin.max_ #[3, 3, 3] 3 #[.int .i64 x, .int .i64 y, .int .i64 z]).run Tryz.prog w = .ok (.int .i64 (max (max x y) z)) w := by
  rw [run_max_int3]
  congr 2
  repeat' split
  all_goals omega

theorem boxedO (w : World) (e : Ev) : LiesO (w.alloc (.cells (opc e) 34)) w.heap.size e ∧ Below w.heap.size w (w.alloc (.cells (opc e) 34)) :=
  ⟨liesO_new w e, (Below.refl _ _).alloc (Nat.le_refl _) _⟩

set_option maxHeartbeats 400000 in
theorem righttexts_any (e : Ev) (w : World) (hk : e.key.length ≤ 9223372036854775807) (hf : e.field.length ≤ 9223372036854775807) (hv : e.value.length ≤ 9223372036854775807) :
    Calls Tryz.prog 47 #[.agg (opc e)] w fun e' w' => e' = .returned (.bool (textsE e)) ∧ Below w.heap.size w w' := by
  obtain ⟨hO, hB⟩ := boxedO w e
  have c1 := hO.c1
  have c2 := hO.c2
  have c3 := hO.c3
  clear hO
  have HB : Hid (Below w.heap.size w (w.alloc (.cells (opc e) 34))) := hB
  clear hB
  have s1 := sb_size e.key
  have s2 := sb_size e.field
  have s3 := sb_size e.value
  have HR : Hid (∀ b : Bool, (b = true ↔ (sb e.key).size ≤ 64 ∧ (sb e.field).size ≤ 64 ∧ (sb e.value).size ≤ 64) → b = textsE e) := by
    intro b hb
    rw [s1, s2, s3] at hb
    rw [Bool.eq_iff_iff, hb, textsE, decide_eq_true_iff]
  rw [← s1] at hk
  rw [← s2] at hf
  rw [← s3] at hv
  clear s1 s2 s3
  generalize textsE e = R at *
  generalize sb e.key = K at *
  generalize sb e.field = F at *
  generalize sb e.value = V at *
  go_enter Tryz.func47, Tryz.ntmps47
  have hm := fun W : World => run_max3 W K.size F.size V.size
  go_wp2
  go_ret
  refine ⟨congrArg (fun b => Ending.returned (.bool b)) (HR.out _ ?_), HB.out⟩
  simp only [decide_eq_true_iff]
  omega

/-! A part of an operation is laid. -/
section
variable {w : World} {g : Nat} {e : Ev}
theorem LiesO.setF (h : LiesO w g e) (s : List UInt8) : LiesO (w.setCell ⟨g, 2, none⟩ (.string (sb s))) g { e with field := s } := by
  rw [LiesO, heap_setCell_same w g 2 _ _ _ h]; rfl
theorem LiesO.setV (h : LiesO w g e) (s : List UInt8) : LiesO (w.setCell ⟨g, 3, none⟩ (.string (sb s))) g { e with value := s } := by
  rw [LiesO, heap_setCell_same w g 3 _ _ _ h]; rfl
theorem LiesO.setN (h : LiesO w g e) (n : Int) : LiesO (w.setCell ⟨g, 4, none⟩ (.int .i64 n)) g { e with num := n } := by
  rw [LiesO, heap_setCell_same w g 4 _ _ _ h]; rfl
theorem LiesO.setR (h : LiesO w g e) (r n : Int) : LiesO (w.setCells g 5 (dotc r n).toList) g { e with rr := r, rn := n } := by
  have h1 : (w.setCell ⟨g, 5, none⟩ (.int .i64 r)).heap[g]? = some (.cells (opc { e with rr := r }) 34 (0, 0)) := by
    rw [heap_setCell_same w g 5 _ _ _ h]; rfl
  show ((w.setCell ⟨g, 5, none⟩ (.int .i64 r)).setCell ⟨g, 6, none⟩ (.int .i64 n)).heap[g]? = _
  rw [heap_setCell_same _ g 6 _ _ _ h1]; rfl
theorem LiesO.other (h : LiesO w g e) (ad : Addr) (v : Value) (hg : g ≠ ad.block) : LiesO (w.setCell ad v) g e := by
  rw [LiesO, heap_setCell_other w ad g v hg]; exact h
theorem LiesO.otherD (h : LiesO w g e) (k o : Nat) (r n : Int) (hg : g ≠ k) : LiesO (w.setCells k o (dotc r n).toList) g e :=
  ((h.other ⟨k, o, none⟩ _ hg).other ⟨k, o + 1, none⟩ _ hg)
theorem LiesO.thereR (h : LiesO w g e) : w.there g 5 2 := fun j hj => by
  refine ⟨?_, h.frozen⟩
  rw [h.co]
  match j, hj with
  | 0, _ => rfl
  | 1, _ => rfl
theorem below_setCells2 {B g o : Nat} {a w : World} (h : Below B a w) (hg : B ≤ g) (r n : Int) : Below B a (w.setCells g o (dotc r n).toList) :=
  (h.setCell (p := ⟨g, o, none⟩) hg _).setCell (p := ⟨g, o + 1, none⟩) hg _
end

theorem ret_op {fn : Func} {R : Ending → World → Prop} {a : Act} {w : World} {p : Tmp} {g : Nat} {e : Ev} (h : fn.results = #[.cell p 34]) (hp : a.tmps.getD p undef = .pointer (some ⟨g, 0, none⟩))
    (hd : a.defers = []) (hg : LiesO w g e) (hR : R (.returned (.agg (opc e))) w) : bodyPost Tryz.prog fn R .ret a w :=
  bodyPost_ret (results_cell_row h a.tmps w g 34 _ (0, 0) _ hp hg Tryz.underlying34 rfl (size7 e)) hd hR

/-- An operation without what it doesn't use, part by part. -/
def part1 (e : Ev) : Ev := { e with field := [], value := [], num := 0, rr := 0, rn := 0 }
def part2 (e : Ev) : Ev := { part1 e with field := if usesF e.kind then e.field else [] }
def part3 (e : Ev) : Ev := { part2 e with value := if usesV e.kind then e.value else [] }
def part4 (e : Ev) : Ev := { part3 e with num := if usesN e.kind then e.num else 0 }
def used (e : Ev) : Ev := { part4 e with rr := if usesR e.kind then e.rr else 0, rn := if usesR e.kind then e.rn else 0 }
def zop : Ev := ⟨0, 0, 0, [], 0, [], [], [], 0, 0, 0⟩

theorem zop_cells : opc zop = #[.int .i64 0, .string ⟨#[]⟩, .string ⟨#[]⟩, .string ⟨#[]⟩, .int .i64 0, .int .i64 0, .int .i64 0] := rfl
theorem boxedO3 (w : World) (e : Ev) :
    LiesO (((w.alloc (.cells (opc e) 34)).alloc (.cells (opc zop) 34)).alloc (.cells (opc zop) 34)) w.heap.size e ∧
    LiesO (((w.alloc (.cells (opc e) 34)).alloc (.cells (opc zop) 34)).alloc (.cells (opc zop) 34)) (w.heap.size + 1) zop ∧
    LiesO (((w.alloc (.cells (opc e) 34)).alloc (.cells (opc zop) 34)).alloc (.cells (opc zop) 34)) (w.heap.size + 1 + 1) zop ∧
    Below w.heap.size w (((w.alloc (.cells (opc e) 34)).alloc (.cells (opc zop) 34)).alloc (.cells (opc zop) 34)) := by
  refine ⟨((liesO_new w e).alloc _).alloc _, ?_, ?_, (((Below.refl _ _).alloc (Nat.le_refl _) _).alloc (by simp) _).alloc (by simp; omega) _⟩
  · have := (liesO_new (w.alloc (.cells (opc e) 34)) zop).alloc (.cells (opc zop) 34)
    simpa using this
  · have := liesO_new ((w.alloc (.cells (opc e) 34)).alloc (.cells (opc zop) 34)) zop
    simpa using this

/-- Where onlyUsed stands: its argument, its result's place, what it makes. -/
structure Usd (w0 w : World) (e u : Ev) : Prop where
  o : LiesO w w0.heap.size e
  z : LiesO w (w0.heap.size + 1) zop
  u : LiesO w (w0.heap.size + 1 + 1) u
  b : Below w0.heap.size w0 w

theorem Usd.setF {w0 w : World} {e u : Ev} (h : Usd w0 w e u) (s : List UInt8) : Usd w0 (w.setCell ⟨w0.heap.size + 1 + 1, 2, none⟩ (.string (sb s))) e { u with field := s } :=
  ⟨h.o.other _ _ (by simp; omega), h.z.other _ _ (by simp), h.u.setF s, h.b.setCell (by simp; omega) _⟩
theorem Usd.setV {w0 w : World} {e u : Ev} (h : Usd w0 w e u) (s : List UInt8) : Usd w0 (w.setCell ⟨w0.heap.size + 1 + 1, 3, none⟩ (.string (sb s))) e { u with value := s } :=
  ⟨h.o.other _ _ (by simp; omega), h.z.other _ _ (by simp), h.u.setV s, h.b.setCell (by simp; omega) _⟩
theorem Usd.setN {w0 w : World} {e u : Ev} (h : Usd w0 w e u) (n : Int) : Usd w0 (w.setCell ⟨w0.heap.size + 1 + 1, 4, none⟩ (.int .i64 n)) e { u with num := n } :=
  ⟨h.o.other _ _ (by simp; omega), h.z.other _ _ (by simp), h.u.setN n, h.b.setCell (by simp; omega) _⟩
theorem Usd.setR {w0 w : World} {e u : Ev} (h : Usd w0 w e u) (r n : Int) : Usd w0 (w.setCells (w0.heap.size + 1 + 1) 5 (dotc r n).toList) e { u with rr := r, rn := n } :=
  ⟨h.o.otherD _ _ _ _ (by omega), h.z.otherD _ _ _ _ (by omega), h.u.setR r n, below_setCells2 h.b (by omega) _ _⟩
theorem Usd.start (w : World) (e : Ev) : Usd w ((((w.alloc (.cells (opc e) 34)).alloc (.cells (opc zop) 34)).alloc (.cells (opc zop) 34)).setRow (w.heap.size + 1 + 1) (opc (part1 e))) e (part1 e) := by
  obtain ⟨h1, h2, h3, h4⟩ := boxedO3 w e
  exact ⟨h1.rowOther _ (by omega), h2.rowOther _ (by omega), h3.row _, below_setRow h4 (by omega) _⟩

theorem part2_t {e : Ev} (h : usesF e.kind = true) : { part1 e with field := e.field } = part2 e := by rw [part2, h]; rfl
theorem part2_f {e : Ev} (h : usesF e.kind = false) : part1 e = part2 e := by rw [part2, h]; rfl
theorem part3_t {e : Ev} (h : usesV e.kind = true) : { part2 e with value := e.value } = part3 e := by rw [part3, h]; rfl
theorem part3_f {e : Ev} (h : usesV e.kind = false) : part2 e = part3 e := by rw [part3, h]; rfl
theorem part4_t {e : Ev} (h : usesN e.kind = true) : { part3 e with num := e.num } = part4 e := by rw [part4, h]; rfl
theorem part4_f {e : Ev} (h : usesN e.kind = false) : part3 e = part4 e := by rw [part4, h]; rfl
theorem used_t {e : Ev} (h : usesR e.kind = true) : { part4 e with rr := e.rr, rn := e.rn } = used e := by rw [used, h]; rfl
theorem used_f {e : Ev} (h : usesR e.kind = false) : part4 e = used e := by rw [used, h]; rfl
theorem opc_get (e : Ev) : (opc e)[0]? = some (.int .i64 e.kind) ∧ (opc e)[1]? = some (.string (sb e.key)) ∧ (opc e)[2]? = some (.string (sb e.field)) ∧ (opc e)[3]? = some (.string (sb e.value)) ∧ (opc e)[4]? = some (.int .i64 e.num) ∧ (opc e)[5]? = some (.int .i64 e.rr) ∧ (opc e)[6]? = some (.int .i64 e.rn) := ⟨rfl, rfl, rfl, rfl, rfl, rfl, rfl⟩

set_option maxHeartbeats 1000000 in
theorem onlyused_any (e : Ev) (w : World) : Calls Tryz.prog 49 #[.agg (opc e)] w fun e' w' => e' = .returned (.agg (opc (used e))) ∧ Below w.heap.size w w' := by
  have hu := Usd.start w e
  obtain ⟨-, -, hz, -⟩ := boxedO3 w e
  obtain ⟨g0, g1, -⟩ := opc_get e
  have c0 := hu.o.c0
  rw [zop_cells] at c0
  go_enter Tryz.func49, Tryz.ntmps49
  go_wp2_with (refine store_op (e := part1 e) rfl rfl rfl rfl hz ?_)
  refine (usesfield_any _ _).mono ?_
  rintro e' w1 ⟨rfl, hw⟩
  have hu1 : Usd w w1 e (part1 e) := by rw [hw]; exact hu
  clear hw c0 hu hz g0 g1
  go_upto_if 11 with (fail)
  go_cut [] from 4 (fun w' => Usd w w' e (part2 e))
  case first =>
    rcases Bool.eq_false_or_eq_true (usesF e.kind) with hk | hk
    · have hc := hu1.o.c2
      have hd := hu1.u.c2
      have hf := hu1.u.frozen (k := 2)
      have HU : Hid (Usd w _ e (part2 e)) := (part2_t hk) ▸ hu1.setF _
      rw [hk]
      clear hk hu1
      go_wp2
      go_meet
      case rel => exact HU.out
    · have HU : Hid (Usd w _ e (part2 e)) := (part2_f hk) ▸ hu1
      rw [hk]
      clear hk hu1
      go_wp2
      go_meet
      case rel => exact HU.out
  case rest =>
  rename World => w2
  have hu2 : Usd w w2 e (part2 e) := hcut
  clear hcut hu1
  have c0 := hu2.o.c0
  go_wp2_with fail
  refine (usesvalue_any _ _).mono ?_
  rintro e' w' ⟨rfl, hw⟩
  obtain rfl := hw.symm
  clear c0
  go_upto_if 17 with (fail)
  go_cut [] from 4 (fun w' => Usd w w' e (part3 e))
  case first =>
    rcases Bool.eq_false_or_eq_true (usesV e.kind) with hk | hk
    · have hc := hu2.o.c3
      have hd := hu2.u.c3
      have hf := hu2.u.frozen (k := 3)
      have HU : Hid (Usd w _ e (part3 e)) := (part3_t hk) ▸ hu2.setV _
      rw [hk]
      clear hk hu2
      go_wp2
      go_meet
      case rel => exact HU.out
    · have HU : Hid (Usd w _ e (part3 e)) := (part3_f hk) ▸ hu2
      rw [hk]
      clear hk hu2
      go_wp2
      go_meet
      case rel => exact HU.out
  case rest =>
  rename World => w3
  have hu3 : Usd w w3 e (part3 e) := hcut
  clear hcut hu2
  have c0 := hu3.o.c0
  go_wp2_with fail
  refine (usesnum_any _ _).mono ?_
  rintro e' w' ⟨rfl, hw⟩
  obtain rfl := hw.symm
  clear c0
  go_upto_if 23 with (fail)
  go_cut [] from 4 (fun w' => Usd w w' e (part4 e))
  case first =>
    rcases Bool.eq_false_or_eq_true (usesN e.kind) with hk | hk
    · have hc := hu3.o.c4
      have hd := hu3.u.c4
      have hf := hu3.u.frozen (k := 4)
      have HU : Hid (Usd w _ e (part4 e)) := (part4_t hk) ▸ hu3.setN _
      rw [hk]
      clear hk hu3
      go_wp2
      go_meet
      case rel => exact HU.out
    · have HU : Hid (Usd w _ e (part4 e)) := (part4_f hk) ▸ hu3
      rw [hk]
      clear hk hu3
      go_wp2
      go_meet
      case rel => exact HU.out
  case rest =>
  rename World => w4
  have hu4 : Usd w w4 e (part4 e) := hcut
  clear hcut hu3
  have c0 := hu4.o.c0
  go_wp2_with fail
  refine (usesref_any _ _).mono ?_
  rintro e' w' ⟨rfl, hw⟩
  obtain rfl := hw.symm
  clear c0
  go_upto_if 29 with (fail)
  go_cut [] from 4 (fun w' => Usd w w' e (used e))
  case first =>
    rcases Bool.eq_false_or_eq_true (usesR e.kind) with hk | hk
    · have r5 := hu4.o.ref
      have t5 := hu4.u.thereR
      have HU : Hid (Usd w _ e (used e)) := (used_t hk) ▸ hu4.setR _ _
      rw [hk]
      clear hk hu4
      go_wp2_with (first | refine load_dot_at rfl rfl rfl r5 ?_ | refine store_dot_at rfl rfl rfl rfl t5 ?_)
      go_meet
      case rel => exact HU.out
    · have HU : Hid (Usd w _ e (used e)) := (used_f hk) ▸ hu4
      rw [hk]
      clear hk hu4
      go_wp2
      go_meet
      case rel => exact HU.out
  case rest =>
  rename World => w5
  have hu5 : Usd w w5 e (used e) := hcut
  clear hcut hu4
  go_wp2_with (first | refine load_op rfl rfl rfl hu5.u ?_ | refine store_op rfl rfl rfl rfl hu5.z ?_)
  exact ret_op rfl rfl rfl (hu5.z.row _) ⟨rfl, below_setRow hu5.b (by omega) _⟩
end Go.Proofs.YtmlfekbmbnfkjabGreatDoor

/-
  What rightOp comes to.
-/
namespace Go.Proofs.YtmlfekbmbnfkjabGreatDoor
set_option maxRecDepth 100000
open Go.RowKit

theorem calls_below {f : FuncId} {as' : Array Value} {W : World} {b : Bool} (h : Calls Tryz.prog f as' W fun e w' => e = .returned (.bool b) ∧ w' = W) : Calls Tryz.prog f as' W fun e w' => e = .returned (.bool b) ∧ Below W.heap.size W w' :=
  h.mono fun _ _ ⟨h1, h2⟩ => ⟨h1, by rw [h2]; exact Below.refl _ _⟩
theorem fieldO0_run (w : World) (g : Nat) : (Instr.fieldAt 34 (.pointer (some ⟨g, 0, none⟩)) 0).run Tryz.prog w = .ok (.pointer (some ⟨g, 0, none⟩)) w := by kernel_rfl
theorem fieldO1_run (w : World) (g : Nat) : (Instr.fieldAt 34 (.pointer (some ⟨g, 0, none⟩)) 1).run Tryz.prog w = .ok (.pointer (some ⟨g, 1, none⟩)) w := by kernel_rfl
theorem fieldO4_run (w : World) (g : Nat) : (Instr.fieldAt 34 (.pointer (some ⟨g, 0, none⟩)) 4).run Tryz.prog w = .ok (.pointer (some ⟨g, 4, none⟩)) w := by kernel_rfl
theorem load_op_run {w : World} {g : Nat} {e : Ev} (h : LiesO w g e) : (loadVar 34 ⟨g, 0, none⟩).run Tryz.prog w = .ok (.agg (opc e)) w :=
  run_loadVar_row w g 34 34 _ (0, 0) _ h Tryz.underlying34 rfl (size7 e)
/-- The same, its cells a letter. -/
def Is (O : Array Value) (e : Ev) : Prop := O = opc e
theorem is_any (e : Ev) : ∃ O, Is O e := ⟨_, rfl⟩
theorem load_op_is {w : World} {g : Nat} {e : Ev} {O : Array Value} (h : LiesO w g e) (i : Is O e) : (loadVar 34 ⟨g, 0, none⟩).run Tryz.prog w = .ok (.agg O) w := by
  rw [i]; exact load_op_run h
theorem righttexts_is {e : Ev} {O : Array Value} (i : Is O e) (w : World) (hk : e.key.length ≤ 9223372036854775807) (hf : e.field.length ≤ 9223372036854775807) (hv : e.value.length ≤ 9223372036854775807) :
    Calls Tryz.prog 47 #[.agg O] w fun e' w' => e' = .returned (.bool (textsE e)) ∧ Below w.heap.size w w' := by
  rw [i]; exact righttexts_any e w hk hf hv
theorem onlyused_is {e : Ev} {O U : Array Value} (i : Is O e) (j : Is U (used e)) (w : World) : Calls Tryz.prog 49 #[.agg O] w fun e' w' => e' = .returned (.agg U) ∧ Below w.heap.size w w' := by
  rw [i, j]; exact onlyused_any e w
theorem run_eql_is (w : World) {e f : Ev} {O U : Array Value} (i : Is O e) (j : Is U f) : (binOp .eql 34 (.agg O) (.agg U)).run Tryz.prog w = .ok (.bool (sameO e f)) w := by
  rw [i, j]; exact run_eql_op w e f
theorem boxedI (w : World) {e : Ev} {O : Array Value} (i : Is O e) : LiesO (w.alloc (.cells O 34)) w.heap.size e ∧ Below w.heap.size w (w.alloc (.cells O 34)) := by
  rw [i]; exact boxedO w e
theorem eqGuard_str (w : World) {op : BinOp} {x y : Operand} {a b : ByteArray} : (eqGuard op 9 x y (.string a) (.string b)).run Tryz.prog w = .ok () w := by
  cases op <;> simp [eqGuard]
theorem neq_str_run (w : World) {s : List UInt8} {b : Bool} (h : decide (s ≠ []) = b) : (binOp .neq 9 (.string (sb s)) (.string ⟨#[]⟩)).run Tryz.prog w = .ok (.bool b) w := by
  subst h
  show (binOp .neq 9 (.string (sb s)) (.string (sb []))).run Tryz.prog w = _
  have h : ((sb s).toList == (sb []).toList) = decide (s = []) := by
    rw [ByteArray.toList_eq, ByteArray.toList_eq, data_sb, data_sb, Bool.eq_iff_iff]
    simp
  simp [binOp, Op.stringOp, h]
theorem enters_iskind (xs : Array Value) (w : World) : (callFunc 46 xs).run Tryz.prog w = .ok (.enter 46 xs) w := enters Tryz.func46 (by kernel_rfl) (by kernel_rfl) xs w
theorem enters_righttexts (xs : Array Value) (w : World) : (callFunc 47 xs).run Tryz.prog w = .ok (.enter 47 xs) w := enters Tryz.func47 (by kernel_rfl) (by kernel_rfl) xs w
theorem enters_rightnum (xs : Array Value) (w : World) : (callFunc 48 xs).run Tryz.prog w = .ok (.enter 48 xs) w := enters Tryz.func48 (by kernel_rfl) (by kernel_rfl) xs w
theorem enters_onlyused (xs : Array Value) (w : World) : (callFunc 49 xs).run Tryz.prog w = .ok (.enter 49 xs) w := enters Tryz.func49 (by kernel_rfl) (by kernel_rfl) xs w

/-- Can the operation be? -/
def opE (e : Ev) : Bool := iskindE e.kind && (decide (e.key ≠ []) && (textsE e && (numE e.num && sameO e (used e))))

set_option maxHeartbeats 1000000 in
theorem rightop_A (e : Ev) (w : World) {O : Array Value} (i : Is O e) (hk : iskindE e.kind = false) : Calls Tryz.prog 30 #[.agg O] w fun e' w' => e' = .returned (.bool false) ∧ Below w.heap.size w w' := by
  obtain ⟨hO, hB⟩ := boxedI w i
  have HB : Hid (Below w.heap.size w (w.alloc (.cells O 34))) := hB
  clear hB
  have c0 := hO.c0
  go_enter Tryz.func30, Tryz.ntmps30
  go_wp2_with fail
  refine region_vals [3, 4, 5, 6, 7, 8, 9, 10, 11, 12, 13, 14, 15, 16, 17, 18, 19, 20, 21, 22, 23, 24, 25, 2] [.pointer (some ⟨w.heap.size, 0, none⟩), .int .i64 (e.kind), .bool false, .bool false, undef, undef, undef, .bool false, .bool false, undef, undef, .bool false, .bool false, undef, undef, undef, .bool false, .bool false, undef, undef, undef, undef, .bool false, .bool false] _ (by kernel_rfl) (by kernel_rfl) (by rfl) (by decide) (by kernel_rfl) (by simp only [lay, Act.put, List.setIfInBounds_toArray, List.set_cons_zero, List.set_cons_succ, List.getD_cons_zero, List.getD_cons_succ, Nat.reduceAdd]; rfl) ⟨?_, ?_, ?_, ?_, ?_, ?_, ?_, ?_, ?_, ?_, ?_, ?_, ?_, ?_, ?_, ?_, ?_, ?_, ?_, ?_, ?_, ?_, ?_, ?_, trivial⟩ ?_
  · exact .inl ⟨rfl, fun W hb => yields_field rfl rfl (fieldO0_run W _)⟩
  · exact .inl ⟨rfl, fun W hb => yields_load rfl rfl (load_int_run ((hb.cell (block_lt_of_cell c0)).trans c0))⟩
  · exact .inl ⟨rfl, fun W hb => yields_call (vs := [.int .i64 (e.kind)]) (v := .bool false) rfl rfl (enters_iskind _ _) (okcall (calls_below (iskind_any _ W)) hk)⟩
  · exact .inl ⟨rfl, fun W hb => yields_move rfl rfl⟩
  · exact .inr ⟨rfl, rfl⟩
  · exact .inr ⟨rfl, rfl⟩
  · exact .inr ⟨rfl, rfl⟩
  · exact .inl ⟨rfl, fun W hb => yields_pick (b := false) rfl rfl rfl⟩
  · exact .inl ⟨rfl, fun W hb => yields_move rfl rfl⟩
  · exact .inr ⟨rfl, rfl⟩
  · exact .inr ⟨rfl, rfl⟩
  · exact .inl ⟨rfl, fun W hb => yields_pick (b := false) rfl rfl rfl⟩
  · exact .inl ⟨rfl, fun W hb => yields_move rfl rfl⟩
  · exact .inr ⟨rfl, rfl⟩
  · exact .inr ⟨rfl, rfl⟩
  · exact .inr ⟨rfl, rfl⟩
  · exact .inl ⟨rfl, fun W hb => yields_pick (b := false) rfl rfl rfl⟩
  · exact .inl ⟨rfl, fun W hb => yields_move rfl rfl⟩
  · exact .inr ⟨rfl, rfl⟩
  · exact .inr ⟨rfl, rfl⟩
  · exact .inr ⟨rfl, rfl⟩
  · exact .inr ⟨rfl, rfl⟩
  · exact .inl ⟨rfl, fun W hb => yields_pick (b := false) rfl rfl rfl⟩
  · exact .inl ⟨rfl, fun W hb => yields_assign rfl rfl⟩
  intro w2 hb2
  clear c0 hO
  go_wp2
  go_ret
  exact ⟨rfl, HB.out.trans (hb2.mono HB.out.size)⟩
set_option maxHeartbeats 1000000 in
theorem rightop_B (e : Ev) (w : World) {O : Array Value} (i : Is O e) (hk : iskindE e.kind = true) (hy : decide (e.key ≠ []) = false) : Calls Tryz.prog 30 #[.agg O] w fun e' w' => e' = .returned (.bool false) ∧ Below w.heap.size w w' := by
  obtain ⟨hO, hB⟩ := boxedI w i
  have HB : Hid (Below w.heap.size w (w.alloc (.cells O 34))) := hB
  clear hB
  have c0 := hO.c0
  have c1 := hO.c1
  go_enter Tryz.func30, Tryz.ntmps30
  go_wp2_with fail
  refine region_vals [3, 4, 5, 6, 7, 8, 9, 10, 11, 12, 13, 14, 15, 16, 17, 18, 19, 20, 21, 22, 23, 24, 25, 2] [.pointer (some ⟨w.heap.size, 0, none⟩), .int .i64 (e.kind), .bool true, .bool true, .pointer (some ⟨w.heap.size, 1, none⟩), .string (sb (e.key)), .bool false, .bool false, .bool false, undef, undef, .bool false, .bool false, undef, undef, undef, .bool false, .bool false, undef, undef, undef, undef, .bool false, .bool false] _ (by kernel_rfl) (by kernel_rfl) (by rfl) (by decide) (by kernel_rfl) (by simp only [lay, Act.put, List.setIfInBounds_toArray, List.set_cons_zero, List.set_cons_succ, List.getD_cons_zero, List.getD_cons_succ, Nat.reduceAdd]; rfl) ⟨?_, ?_, ?_, ?_, ?_, ?_, ?_, ?_, ?_, ?_, ?_, ?_, ?_, ?_, ?_, ?_, ?_, ?_, ?_, ?_, ?_, ?_, ?_, ?_, trivial⟩ ?_
  · exact .inl ⟨rfl, fun W hb => yields_field rfl rfl (fieldO0_run W _)⟩
  · exact .inl ⟨rfl, fun W hb => yields_load rfl rfl (load_int_run ((hb.cell (block_lt_of_cell c0)).trans c0))⟩
  · exact .inl ⟨rfl, fun W hb => yields_call (vs := [.int .i64 (e.kind)]) (v := .bool true) rfl rfl (enters_iskind _ _) (okcall (calls_below (iskind_any _ W)) hk)⟩
  · exact .inl ⟨rfl, fun W hb => yields_move rfl rfl⟩
  · exact .inl ⟨rfl, fun W hb => yields_field rfl rfl (fieldO1_run W _)⟩
  · exact .inl ⟨rfl, fun W hb => yields_load rfl rfl (load_str_run ((hb.cell (block_lt_of_cell c1)).trans c1))⟩
  · exact .inl ⟨rfl, fun W hb => yields_bin rfl rfl rfl (eqGuard_str W) (neq_str_run W hy)⟩
  · exact .inl ⟨rfl, fun W hb => yields_pick (b := true) rfl rfl rfl⟩
  · exact .inl ⟨rfl, fun W hb => yields_move rfl rfl⟩
  · exact .inr ⟨rfl, rfl⟩
  · exact .inr ⟨rfl, rfl⟩
  · exact .inl ⟨rfl, fun W hb => yields_pick (b := false) rfl rfl rfl⟩
  · exact .inl ⟨rfl, fun W hb => yields_move rfl rfl⟩
  · exact .inr ⟨rfl, rfl⟩
  · exact .inr ⟨rfl, rfl⟩
  · exact .inr ⟨rfl, rfl⟩
  · exact .inl ⟨rfl, fun W hb => yields_pick (b := false) rfl rfl rfl⟩
  · exact .inl ⟨rfl, fun W hb => yields_move rfl rfl⟩
  · exact .inr ⟨rfl, rfl⟩
  · exact .inr ⟨rfl, rfl⟩
  · exact .inr ⟨rfl, rfl⟩
  · exact .inr ⟨rfl, rfl⟩
  · exact .inl ⟨rfl, fun W hb => yields_pick (b := false) rfl rfl rfl⟩
  · exact .inl ⟨rfl, fun W hb => yields_assign rfl rfl⟩
  intro w2 hb2
  clear c0 c1 hO
  go_wp2
  go_ret
  exact ⟨rfl, HB.out.trans (hb2.mono HB.out.size)⟩
set_option maxHeartbeats 1000000 in
theorem rightop_C (e : Ev) (w : World) (lk : Room e) {O : Array Value} (i : Is O e) (hk : iskindE e.kind = true) (hy : decide (e.key ≠ []) = true) (hx : textsE e = false) : Calls Tryz.prog 30 #[.agg O] w fun e' w' => e' = .returned (.bool false) ∧ Below w.heap.size w w' := by
  obtain ⟨hO, hB⟩ := boxedI w i
  have HB : Hid (Below w.heap.size w (w.alloc (.cells O 34))) := hB
  clear hB
  have c0 := hO.c0
  have c1 := hO.c1
  go_enter Tryz.func30, Tryz.ntmps30
  go_wp2_with fail
  refine region_vals [3, 4, 5, 6, 7, 8, 9, 10, 11, 12, 13, 14, 15, 16, 17, 18, 19, 20, 21, 22, 23, 24, 25, 2] [.pointer (some ⟨w.heap.size, 0, none⟩), .int .i64 (e.kind), .bool true, .bool true, .pointer (some ⟨w.heap.size, 1, none⟩), .string (sb (e.key)), .bool true, .bool true, .bool true, .agg O, .bool false, .bool false, .bool false, undef, undef, undef, .bool false, .bool false, undef, undef, undef, undef, .bool false, .bool false] _ (by kernel_rfl) (by kernel_rfl) (by rfl) (by decide) (by kernel_rfl) (by simp only [lay, Act.put, List.setIfInBounds_toArray, List.set_cons_zero, List.set_cons_succ, List.getD_cons_zero, List.getD_cons_succ, Nat.reduceAdd]; rfl) ⟨?_, ?_, ?_, ?_, ?_, ?_, ?_, ?_, ?_, ?_, ?_, ?_, ?_, ?_, ?_, ?_, ?_, ?_, ?_, ?_, ?_, ?_, ?_, ?_, trivial⟩ ?_
  · exact .inl ⟨rfl, fun W hb => yields_field rfl rfl (fieldO0_run W _)⟩
  · exact .inl ⟨rfl, fun W hb => yields_load rfl rfl (load_int_run ((hb.cell (block_lt_of_cell c0)).trans c0))⟩
  · exact .inl ⟨rfl, fun W hb => yields_call (vs := [.int .i64 (e.kind)]) (v := .bool true) rfl rfl (enters_iskind _ _) (okcall (calls_below (iskind_any _ W)) hk)⟩
  · exact .inl ⟨rfl, fun W hb => yields_move rfl rfl⟩
  · exact .inl ⟨rfl, fun W hb => yields_field rfl rfl (fieldO1_run W _)⟩
  · exact .inl ⟨rfl, fun W hb => yields_load rfl rfl (load_str_run ((hb.cell (block_lt_of_cell c1)).trans c1))⟩
  · exact .inl ⟨rfl, fun W hb => yields_bin rfl rfl rfl (eqGuard_str W) (neq_str_run W hy)⟩
  · exact .inl ⟨rfl, fun W hb => yields_pick (b := true) rfl rfl rfl⟩
  · exact .inl ⟨rfl, fun W hb => yields_move rfl rfl⟩
  · exact .inl ⟨rfl, fun W hb => yields_load rfl rfl (load_op_is ((hO).below hb (hO).lt) i)⟩
  · exact .inl ⟨rfl, fun W hb => yields_call (vs := [.agg O]) (v := .bool false) rfl rfl (enters_righttexts _ _) (okcall (righttexts_is i W lk.k lk.f lk.v) hx)⟩
  · exact .inl ⟨rfl, fun W hb => yields_pick (b := true) rfl rfl rfl⟩
  · exact .inl ⟨rfl, fun W hb => yields_move rfl rfl⟩
  · exact .inr ⟨rfl, rfl⟩
  · exact .inr ⟨rfl, rfl⟩
  · exact .inr ⟨rfl, rfl⟩
  · exact .inl ⟨rfl, fun W hb => yields_pick (b := false) rfl rfl rfl⟩
  · exact .inl ⟨rfl, fun W hb => yields_move rfl rfl⟩
  · exact .inr ⟨rfl, rfl⟩
  · exact .inr ⟨rfl, rfl⟩
  · exact .inr ⟨rfl, rfl⟩
  · exact .inr ⟨rfl, rfl⟩
  · exact .inl ⟨rfl, fun W hb => yields_pick (b := false) rfl rfl rfl⟩
  · exact .inl ⟨rfl, fun W hb => yields_assign rfl rfl⟩
  intro w2 hb2
  clear c0 c1 hO
  go_wp2
  go_ret
  exact ⟨rfl, HB.out.trans (hb2.mono HB.out.size)⟩
set_option maxHeartbeats 1000000 in
theorem rightop_D (e : Ev) (w : World) (lk : Room e) {O : Array Value} (i : Is O e) (hk : iskindE e.kind = true) (hy : decide (e.key ≠ []) = true) (hx : textsE e = true) (hn : numE e.num = false) : Calls Tryz.prog 30 #[.agg O] w fun e' w' => e' = .returned (.bool false) ∧ Below w.heap.size w w' := by
  obtain ⟨hO, hB⟩ := boxedI w i
  have HB : Hid (Below w.heap.size w (w.alloc (.cells O 34))) := hB
  clear hB
  have c0 := hO.c0
  have c1 := hO.c1
  have c4 := hO.c4
  go_enter Tryz.func30, Tryz.ntmps30
  go_wp2_with fail
  refine region_vals [3, 4, 5, 6, 7, 8, 9, 10, 11, 12, 13, 14, 15, 16, 17, 18, 19, 20, 21, 22, 23, 24, 25, 2] [.pointer (some ⟨w.heap.size, 0, none⟩), .int .i64 (e.kind), .bool true, .bool true, .pointer (some ⟨w.heap.size, 1, none⟩), .string (sb (e.key)), .bool true, .bool true, .bool true, .agg O, .bool true, .bool true, .bool true, .pointer (some ⟨w.heap.size, 4, none⟩), .int .i64 (e.num), .bool false, .bool false, .bool false, undef, undef, undef, undef, .bool false, .bool false] _ (by kernel_rfl) (by kernel_rfl) (by rfl) (by decide) (by kernel_rfl) (by simp only [lay, Act.put, List.setIfInBounds_toArray, List.set_cons_zero, List.set_cons_succ, List.getD_cons_zero, List.getD_cons_succ, Nat.reduceAdd]; rfl) ⟨?_, ?_, ?_, ?_, ?_, ?_, ?_, ?_, ?_, ?_, ?_, ?_, ?_, ?_, ?_, ?_, ?_, ?_, ?_, ?_, ?_, ?_, ?_, ?_, trivial⟩ ?_
  · exact .inl ⟨rfl, fun W hb => yields_field rfl rfl (fieldO0_run W _)⟩
  · exact .inl ⟨rfl, fun W hb => yields_load rfl rfl (load_int_run ((hb.cell (block_lt_of_cell c0)).trans c0))⟩
  · exact .inl ⟨rfl, fun W hb => yields_call (vs := [.int .i64 (e.kind)]) (v := .bool true) rfl rfl (enters_iskind _ _) (okcall (calls_below (iskind_any _ W)) hk)⟩
  · exact .inl ⟨rfl, fun W hb => yields_move rfl rfl⟩
  · exact .inl ⟨rfl, fun W hb => yields_field rfl rfl (fieldO1_run W _)⟩
  · exact .inl ⟨rfl, fun W hb => yields_load rfl rfl (load_str_run ((hb.cell (block_lt_of_cell c1)).trans c1))⟩
  · exact .inl ⟨rfl, fun W hb => yields_bin rfl rfl rfl (eqGuard_str W) (neq_str_run W hy)⟩
  · exact .inl ⟨rfl, fun W hb => yields_pick (b := true) rfl rfl rfl⟩
  · exact .inl ⟨rfl, fun W hb => yields_move rfl rfl⟩
  · exact .inl ⟨rfl, fun W hb => yields_load rfl rfl (load_op_is ((hO).below hb (hO).lt) i)⟩
  · exact .inl ⟨rfl, fun W hb => yields_call (vs := [.agg O]) (v := .bool true) rfl rfl (enters_righttexts _ _) (okcall (righttexts_is i W lk.k lk.f lk.v) hx)⟩
  · exact .inl ⟨rfl, fun W hb => yields_pick (b := true) rfl rfl rfl⟩
  · exact .inl ⟨rfl, fun W hb => yields_move rfl rfl⟩
  · exact .inl ⟨rfl, fun W hb => yields_field rfl rfl (fieldO4_run W _)⟩
  · exact .inl ⟨rfl, fun W hb => yields_load rfl rfl (load_int_run ((hb.cell (block_lt_of_cell c4)).trans c4))⟩
  · exact .inl ⟨rfl, fun W hb => yields_call (vs := [.int .i64 (e.num)]) (v := .bool false) rfl rfl (enters_rightnum _ _) (okcall (calls_below (rightnum_any _ W)) hn)⟩
  · exact .inl ⟨rfl, fun W hb => yields_pick (b := true) rfl rfl rfl⟩
  · exact .inl ⟨rfl, fun W hb => yields_move rfl rfl⟩
  · exact .inr ⟨rfl, rfl⟩
  · exact .inr ⟨rfl, rfl⟩
  · exact .inr ⟨rfl, rfl⟩
  · exact .inr ⟨rfl, rfl⟩
  · exact .inl ⟨rfl, fun W hb => yields_pick (b := false) rfl rfl rfl⟩
  · exact .inl ⟨rfl, fun W hb => yields_assign rfl rfl⟩
  intro w2 hb2
  clear c0 c1 c4 hO
  go_wp2
  go_ret
  exact ⟨rfl, HB.out.trans (hb2.mono HB.out.size)⟩
set_option maxHeartbeats 1000000 in
theorem rightop_E (e : Ev) (w : World) (lk : Room e) {O : Array Value} (i : Is O e) (hk : iskindE e.kind = true) (hy : decide (e.key ≠ []) = true) (hx : textsE e = true) (hn : numE e.num = true) : Calls Tryz.prog 30 #[.agg O] w fun e' w' => e' = .returned (.bool (sameO e (used e))) ∧ Below w.heap.size w w' := by
  obtain ⟨U, ju⟩ := is_any (used e)
  obtain ⟨hO, hB⟩ := boxedI w i
  have HB : Hid (Below w.heap.size w (w.alloc (.cells O 34))) := hB
  clear hB
  have c0 := hO.c0
  have c1 := hO.c1
  have c4 := hO.c4
  go_enter Tryz.func30, Tryz.ntmps30
  go_wp2_with fail
  refine region_vals [3, 4, 5, 6, 7, 8, 9, 10, 11, 12, 13, 14, 15, 16, 17, 18, 19, 20, 21, 22, 23, 24, 25, 2] [.pointer (some ⟨w.heap.size, 0, none⟩), .int .i64 (e.kind), .bool true, .bool true, .pointer (some ⟨w.heap.size, 1, none⟩), .string (sb (e.key)), .bool true, .bool true, .bool true, .agg O, .bool true, .bool true, .bool true, .pointer (some ⟨w.heap.size, 4, none⟩), .int .i64 (e.num), .bool true, .bool true, .bool true, .agg O, .agg O, .agg U, .bool (sameO e (used e)), .bool (sameO e (used e)), .bool (sameO e (used e))] _ (by kernel_rfl) (by kernel_rfl) (by rfl) (by decide) (by kernel_rfl) (by simp only [lay, Act.put, List.setIfInBounds_toArray, List.set_cons_zero, List.set_cons_succ, List.getD_cons_zero, List.getD_cons_succ, Nat.reduceAdd]; rfl) ⟨?_, ?_, ?_, ?_, ?_, ?_, ?_, ?_, ?_, ?_, ?_, ?_, ?_, ?_, ?_, ?_, ?_, ?_, ?_, ?_, ?_, ?_, ?_, ?_, trivial⟩ ?_
  · exact .inl ⟨rfl, fun W hb => yields_field rfl rfl (fieldO0_run W _)⟩
  · exact .inl ⟨rfl, fun W hb => yields_load rfl rfl (load_int_run ((hb.cell (block_lt_of_cell c0)).trans c0))⟩
  · exact .inl ⟨rfl, fun W hb => yields_call (vs := [.int .i64 (e.kind)]) (v := .bool true) rfl rfl (enters_iskind _ _) (okcall (calls_below (iskind_any _ W)) hk)⟩
  · exact .inl ⟨rfl, fun W hb => yields_move rfl rfl⟩
  · exact .inl ⟨rfl, fun W hb => yields_field rfl rfl (fieldO1_run W _)⟩
  · exact .inl ⟨rfl, fun W hb => yields_load rfl rfl (load_str_run ((hb.cell (block_lt_of_cell c1)).trans c1))⟩
  · exact .inl ⟨rfl, fun W hb => yields_bin rfl rfl rfl (eqGuard_str W) (neq_str_run W hy)⟩
  · exact .inl ⟨rfl, fun W hb => yields_pick (b := true) rfl rfl rfl⟩
  · exact .inl ⟨rfl, fun W hb => yields_move rfl rfl⟩
  · exact .inl ⟨rfl, fun W hb => yields_load rfl rfl (load_op_is ((hO).below hb (hO).lt) i)⟩
  · exact .inl ⟨rfl, fun W hb => yields_call (vs := [.agg O]) (v := .bool true) rfl rfl (enters_righttexts _ _) (okcall (righttexts_is i W lk.k lk.f lk.v) hx)⟩
  · exact .inl ⟨rfl, fun W hb => yields_pick (b := true) rfl rfl rfl⟩
  · exact .inl ⟨rfl, fun W hb => yields_move rfl rfl⟩
  · exact .inl ⟨rfl, fun W hb => yields_field rfl rfl (fieldO4_run W _)⟩
  · exact .inl ⟨rfl, fun W hb => yields_load rfl rfl (load_int_run ((hb.cell (block_lt_of_cell c4)).trans c4))⟩
  · exact .inl ⟨rfl, fun W hb => yields_call (vs := [.int .i64 (e.num)]) (v := .bool true) rfl rfl (enters_rightnum _ _) (okcall (calls_below (rightnum_any _ W)) hn)⟩
  · exact .inl ⟨rfl, fun W hb => yields_pick (b := true) rfl rfl rfl⟩
  · exact .inl ⟨rfl, fun W hb => yields_move rfl rfl⟩
  · exact .inl ⟨rfl, fun W hb => yields_load rfl rfl (load_op_is ((hO).below hb (hO).lt) i)⟩
  · exact .inl ⟨rfl, fun W hb => yields_load rfl rfl (load_op_is ((hO).below hb (hO).lt) i)⟩
  · exact .inl ⟨rfl, fun W hb => yields_call (vs := [.agg O]) (v := .agg U) rfl rfl (enters_onlyused _ _) (onlyused_is i ju W)⟩
  · exact .inl ⟨rfl, fun W hb => yields_bin rfl rfl rfl (run_eqGuard_agg W _ _ _ _ _ _ plain_op) (run_eql_is W i ju)⟩
  · exact .inl ⟨rfl, fun W hb => yields_pick (b := true) rfl rfl rfl⟩
  · exact .inl ⟨rfl, fun W hb => yields_assign rfl rfl⟩
  intro w2 hb2
  clear c0 c1 c4 hO
  go_wp2
  go_ret
  exact ⟨rfl, HB.out.trans (hb2.mono HB.out.size)⟩
theorem rightop_any (e : Ev) (w : World) (lk : Room e) : Calls Tryz.prog 30 #[.agg (opc e)] w fun e' w' => e' = .returned (.bool (opE e)) ∧ Below w.heap.size w w' := by
  rcases Bool.eq_false_or_eq_true (iskindE e.kind) with hk | hk
  · rcases Bool.eq_false_or_eq_true (decide (e.key ≠ [])) with hy | hy
    · rcases Bool.eq_false_or_eq_true (textsE e) with hx | hx
      · rcases Bool.eq_false_or_eq_true (numE e.num) with hn | hn
        · rw [opE, hk, hy, hx, hn]; exact rightop_E e w lk rfl hk hy hx hn
        · rw [opE, hk, hy, hx, hn]; exact rightop_D e w lk rfl hk hy hx hn
      · rw [opE, hk, hy, hx]; exact rightop_C e w lk rfl hk hy hx
    · rw [opE, hk, hy]; exact rightop_B e w rfl hk hy
  · rw [opE, hk]; exact rightop_A e w rfl hk
end Go.Proofs.YtmlfekbmbnfkjabGreatDoor

/-
  What vec.Right comes to: whether each number is from 0 to 1048576; and the reference's.
-/
namespace Go.Proofs.YtmlfekbmbnfkjabGreatDoor
set_option maxRecDepth 100000
open Go.RowKit

/-- Can a vector be? -/
def fine (v : List Int) : Bool := v.all fun x => decide (0 ≤ x ∧ x ≤ 1048576)
theorem fine_step (v : List Int) (k : Nat) (hv : v.length = 16) (hk : k < 16) (h : fine (v.take k) = true) (h0 : 0 ≤ v.getD k 0) (h1 : v.getD k 0 ≤ 1048576) : fine (v.take (k + 1)) = true := by
  have hkl : k < v.length := by omega
  have e : v.getD k 0 = v[k] := by simp [List.getD, hkl]
  rw [e] at h0 h1
  rw [fine, List.take_succ_eq_append_getElem hkl, List.all_append]
  rw [fine] at h
  rw [h, Bool.true_and, List.all_cons, List.all_nil, Bool.and_true]
  exact decide_eq_true ⟨h0, h1⟩
theorem fine_not (v : List Int) (k : Nat) (hv : v.length = 16) (hk : k < 16) (h : v.getD k 0 < 0 ∨ 1048576 < v.getD k 0) : fine v = false := by
  have hkl : k < v.length := by omega
  have e : v.getD k 0 = v[k] := by simp [List.getD, hkl]
  rw [e] at h
  rw [fine, List.all_eq_false]
  exact ⟨v[k], List.getElem_mem hkl, by simp; omega⟩
theorem fine_get (v : List Int) (k : Nat) (hv : v.length = 16) (hk : k < 16) (h : fine v = true) : 0 ≤ v.getD k 0 ∧ v.getD k 0 ≤ 1048576 := by
  have hkl : k < v.length := by omega
  have e : v.getD k 0 = v[k] := by simp [List.getD, hkl]
  rw [fine, List.all_eq_true] at h
  have := h v[k] (List.getElem_mem hkl)
  rw [e]
  simpa using this

set_option maxHeartbeats 400000 in
theorem right_any (v : List Int) (hv : v.length = 16) (w : World) :
    Calls Tryz.prog 51 #[.agg (vals v)] w fun e w' => e = .returned (.bool (fine v)) ∧ Below w.heap.size w w' := by
  have hA := lies_new w v
  have hB : Hid (Below w.heap.size w (w.alloc (.cells (vals v) 41))) := (Below.refl _ _).alloc (Nat.le_refl _) _
  go_enter Tryz.func51, Tryz.ntmps51
  go_wp2_with (refine load_vec rfl rfl rfl hA hv ?_)
  go_loop [6] (fun i => ∃ k : Nat, k ≤ 16 ∧ i = .int .i64 (k : Int) ∧ fine (v.take k) = true) (fun i => 16 - (intOf i).toNat)
  case atStart => exact ⟨0, by omega, rfl, rfl⟩
  case round =>
    obtain ⟨k, hk, rfl, hf⟩ := hrel
    by_cases h : k < 16
    · have hi := run_index_vec (w.alloc (.cells (vals v) 41)) v k hv h
      have Hs : Hid _ := fine_step v k hv h hf
      have Hn : Hid _ := fine_not v k hv h
      clear hf
      generalize v.getD k 0 = x at *
      by_cases h0 : x < 0
      · go_wp2
        go_ret
        rw [Hn.out (.inl h0)]
        exact ⟨rfl, hB.out⟩
      · by_cases h1 : 1048576 < x
        · go_wp2
          go_ret
          rw [Hn.out (.inr h1)]
          exact ⟨rfl, hB.out⟩
        · go_wp2
          go_round
          case rel => exact ⟨k + 1, by omega, by go_num, Hs.out (by omega) (by omega)⟩
          case measure => simp [intOf]; omega
    · obtain rfl : k = 16 := by omega
      rw [List.take_of_length_le (by omega)] at hf
      have Hf : Hid (fine v = true) := hf
      clear hf
      go_wp2
      go_ret
      rw [Hf.out]
      exact ⟨rfl, hB.out⟩

end Go.Proofs.YtmlfekbmbnfkjabGreatDoor

