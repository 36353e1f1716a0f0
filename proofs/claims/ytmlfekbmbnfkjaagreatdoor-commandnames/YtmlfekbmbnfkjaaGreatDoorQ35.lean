/-
  awake and small.
-/
import Derived.Test.YtmlfekbmbnfkjaaGreatDoorQ30
import Derived.Test.YtmlfekbmbnfkjaaGreatDoorQ34
import Derived.ArgAppend
namespace Go.Proofs.YtmlfekbmbnfkjaaGreatDoor
set_option maxRecDepth 100000
open Go.RowKit

def small22 (A : List (List UInt8)) : Prop := A.length ≤ 20 ∧ ∀ s ∈ A, s.length ≤ 1000
set_option maxHeartbeats 1000000 in
theorem csmall_any (ao : Option Addr) (m c : Nat) (A : List (List UInt8)) (w : World) (hT : T21.Txts w ao m c (A.map sb)) :
    Calls Tryz.prog 10 #[.slice ao m c] w fun e w' => (∃ b : Bool, e = .returned (.bool b) ∧ (b = true ↔ small22 A)) ∧ Below w.heap.size w w' := by
  have hlen := hT.len
  rw [List.length_map] at hlen
  by_cases h100 : 20 < m
  · have h100' : (20 : Int) < (m : Int) := by omega
    have hno : ¬ small22 A := fun h => by have := h.1; omega
    go_enter Tryz.func10, Tryz.ntmps10
    go_wp2
    go_ret
    exact ⟨⟨false, rfl, by simp [hno]⟩, Below.refl _ _⟩
  · have h100' : ¬ (20 : Int) < (m : Int) := by omega
    have HT : Aside (T21.Txts w ao m c (A.map sb)) := hT
    have HL : Hid (A.length = m) := hlen
    clear hT hlen
    go_enter Tryz.func10, Tryz.ntmps10
    go_wp2_with fail
    go_loopw [9] (fun i wr => ∃ k : Nat, k ≤ m ∧ i = .int .i64 (k : Int) ∧ Hid (∀ j, j < k → (A.getD j []).length ≤ 1000) ∧ Hid (Below w.heap.size w wr)) (fun i _ => m - (intOf i).toNat)
    case atStart => exact ⟨0, Nat.zero_le _, rfl, fun j hj => by omega, Below.refl _ _⟩
    case round =>
      obtain ⟨k, hk, rfl, HF, HB⟩ := hrel
      by_cases hlt : k < m
      · have hlt' : (k : Int) < (m : Int) := by omega
        obtain ⟨b, off, rfl, hc2⟩ := arg_at (HT.out.below HB.out (Nat.le_refl _)) hlt
        have hsz : (sb (A.getD k [])).size = (A.getD k []).length := size_sb _
        have HN : Hid ((A.getD k []).length ≤ 1000 → ∀ j, j < k + 1 → (A.getD j []).length ≤ 1000) := fun h j hj => by
          by_cases e : j = k
          · rw [e]; exact h
          · exact HF.out j (by omega)
        have HX : Hid (1000 < (A.getD k []).length → ¬ small22 A) := fun h hf => by
          have := hf.2 (A.getD k []) (by rw [List.getD_eq_getElem?_getD, List.getElem?_eq_getElem (by have := HL.out; omega)]; exact List.getElem_mem _)
          omega
        generalize A.getD k [] = s at *
        obtain ⟨q, hq⟩ : ∃ q, s.length = q := ⟨_, rfl⟩
        rw [hq] at hsz HN HX
        clear hq
        by_cases hs : 1000 < q
        · have hs' : (1000 : Int) < (q : Int) := by omega
          have hno := HX.out hs
          clear HX HN
          go_wp2
          go_ret
          exact ⟨⟨false, rfl, by simp [hno]⟩, HB.out⟩
        · have hs' : ¬ (1000 : Int) < (q : Int) := by omega
          have HT2 := HN.out (by omega)
          have HT2 : Hid _ := HT2
          clear HX HN
          go_wp2
          go_roundw
          case rel => exact ⟨k + 1, by omega, by go_num, HT2.out, HB⟩
          case measure => simp [intOf]; omega
      · have hlt' : ¬ (k : Int) < (m : Int) := by omega
        have HY : Hid (small22 A) := ⟨by have := HL.out; omega, fun s hs => by
          obtain ⟨j, hj⟩ := List.getElem?_of_mem hs
          have hj2 := (List.getElem?_eq_some_iff.1 hj).1
          have := HF.out j (by have := HL.out; omega)
          rw [List.getD_eq_getElem?_getD, hj, Option.getD_some] at this
          exact this⟩
        go_wp2
        go_ret
        exact ⟨.inr ⟨rfl, HY.out⟩, HB.out⟩
def awA : List (List UInt8) := [[105, 110, 99, 114, 98, 121], [107], [45, 53]]
def awC : Cl := ⟨[73, 78, 67, 82, 66, 89], [107], [], [], -5, 0⟩
theorem aw_parse : parseE awA = (awC, 0) := by decide +kernel
theorem aw_err : errE 13 = [69, 82, 82, 32, 105, 110, 116] := by decide
set_option maxHeartbeats 2000000 in
theorem cawake_any (w : World) (ht : Tb w) : Calls Tryz.prog 9 #[] w fun e w' => e = .returned (.bool true) ∧ Below w.heap.size w w' := by
  have hb0 : Below w.heap.size w (w.alloc (.cells #[.string ⟨#[105, 110, 99, 114, 98, 121]⟩, .string ⟨#[107]⟩, .string ⟨#[45, 53]⟩] 9)) := (Below.refl _ w).alloc (Nat.le_refl _) _
  have hT : T21.Txts (w.alloc (.cells #[.string ⟨#[105, 110, 99, 114, 98, 121]⟩, .string ⟨#[107]⟩, .string ⟨#[45, 53]⟩] 9)) (some ⟨w.heap.size, 0, none⟩) 3 3 (awA.map sb) := by
    refine ⟨rfl, Nat.le_refl _, (fun h => by cases h), fun ad had j s hs => ?_, fun s hs => ?_⟩
    · obtain rfl := Option.some.inj had
      rw [Addr.add_lit, Nat.zero_add, World.cell?_alloc_mark]
      match j, hs with
      | 0, hs => cases hs; rfl
      | 1, hs => cases hs; rfl
      | 2, hs => cases hs; rfl
    · have h9 : ∀ x ∈ awA, x.length ≤ 9 := by decide
      obtain ⟨x, hx, rfl⟩ := List.mem_map.1 hs
      have := h9 x hx
      rw [size_sb]
      unfold maxLen
      omega
  have hP := parse_any (some ⟨w.heap.size, 0, none⟩) 3 3 awA _ hT (by decide) (ht.below hb0) (by decide)
  rw [aw_parse] at hP
  have HB0 : Hid _ := hb0
  clear hb0 hT
  go_enter Tryz.func9, Tryz.ntmps9
  go_wp2_with fail
  refine Calls.mono hP ?_
  rintro e w1 ⟨rfl, hb1⟩
  have hb2 : Below w.heap.size w w1 := HB0.out.trans (hb1.mono HB0.out.size)
  have hnew := heap_alloc_new w1 (.cells (clc clz) 26)
  have hst : (storeVar 26 ⟨w1.heap.size, 0, none⟩ (.agg #[.string ⟨#[73, 78, 67, 82, 66, 89]⟩, .string ⟨#[107]⟩, .string ⟨#[]⟩, .string ⟨#[]⟩, .int .i64 (-5), .int .i64 0])).run Tryz.prog (w1.alloc (.cells (clc clz) 26)) = .ok () ((w1.alloc (.cells (clc clz) 26)).setRow w1.heap.size (clc awC)) := storeVar_cl (cs := clc awC) hnew rfl rfl (clc_one _)
  have hg := setRow_heap (w1.alloc (.cells (clc clz) 26)) w1.heap.size _ (clc awC) _ _ hnew
  have hb3 : Below w1.heap.size w1 ((w1.alloc (.cells (clc clz) 26)).setRow w1.heap.size (clc awC)) := below_setRow ((Below.refl _ w1).alloc (Nat.le_refl _) _) (Nat.le_refl _) _
  generalize (w1.alloc (.cells (clc clz) 26)).setRow w1.heap.size (clc awC) = W2 at *
  have hld : (loadVar 26 ⟨w1.heap.size, 0, none⟩).run Tryz.prog W2 = .ok (.agg #[.string ⟨#[73, 78, 67, 82, 66, 89]⟩, .string ⟨#[107]⟩, .string ⟨#[]⟩, .string ⟨#[]⟩, .int .i64 (-5), .int .i64 0]) W2 := loadVar_cl hg (clc_size awC)
  have hR := fun W => refuse_any 13 W
  rw [aw_err] at hR
  have hR : ∀ W, Calls Tryz.prog 14 #[.int .i64 13] W fun x w' => x = .returned (.agg #[.int .i64 2, .string ⟨#[69, 82, 82, 32, 105, 110, 116]⟩, .int .i64 0, .slice none 0 0]) ∧ Below W.heap.size W w' := hR
  have FIN : Hid (Below w.heap.size w W2) := hb2.trans (hb3.mono hb2.size)
  have hec : (Value.agg (clc awC)) = .agg #[.string ⟨#[73, 78, 67, 82, 66, 89]⟩, .string ⟨#[107]⟩, .string ⟨#[]⟩, .string ⟨#[]⟩, .int .i64 (-5), .int .i64 0] := rfl
  clear hb1 hb2 hb3 hg hnew hP HB0
  go_wp2_with (first
    | (refine wpList_storeR (ty := 26) (x := .tmp 1) (y := .tmp 6) (ad := ⟨w1.heap.size, 0, none⟩) (v := .agg #[.string ⟨#[73, 78, 67, 82, 66, 89]⟩, .string ⟨#[107]⟩, .string ⟨#[]⟩, .string ⟨#[]⟩, .int .i64 (-5), .int .i64 0]) (w' := W2) rfl rfl rfl rfl hst ?_)
    | (refine wpList_loadW (ty := 26) (x := .tmp 1) (ad := ⟨w1.heap.size, 0, none⟩) (v := .agg #[.string ⟨#[73, 78, 67, 82, 66, 89]⟩, .string ⟨#[107]⟩, .string ⟨#[]⟩, .string ⟨#[]⟩, .int .i64 (-5), .int .i64 0]) (by first | rfl | kernel_rfl) rfl rfl hld ?_))
  refine Calls.mono (hR _) ?_
  rintro e w3 ⟨rfl, hb4⟩
  have FIN2 : Hid (Below w.heap.size w w3) := FIN.out.trans (hb4.mono FIN.out.size)
  clear hb4 hR hld hst
  have hf : (Instr.field 35 (.agg #[.int .i64 2, .string ⟨#[69, 82, 82, 32, 105, 110, 116]⟩, .int .i64 0, .slice none 0 0]) 1).run Tryz.prog w3 = .ok (.string ⟨#[69, 82, 82, 32, 105, 110, 116]⟩) w3 := by kernel_rfl
  go_wp2
  go_ret
  exact ⟨rfl, FIN2.out⟩
end Go.Proofs.YtmlfekbmbnfkjaaGreatDoor

/-
  A text ahead of a list of texts; and what is laid for a call.
-/
namespace Go.Proofs.YtmlfekbmbnfkjaaGreatDoor
set_option maxRecDepth 100000
open Go.RowKit

theorem below_alloc22 (w : World) (o : Obj) : Below w.heap.size w (w.alloc o) := (Below.refl _ w).alloc (Nat.le_refl _) _
theorem build_s1 (w : World) (s : ByteArray) : ∃ w', (Instr.buildSlice 22 1 #[(0, .string s)]).run Tryz.prog w = .ok (.slice (some ⟨w.heap.size, 0, none⟩) 1 1) w' ∧ w'.heap[w.heap.size]? = some (.cells #[.string s] 9 (0, 0)) ∧ Below w.heap.size w w' := by
  obtain ⟨i0, hi, hz0, hz1, hz2⟩ := info_parts T21.infoT
  refine ⟨_, run_buildSlice w 22 9 1 _ #[.string s] i0 _ Tryz.underlying22 hi hz0 (by rw [hz1]; decide) (by rw [hz1]; decide) ?_, heap_alloc_new w _, below_alloc22 w _⟩
  rw [hz1]
  have := Great.fill_whole (s := 1) (by omega) [.string s] ((Array.range (1 * 1)).map ((Value.string ByteArray.empty).cells[· % (Value.string ByteArray.empty).cells.size]!)) (by
    intro v hv
    rw [List.mem_singleton.1 hv]
    rfl) (by simp)
  simp at this ⊢
  exact this
theorem alloc_c (w : World) : ∃ w', (Instr.alloc 26 true (.tuple #[])).run Tryz.prog w = .ok (.pointer (some ⟨w.heap.size, 0, none⟩)) w' ∧ w'.heap[w.heap.size]? = some (.cells (clc clz) 26 (0, 0)) ∧ Below w.heap.size w w' := by
  refine ⟨w.alloc (.cells (clc clz) 26), ?_, heap_alloc_new w _, below_alloc22 w _⟩
  have : clc clz = #[.string ByteArray.empty, .string ByteArray.empty, .string ByteArray.empty, .string ByteArray.empty, .int .i64 0, .int .i64 0] := rfl
  rw [this]
  go_simp
  rfl
theorem store_c {w : World} {g : Nat} (c : Cl) (hg : w.heap[g]? = some (.cells (clc clz) 26 (0, 0))) : ∃ w', (storeVar 26 ⟨g, 0, none⟩ (.agg (clc c))).run Tryz.prog w = .ok () w' ∧ w'.heap[g]? = some (.cells (clc c) 26 (0, 0)) ∧ Below g w w' :=
  ⟨_, storeVar_cl hg rfl rfl (clc_one _), setRow_heap w g _ (clc c) _ _ hg, below_setRow (Below.refl _ w) (Nat.le_refl _) _⟩
theorem back_t {w : World} {g cap : Nat} {l : List UInt8} (h : T21.Tail w g cap l) {n : Nat} (hn : l.length = n) : (convert 67 9 (.slice (some ⟨g, 0, none⟩) n cap)).run Tryz.prog w = .ok (.string (sb l)) w := by
  subst hn
  refine run_convert_bytes_back w 67 9 5 ⟨g, 0, none⟩ cap l Tryz.underlying67 Tryz.underlying5 Tryz.underlying9 ?_
  intro j hj
  have := h.cell (j := j) hj
  rw [Addr.add_lit, Nat.zero_add, this, List.getD_eq_getElem?_getD, List.getElem?_eq_getElem hj, Option.getD_some]
/-- All but the first. -/
theorem txt_tail {b off k c : Nat} {s : ByteArray} {S : List ByteArray} {w : World} (h : T21.Txts w (some ⟨b, off, none⟩) (k + 1) c (s :: S)) :
    ∃ ao, (∀ W, (Instr.sliceAt 22 (.slice (some ⟨b, off, none⟩) (k + 1) c) (some (.int .i64 1)) none none).run Tryz.prog W = .ok (.slice ao k (c - 1)) W) ∧ T21.Txts w ao k (c - 1) S := by
  have hl := h.len
  rw [List.length_cons] at hl
  have hr := h.room
  by_cases hc : c = 1
  · refine ⟨some ⟨b, off, none⟩, fun W => ?_, ⟨by omega, by omega, (fun h => by cases h), ?_, fun t ht => h.small t (by simp [ht])⟩⟩
    · subst hc
      obtain rfl : k = 0 := by omega
      go_simp
    · intro ad had j u hu
      have : S = [] := List.eq_nil_of_length_eq_zero (by omega)
      subst this
      simp at hu
  · refine ⟨some ⟨b, off + 1, none⟩, fun W => ?_, ⟨by omega, by omega, (fun h => by cases h), ?_, fun t ht => h.small t (by simp [ht])⟩⟩
    · have h1 : (1 : Int) ≤ (c : Int) := by omega
      have h2 : (1 : Int) ≤ ((k : Int) + 1) := by omega
      go_simp
    · intro ad had j u hu
      obtain rfl := Option.some.inj had
      have := h.cells _ rfl (j + 1) u (by rw [List.getElem?_cons_succ]; exact hu)
      rw [Addr.add_lit] at this ⊢
      rw [← this]
      congr 2
      omega
/-- A text ahead of such a list. -/
theorem app_txt {w : World} {g : Nat} {s : ByteArray} (hg : w.heap[g]? = some (.cells #[.string s] 9 (0, 0))) (hs : s.size ≤ maxLen) {ao : Option Addr} {k c : Nat} {S : List ByteArray} (hx : T21.Txts w ao k c S) (hk : k ≤ 1000) (ty : TypeId) :
    ∃ ao' c' w', (Builtin.append_ #[22, 22] ty #[.slice (some ⟨g, 0, none⟩) 1 1, .slice ao k c]).run Tryz.prog w = .ok (.slice ao' (1 + k) c') w' ∧ T21.Txts w' ao' (1 + k) c' (s :: S) ∧ Below w.heap.size w w' := by
  obtain ⟨i0, hi, hz0, hz1, hz2⟩ := info_parts T21.infoT
  have ht : Tryz.prog.underlying 22 = some (.slice 9) := Tryz.underlying22
  have hl := hx.len
  have h0 : w.cell? ⟨g, 0, none⟩ = some (.string s) := by rw [cell_of_row w g 0 _ _ _ hg]; rfl
  have hnew : T21.Txts w (some ⟨g, 0, none⟩) 1 1 [s] := ⟨rfl, Nat.le_refl _, (fun h => by cases h), fun ad had j u hu => by
    obtain rfl := Option.some.inj had
    match j, hu with
    | 0, hu => simp at hu; subst hu; exact h0
    | j + 1, hu => simp at hu, fun t ht => by rw [List.mem_singleton.1 ht]; exact hs⟩
  cases k with
  | zero =>
    have : S = [] := List.eq_nil_of_length_eq_zero hl
    subst this
    refine ⟨some ⟨g, 0, none⟩, 1, w, ?_, hnew, Below.refl _ _⟩
    cases ao with
    | none => simp [Builtin.append_, run_underlying ht, sizeOf, typeInfo, hi, Builtin.lenOf, Builtin.firstCells, storeCells]
    | some ad =>
      have := run_append_room_cells (P := Tryz.prog) w 22 ty 9 i0 ht hi g 0 1 1 ad 0 c [] (by simp) (fun j u h => by simp at h) (fun u h => by cases h) (by omega) (fun j h => by simp at h) (fun j h => by simp at h)
      exact this
  | succ k =>
    cases ao with
    | none => have := (hx.none rfl).1; omega
    | some ad =>
      obtain ⟨v', w', hrun, r1, r2⟩ := run_append_arg_grows (P := Tryz.prog) w 22 ty 9 i0 _ 1 16 ht hi hz0 hz1 hz2 rfl (by omega) ⟨g, 0, none⟩ 1 1 [.string s] (by simp) (fun j u hu => by
        match j, hu with
        | 0, hu => simp at hu; subst hu; exact h0
        | j + 1, hu => simp at hu) ad (k + 1) c (S.map Value.string) (by rw [List.length_map, hl]; omega) (T21.str_cells hx ad rfl) (by omega) (by unfold maxLen; omega) (by omega)
      have hln : 1 + (k + 1) = (s :: S).length := by rw [List.length_cons, hl]; omega
      rw [hln] at r1 ⊢
      obtain ⟨ao', c', rfl, hT, -⟩ := T21.own_txts (S := s :: S) r1 (fun t ht => by
        rcases List.mem_cons.1 ht with rfl | h
        · exact hs
        · exact hx.small t h)
      exact ⟨ao', c', w', hrun, hT, ⟨r2.os, r2.tape, r2.output, r2.size, fun k hk => r2.block k hk (by simp)⟩⟩
theorem y_bld {o : Oper} {a : Act} {w w' : World} {K : Act → World → Prop} {Q : Exit → Act → World → Prop} {x : Operand} {ty : TypeId} {k : Nat} {u v : Value} (ho : o.op = .buildSlice ty k #[(0, x)]) (hx : a.eval x = u) (hr : (Instr.buildSlice ty k #[(0, u)]).run Tryz.prog w = .ok v w') (h : K (a.put o.dst v) w') : o.wp Tryz.prog a w K Q := by
  unfold Oper.wp execOp
  simp only [ho, List.map_toArray, List.map_cons, List.map_nil, hx, Sem.run_bind, Sem.run_pure, Result.andThen_ok, hr]
  exact h
theorem y_app22 {o : Oper} {a : Act} {w w' : World} {K : Act → World → Prop} {Q : Exit → Act → World → Prop} {x y : Operand} {t1 t2 : TypeId} {p q v : Value} (ho : o.op = .call { callee := .builtin .append, args := #[x, y], argTypes := #[t1, t2] }) (hx : a.eval x = p) (hy : a.eval y = q) (hr : (Builtin.append_ #[t1, t2] o.type #[p, q]).run Tryz.prog w = .ok v w') (h : K (a.put o.dst v) w') : o.wp Tryz.prog a w K Q := by
  unfold Oper.wp execOp
  simp only [ho, resolve, invoke, builtin, Sem.run_bind, Sem.run_pure, Result.andThen_ok, List.map_toArray, List.map_cons, List.map_nil, hx, hy, hr]
  exact h
theorem y_alloc22 {o : Oper} {a : Act} {w w' : World} {K : Act → World → Prop} {Q : Exit → Act → World → Prop} {ty : TypeId} {v : Value} (ho : o.op = .alloc ty) (hr : (Instr.alloc ty true (.tuple #[])).run Tryz.prog w = .ok v w') (h : K (a.put o.dst v) w') : o.wp Tryz.prog a w K Q := by
  unfold Oper.wp execOp
  simp only [ho, Sem.run_bind, Sem.run_pure, Result.andThen_ok, hr]
  exact h
theorem y_slice22 {o : Oper} {a : Act} {w : World} {x : Operand} {ty : TypeId} {p v : Value} {lo hi mx : Option Operand} (ho : o.op = .slice ty x lo hi mx) (hx : a.eval x = p) (hr : (Instr.sliceAt ty p (lo.map a.eval) (hi.map a.eval) (mx.map a.eval)).run Tryz.prog w = .ok v w) : (execOp a.eval o).run Tryz.prog w = .ok (.value v) w := by
  unfold execOp
  simp only [ho, hx, Sem.run_bind, Sem.run_pure, Result.andThen_ok, hr]
theorem y_conv22 {o : Oper} {a : Act} {w : World} {x : Operand} {t t' : TypeId} {v u : Value} (ho : o.op = .convert t t' x) (hx : a.eval x = v) (hv : (convert t t' v).run Tryz.prog w = .ok u w) : (execOp a.eval o).run Tryz.prog w = .ok (.value u) w := by
  unfold execOp
  simp only [ho, hx, Sem.run_bind, Sem.run_pure, Result.andThen_ok, hv]
theorem enters_parse22 (xs : Array Value) (w : World) : (callFunc 11 xs).run Tryz.prog w = .ok (.enter 11 xs) w := enters Tryz.func11 (by kernel_rfl) (by kernel_rfl) xs w
theorem heap_lt22 {w : World} {x : Nat} {o : Obj} (h : w.heap[x]? = some o) : x < w.heap.size := (Array.getElem?_eq_some_iff.1 h).1
end Go.Proofs.YtmlfekbmbnfkjaaGreatDoor

/-
  CommandNames: small letters and capitals name the same command. For every input.
-/
namespace Go.Proofs.YtmlfekbmbnfkjaaGreatDoor
set_option maxRecDepth 100000
open Go.RowKit

theorem u8_all {P : UInt8 → Prop} (h : ∀ n, n < 256 → P (UInt8.ofNat n)) (c : UInt8) : P c := by
  have := h c.toNat (UInt8.toNat_lt c)
  rwa [UInt8.ofNat_toNat] at this
theorem up_flip : ∀ c : UInt8, (97 ≤ c.toNat ∧ c.toNat ≤ 122) ∨ (65 ≤ c.toNat ∧ c.toNat ≤ 90) → upC (c ^^^ 32) = upC c := u8_all (by decide +kernel)
theorem xor_bits : ∀ c : UInt8, bits .xor .u8 (c.toNat : Int) 32 = ((c ^^^ 32).toNat : Int) := u8_all (by decide +kernel)
theorem upE_flip {M : List UInt8} {i : Nat} {c : UInt8} (hc : M[i]? = some c) (h : (97 ≤ c.toNat ∧ c.toNat ≤ 122) ∨ (65 ≤ c.toNat ∧ c.toNat ≤ 90)) : upE (M.set i (c ^^^ 32)) = upE M := by
  unfold upE
  rw [List.map_set, up_flip c h]
  refine List.ext_getElem? fun j => ?_
  rw [List.getElem?_set]
  split
  · rename_i e
    subst e
    rw [List.getElem?_map, hc]
    have := (List.getElem?_eq_some_iff.1 hc).1
    rw [if_pos (by rw [List.length_map]; exact this)]
    rfl
  · rfl
theorem parse_up {a b : List UInt8} {T : List (List UInt8)} (h : upE a = upE b) : parseE (a :: T) = parseE (b :: T) := by
  simp only [parseE, h]
set_option maxHeartbeats 4000000 in
theorem names_walk (ao : Option Addr) (m c : Nat) (S : List ByteArray) (tn : Int) (w : World) (hT0 : T21.Txts w ao m c S) (ht : Tb w) :
    Calls Tryz.prog 7 #[.slice ao m c, .int .u16 tn] w fun x w' => x = .returned (.bool true) ∧ Below w.heap.size w w' := by
  obtain ⟨A, rfl⟩ := texts_map S
  have HT : Aside (T21.Txts w ao m c (A.map sb) ∧ Tb w) := ⟨hT0, ht⟩
  have hA := cawake_any w ht
  have hlen := hT0.len
  rw [List.length_map] at hlen
  clear hT0 ht
  go_enter Tryz.func7, Tryz.ntmps7
  go_wp2_with fail
  refine Calls.mono hA ?_
  rintro x w1 ⟨rfl, hb1⟩
  have HB1 : Hid (Below w.heap.size w w1) := hb1
  have hS := csmall_any ao m c A w1 (HT.out.1.below hb1 (Nat.le_refl _))
  clear hA hb1
  go_wp2_with fail
  refine Calls.mono hS ?_
  rintro x w2 ⟨⟨b, rfl, hbs⟩, hb2⟩
  have HB2 : Hid (Below w.heap.size w w2) := HB1.out.trans (hb2.mono HB1.out.size)
  have HBS : Hid (b = true ↔ small22 A) := hbs
  clear hS hb2 hbs
  have hA2 := cawake_any w2 (HT.out.2.below HB2.out)
  cases b with
  | false =>
    go_wp2_with fail
    refine Calls.mono hA2 ?_
    rintro x w3 ⟨rfl, hb3⟩
    have FIN : Hid (Below w.heap.size w w3) := HB2.out.trans (hb3.mono HB2.out.size)
    clear hb3 hA2
    go_wp2
    go_ret
    exact ⟨rfl, FIN.out⟩
  | true =>
  cases A with
  | nil =>
    simp only [List.length_nil] at hlen
    subst hlen
    go_wp2_with fail
    refine Calls.mono hA2 ?_
    rintro x w3 ⟨rfl, hb3⟩
    have FIN : Hid (Below w.heap.size w w3) := HB2.out.trans (hb3.mono HB2.out.size)
    clear hb3 hA2
    go_wp2
    go_ret
    exact ⟨rfl, FIN.out⟩
  | cons l T =>
    rw [List.length_cons] at hlen
    obtain ⟨k, hk⟩ : ∃ k, T.length = k := ⟨_, rfl⟩
    rw [hk] at hlen
    subst hlen
    have HSM : Hid ((∀ s ∈ l :: T, s.length ≤ 1000) ∧ k ≤ 19 ∧ T.length = k) := ⟨(HBS.out.1 rfl).2, by have := (HBS.out.1 rfl).1; rw [List.length_cons] at this; omega, hk⟩
    clear hA2 hk
    obtain ⟨b, off, rfl, hcA⟩ := arg_at (HT.out.1.below HB2.out (Nat.le_refl _)) (j := 0) (by omega)
    have hc0 : w2.cell? ⟨b, off, none⟩ = some (.string (sb l)) := hcA
    clear hcA
    have hm0 : ¬ ((k : Int) + 1 = 0) := by omega
    have hm1 : ((k : Int) + 1 == 0) = false := by simp; omega
    obtain ⟨cap, W0, hrun, hTl, -, hb0, -⟩ := T21.conv_tail (sb l) w2 (by rw [size_sb]; have := HSM.out.1 l (by simp); unfold maxLen; omega)
    rw [data_sb] at hTl
    rw [size_sb] at hrun
    obtain ⟨n, hn⟩ : ∃ n, l.length = n := ⟨_, rfl⟩
    rw [hn] at hrun
    have HN : Hid (l.length = n ∧ n ≤ 1000) := ⟨hn, by rw [← hn]; exact HSM.out.1 l (by simp)⟩
    obtain ⟨U, hU⟩ : ∃ U, upE l = U := ⟨_, rfl⟩
    have HU : Hid (upE l = U) := hU
    obtain ⟨g, hg⟩ : ∃ g, w2.heap.size = g := ⟨_, rfl⟩
    rw [hg] at hrun hTl hb0
    have HG : Hid (w2.heap.size = g) := hg
    have H0 : Aside (T21.Tail W0 g cap l ∧ Below g w2 W0 ∧ l.length = n ∧ upE l = U) := ⟨hTl, hb0, hn, hU⟩
    clear hTl hb0 hn hg hU
    go_wp2_with fail
    go_loopw [31] (fun cv wr => ∃ (i : Nat) (M : List UInt8), i ≤ n ∧ cv = .int .i64 (i : Int) ∧ Aside (T21.Tail wr g cap M ∧ Below g w2 wr ∧ M.length = n ∧ upE M = U)) (fun cv _ => n - (intOf cv).toNat)
    case atStart => exact ⟨0, l, Nat.zero_le _, rfl, H0⟩
    case round =>
      clear H0 hrun hc0
      obtain ⟨i, M, hi, rfl, HR⟩ := hrel
      by_cases hin : i < n
      · have hin' : (i : Int) < (n : Int) := by omega
        obtain ⟨ch, hch⟩ : ∃ ch, M[i]? = some ch := ⟨_, List.getElem?_eq_getElem (by rw [HR.out.2.2.1]; exact hin)⟩
        have hM := HR.out.1
        have hc := hM.cell (j := i) (by rw [HR.out.2.2.1]; exact hin)
        rw [List.getD_eq_getElem?_getD, hch, Option.getD_some] at hc
        have hcap : i < cap := by
          obtain ⟨cur, h1, h2, h3, h4⟩ := hM
          rw [HR.out.2.2.1] at h3
          omega
        have hfz := hM.fz hcap
        have hxt : ((ch ^^^ 32).toNat : Int) = ((ch.toNat ^^^ 32 : Nat) : Int) := rfl
        have hset := hM.set (j := i) (ch ^^^ 32)
        rw [hxt] at hset
        have hbs := T21.grown_set wr g i (.int .u8 ((ch.toNat ^^^ 32 : Nat) : Int))
        have HNO : Aside (T21.Tail wr g cap M ∧ Below g w2 wr ∧ M.length = n ∧ upE M = U) := HR.out
        have HYES : Hid ((97 ≤ ch.toNat ∧ ch.toNat ≤ 122) ∨ (65 ≤ ch.toNat ∧ ch.toNat ≤ 90) → Aside (T21.Tail (wr.setCell ⟨g, i, none⟩ (.int .u8 ((ch.toNat ^^^ 32 : Nat) : Int))) g cap (M.set i (ch ^^^ 32)) ∧ Below g w2 (wr.setCell ⟨g, i, none⟩ (.int .u8 ((ch.toNat ^^^ 32 : Nat) : Int))) ∧ (M.set i (ch ^^^ 32)).length = n ∧ upE (M.set i (ch ^^^ 32)) = U)) := fun h =>
          ⟨hset, below_grown HNO.out.2.1 hbs HNO.out.1.lt, by rw [List.length_set]; exact HNO.out.2.2.1, by rw [upE_flip hch h]; exact HNO.out.2.2.2⟩
        have hbx := xor_bits ch
        have hn1 : (n : Int) ≤ 1000 := by have := HN.out.2; omega
        have hxb : ch.toNat < 256 := UInt8.toNat_lt _
        clear hset hbs HR hM hch
        go_wp2_with fail
        all_goals first
          | exact ⟨⟨_, _, .int .i64 ((i + 1 : Nat) : Int), ⟨i + 1, by omega, rfl, M, HNO⟩, rfl, rfl, by go_num⟩, by simp [intOf]; omega⟩
          | exact ⟨⟨_, _, .int .i64 ((i + 1 : Nat) : Int), ⟨i + 1, by omega, rfl, M.set i (ch ^^^ 32), HYES.out (by omega)⟩, rfl, rfl, by go_num⟩, by simp [intOf]; omega⟩
          | (go_roundw
             case rel => first | exact ⟨i + 1, M, by omega, by go_num, HNO⟩ | exact ⟨i + 1, M.set i (ch ^^^ 32), by omega, by go_num, HYES.out (by omega)⟩
             case measure => simp [intOf]; omega)
      · have hin' : ¬ (i : Int) < (n : Int) := by omega
        have hw2 : Below w.heap.size w wr := HB2.out.trans (HR.out.2.1.mono (by have := HB2.out.size; have := HG.out; omega))
        have hl1 : (l :: T).length = k + 1 := by rw [List.length_cons, HSM.out.2.2]
        have hP := parse_any (some ⟨b, off, none⟩) (k + 1) c (l :: T) wr (HT.out.1.below hw2 (Nat.le_refl _)) HSM.out.1 (HT.out.2.below hw2) (by have := HSM.out.2.1; omega)
        obtain ⟨⟨⟨nm, ky, fd, vl, x1, x2⟩, z⟩, hz⟩ : ∃ p, parseE (l :: T) = p := ⟨_, rfl⟩
        have HZ : Hid (parseE (M :: T) = (⟨nm, ky, fd, vl, x1, x2⟩, z)) := by rw [Hid, ← hz]; exact parse_up (HR.out.2.2.2.trans HU.out.symm)
        rw [hz] at hP
        have HW2 : Hid (Below w.heap.size w wr) := hw2
        clear hz hl1 hw2
        go_wp2_with fail
        refine Calls.mono hP ?_
        rintro x w3 ⟨rfl, hb3⟩
        have HB3 : Hid (Below w.heap.size w w3) := HW2.out.trans (hb3.mono HW2.out.size)
        have HR3 : Aside (T21.Tail w3 g cap M ∧ M.length = n ∧ g < w3.heap.size) := ⟨HR.out.1.below hb3, HR.out.2.2.1, Nat.lt_of_lt_of_le HR.out.1.lt hb3.size⟩
        clear hP hb3 HR
        have hnew := heap_alloc_new w3 (.cells (clc clz) 26)
        have hst := storeVar_cl (cs := clc ⟨nm, ky, fd, vl, x1, x2⟩) hnew rfl rfl (clc_one _)
        have hg := setRow_heap (w3.alloc (.cells (clc clz) 26)) w3.heap.size _ (clc ⟨nm, ky, fd, vl, x1, x2⟩) _ _ hnew
        have hb4 : Below w3.heap.size w3 ((w3.alloc (.cells (clc clz) 26)).setRow w3.heap.size (clc ⟨nm, ky, fd, vl, x1, x2⟩)) := below_setRow ((Below.refl _ w3).alloc (Nat.le_refl _) _) (Nat.le_refl _) _
        generalize (w3.alloc (.cells (clc clz) 26)).setRow w3.heap.size (clc ⟨nm, ky, fd, vl, x1, x2⟩) = W4 at *
        have HG8 : Hid (W4.heap[w3.heap.size]? = some (.cells (clc ⟨nm, ky, fd, vl, x1, x2⟩) 26 (0, 0))) := hg
        have HB4 : Hid (Below w3.heap.size w3 W4) := hb4
        clear hnew hg hb4
        go_wp2_with (first
          | (refine wpList_storeR (ty := 26) (x := .tmp 8) (y := .tmp 70) (ad := ⟨w3.heap.size, 0, none⟩) (v := .agg (clc ⟨nm, ky, fd, vl, x1, x2⟩)) (w' := W4) rfl rfl rfl rfl hst ?_))
        clear hst
        obtain ⟨D, hD⟩ : ∃ D, D = W4.drew := ⟨_, rfl⟩
        have hbD : Below w3.heap.size w3 D := by rw [hD]; exact HB4.out.drew
        have G : D.heap[w3.heap.size]? = some (.cells (clc ⟨nm, ky, fd, vl, x1, x2⟩) 26 (0, 0)) := by rw [hD]; exact HG8.out
        have hTl : T21.Tail D g cap M := HR3.out.1.below hbD
        have hMn : M.length = n := HR3.out.2.1
        have hwD : Below w.heap.size w D := HB3.out.trans (hbD.mono HB3.out.size)
        have hTb : Tb D := HT.out.2.below hwD
        obtain ⟨ao1, hsl, hTx⟩ := txt_tail (s := sb l) (S := T.map sb) (HT.out.1.below hwD (Nat.le_refl _))
        have hk1 : k ≤ 1000 := by have := HSM.out.2.1; omega
        have hk2 : 1 + k ≤ 1000 := by have := HSM.out.2.1; omega
        have hsM : (sb M).size ≤ maxLen := by rw [size_sb, hMn]; have := HN.out.2; unfold maxLen; omega
        have hPA : ∀ (ao : Option Addr) (m c : Nat) (u : World), T21.Txts u ao m c (sb M :: T.map sb) → Tb u → m ≤ 1000 → Calls Tryz.prog 11 #[.slice ao m c] u fun e w' => e = .returned (.tuple #[.agg (clc ⟨nm, ky, fd, vl, x1, x2⟩), .int .i64 z]) ∧ Below u.heap.size u w' := by
          intro ao m c u h1 h2 h3
          have := parse_any ao m c (M :: T) u h1 (fun s hs => by
            rcases List.mem_cons.1 hs with rfl | h
            · rw [hMn]; exact HN.out.2
            · exact HSM.out.1 s (by simp [h])) h2 h3
          rw [HZ.out] at this
          exact this
        clear hwD
        refine wp_region_noPanic ?_
        refine wp_region_held_drew (S := fun W' : World => Below D.heap.size D W') (by kernel_rfl) (by rw [← hD]; exact Below.refl _ _) (fun hHeld => ?_)
        rw [← hD] at hHeld ⊢
        have hB0 := hHeld
        refine wpAnyH_take (i := 0) (oi := { dst := some 73, op := _, type := _, pos := _, after := _, guard := _ }) (v := .slice (some ⟨g, 0, none⟩) n cap) rfl (by kernel_rfl) (by kernel_rfl) (by kernel_rfl) (fun _ _ _ h => h) (Or.inl ⟨by rfl, ?_⟩) (by assumption) ?_
        · intro w9 hSw
          exact y_move rfl rfl
        simp only [Act.put, List.setIfInBounds_toArray, List.set_cons_zero, List.set_cons_succ]
        refine wpAnyH_take (i := 1) (oi := { dst := some 74, op := _, type := _, pos := _, after := _, guard := _ }) (v := .string (sb M)) rfl (by kernel_rfl) (by kernel_rfl) (by kernel_rfl) (fun _ _ _ h => h) (Or.inl ⟨by rfl, ?_⟩) (by assumption) ?_
        · intro w9 hSw
          exact y_conv22 rfl rfl (back_t (hTl.below hSw) hMn)
        simp only [Act.put, List.setIfInBounds_toArray, List.set_cons_zero, List.set_cons_succ]
        refine wpAnyH_take (i := 3) (oi := { dst := some 76, op := _, type := _, pos := _, after := _, guard := _ }) (v := .slice (some ⟨b, off, none⟩) (k + 1) c) rfl (by kernel_rfl) (by kernel_rfl) (by kernel_rfl) (fun _ _ _ h => h) (Or.inl ⟨by rfl, ?_⟩) (by assumption) ?_
        · intro w9 hSw
          exact y_move rfl rfl
        simp only [Act.put, List.setIfInBounds_toArray, List.set_cons_zero, List.set_cons_succ]
        refine wpAnyH_take (i := 4) (oi := { dst := some 77, op := _, type := _, pos := _, after := _, guard := _ }) (v := .slice ao1 k (c - 1)) rfl (by kernel_rfl) (by kernel_rfl) (by kernel_rfl) (fun _ _ _ h => h) (Or.inl ⟨by rfl, ?_⟩) (by assumption) ?_
        · intro w9 hSw
          exact y_slice22 rfl rfl (hsl _)
        simp only [Act.put, List.setIfInBounds_toArray, List.set_cons_zero, List.set_cons_succ]
        clear hHeld
        refine wpAnyH_ready (rs := [2, 10]) (by kernel_rfl) (by simp) ?_
        refine AllReadyH.cons (o := { dst := some 75, op := _, type := _, pos := _, after := _, guard := _ }) rfl (fun K hK => ?_) ?_
        · rw [if_pos (by rfl)]
          obtain ⟨q1, eq1, cQq1, bq1⟩ := build_s1 D (sb M)
          have hBq1 : Below D.heap.size D q1 := hB0.trans (bq1.mono hB0.size)
          have Gq1 := (bq1.block _ (heap_lt22 G)).trans G
          refine y_bld (x := .tmp 74) (u := .string (sb M)) rfl rfl eq1 ?_
          refine hK.out _ _ hBq1 (fun hHeld => ?_)
          clear hK K
          simp only [Act.put, List.setIfInBounds_toArray, List.set_cons_zero, List.set_cons_succ]
          clear hHeld
          refine wpAnyH_ready (rs := [5, 10]) (by kernel_rfl) (by simp) ?_
          refine AllReadyH.cons (o := { dst := some 78, op := _, type := _, pos := _, after := _, guard := _ }) rfl (fun K hK => ?_) ?_
          · rw [if_pos (by rfl)]
            obtain ⟨ao2, c2, q2, eq2, Tq2, bq2⟩ := app_txt cQq1 hsM (hTx.below hBq1 (Nat.le_refl _)) hk1 22
            have hBq2 : Below D.heap.size D q2 := hBq1.trans (bq2.mono hBq1.size)
            have Gq2 := (bq2.block _ (heap_lt22 Gq1)).trans Gq1
            refine y_app22 (x := .tmp 75) (y := .tmp 77) rfl rfl rfl eq2 ?_
            refine hK.out _ _ hBq2 (fun hHeld => ?_)
            clear hK K
            simp only [Act.put, List.setIfInBounds_toArray, List.set_cons_zero, List.set_cons_succ]
            clear hHeld
            refine wpAnyH_ready (rs := [6, 10]) (by kernel_rfl) (by simp) ?_
            refine AllReadyH.cons (o := { dst := some 79, op := _, type := _, pos := _, after := _, guard := _ }) rfl (fun K hK => ?_) ?_
            · rw [if_pos (by rfl)]
              have hPq3 := hPA ao2 (1 + k) c2 q2 Tq2 (hTb.below hBq2) hk2
              refine y_call (f := 11) (xs := [.tmp 78]) (vs := [.slice ao2 (1 + k) c2]) rfl rfl (enters_parse22 _ _) hPq3 ?_
              rintro ex q3 ⟨rfl, bq3⟩
              refine ⟨_, rfl, ?_⟩
              have hBq3 : Below D.heap.size D q3 := hBq2.trans (bq3.mono hBq2.size)
              have Gq3 := (bq3.block _ (heap_lt22 Gq2)).trans Gq2
              refine hK.out _ _ hBq3 (fun hHeld => ?_)
              clear hK K
              simp only [Act.put, List.setIfInBounds_toArray, List.set_cons_zero, List.set_cons_succ]
              refine wpAnyH_take (i := 7) (oi := { dst := some 72, op := _, type := _, pos := _, after := _, guard := _ }) (v := .tuple #[.agg (clc ⟨nm, ky, fd, vl, x1, x2⟩), .int .i64 z]) rfl (by kernel_rfl) (by kernel_rfl) (by kernel_rfl) (fun _ _ _ h => h) (Or.inl ⟨by rfl, ?_⟩) (by assumption) ?_
              · intro w9 hSw
                exact y_move rfl rfl
              simp only [Act.put, List.setIfInBounds_toArray, List.set_cons_zero, List.set_cons_succ]
              refine wpAnyH_take (i := 8) (oi := { dst := some 80, op := _, type := _, pos := _, after := _, guard := _ }) (v := .agg (clc ⟨nm, ky, fd, vl, x1, x2⟩)) rfl (by kernel_rfl) (by kernel_rfl) (by kernel_rfl) (fun _ _ _ h => h) (Or.inl ⟨by rfl, ?_⟩) (by assumption) ?_
              · intro w9 hSw
                exact y_extract rfl rfl rfl
              simp only [Act.put, List.setIfInBounds_toArray, List.set_cons_zero, List.set_cons_succ]
              refine wpAnyH_take (i := 9) (oi := { dst := some 81, op := _, type := _, pos := _, after := _, guard := _ }) (v := .int .i64 z) rfl (by kernel_rfl) (by kernel_rfl) (by kernel_rfl) (fun _ _ _ h => h) (Or.inl ⟨by rfl, ?_⟩) (by assumption) ?_
              · intro w9 hSw
                exact y_extract rfl rfl rfl
              simp only [Act.put, List.setIfInBounds_toArray, List.set_cons_zero, List.set_cons_succ]
              clear hHeld
              refine wpAnyH_ready (rs := [10]) (by kernel_rfl) (by simp) ?_
              refine AllReadyH.cons (o := { dst := some 10, op := _, type := _, pos := _, after := _, guard := _ }) rfl (fun K hK => ?_) AllReadyH.nil
              rw [if_pos (by rfl)]
              obtain ⟨q4, eq4, cPq4, bq4⟩ := alloc_c q3
              have hgp : D.heap.size ≤ q3.heap.size := hBq3.size
              have hBq4 : Below D.heap.size D q4 := hBq3.trans (bq4.mono hBq3.size)
              have Gq4 := (bq4.block _ (heap_lt22 Gq3)).trans Gq3
              refine y_alloc22 rfl eq4 ?_
              refine hK.out _ _ hBq4 (fun hHeld => ?_)
              clear hK K
              simp only [Act.put, List.setIfInBounds_toArray, List.set_cons_zero, List.set_cons_succ]
              clear hHeld
              refine wpAnyH_ready (rs := [11]) (by kernel_rfl) (by simp) ?_
              refine AllReadyH.cons (o := { dst := none, op := _, type := _, pos := _, after := _, guard := _ }) rfl (fun K hK => ?_) AllReadyH.nil
              rw [if_pos (by rfl)]
              obtain ⟨q5, eq5, cPq5, bq5⟩ := store_c ⟨nm, ky, fd, vl, x1, x2⟩ cPq4
              have hBq5 : Below D.heap.size D q5 := hBq4.trans (bq5.mono hgp)
              have Gq5 := (bq5.block _ (Nat.lt_of_lt_of_le (heap_lt22 G) hgp)).trans Gq4
              refine y_store (ty := 26) (x := .tmp 10) (y := .tmp 80) (ad := ⟨q3.heap.size, 0, none⟩) (v := .agg (clc ⟨nm, ky, fd, vl, x1, x2⟩)) (w' := q5) rfl rfl rfl eq5 ?_
              refine hK.out _ _ hBq5 (fun hHeld => ?_)
              clear hK K
              simp only [Act.put]
              refine wpAnyH_take (i := 12) (oi := { dst := some 11, op := _, type := _, pos := _, after := _, guard := _ }) (v := .int .i64 z) rfl (by kernel_rfl) (by kernel_rfl) (by kernel_rfl) (fun _ _ _ h => h) (Or.inl ⟨by rfl, ?_⟩) (by assumption) ?_
              · intro w9 hSw
                exact y_assign rfl rfl
              simp only [Act.put, List.setIfInBounds_toArray, List.set_cons_zero, List.set_cons_succ]
              clear hHeld
              have hHeld := hBq5
              refine wpAnyH_done (by kernel_rfl) ?_ _
              refine NoPanic.normal ?_
              clear hHeld
              have FIN : Hid (Below w.heap.size w q5) := HB3.out.trans ((hbD.trans (hBq5.mono hbD.size)).mono HB3.out.size)
              have hl1 : (loadVar 26 ⟨w3.heap.size, 0, none⟩).run Tryz.prog q5 = .ok (.agg #[.string (sb nm), .string (sb ky), .string (sb fd), .string (sb vl), .int .i64 x1, .int .i64 x2]) q5 := loadVar_cl Gq5 rfl
              have hl2 : (loadVar 26 ⟨q3.heap.size, 0, none⟩).run Tryz.prog q5 = .ok (.agg #[.string (sb nm), .string (sb ky), .string (sb fd), .string (sb vl), .int .i64 x1, .int .i64 x2]) q5 := loadVar_cl cPq5 rfl
              have hzz : ((z : Int) == z) = true := by simp
              clear hTl hTx hTb hPA hbD hMn hsl
              go_wp2_with (first | (refine wpList_loadR (ty := 26) (x := .tmp 8) (ad := ⟨w3.heap.size, 0, none⟩) (v := .agg #[.string (sb nm), .string (sb ky), .string (sb fd), .string (sb vl), .int .i64 x1, .int .i64 x2]) rfl rfl rfl hl1 ?_) | (refine wpList_loadR (ty := 26) (x := .tmp 10) (ad := ⟨q3.heap.size, 0, none⟩) (v := .agg #[.string (sb nm), .string (sb ky), .string (sb fd), .string (sb vl), .int .i64 x1, .int .i64 x2]) rfl rfl rfl hl2 ?_))
              go_ret
              exact ⟨rfl, FIN.out⟩
            refine AllReadyH.cons (o := { dst := some 10, op := _, type := _, pos := _, after := _, guard := _ }) rfl (fun K hK => ?_) AllReadyH.nil
            rw [if_pos (by rfl)]
            obtain ⟨q6, eq6, cPq6, bq6⟩ := alloc_c q2
            have hgp : D.heap.size ≤ q2.heap.size := hBq2.size
            have hBq6 : Below D.heap.size D q6 := hBq2.trans (bq6.mono hBq2.size)
            have Gq6 := (bq6.block _ (heap_lt22 Gq2)).trans Gq2
            have Tq6 := Tq2.below bq6 (Nat.le_refl _)
            refine y_alloc22 rfl eq6 ?_
            refine hK.out _ _ hBq6 (fun hHeld => ?_)
            clear hK K
            simp only [Act.put, List.setIfInBounds_toArray, List.set_cons_zero, List.set_cons_succ]
            clear hHeld
            refine wpAnyH_ready (rs := [6]) (by kernel_rfl) (by simp) ?_
            refine AllReadyH.cons (o := { dst := some 79, op := _, type := _, pos := _, after := _, guard := _ }) rfl (fun K hK => ?_) AllReadyH.nil
            rw [if_pos (by rfl)]
            have hPq7 := hPA ao2 (1 + k) c2 q6 Tq6 (hTb.below hBq6) hk2
            refine y_call (f := 11) (xs := [.tmp 78]) (vs := [.slice ao2 (1 + k) c2]) rfl rfl (enters_parse22 _ _) hPq7 ?_
            rintro ex q7 ⟨rfl, bq7⟩
            refine ⟨_, rfl, ?_⟩
            have hBq7 : Below D.heap.size D q7 := hBq6.trans (bq7.mono hBq6.size)
            have Gq7 := (bq7.block _ (heap_lt22 Gq6)).trans Gq6
            have cPq7 := (bq7.block _ (heap_lt22 cPq6)).trans cPq6
            refine hK.out _ _ hBq7 (fun hHeld => ?_)
            clear hK K
            simp only [Act.put, List.setIfInBounds_toArray, List.set_cons_zero, List.set_cons_succ]
            refine wpAnyH_take (i := 7) (oi := { dst := some 72, op := _, type := _, pos := _, after := _, guard := _ }) (v := .tuple #[.agg (clc ⟨nm, ky, fd, vl, x1, x2⟩), .int .i64 z]) rfl (by kernel_rfl) (by kernel_rfl) (by kernel_rfl) (fun _ _ _ h => h) (Or.inl ⟨by rfl, ?_⟩) (by assumption) ?_
            · intro w9 hSw
              exact y_move rfl rfl
            simp only [Act.put, List.setIfInBounds_toArray, List.set_cons_zero, List.set_cons_succ]
            refine wpAnyH_take (i := 8) (oi := { dst := some 80, op := _, type := _, pos := _, after := _, guard := _ }) (v := .agg (clc ⟨nm, ky, fd, vl, x1, x2⟩)) rfl (by kernel_rfl) (by kernel_rfl) (by kernel_rfl) (fun _ _ _ h => h) (Or.inl ⟨by rfl, ?_⟩) (by assumption) ?_
            · intro w9 hSw
              exact y_extract rfl rfl rfl
            simp only [Act.put, List.setIfInBounds_toArray, List.set_cons_zero, List.set_cons_succ]
            refine wpAnyH_take (i := 9) (oi := { dst := some 81, op := _, type := _, pos := _, after := _, guard := _ }) (v := .int .i64 z) rfl (by kernel_rfl) (by kernel_rfl) (by kernel_rfl) (fun _ _ _ h => h) (Or.inl ⟨by rfl, ?_⟩) (by assumption) ?_
            · intro w9 hSw
              exact y_extract rfl rfl rfl
            simp only [Act.put, List.setIfInBounds_toArray, List.set_cons_zero, List.set_cons_succ]
            clear hHeld
            refine wpAnyH_ready (rs := [11]) (by kernel_rfl) (by simp) ?_
            refine AllReadyH.cons (o := { dst := none, op := _, type := _, pos := _, after := _, guard := _ }) rfl (fun K hK => ?_) AllReadyH.nil
            rw [if_pos (by rfl)]
            obtain ⟨q8, eq8, cPq8, bq8⟩ := store_c ⟨nm, ky, fd, vl, x1, x2⟩ cPq7
            have hBq8 : Below D.heap.size D q8 := hBq7.trans (bq8.mono hgp)
            have Gq8 := (bq8.block _ (Nat.lt_of_lt_of_le (heap_lt22 G) hgp)).trans Gq7
            refine y_store (ty := 26) (x := .tmp 10) (y := .tmp 80) (ad := ⟨q2.heap.size, 0, none⟩) (v := .agg (clc ⟨nm, ky, fd, vl, x1, x2⟩)) (w' := q8) rfl rfl rfl eq8 ?_
            refine hK.out _ _ hBq8 (fun hHeld => ?_)
            clear hK K
            simp only [Act.put]
            refine wpAnyH_take (i := 12) (oi := { dst := some 11, op := _, type := _, pos := _, after := _, guard := _ }) (v := .int .i64 z) rfl (by kernel_rfl) (by kernel_rfl) (by kernel_rfl) (fun _ _ _ h => h) (Or.inl ⟨by rfl, ?_⟩) (by assumption) ?_
            · intro w9 hSw
              exact y_assign rfl rfl
            simp only [Act.put, List.setIfInBounds_toArray, List.set_cons_zero, List.set_cons_succ]
            clear hHeld
            have hHeld := hBq8
            refine wpAnyH_done (by kernel_rfl) ?_ _
            refine NoPanic.normal ?_
            clear hHeld
            have FIN : Hid (Below w.heap.size w q8) := HB3.out.trans ((hbD.trans (hBq8.mono hbD.size)).mono HB3.out.size)
            have hl1 : (loadVar 26 ⟨w3.heap.size, 0, none⟩).run Tryz.prog q8 = .ok (.agg #[.string (sb nm), .string (sb ky), .string (sb fd), .string (sb vl), .int .i64 x1, .int .i64 x2]) q8 := loadVar_cl Gq8 rfl
            have hl2 : (loadVar 26 ⟨q2.heap.size, 0, none⟩).run Tryz.prog q8 = .ok (.agg #[.string (sb nm), .string (sb ky), .string (sb fd), .string (sb vl), .int .i64 x1, .int .i64 x2]) q8 := loadVar_cl cPq8 rfl
            have hzz : ((z : Int) == z) = true := by simp
            clear hTl hTx hTb hPA hbD hMn hsl
            go_wp2_with (first | (refine wpList_loadR (ty := 26) (x := .tmp 8) (ad := ⟨w3.heap.size, 0, none⟩) (v := .agg #[.string (sb nm), .string (sb ky), .string (sb fd), .string (sb vl), .int .i64 x1, .int .i64 x2]) rfl rfl rfl hl1 ?_) | (refine wpList_loadR (ty := 26) (x := .tmp 10) (ad := ⟨q2.heap.size, 0, none⟩) (v := .agg #[.string (sb nm), .string (sb ky), .string (sb fd), .string (sb vl), .int .i64 x1, .int .i64 x2]) rfl rfl rfl hl2 ?_))
            go_ret
            exact ⟨rfl, FIN.out⟩
          refine AllReadyH.cons (o := { dst := some 10, op := _, type := _, pos := _, after := _, guard := _ }) rfl (fun K hK => ?_) AllReadyH.nil
          rw [if_pos (by rfl)]
          obtain ⟨q9, eq9, cPq9, bq9⟩ := alloc_c q1
          have hgp : D.heap.size ≤ q1.heap.size := hBq1.size
          have hBq9 : Below D.heap.size D q9 := hBq1.trans (bq9.mono hBq1.size)
          have Gq9 := (bq9.block _ (heap_lt22 Gq1)).trans Gq1
          have cQq9 := (bq9.block _ (heap_lt22 cQq1)).trans cQq1
          refine y_alloc22 rfl eq9 ?_
          refine hK.out _ _ hBq9 (fun hHeld => ?_)
          clear hK K
          simp only [Act.put, List.setIfInBounds_toArray, List.set_cons_zero, List.set_cons_succ]
          clear hHeld
          refine wpAnyH_ready (rs := [5]) (by kernel_rfl) (by simp) ?_
          refine AllReadyH.cons (o := { dst := some 78, op := _, type := _, pos := _, after := _, guard := _ }) rfl (fun K hK => ?_) AllReadyH.nil
          rw [if_pos (by rfl)]
          obtain ⟨ao2, c2, q10, eq10, Tq10, bq10⟩ := app_txt cQq9 hsM (hTx.below hBq9 (Nat.le_refl _)) hk1 22
          have hBq10 : Below D.heap.size D q10 := hBq9.trans (bq10.mono hBq9.size)
          have Gq10 := (bq10.block _ (heap_lt22 Gq9)).trans Gq9
          have cPq10 := (bq10.block _ (heap_lt22 cPq9)).trans cPq9
          refine y_app22 (x := .tmp 75) (y := .tmp 77) rfl rfl rfl eq10 ?_
          refine hK.out _ _ hBq10 (fun hHeld => ?_)
          clear hK K
          simp only [Act.put, List.setIfInBounds_toArray, List.set_cons_zero, List.set_cons_succ]
          clear hHeld
          refine wpAnyH_ready (rs := [6]) (by kernel_rfl) (by simp) ?_
          refine AllReadyH.cons (o := { dst := some 79, op := _, type := _, pos := _, after := _, guard := _ }) rfl (fun K hK => ?_) AllReadyH.nil
          rw [if_pos (by rfl)]
          have hPq11 := hPA ao2 (1 + k) c2 q10 Tq10 (hTb.below hBq10) hk2
          refine y_call (f := 11) (xs := [.tmp 78]) (vs := [.slice ao2 (1 + k) c2]) rfl rfl (enters_parse22 _ _) hPq11 ?_
          rintro ex q11 ⟨rfl, bq11⟩
          refine ⟨_, rfl, ?_⟩
          have hBq11 : Below D.heap.size D q11 := hBq10.trans (bq11.mono hBq10.size)
          have Gq11 := (bq11.block _ (heap_lt22 Gq10)).trans Gq10
          have cPq11 := (bq11.block _ (heap_lt22 cPq10)).trans cPq10
          refine hK.out _ _ hBq11 (fun hHeld => ?_)
          clear hK K
          simp only [Act.put, List.setIfInBounds_toArray, List.set_cons_zero, List.set_cons_succ]
          refine wpAnyH_take (i := 7) (oi := { dst := some 72, op := _, type := _, pos := _, after := _, guard := _ }) (v := .tuple #[.agg (clc ⟨nm, ky, fd, vl, x1, x2⟩), .int .i64 z]) rfl (by kernel_rfl) (by kernel_rfl) (by kernel_rfl) (fun _ _ _ h => h) (Or.inl ⟨by rfl, ?_⟩) (by assumption) ?_
          · intro w9 hSw
            exact y_move rfl rfl
          simp only [Act.put, List.setIfInBounds_toArray, List.set_cons_zero, List.set_cons_succ]
          refine wpAnyH_take (i := 8) (oi := { dst := some 80, op := _, type := _, pos := _, after := _, guard := _ }) (v := .agg (clc ⟨nm, ky, fd, vl, x1, x2⟩)) rfl (by kernel_rfl) (by kernel_rfl) (by kernel_rfl) (fun _ _ _ h => h) (Or.inl ⟨by rfl, ?_⟩) (by assumption) ?_
          · intro w9 hSw
            exact y_extract rfl rfl rfl
          simp only [Act.put, List.setIfInBounds_toArray, List.set_cons_zero, List.set_cons_succ]
          refine wpAnyH_take (i := 9) (oi := { dst := some 81, op := _, type := _, pos := _, after := _, guard := _ }) (v := .int .i64 z) rfl (by kernel_rfl) (by kernel_rfl) (by kernel_rfl) (fun _ _ _ h => h) (Or.inl ⟨by rfl, ?_⟩) (by assumption) ?_
          · intro w9 hSw
            exact y_extract rfl rfl rfl
          simp only [Act.put, List.setIfInBounds_toArray, List.set_cons_zero, List.set_cons_succ]
          clear hHeld
          refine wpAnyH_ready (rs := [11]) (by kernel_rfl) (by simp) ?_
          refine AllReadyH.cons (o := { dst := none, op := _, type := _, pos := _, after := _, guard := _ }) rfl (fun K hK => ?_) AllReadyH.nil
          rw [if_pos (by rfl)]
          obtain ⟨q12, eq12, cPq12, bq12⟩ := store_c ⟨nm, ky, fd, vl, x1, x2⟩ cPq11
          have hBq12 : Below D.heap.size D q12 := hBq11.trans (bq12.mono hgp)
          have Gq12 := (bq12.block _ (Nat.lt_of_lt_of_le (heap_lt22 G) hgp)).trans Gq11
          refine y_store (ty := 26) (x := .tmp 10) (y := .tmp 80) (ad := ⟨q1.heap.size, 0, none⟩) (v := .agg (clc ⟨nm, ky, fd, vl, x1, x2⟩)) (w' := q12) rfl rfl rfl eq12 ?_
          refine hK.out _ _ hBq12 (fun hHeld => ?_)
          clear hK K
          simp only [Act.put]
          refine wpAnyH_take (i := 12) (oi := { dst := some 11, op := _, type := _, pos := _, after := _, guard := _ }) (v := .int .i64 z) rfl (by kernel_rfl) (by kernel_rfl) (by kernel_rfl) (fun _ _ _ h => h) (Or.inl ⟨by rfl, ?_⟩) (by assumption) ?_
          · intro w9 hSw
            exact y_assign rfl rfl
          simp only [Act.put, List.setIfInBounds_toArray, List.set_cons_zero, List.set_cons_succ]
          clear hHeld
          have hHeld := hBq12
          refine wpAnyH_done (by kernel_rfl) ?_ _
          refine NoPanic.normal ?_
          clear hHeld
          have FIN : Hid (Below w.heap.size w q12) := HB3.out.trans ((hbD.trans (hBq12.mono hbD.size)).mono HB3.out.size)
          have hl1 : (loadVar 26 ⟨w3.heap.size, 0, none⟩).run Tryz.prog q12 = .ok (.agg #[.string (sb nm), .string (sb ky), .string (sb fd), .string (sb vl), .int .i64 x1, .int .i64 x2]) q12 := loadVar_cl Gq12 rfl
          have hl2 : (loadVar 26 ⟨q1.heap.size, 0, none⟩).run Tryz.prog q12 = .ok (.agg #[.string (sb nm), .string (sb ky), .string (sb fd), .string (sb vl), .int .i64 x1, .int .i64 x2]) q12 := loadVar_cl cPq12 rfl
          have hzz : ((z : Int) == z) = true := by simp
          clear hTl hTx hTb hPA hbD hMn hsl
          go_wp2_with (first | (refine wpList_loadR (ty := 26) (x := .tmp 8) (ad := ⟨w3.heap.size, 0, none⟩) (v := .agg #[.string (sb nm), .string (sb ky), .string (sb fd), .string (sb vl), .int .i64 x1, .int .i64 x2]) rfl rfl rfl hl1 ?_) | (refine wpList_loadR (ty := 26) (x := .tmp 10) (ad := ⟨q1.heap.size, 0, none⟩) (v := .agg #[.string (sb nm), .string (sb ky), .string (sb fd), .string (sb vl), .int .i64 x1, .int .i64 x2]) rfl rfl rfl hl2 ?_))
          go_ret
          exact ⟨rfl, FIN.out⟩
        refine AllReadyH.cons (o := { dst := some 10, op := _, type := _, pos := _, after := _, guard := _ }) rfl (fun K hK => ?_) AllReadyH.nil
        rw [if_pos (by rfl)]
        obtain ⟨q13, eq13, cPq13, bq13⟩ := alloc_c D
        have hgp : D.heap.size ≤ D.heap.size := hB0.size
        have hBq13 : Below D.heap.size D q13 := hB0.trans (bq13.mono hB0.size)
        have Gq13 := (bq13.block _ (heap_lt22 G)).trans G
        refine y_alloc22 rfl eq13 ?_
        refine hK.out _ _ hBq13 (fun hHeld => ?_)
        clear hK K
        simp only [Act.put, List.setIfInBounds_toArray, List.set_cons_zero, List.set_cons_succ]
        clear hHeld
        refine wpAnyH_ready (rs := [2]) (by kernel_rfl) (by simp) ?_
        refine AllReadyH.cons (o := { dst := some 75, op := _, type := _, pos := _, after := _, guard := _ }) rfl (fun K hK => ?_) AllReadyH.nil
        rw [if_pos (by rfl)]
        obtain ⟨q14, eq14, cQq14, bq14⟩ := build_s1 q13 (sb M)
        have hBq14 : Below D.heap.size D q14 := hBq13.trans (bq14.mono hBq13.size)
        have Gq14 := (bq14.block _ (heap_lt22 Gq13)).trans Gq13
        have cPq14 := (bq14.block _ (heap_lt22 cPq13)).trans cPq13
        refine y_bld (x := .tmp 74) (u := .string (sb M)) rfl rfl eq14 ?_
        refine hK.out _ _ hBq14 (fun hHeld => ?_)
        clear hK K
        simp only [Act.put, List.setIfInBounds_toArray, List.set_cons_zero, List.set_cons_succ]
        clear hHeld
        refine wpAnyH_ready (rs := [5]) (by kernel_rfl) (by simp) ?_
        refine AllReadyH.cons (o := { dst := some 78, op := _, type := _, pos := _, after := _, guard := _ }) rfl (fun K hK => ?_) AllReadyH.nil
        rw [if_pos (by rfl)]
        obtain ⟨ao2, c2, q15, eq15, Tq15, bq15⟩ := app_txt cQq14 hsM (hTx.below hBq14 (Nat.le_refl _)) hk1 22
        have hBq15 : Below D.heap.size D q15 := hBq14.trans (bq15.mono hBq14.size)
        have Gq15 := (bq15.block _ (heap_lt22 Gq14)).trans Gq14
        have cPq15 := (bq15.block _ (heap_lt22 cPq14)).trans cPq14
        refine y_app22 (x := .tmp 75) (y := .tmp 77) rfl rfl rfl eq15 ?_
        refine hK.out _ _ hBq15 (fun hHeld => ?_)
        clear hK K
        simp only [Act.put, List.setIfInBounds_toArray, List.set_cons_zero, List.set_cons_succ]
        clear hHeld
        refine wpAnyH_ready (rs := [6]) (by kernel_rfl) (by simp) ?_
        refine AllReadyH.cons (o := { dst := some 79, op := _, type := _, pos := _, after := _, guard := _ }) rfl (fun K hK => ?_) AllReadyH.nil
        rw [if_pos (by rfl)]
        have hPq16 := hPA ao2 (1 + k) c2 q15 Tq15 (hTb.below hBq15) hk2
        refine y_call (f := 11) (xs := [.tmp 78]) (vs := [.slice ao2 (1 + k) c2]) rfl rfl (enters_parse22 _ _) hPq16 ?_
        rintro ex q16 ⟨rfl, bq16⟩
        refine ⟨_, rfl, ?_⟩
        have hBq16 : Below D.heap.size D q16 := hBq15.trans (bq16.mono hBq15.size)
        have Gq16 := (bq16.block _ (heap_lt22 Gq15)).trans Gq15
        have cPq16 := (bq16.block _ (heap_lt22 cPq15)).trans cPq15
        refine hK.out _ _ hBq16 (fun hHeld => ?_)
        clear hK K
        simp only [Act.put, List.setIfInBounds_toArray, List.set_cons_zero, List.set_cons_succ]
        refine wpAnyH_take (i := 7) (oi := { dst := some 72, op := _, type := _, pos := _, after := _, guard := _ }) (v := .tuple #[.agg (clc ⟨nm, ky, fd, vl, x1, x2⟩), .int .i64 z]) rfl (by kernel_rfl) (by kernel_rfl) (by kernel_rfl) (fun _ _ _ h => h) (Or.inl ⟨by rfl, ?_⟩) (by assumption) ?_
        · intro w9 hSw
          exact y_move rfl rfl
        simp only [Act.put, List.setIfInBounds_toArray, List.set_cons_zero, List.set_cons_succ]
        refine wpAnyH_take (i := 8) (oi := { dst := some 80, op := _, type := _, pos := _, after := _, guard := _ }) (v := .agg (clc ⟨nm, ky, fd, vl, x1, x2⟩)) rfl (by kernel_rfl) (by kernel_rfl) (by kernel_rfl) (fun _ _ _ h => h) (Or.inl ⟨by rfl, ?_⟩) (by assumption) ?_
        · intro w9 hSw
          exact y_extract rfl rfl rfl
        simp only [Act.put, List.setIfInBounds_toArray, List.set_cons_zero, List.set_cons_succ]
        refine wpAnyH_take (i := 9) (oi := { dst := some 81, op := _, type := _, pos := _, after := _, guard := _ }) (v := .int .i64 z) rfl (by kernel_rfl) (by kernel_rfl) (by kernel_rfl) (fun _ _ _ h => h) (Or.inl ⟨by rfl, ?_⟩) (by assumption) ?_
        · intro w9 hSw
          exact y_extract rfl rfl rfl
        simp only [Act.put, List.setIfInBounds_toArray, List.set_cons_zero, List.set_cons_succ]
        clear hHeld
        refine wpAnyH_ready (rs := [11]) (by kernel_rfl) (by simp) ?_
        refine AllReadyH.cons (o := { dst := none, op := _, type := _, pos := _, after := _, guard := _ }) rfl (fun K hK => ?_) AllReadyH.nil
        rw [if_pos (by rfl)]
        obtain ⟨q17, eq17, cPq17, bq17⟩ := store_c ⟨nm, ky, fd, vl, x1, x2⟩ cPq16
        have hBq17 : Below D.heap.size D q17 := hBq16.trans (bq17.mono hgp)
        have Gq17 := (bq17.block _ (Nat.lt_of_lt_of_le (heap_lt22 G) hgp)).trans Gq16
        refine y_store (ty := 26) (x := .tmp 10) (y := .tmp 80) (ad := ⟨D.heap.size, 0, none⟩) (v := .agg (clc ⟨nm, ky, fd, vl, x1, x2⟩)) (w' := q17) rfl rfl rfl eq17 ?_
        refine hK.out _ _ hBq17 (fun hHeld => ?_)
        clear hK K
        simp only [Act.put]
        refine wpAnyH_take (i := 12) (oi := { dst := some 11, op := _, type := _, pos := _, after := _, guard := _ }) (v := .int .i64 z) rfl (by kernel_rfl) (by kernel_rfl) (by kernel_rfl) (fun _ _ _ h => h) (Or.inl ⟨by rfl, ?_⟩) (by assumption) ?_
        · intro w9 hSw
          exact y_assign rfl rfl
        simp only [Act.put, List.setIfInBounds_toArray, List.set_cons_zero, List.set_cons_succ]
        clear hHeld
        have hHeld := hBq17
        refine wpAnyH_done (by kernel_rfl) ?_ _
        refine NoPanic.normal ?_
        clear hHeld
        have FIN : Hid (Below w.heap.size w q17) := HB3.out.trans ((hbD.trans (hBq17.mono hbD.size)).mono HB3.out.size)
        have hl1 : (loadVar 26 ⟨w3.heap.size, 0, none⟩).run Tryz.prog q17 = .ok (.agg #[.string (sb nm), .string (sb ky), .string (sb fd), .string (sb vl), .int .i64 x1, .int .i64 x2]) q17 := loadVar_cl Gq17 rfl
        have hl2 : (loadVar 26 ⟨D.heap.size, 0, none⟩).run Tryz.prog q17 = .ok (.agg #[.string (sb nm), .string (sb ky), .string (sb fd), .string (sb vl), .int .i64 x1, .int .i64 x2]) q17 := loadVar_cl cPq17 rfl
        have hzz : ((z : Int) == z) = true := by simp
        clear hTl hTx hTb hPA hbD hMn hsl
        go_wp2_with (first | (refine wpList_loadR (ty := 26) (x := .tmp 8) (ad := ⟨w3.heap.size, 0, none⟩) (v := .agg #[.string (sb nm), .string (sb ky), .string (sb fd), .string (sb vl), .int .i64 x1, .int .i64 x2]) rfl rfl rfl hl1 ?_) | (refine wpList_loadR (ty := 26) (x := .tmp 10) (ad := ⟨D.heap.size, 0, none⟩) (v := .agg #[.string (sb nm), .string (sb ky), .string (sb fd), .string (sb vl), .int .i64 x1, .int .i64 x2]) rfl rfl rfl hl2 ?_))
        go_ret
        exact ⟨rfl, FIN.out⟩
end Go.Proofs.YtmlfekbmbnfkjaaGreatDoor

