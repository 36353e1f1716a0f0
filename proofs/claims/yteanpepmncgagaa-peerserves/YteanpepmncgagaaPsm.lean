/-
  What the reference's Most and May come to.
-/
import Derived.Test.YteanpepmncgagaaPla
import Derived.Test.YteanpepmncgagaaRri
import Derived.BigQuiet
namespace Go.Proofs.Yteanpepmncgagaa
set_option maxRecDepth 100000
open Go.RowKit

theorem okev_dot {e : Ev} (h : okev e = true) : okdot e.r e.n = true := by
  unfold okev placeE at h
  simp only [Bool.and_eq_true, decide_eq_true_eq] at h
  have h1 := h.1
  unfold withE at h1
  rcases Bool.eq_false_or_eq_true (okdot e.r e.n) with h2 | h2
  · exact h2
  · rw [h2, Bool.and_false] at h1
    simp at h1
/-- May it be seen next? -/
def mayE (e : Ev) (v : List Int) : Bool := decide (e.n = v.getD e.r.toNat 0 + 1) && decide (each max e.deps v = v)
def seeV (v : List Int) (e : Ev) : List Int := v.set e.r.toNat e.n
def vs (T : List Ev) (v : List Int) : List Int := T.foldl seeV v
theorem vs_snoc (T : List Ev) (e : Ev) (v : List Int) : vs (T ++ [e]) v = seeV (vs T v) e := by simp [vs]
theorem vs_append (T U : List Ev) (v : List Int) : vs (T ++ U) v = vs U (vs T v) := by simp [vs]
theorem seeV_length (v : List Int) (e : Ev) : (seeV v e).length = v.length := by simp [seeV]
theorem vs_length : ∀ (T : List Ev) (v : List Int), (vs T v).length = v.length
  | [], _ => rfl
  | e :: T, v => by
    have := vs_length T (seeV v e)
    rw [seeV_length] at this
    exact this
/-- The first that may be seen, what waits then, and what is seen then. -/
theorem mayE_num {e : Ev} {v : List Int} (h : mayE e v = true) : e.n = v.getD e.r.toNat 0 + 1 := by
  simp only [mayE, Bool.and_eq_true, decide_eq_true_eq] at h
  exact h.1
theorem seeV_getD {v : List Int} {e : Ev} {j : Nat} : (seeV v e).getD j 0 = if e.r.toNat = j ∧ j < v.length then e.n else v.getD j 0 := by
  unfold seeV
  simp only [List.getD_eq_getElem?_getD, List.getElem?_set]
  by_cases h : e.r.toNat = j
  · subst h
    by_cases h2 : e.r.toNat < v.length
    · simp [h2]
    · simp [h2]
  · simp [h]
theorem see_mono {v : List Int} {e : Ev} (h : mayE e v = true) (j : Nat) : v.getD j 0 ≤ (seeV v e).getD j 0 := by
  rw [seeV_getD]
  have := mayE_num h
  split
  · rename_i hh
    rw [hh.1] at this; omega
  · exact Int.le_refl _
theorem max_le {a b : List Int} (ha : a.length = 16) (hb : b.length = 16) : each max a b = b ↔ ∀ j : Nat, j < 16 → a.getD j 0 ≤ b.getD j 0 := by
  constructor
  · intro h j hj
    have : (each max a b).getD j 0 = b.getD j 0 := by rw [h]
    simp only [each, List.getD_eq_getElem?_getD, List.getElem?_zipWith, List.getElem?_eq_getElem (show j < a.length by omega), List.getElem?_eq_getElem (show j < b.length by omega), Option.getD_some] at this ⊢
    omega
  · intro h
    refine List.ext_getElem (by simp [each]; omega) fun j h1 h2 => ?_
    have := h j (by omega)
    simp only [List.getD_eq_getElem?_getD, List.getElem?_eq_getElem (show j < a.length by omega), List.getElem?_eq_getElem (show j < b.length by omega), Option.getD_some] at this
    simp only [each, List.getElem_zipWith]
    omega
theorem may_not {e : Ev} {v : List Int} (h : mayE e v = true) : hasv v e.r e.n = false := by
  have := mayE_num h
  unfold hasv
  have h2 : decide (e.n ≤ v.getD e.r.toNat 0) = false := by simp only [decide_eq_false_iff_not]; omega
  rw [h2, Bool.and_false]
theorem field_ev0 (w : World) (g : Nat) : (Instr.fieldAt 39 (.pointer (some ⟨g, 0, none⟩)) 0).run Try.prog w = .ok (.pointer (some ⟨g, 0, none⟩)) w := by kernel_rfl
theorem field_ev2 (w : World) (g : Nat) : (Instr.fieldAt 39 (.pointer (some ⟨g, 0, none⟩)) 2).run Try.prog w = .ok (.pointer (some ⟨g, 3, none⟩)) w := by kernel_rfl
theorem index_vv (w : World) (g n k : Nat) (hk : k < 16) : (Instr.indexAt 35 (.pointer (some ⟨g, n, none⟩)) (.int .i64 (k : Int))).run Try.prog w = .ok (.pointer (some ⟨g, n + k, none⟩)) w := by
  have hu : Try.prog.underlying 35 = some (.array 16 3) := by kernel_rfl
  have e : (⟨g, n, none⟩ : Addr).add k = ⟨g, n + k, none⟩ := by unfold Addr.add; split <;> simp_all
  simp [Instr.indexAt, asIntOf, run_underlying hu, Sem.run_bind, Instr.sureAddr, hk, e]
theorem field_d0 (w : World) (g : Nat) : (Instr.fieldAt 33 (.pointer (some ⟨g, 0, none⟩)) 0).run Try.prog w = .ok (.pointer (some ⟨g, 0, none⟩)) w := by kernel_rfl
theorem field_d1 (w : World) (g : Nat) : (Instr.fieldAt 33 (.pointer (some ⟨g, 0, none⟩)) 1).run Try.prog w = .ok (.pointer (some ⟨g, 1, none⟩)) w := by kernel_rfl
theorem load_int {w : World} {ad : Addr} {v : Value} (h : w.cell? ad = some v) : (loadVar 3 ad).run Try.prog w = .ok v w := by
  have h3 : Try.prog.underlying 3 = some (.int .i64) := by kernel_rfl
  go_simp
theorem load_dp3 {w : World} {g : Nat} {e : Ev} (h : LiesE w g e) (hl : e.deps.length = 16) : (loadVar 35 ⟨g, 3, none⟩).run Try.prog w = .ok (.agg (vals e.deps)) w :=
  run_loadVar_mid (P := Try.prog) w g 3 35 _ _ (h.deps hl) Try.underlying35 rfl (size16 _ hl)
structure Ms (B : Nat) (e : Ev) (v : List Int) (W : World) : Prop where
  ev : LiesE W B e
  vec : Lies W (B + 1) v
theorem Ms.below {B : Nat} {e : Ev} {v : List Int} {W W' : World} (h : Ms B e v W) (hb : Below W.heap.size W W') : Ms B e v W' := ⟨h.ev.below hb h.ev.lt, h.vec.below hb h.vec.lt⟩
theorem eql_ii (w : World) {a b : Int} {t : Bool} (h : decide (a = b) = t) : (binOp .eql 3 (.int .i64 a) (.int .i64 b)).run Try.prog w = .ok (.bool t) w := by
  subst h
  have : (a == b) = decide (a = b) := by rw [Bool.eq_iff_iff]; simp
  simp [go_sem, this]
theorem eqGuard_ii (w : World) {op : BinOp} {x y : Operand} (a b : Int) : (eqGuard op 3 x y (.int .i64 a) (.int .i64 b)).run Try.prog w = .ok () w := by go_simp
theorem okbool {f : FuncId} {xs : Array Value} {W : World} {b c : Bool} (h : Calls Try.prog f xs W fun e w' => e = .returned (.bool b) ∧ Below W.heap.size W w') (hb : b = c) :
    Calls Try.prog f xs W fun e w' => e = .returned (.bool c) ∧ Below W.heap.size W w' := by rw [← hb]; exact h
theorem enters_most (xs : Array Value) (w : World) : (callFunc 39 xs).run Try.prog w = .ok (.enter 39 xs) w := enters Try.func39 (by kernel_rfl) (by kernel_rfl) xs w
/-- Is each number of a at most that of b? -/
def most (a b : List Int) : Bool := (List.range 16).all fun i => decide (a.getD i 0 ≤ b.getD i 0)
theorem most_spec (a b : List Int) : most a b = true ↔ ∀ i, i < 16 → a.getD i 0 ≤ b.getD i 0 := by
  rw [most, List.all_eq_true]
  simp only [List.mem_range, decide_eq_true_eq]
set_option maxHeartbeats 1000000 in
theorem most_any (a b : List Int) (la : a.length = 16) (lb : b.length = 16) (w : World) :
    Calls Try.prog 39 #[.agg (vals a), .agg (vals b)] w fun e w' => e = .returned (.bool (most a b)) ∧ Below w.heap.size w w' := by
  obtain ⟨hA, hB, hb0⟩ := boxed2 w a b
  go_enter Try.func39, Try.ntmps39
  go_wp2_with fail
  go_loopw [5] (fun i wr => ∃ k : Nat, k ≤ 16 ∧ i = .int .i64 (k : Int) ∧ (∀ j, j < k → a.getD j 0 ≤ b.getD j 0) ∧ Lies wr w.heap.size a ∧ Lies wr (w.heap.size + 1) b ∧ Below w.heap.size w wr) (fun i _ => 16 - (intOf i).toNat)
  case atStart => exact ⟨0, by omega, rfl, fun j hj => by omega, hA, hB, hb0⟩
  case round =>
    obtain ⟨k, hk, rfl, hall, hA', hB', hb⟩ := hrel
    clear hA hB hb0
    have HB : Hid (Below w.heap.size w wr) := hb
    clear hb
    have HA : Hid _ := hall
    clear hall
    by_cases h : k < 16
    · have hc := hA'.cell (k := k) (by omega)
      have hcb := hB'.cell (k := k) (by omega)
      have hia := fun (W : World) (g : Nat) => run_indexAt_vec W g k h
      have Ha : Hid _ := hA'.drew
      have Hb : Hid _ := hB'.drew
      have Hs : Hid (a.getD k 0 ≤ b.getD k 0 → ∀ j, j < k + 1 → a.getD j 0 ≤ b.getD j 0) := by
        intro hle j hj
        by_cases he : j = k
        · subst he; exact hle
        · exact HA.out j (by omega)
      have Hn : Hid (b.getD k 0 < a.getD k 0 → most a b = false) := by
        intro hlt
        rw [Bool.eq_false_iff]
        intro hm
        have := (most_spec a b).1 hm k h
        omega
      clear hA' hB' HA
      generalize a.getD k 0 = x at *
      generalize b.getD k 0 = y at *
      by_cases hxy : y < x
      · go_wp2_with fail
        go_quiet (fail)
        go_wp2
        go_ret
        exact ⟨by rw [Hn.out (by omega)]; rfl, Below.drewN HB.out _⟩
      · go_wp2_with fail
        go_quiet (fail)
        go_wp2
        go_roundw
        case rel => exact ⟨k + 1, by omega, by go_num, Hs.out (by omega), Ha.out, Hb.out, Below.drewN HB.out _⟩
        case measure => simp [intOf]; omega
    · obtain rfl : k = 16 := by omega
      have Hr : Hid (most a b = true) := (most_spec a b).2 HA.out
      clear HA hA' hB'
      go_wp2
      go_ret
      exact ⟨by rw [Hr.out]; rfl, HB.out⟩

theorem most_each {a b : List Int} (ha : a.length = 16) (hb : b.length = 16) : most a b = decide (each max a b = b) := by
  rw [Bool.eq_iff_iff, most_spec, decide_eq_true_eq, max_le ha hb]
theorem wrap_next {x n : Int} (h0 : -9223372036854775808 ≤ x) (h1 : x ≤ 9223372036854775807) (h2 : 1 ≤ n) (h3 : n ≤ 1048576) : n = IntKind.i64.wrap (x + 1) ↔ n = x + 1 := by
  simp [IntKind.wrap, IntKind.signed, IntKind.bits]; omega
theorem add_one' (w : World) (x : Int) : (binOp .add 3 (.int .i64 x) (.int .i64 1)).run Try.prog w = .ok (.int .i64 (IntKind.i64.wrap (x + 1))) w := by
  simp only [go_sem]
  rfl
/-- Numbers that a vector's cells can hold. -/
def Fit (v : List Int) : Prop := ∀ j, -9223372036854775808 ≤ v.getD j 0 ∧ v.getD j 0 ≤ 9223372036854775807
set_option maxHeartbeats 1000000 in
theorem rmay_any (e : Ev) (v : List Int) (hw : Wide e) (hd : okdot e.r e.n = true) (hv : v.length = 16) (hf : Fit v) (w : World) :
    Calls Try.prog 20 #[.agg (evc e), .agg (vals v)] w fun ex w' => ex = .returned (.bool (mayE e v)) ∧ Below w.heap.size w w' := by
  have he16 := hw.1
  have hb0 : Below w.heap.size w ((w.alloc (.cells (evc e) 39)).alloc (.cells (vals v) 35)) := ((Below.refl _ w).alloc (Nat.le_refl _) _).alloc (by simp) _
  have hM0 : Ms w.heap.size e v ((w.alloc (.cells (evc e) 39)).alloc (.cells (vals v) 35)) := ⟨(liesE_new w e).alloc _, by
    have := lies_new (w.alloc (.cells (evc e) 39)) v
    rwa [World.size_alloc] at this⟩
  generalize hW0 : (w.alloc (.cells (evc e) 39)).alloc (.cells (vals v) 35) = W0 at *
  obtain ⟨B, hB⟩ : ∃ B, w.heap.size = B := ⟨_, rfl⟩
  rw [hB] at hM0
  have hd2 := hd
  simp only [okdot, decide_eq_true_eq] at hd2
  obtain ⟨k, hk⟩ : ∃ k : Nat, e.r = (k : Int) := ⟨e.r.toNat, by omega⟩
  have hkt : e.r.toNat = k := by omega
  have hk16 : k < 16 := by omega
  have hix := fun W => index_vv W (B + 1) 0 k hk16
  simp only [Nat.zero_add] at hix
  have hcell : ∀ W, Lies W (B + 1) v → W.cell? ⟨B + 1, k, none⟩ = some (.int .i64 (v.getD k 0)) := fun W h => h.cell (by omega)
  have hfd : ∀ W, (Instr.fieldAt 39 (.pointer (some ⟨B, 0, none⟩)) 0).run Try.prog W = .ok (.pointer (some ⟨B, 0, none⟩)) W := fun W => field_ev0 W B
  have hM1 : Ms B e v W0.drew := ⟨hM0.ev, hM0.vec⟩
  have HB0 : Hid (Below w.heap.size w W0) := hb0
  have hJn := most_any e.deps v he16 hv
  rw [most_each he16 hv] at hJn
  have hr0 : ∀ W, LiesE W B e → W.cell? ⟨B, 0, none⟩ = some (.int .i64 (k : Int)) := fun W h => by rw [h.c0, hk]
  have hwr := wrap_next (n := e.n) (hf k).1 (hf k).2 (by omega) (by omega)
  unfold mayE
  rw [hkt]
  clear hb0 hM0 hf
  generalize hx : v.getD k 0 = x at *
  rcases Bool.eq_false_or_eq_true (decide (e.n = IntKind.i64.wrap (x + 1))) with ht | ht
  · have hn : decide (e.n = x + 1) = true := by simp only [decide_eq_true_eq] at ht ⊢; exact hwr.1 ht
    rw [hn, Bool.true_and]
    clear hwr
    go_enter Try.func20, Try.ntmps20
    go_wp2_with fail
    clear hW0
    refine wp_region_noPanic ?_
    refine wp_region_held_drew (S := fun W' : World => Ms B e v W') (by kernel_rfl) hM1 (fun hHeld => ?_)
    refine wpAnyH_take (i := 0) (oi := { dst := some 5, op := _, type := _, pos := _, after := _, guard := _ }) (v := .pointer (some ⟨B, 0, none⟩)) rfl (by kernel_rfl) (by kernel_rfl) (by kernel_rfl) (fun _ _ _ h => h) (Or.inl ⟨by rfl, ?_⟩) (by assumption) ?_
    · intro w9 hSw
      exact y_field rfl rfl (hfd _)
    simp only [Act.put, List.setIfInBounds_toArray, List.set_cons_zero, List.set_cons_succ]
    refine wpAnyH_take (i := 1) (oi := { dst := some 6, op := _, type := _, pos := _, after := _, guard := _ }) (v := .pointer (some ⟨B, 1, none⟩)) rfl (by kernel_rfl) (by kernel_rfl) (by kernel_rfl) (fun _ _ _ h => h) (Or.inl ⟨by rfl, ?_⟩) (by assumption) ?_
    · intro w9 hSw
      exact y_field rfl rfl (field_d1 _ _)
    simp only [Act.put, List.setIfInBounds_toArray, List.set_cons_zero, List.set_cons_succ]
    refine wpAnyH_take (i := 2) (oi := { dst := some 7, op := _, type := _, pos := _, after := _, guard := _ }) (v := .int .i64 e.n) rfl (by kernel_rfl) (by kernel_rfl) (by kernel_rfl) (fun _ _ _ h => h) (Or.inl ⟨by rfl, ?_⟩) (by assumption) ?_
    · intro w9 hSw
      exact y_load rfl rfl (load_int hSw.ev.c1)
    simp only [Act.put, List.setIfInBounds_toArray, List.set_cons_zero, List.set_cons_succ]
    refine wpAnyH_take (i := 3) (oi := { dst := some 8, op := _, type := _, pos := _, after := _, guard := _ }) (v := .pointer (some ⟨B, 0, none⟩)) rfl (by kernel_rfl) (by kernel_rfl) (by kernel_rfl) (fun _ _ _ h => h) (Or.inl ⟨by rfl, ?_⟩) (by assumption) ?_
    · intro w9 hSw
      exact y_field rfl rfl (hfd _)
    simp only [Act.put, List.setIfInBounds_toArray, List.set_cons_zero, List.set_cons_succ]
    refine wpAnyH_take (i := 4) (oi := { dst := some 9, op := _, type := _, pos := _, after := _, guard := _ }) (v := .pointer (some ⟨B, 0, none⟩)) rfl (by kernel_rfl) (by kernel_rfl) (by kernel_rfl) (fun _ _ _ h => h) (Or.inl ⟨by rfl, ?_⟩) (by assumption) ?_
    · intro w9 hSw
      exact y_field rfl rfl (field_d0 _ _)
    simp only [Act.put, List.setIfInBounds_toArray, List.set_cons_zero, List.set_cons_succ]
    refine wpAnyH_take (i := 5) (oi := { dst := some 10, op := _, type := _, pos := _, after := _, guard := _ }) (v := .int .i64 (k : Int)) rfl (by kernel_rfl) (by kernel_rfl) (by kernel_rfl) (fun _ _ _ h => h) (Or.inl ⟨by rfl, ?_⟩) (by assumption) ?_
    · intro w9 hSw
      exact y_load rfl rfl (load_int (hr0 _ hSw.ev))
    simp only [Act.put, List.setIfInBounds_toArray, List.set_cons_zero, List.set_cons_succ]
    refine wpAnyH_take (i := 6) (oi := { dst := some 11, op := _, type := _, pos := _, after := _, guard := _ }) (v := .pointer (some ⟨B + 1, k, none⟩)) rfl (by kernel_rfl) (by kernel_rfl) (by kernel_rfl) (fun _ _ _ h => h) (Or.inl ⟨by rfl, ?_⟩) (by assumption) ?_
    · intro w9 hSw
      exact y_index rfl rfl rfl (hix _)
    simp only [Act.put, List.setIfInBounds_toArray, List.set_cons_zero, List.set_cons_succ]
    refine wpAnyH_take (i := 7) (oi := { dst := some 12, op := _, type := _, pos := _, after := _, guard := _ }) (v := .int .i64 x) rfl (by kernel_rfl) (by kernel_rfl) (by kernel_rfl) (fun _ _ _ h => h) (Or.inl ⟨by rfl, ?_⟩) (by assumption) ?_
    · intro w9 hSw
      exact y_load rfl rfl (load_int (hcell _ hSw.vec))
    simp only [Act.put, List.setIfInBounds_toArray, List.set_cons_zero, List.set_cons_succ]
    refine wpAnyH_take (i := 8) (oi := { dst := some 13, op := _, type := _, pos := _, after := _, guard := _ }) (v := .int .i64 (IntKind.i64.wrap (x + 1))) rfl (by kernel_rfl) (by kernel_rfl) (by kernel_rfl) (fun _ _ _ h => h) (Or.inl ⟨by rfl, ?_⟩) (by assumption) ?_
    · intro w9 hSw
      exact exec_bin rfl rfl rfl (eqGuard_ii _ _ _) (add_one' _ _)
    simp only [Act.put, List.setIfInBounds_toArray, List.set_cons_zero, List.set_cons_succ]
    refine wpAnyH_take (i := 9) (oi := { dst := some 14, op := _, type := _, pos := _, after := _, guard := _ }) (v := .bool true) rfl (by kernel_rfl) (by kernel_rfl) (by kernel_rfl) (fun _ _ _ h => h) (Or.inl ⟨by rfl, ?_⟩) (by assumption) ?_
    · intro w9 hSw
      exact exec_bin rfl rfl rfl (eqGuard_ii _ _ _) (eql_ii _ ht)
    simp only [Act.put, List.setIfInBounds_toArray, List.set_cons_zero, List.set_cons_succ]
    refine wpAnyH_take (i := 10) (oi := { dst := some 15, op := _, type := _, pos := _, after := _, guard := _ }) (v := .bool true) rfl (by kernel_rfl) (by kernel_rfl) (by kernel_rfl) (fun _ _ _ h => h) (Or.inl ⟨by rfl, ?_⟩) (by assumption) ?_
    · intro w9 hSw
      exact y_move rfl rfl
    simp only [Act.put, List.setIfInBounds_toArray, List.set_cons_zero, List.set_cons_succ]
    refine wpAnyH_take (i := 11) (oi := { dst := some 16, op := _, type := _, pos := _, after := _, guard := _ }) (v := .pointer (some ⟨B, 3, none⟩)) rfl (by kernel_rfl) (by kernel_rfl) (by kernel_rfl) (fun _ _ _ h => h) (Or.inl ⟨by rfl, ?_⟩) (by assumption) ?_
    · intro w9 hSw
      exact y_field rfl rfl (field_ev2 _ _)
    simp only [Act.put, List.setIfInBounds_toArray, List.set_cons_zero, List.set_cons_succ]
    refine wpAnyH_take (i := 12) (oi := { dst := some 17, op := _, type := _, pos := _, after := _, guard := _ }) (v := .agg (vals e.deps)) rfl (by kernel_rfl) (by kernel_rfl) (by kernel_rfl) (fun _ _ _ h => h) (Or.inl ⟨by rfl, ?_⟩) (by assumption) ?_
    · intro w9 hSw
      exact y_load rfl rfl (load_dp3 hSw.ev he16)
    simp only [Act.put, List.setIfInBounds_toArray, List.set_cons_zero, List.set_cons_succ]
    refine wpAnyH_take (i := 13) (oi := { dst := some 18, op := _, type := _, pos := _, after := _, guard := _ }) (v := .agg (vals v)) rfl (by kernel_rfl) (by kernel_rfl) (by kernel_rfl) (fun _ _ _ h => h) (Or.inl ⟨by rfl, ?_⟩) (by assumption) ?_
    · intro w9 hSw
      exact y_load rfl rfl (load_v hSw.vec hv)
    simp only [Act.put, List.setIfInBounds_toArray, List.set_cons_zero, List.set_cons_succ]
    clear hHeld
    refine wpAnyH_ready (rs := [14]) (by kernel_rfl) (by simp) ?_
    refine AllReadyH.cons (o := { dst := some 19, op := _, type := _, pos := _, after := _, guard := _ }) rfl (fun K hK => ?_) AllReadyH.nil
    rw [if_pos (by rfl)]
    refine y_call (f := 39) (xs := [.tmp 17, .tmp 18]) (vs := [.agg (vals e.deps), .agg (vals v)]) rfl rfl (enters_most _ _) (hJn W0.drew) ?_
    rintro ex w5 ⟨rfl, hb5⟩
    refine ⟨_, rfl, ?_⟩
    have HB5 : Hid (Below w.heap.size w w5) := (HB0.out.drew).trans (hb5.mono HB0.out.size)
    refine hK.out _ _ (hM1.below hb5) (fun hHeld => ?_)
    clear hK K
    simp only [Act.put, List.setIfInBounds_toArray, List.set_cons_zero, List.set_cons_succ]
    refine wpAnyH_take (i := 15) (oi := { dst := some 20, op := _, type := _, pos := _, after := _, guard := _ }) (v := .bool (decide (each max e.deps v = v))) rfl (by kernel_rfl) (by kernel_rfl) (by kernel_rfl) (fun _ _ _ h => h) (Or.inl ⟨by rfl, ?_⟩) (by assumption) ?_
    · intro w9 hSw
      exact exec_pick (b := true) rfl rfl rfl rfl
    simp only [Act.put, List.setIfInBounds_toArray, List.set_cons_zero, List.set_cons_succ]
    refine wpAnyH_take (i := 16) (oi := { dst := some 4, op := _, type := _, pos := _, after := _, guard := _ }) (v := .bool (decide (each max e.deps v = v))) rfl (by kernel_rfl) (by kernel_rfl) (by kernel_rfl) (fun _ _ _ h => h) (Or.inl ⟨by rfl, ?_⟩) (by assumption) ?_
    · intro w9 hSw
      exact y_assign rfl rfl
    simp only [Act.put, List.setIfInBounds_toArray, List.set_cons_zero, List.set_cons_succ]
    refine wpAnyH_done (by kernel_rfl) ?_ _
    refine NoPanic.normal ?_
    clear hHeld
    go_wp2
    go_ret
    exact ⟨rfl, HB5.out⟩
  · have hn : decide (e.n = x + 1) = false := by simp only [decide_eq_false_iff_not] at ht ⊢; exact fun h => ht (hwr.2 h)
    rw [hn, Bool.false_and]
    clear hwr
    go_enter Try.func20, Try.ntmps20
    go_wp2_with fail
    clear hW0
    refine wp_region_noPanic ?_
    refine wp_region_held_drew (S := fun W' : World => Ms B e v W') (by kernel_rfl) hM1 (fun hHeld => ?_)
    refine wpAnyH_take (i := 0) (oi := { dst := some 5, op := _, type := _, pos := _, after := _, guard := _ }) (v := .pointer (some ⟨B, 0, none⟩)) rfl (by kernel_rfl) (by kernel_rfl) (by kernel_rfl) (fun _ _ _ h => h) (Or.inl ⟨by rfl, ?_⟩) (by assumption) ?_
    · intro w9 hSw
      exact y_field rfl rfl (hfd _)
    simp only [Act.put, List.setIfInBounds_toArray, List.set_cons_zero, List.set_cons_succ]
    refine wpAnyH_take (i := 1) (oi := { dst := some 6, op := _, type := _, pos := _, after := _, guard := _ }) (v := .pointer (some ⟨B, 1, none⟩)) rfl (by kernel_rfl) (by kernel_rfl) (by kernel_rfl) (fun _ _ _ h => h) (Or.inl ⟨by rfl, ?_⟩) (by assumption) ?_
    · intro w9 hSw
      exact y_field rfl rfl (field_d1 _ _)
    simp only [Act.put, List.setIfInBounds_toArray, List.set_cons_zero, List.set_cons_succ]
    refine wpAnyH_take (i := 2) (oi := { dst := some 7, op := _, type := _, pos := _, after := _, guard := _ }) (v := .int .i64 e.n) rfl (by kernel_rfl) (by kernel_rfl) (by kernel_rfl) (fun _ _ _ h => h) (Or.inl ⟨by rfl, ?_⟩) (by assumption) ?_
    · intro w9 hSw
      exact y_load rfl rfl (load_int hSw.ev.c1)
    simp only [Act.put, List.setIfInBounds_toArray, List.set_cons_zero, List.set_cons_succ]
    refine wpAnyH_take (i := 3) (oi := { dst := some 8, op := _, type := _, pos := _, after := _, guard := _ }) (v := .pointer (some ⟨B, 0, none⟩)) rfl (by kernel_rfl) (by kernel_rfl) (by kernel_rfl) (fun _ _ _ h => h) (Or.inl ⟨by rfl, ?_⟩) (by assumption) ?_
    · intro w9 hSw
      exact y_field rfl rfl (hfd _)
    simp only [Act.put, List.setIfInBounds_toArray, List.set_cons_zero, List.set_cons_succ]
    refine wpAnyH_take (i := 4) (oi := { dst := some 9, op := _, type := _, pos := _, after := _, guard := _ }) (v := .pointer (some ⟨B, 0, none⟩)) rfl (by kernel_rfl) (by kernel_rfl) (by kernel_rfl) (fun _ _ _ h => h) (Or.inl ⟨by rfl, ?_⟩) (by assumption) ?_
    · intro w9 hSw
      exact y_field rfl rfl (field_d0 _ _)
    simp only [Act.put, List.setIfInBounds_toArray, List.set_cons_zero, List.set_cons_succ]
    refine wpAnyH_take (i := 5) (oi := { dst := some 10, op := _, type := _, pos := _, after := _, guard := _ }) (v := .int .i64 (k : Int)) rfl (by kernel_rfl) (by kernel_rfl) (by kernel_rfl) (fun _ _ _ h => h) (Or.inl ⟨by rfl, ?_⟩) (by assumption) ?_
    · intro w9 hSw
      exact y_load rfl rfl (load_int (hr0 _ hSw.ev))
    simp only [Act.put, List.setIfInBounds_toArray, List.set_cons_zero, List.set_cons_succ]
    refine wpAnyH_take (i := 6) (oi := { dst := some 11, op := _, type := _, pos := _, after := _, guard := _ }) (v := .pointer (some ⟨B + 1, k, none⟩)) rfl (by kernel_rfl) (by kernel_rfl) (by kernel_rfl) (fun _ _ _ h => h) (Or.inl ⟨by rfl, ?_⟩) (by assumption) ?_
    · intro w9 hSw
      exact y_index rfl rfl rfl (hix _)
    simp only [Act.put, List.setIfInBounds_toArray, List.set_cons_zero, List.set_cons_succ]
    refine wpAnyH_take (i := 7) (oi := { dst := some 12, op := _, type := _, pos := _, after := _, guard := _ }) (v := .int .i64 x) rfl (by kernel_rfl) (by kernel_rfl) (by kernel_rfl) (fun _ _ _ h => h) (Or.inl ⟨by rfl, ?_⟩) (by assumption) ?_
    · intro w9 hSw
      exact y_load rfl rfl (load_int (hcell _ hSw.vec))
    simp only [Act.put, List.setIfInBounds_toArray, List.set_cons_zero, List.set_cons_succ]
    refine wpAnyH_take (i := 8) (oi := { dst := some 13, op := _, type := _, pos := _, after := _, guard := _ }) (v := .int .i64 (IntKind.i64.wrap (x + 1))) rfl (by kernel_rfl) (by kernel_rfl) (by kernel_rfl) (fun _ _ _ h => h) (Or.inl ⟨by rfl, ?_⟩) (by assumption) ?_
    · intro w9 hSw
      exact exec_bin rfl rfl rfl (eqGuard_ii _ _ _) (add_one' _ _)
    simp only [Act.put, List.setIfInBounds_toArray, List.set_cons_zero, List.set_cons_succ]
    refine wpAnyH_take (i := 9) (oi := { dst := some 14, op := _, type := _, pos := _, after := _, guard := _ }) (v := .bool false) rfl (by kernel_rfl) (by kernel_rfl) (by kernel_rfl) (fun _ _ _ h => h) (Or.inl ⟨by rfl, ?_⟩) (by assumption) ?_
    · intro w9 hSw
      exact exec_bin rfl rfl rfl (eqGuard_ii _ _ _) (eql_ii _ ht)
    simp only [Act.put, List.setIfInBounds_toArray, List.set_cons_zero, List.set_cons_succ]
    refine wpAnyH_take (i := 10) (oi := { dst := some 15, op := _, type := _, pos := _, after := _, guard := _ }) (v := .bool false) rfl (by kernel_rfl) (by kernel_rfl) (by kernel_rfl) (fun _ _ _ h => h) (Or.inl ⟨by rfl, ?_⟩) (by assumption) ?_
    · intro w9 hSw
      exact y_move rfl rfl
    simp only [Act.put, List.setIfInBounds_toArray, List.set_cons_zero, List.set_cons_succ]
    refine wpAnyH_take (i := 11) (oi := { dst := some 16, op := _, type := _, pos := _, after := _, guard := _ }) (v := undef) rfl (by kernel_rfl) (by kernel_rfl) (by kernel_rfl) (fun _ _ _ h => h) (Or.inr ⟨by rfl, rfl⟩) (by assumption) ?_
    simp only [Act.put, List.setIfInBounds_toArray, List.set_cons_zero, List.set_cons_succ]
    refine wpAnyH_take (i := 12) (oi := { dst := some 17, op := _, type := _, pos := _, after := _, guard := _ }) (v := undef) rfl (by kernel_rfl) (by kernel_rfl) (by kernel_rfl) (fun _ _ _ h => h) (Or.inr ⟨by rfl, rfl⟩) (by assumption) ?_
    simp only [Act.put, List.setIfInBounds_toArray, List.set_cons_zero, List.set_cons_succ]
    refine wpAnyH_take (i := 13) (oi := { dst := some 18, op := _, type := _, pos := _, after := _, guard := _ }) (v := undef) rfl (by kernel_rfl) (by kernel_rfl) (by kernel_rfl) (fun _ _ _ h => h) (Or.inr ⟨by rfl, rfl⟩) (by assumption) ?_
    simp only [Act.put, List.setIfInBounds_toArray, List.set_cons_zero, List.set_cons_succ]
    refine wpAnyH_take (i := 14) (oi := { dst := some 19, op := _, type := _, pos := _, after := _, guard := _ }) (v := undef) rfl (by kernel_rfl) (by kernel_rfl) (by kernel_rfl) (fun _ _ _ h => h) (Or.inr ⟨by rfl, rfl⟩) (by assumption) ?_
    simp only [Act.put, List.setIfInBounds_toArray, List.set_cons_zero, List.set_cons_succ]
    refine wpAnyH_take (i := 15) (oi := { dst := some 20, op := _, type := _, pos := _, after := _, guard := _ }) (v := .bool false) rfl (by kernel_rfl) (by kernel_rfl) (by kernel_rfl) (fun _ _ _ h => h) (Or.inl ⟨by rfl, ?_⟩) (by assumption) ?_
    · intro w9 hSw
      exact exec_pick (b := false) rfl rfl rfl rfl
    simp only [Act.put, List.setIfInBounds_toArray, List.set_cons_zero, List.set_cons_succ]
    refine wpAnyH_take (i := 16) (oi := { dst := some 4, op := _, type := _, pos := _, after := _, guard := _ }) (v := .bool false) rfl (by kernel_rfl) (by kernel_rfl) (by kernel_rfl) (fun _ _ _ h => h) (Or.inl ⟨by rfl, ?_⟩) (by assumption) ?_
    · intro w9 hSw
      exact y_assign rfl rfl
    simp only [Act.put, List.setIfInBounds_toArray, List.set_cons_zero, List.set_cons_succ]
    refine wpAnyH_done (by kernel_rfl) ?_ _
    refine NoPanic.normal ?_
    clear hHeld
    go_wp2
    go_ret
    exact ⟨rfl, HB0.out.drew⟩
end Go.Proofs.Yteanpepmncgagaa
