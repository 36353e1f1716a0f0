/-
  Calls (a replica and a vector each) that came in: a list of them, and one by value.
-/
import Derived.Test.YtcndgbepdgjkeaaMcu
import Derived.Test.YtcndgbepdgjkeaaOpn
import Derived.Deep.Slices
namespace Go.Proofs.Ytcndgbepdgjkeaa
set_option maxRecDepth 100000
open Go.RowKit

def mopl (o : Int × List Int) : List Value := .int .i64 o.1 :: o.2.map (Value.int .i64)
/-- One call. -/
structure IsMop (w : World) (b k : Nat) (o : Int × List Int) : Prop where
  num : w.cell? ⟨b, k, none⟩ = some (.int .i64 o.1)
  vec : w.rangeAt b (k + 1) (o.2.map (Value.int .i64))
  len : o.2.length = 16
theorem IsMop.same {w w' : World} {b k : Nat} {o : Int × List Int} (h : IsMop w b k o) (hb : w'.heap[b]? = w.heap[b]?) : IsMop w' b k o := ⟨by rw [cell_same hb]; exact h.num, range_same hb h.vec, h.len⟩
theorem IsMop.load {w : World} {b k : Nat} {o : Int × List Int} (h : IsMop w b k o) : (loadVar 24 ⟨b, k + 1, none⟩).run Try.prog w = .ok (.agg (vals o.2)) w :=
  run_loadVar_mid w b _ 24 _ _ h.vec Try.underlying24 rfl (by have := size16 o.2 h.len; rwa [vals_size, ← List.length_map (f := Value.int .i64)] at this)
def Mops (w : World) (a : Option Addr) (len : Nat) (O : Nat → Int × List Int) : Prop :=
  len = 0 ∨ ∃ b off, a = some ⟨b, off, none⟩ ∧ b < w.heap.size ∧ ∀ i, i < len → IsMop w b (off + i * 17) (O i)
theorem run_indexAt_mops (w : World) (b off n c i : Nat) (hi : i < n) : (Instr.indexAt 22 (.slice (some ⟨b, off, none⟩) n c) (.int .i64 (i : Int))).run Try.prog w = .ok (.pointer (some ⟨b, off + i * 17, none⟩)) w := by
  have hu : Try.prog.underlying 22 = some (.slice 33) := by kernel_rfl
  have e : (⟨b, off, none⟩ : Addr).add (i * 17) = ⟨b, off + i * 17, none⟩ := Addr.add_mid _ _ _
  simp [Instr.indexAt, asIntOf, run_underlying hu, Sem.run_bind, Instr.sureAddr, hi, e]
theorem field_o0 (w : World) (b k : Nat) : (Instr.fieldAt 33 (.pointer (some ⟨b, k, none⟩)) 0).run Try.prog w = .ok (.pointer (some ⟨b, k, none⟩)) w := by go_simp
theorem field_o1 (w : World) (b k : Nat) : (Instr.fieldAt 33 (.pointer (some ⟨b, k, none⟩)) 1).run Try.prog w = .ok (.pointer (some ⟨b, k + 1, none⟩)) w := by go_simp
theorem eqGuard_err (w : World) {op : BinOp} {x y : Operand} {a b : Int} : (eqGuard op 30 x y (.int .i64 a) (.int .i64 b)).run Try.prog w = .ok () w := by
  cases op <;> simp [eqGuard]
theorem eql_err_same (w : World) (a : Int) : (binOp .eql 30 (.int .i64 a) (.int .i64 a)).run Try.prog w = .ok (.bool true) w := by
  simp [binOp, Op.intCmp]
theorem neq_err_same (w : World) (a : Int) : (binOp .neq 30 (.int .i64 a) (.int .i64 a)).run Try.prog w = .ok (.bool false) w := by
  simp [binOp, Op.intCmp]

theorem field_at {fs : Array Field} {ts : List (TypeId × Nat)} (hm : fs.toList.map (fun f => (f.type, f.offset)) = ts) {i : Nat} {q : TypeId × Nat} (hq : ts[i]? = some q) : ∃ f, fs[i]? = some f ∧ f.type = q.1 ∧ f.offset = q.2 := by
  rw [← hm, List.getElem?_map, Option.map_eq_some_iff] at hq
  obtain ⟨f, h1, h2⟩ := hq
  exact ⟨f, by rw [← Array.getElem?_toList]; exact h1, by rw [← h2], by rw [← h2]⟩
theorem in_at {L : List Value} {a b c : Nat} {v : Value} (h : ((L.drop a).take b)[c]? = some v) : L[a + c]? = some v := by
  rw [List.getElem?_take] at h
  split at h
  · rwa [List.getElem?_drop] at h
  · cases h
section
variable {H : Type} {enc : TypeId × Value → H} {w : World} {base : Nat} {spare : Nat → Bool} {held : Bool} {fuel : Nat} {L : List Value} {x : DataW H × List MemPlace}
theorem open_field {t : TypeId} {ts : List (TypeId × Nat)} (hu : Try.prog.underlying t = some (.struct (Try.prog.fieldsOf t))) (hm : (Try.prog.fieldsOf t).toList.map (fun f => (f.type, f.offset)) = ts)
    (h : DataW.trod enc Try.prog w base spare held fuel t L = some x) : ∃ m, ∀ (i : Nat) (q : TypeId × Nat), ts[i]? = some q → ∃ y, DataW.trod enc Try.prog w base spare held m q.1 ((L.drop q.2).take (Try.prog.cellsOf q.1)) = some y := by
  obtain ⟨xs, n, -, -, -, hlen, hf⟩ := DataW.trod_struct hu h
  refine ⟨n, fun i q hq => ?_⟩
  obtain ⟨f, h1, h2, h3⟩ := field_at hm hq
  have := hf i f h1
  rw [h2, h3] at this
  have hi : i < xs.length := by
    have := (Array.getElem?_eq_some_iff.1 h1).1
    omega
  rw [List.getElem?_eq_getElem hi] at this
  exact ⟨_, this⟩
theorem vecw_in (h : DataW.trod enc Try.prog w base spare held fuel 24 L = some x) : ∀ i, i < 16 → ∃ n, L[i]? = some (.int .i64 n) := by
  have hu : Try.prog.underlying 24 = some (.array 16 3) := by kernel_rfl
  obtain ⟨xs, m, -, -, -, hlx, hget⟩ := DataW.trod_array hu h
  intro i hi
  have := hget i hi
  have c1 : Try.prog.cellsOf 3 = 1 := by kernel_rfl
  rw [c1, List.getElem?_eq_getElem (by omega : i < xs.length)] at this
  obtain ⟨y, hy⟩ : ∃ y, DataW.trod enc Try.prog w base spare held m 3 ((L.drop (i * 1)).take 1) = some y := ⟨_, this⟩
  obtain ⟨n, h1, -, -⟩ := DataW.trod_int Try.underlying3 hy
  refine ⟨n, ?_⟩
  have h3 : ((L.drop (i * 1)).take 1)[0]? = some (.int .i64 n) := by rw [h1]; rfl
  rw [List.getElem?_take_of_lt (by omega), List.getElem?_drop, Nat.mul_one, Nat.add_zero] at h3
  exact h3
theorem mop_in (h : DataW.trod enc Try.prog w base spare held fuel 33 L = some x) : ∃ o : Int × List Int, o.2.length = 16 ∧ ∀ (j : Nat) (u : Value), (mopl o)[j]? = some u → L[j]? = some u := by
  have hu : Try.prog.underlying 33 = some (.struct (Try.prog.fieldsOf 33)) := by kernel_rfl
  obtain ⟨m, hm⟩ := open_field (ts := [(3, 0), (24, 1)]) hu (by kernel_rfl) h
  obtain ⟨y0, h0⟩ := hm 0 _ rfl
  obtain ⟨y1, h1⟩ := hm 1 _ rfl
  obtain ⟨r, hr, -, -⟩ := DataW.trod_int Try.underlying3 h0
  have hr' : L[0]? = some (.int .i64 r) := in_at (a := 0) (c := 0) (b := Try.prog.cellsOf 3) (by rw [hr]; rfl)
  have hv' : ∀ i, i < 16 → ∃ n, L[1 + i]? = some (.int .i64 n) := fun i hi => by
    obtain ⟨n, h2⟩ := vecw_in h1 i hi
    exact ⟨n, in_at h2⟩
  obtain ⟨f, hf⟩ := @Go.Deep.choose_lt Int ⟨0⟩ _ _ hv'
  refine ⟨(r, (List.range 16).map f), by simp, fun j u hj => ?_⟩
  cases j with
  | zero => rw [hr', ← hj]; rfl
  | succ j =>
    have hj16 : j < 16 := by
      have := (List.getElem?_eq_some_iff.1 hj).1
      simp only [mopl, List.length_cons, List.length_map, List.length_range] at this
      omega
    rw [Nat.add_comm, hf j hj16]
    simpa [mopl, hj16] using hj
end
section
variable {H : Type} {enc : TypeId × Value → H}
theorem open_mops {w : World} {a : Option Addr} {len cap : Nat} {d : DataW H} {ps : List MemPlace} (h : DataW.Trod enc Try.prog w 0 (fun _ => true) true 22 (.slice a len cap) d ps) : ∃ O, Mops w a len O := by
  obtain ⟨fuel, hf⟩ := h
  have ce : Try.prog.cellsOf 33 = 17 := by kernel_rfl
  rcases Go.Deep.open_slice Try.underlying22 hf with ⟨hcs, _⟩ | ⟨x, l, c, m, n, D, Pl, hcs, hb, hl, hm, hmm, hx, hall⟩
  · simp [Value.cells] at hcs
    exact ⟨fun _ => (0, []), .inl hcs.2.1⟩
  · simp [Value.cells] at hcs
    obtain ⟨rfl, rfl, rfl⟩ := hcs
    simp only [if_true] at hmm
    subst hmm
    have key : ∀ i, i < m → ∃ o : Int × List Int, o.2.length = 16 ∧ ∀ (j : Nat) (u : Value), (mopl o)[j]? = some u → w.cell? (x.add (i * 17 + j)) = some u := by
      intro i hi
      obtain ⟨cs', h1, h2⟩ := hall i hi
      rw [ce] at h1
      obtain ⟨_, hlen, hcell⟩ := World.cells?_some h1
      obtain ⟨o, h3, h4⟩ := mop_in h2
      refine ⟨o, h3, fun j u hu => ?_⟩
      have hj : j < 17 := by have := (List.getElem?_eq_some_iff.1 hu).1; simpa [mopl, h3] using this
      have := hcell j (by omega)
      rw [Go.Deep.add_add] at this
      rw [this]
      exact h4 j u hu
    obtain ⟨O, hO⟩ := @Go.Deep.choose_lt (Int × List Int) ⟨(0, [])⟩ _ _ key
    refine ⟨O, ?_⟩
    by_cases h0 : len = 0
    · exact .inl h0
    · right
      obtain ⟨b, off, spot⟩ := x
      have h00 := (hO 0 (by omega)).2 0 _ rfl
      have hs : spot = none := by simpa [Addr.add] using World.cell?_spot h00
      subst hs
      refine ⟨b, off, rfl, ?_, fun i hi => ?_⟩
      · exact World.block_lt_of_cell? w _ (by rw [Addr.add_mid] at h00; exact h00)
      · obtain ⟨h1, h2⟩ := hO i (by omega)
        refine ⟨?_, fun j u hu => ?_, h1⟩
        · have := h2 0 _ rfl
          rw [Addr.add_mid] at this
          exact this
        · have := h2 (j + 1) u (by simpa [mopl] using hu)
          rw [Addr.add_mid, show off + (i * 17 + (j + 1)) = off + i * 17 + 1 + j by omega] at this
          exact this
theorem open_mop {w : World} {base : Nat} {spare : Nat → Bool} {held : Bool} {r : Reach} {b0 : Nat} {v : Value} {d : DataW H} {ps : List MemPlace} (hval : Value.okWide Try.prog w r b0 33 v) (hd : DataW.Trod enc Try.prog w base spare held 33 v d ps) :
    ∃ o : Int × List Int, v = .agg (mopl o).toArray ∧ o.2.length = 16 := by
  have c2 : Try.prog.cellsOf 33 = 17 := by kernel_rfl
  have hu : Try.prog.underlying 33 = some (.struct (Try.prog.fieldsOf 33)) := by kernel_rfl
  obtain ⟨cs, rfl, hsz, -⟩ : ∃ cs, v = .agg cs ∧ cs.size = Try.prog.cellsOf 33 ∧ Row.okWide Try.prog w r b0 33 cs := by
    simpa [Value.okWide, hu] using hval
  rw [c2] at hsz
  obtain ⟨fuel, hf⟩ := hd
  obtain ⟨o, h1, h2⟩ := mop_in hf
  refine ⟨o, ?_, h1⟩
  have hl : (mopl o).length = 17 := by simp [mopl, h1]
  congr 1
  apply Array.ext_getElem?
  intro i
  have e1 : (mopl o).toArray[i]? = (mopl o)[i]? := by simp
  have e2 : cs[i]? = cs.toList[i]? := by simp
  rw [e1, e2]
  by_cases hi : i < 17
  · have hi2 : i < (mopl o).length := by omega
    have := h2 i _ (List.getElem?_eq_getElem hi2)
    rw [List.getElem?_eq_getElem hi2, ← this]
    rfl
  · rw [List.getElem?_eq_none (by rw [Array.length_toList]; omega), List.getElem?_eq_none (by omega)]
end
end Go.Proofs.Ytcndgbepdgjkeaa
