/-
  A call of the script (four numbers and a text), as an argument and in a list: opened; how it lies in memory.
-/
import Derived.Test.YtcopjgincdbliaaDaw
import Derived.ProofKit
import Derived.OpenShut
import Derived.ChangeOld
import Derived.Deep.Slices
import Derived.Deep.MidRow
namespace Go.Proofs.Ytcopjgincdbliaa
open Go.ChangeShapes Go.WideShapes Go.ChangeAt Go.RowKit

/-- A call. -/
structure Cl where
  kind : Int
  n : Int
  at0 : Int
  turn : Int
  b : ByteArray
def Cl.none : Cl := ⟨0, 0, 0, 0, ByteArray.empty⟩
def opl (o : Cl) : List Value := [.int .i64 o.kind, .int .i64 o.n, .int .i64 o.at0, .int .i64 o.turn, .string o.b]
def opc (o : Cl) : Array Value := #[.int .i64 o.kind, .int .i64 o.n, .int .i64 o.at0, .int .i64 o.turn, .string o.b]

theorem field_at {fs : Array Field} {ts : List (TypeId × Nat)} (h : fs.toList.map (fun f => (f.type, f.offset)) = ts) {i : Nat} {t : TypeId × Nat} (hi : ts[i]? = some t) : ∃ f, fs[i]? = some f ∧ f.type = t.1 ∧ f.offset = t.2 := by
  subst h
  rw [List.getElem?_map, Option.map_eq_some_iff] at hi
  obtain ⟨f, hf, rfl⟩ := hi
  exact ⟨f, by simpa using hf, rfl, rfl⟩
theorem one_at {L : List Value} {a : Nat} {v : Value} (h : (L.drop a).take 1 = [v]) : L[a]? = some v := by
  have := congrArg (fun l : List Value => l[0]?) h
  simpa using this

section
variable {H : Type} {enc : TypeId × Value → H} {w : World} {base : Nat} {spare : Nat → Bool} {held : Bool} {fuel : Nat} {L : List Value} {x : DataW H × List MemPlace}

/-- A field of a struct. -/
theorem open_field {t : TypeId} {ts : List (TypeId × Nat)} (hu : Try.prog.underlying t = some (.struct (Try.prog.fieldsOf t))) (hm : (Try.prog.fieldsOf t).toList.map (fun f => (f.type, f.offset)) = ts)
    (h : DataW.trod enc Try.prog w base spare held fuel t L = some x) : ∃ m, ∀ (i : Nat) (q : TypeId × Nat), ts[i]? = some q → ∃ y, DataW.trod enc Try.prog w base spare held m q.1 ((L.drop q.2).take (Try.prog.cellsOf q.1)) = some y := by
  obtain ⟨xs, n, -, -, -, hlen, hf⟩ := DataW.trod_struct hu h
  refine ⟨n, fun i q hq => ?_⟩
  obtain ⟨f, h1, h2, h3⟩ := field_at hm hq
  have := hf i f h1
  rw [h2, h3] at this
  have hi : i < xs.length := by
    have := (Array.getElem?_eq_some_iff.1 h1).1
    omega
  rw [List.getElem?_eq_getElem hi] at this
  exact ⟨_, this⟩
theorem cells_int : Try.prog.cellsOf 3 = 1 := by kernel_rfl
theorem cells_str : Try.prog.cellsOf 9 = 1 := by kernel_rfl
theorem int_in {a m : Nat} {y : DataW H × List MemPlace} (h : DataW.trod enc Try.prog w base spare held m 3 ((L.drop a).take (Try.prog.cellsOf 3)) = some y) : ∃ n, L[a]? = some (.int .i64 n) := by
  have h3 : Try.prog.underlying 3 = some (.int .i64) := by kernel_rfl
  rw [cells_int] at h
  obtain ⟨n, hn, -, -⟩ := DataW.trod_int h3 h
  exact ⟨n, one_at hn⟩
theorem str_in {a m : Nat} {y : DataW H × List MemPlace} (h : DataW.trod enc Try.prog w base spare held m 9 ((L.drop a).take (Try.prog.cellsOf 9)) = some y) : ∃ s : ByteArray, L[a]? = some (.string s) ∧ s.size ≤ maxLen := by
  have h3 : Try.prog.underlying 9 = some .string := by kernel_rfl
  rw [cells_str] at h
  obtain ⟨s, hs, -, hl⟩ := DataW.trod_string h3 h
  exact ⟨s, one_at hs, hl⟩
theorem op_in (h : DataW.trod enc Try.prog w base spare held fuel 33 L = some x) : ∃ o : Cl, (∀ (j : Nat) (u : Value), (opl o)[j]? = some u → L[j]? = some u) ∧ o.b.size ≤ maxLen := by
  obtain ⟨m, hm⟩ := open_field (ts := [(3, 0), (3, 1), (3, 2), (3, 3), (9, 4)]) (by kernel_rfl) (by kernel_rfl) h
  obtain ⟨y0, h0⟩ := hm 0 _ rfl
  obtain ⟨y1, h1⟩ := hm 1 _ rfl
  obtain ⟨y2, h2⟩ := hm 2 _ rfl
  obtain ⟨y3, h3⟩ := hm 3 _ rfl
  obtain ⟨y4, h4⟩ := hm 4 _ rfl
  obtain ⟨k, e0⟩ := int_in h0
  obtain ⟨n, e1⟩ := int_in h1
  obtain ⟨a, e2⟩ := int_in h2
  obtain ⟨t, e3⟩ := int_in h3
  obtain ⟨b, e4, l4⟩ := str_in h4
  refine ⟨⟨k, n, a, t, b⟩, fun j u hu => ?_, l4⟩
  match j, hu with
  | 0, hu => rw [e0]; exact hu
  | 1, hu => rw [e1]; exact hu
  | 2, hu => rw [e2]; exact hu
  | 3, hu => rw [e3]; exact hu
  | 4, hu => rw [e4]; exact hu

theorem open_op {r : Reach} {b0 : Nat} {v : Value} {d : DataW H} {ps : List MemPlace} (hval : Value.okWide Try.prog w r b0 33 v) (hd : DataW.Trod enc Try.prog w base spare held 33 v d ps) :
    ∃ o : Cl, v = .agg (opc o) ∧ o.b.size ≤ maxLen := by
  have c2 : Try.prog.cellsOf 33 = 5 := by kernel_rfl
  have hu : Try.prog.underlying 33 = some (.struct (Try.prog.fieldsOf 33)) := by kernel_rfl
  obtain ⟨cs, rfl, hsz, -⟩ : ∃ cs, v = .agg cs ∧ cs.size = Try.prog.cellsOf 33 ∧ Row.okWide Try.prog w r b0 33 cs := by
    simpa [Value.okWide, hu] using hval
  rw [c2] at hsz
  obtain ⟨fuel, hf⟩ := hd
  obtain ⟨o, h1, h2⟩ := op_in hf
  refine ⟨o, ?_, h2⟩
  congr 1
  apply Array.ext_getElem?
  intro i
  have e : (opc o)[i]? = (opl o)[i]? := by simp [opc, opl]
  rw [e]
  by_cases hi : i < 5
  · have hi2 : i < (opl o).length := hi
    have := h1 i _ (List.getElem?_eq_getElem hi2)
    rw [List.getElem?_eq_getElem hi2, ← this]
    show cs[i]? = cs.toList[i]?
    rw [Array.getElem?_toList]
  · rw [Array.getElem?_eq_none (by omega), List.getElem?_eq_none (by show 5 ≤ i; omega)]
end

/-- A list of calls that came in. -/
def IsOps (w : World) (a : Option Addr) (len : Nat) (O : Nat → Cl) : Prop :=
  len ≤ maxLen ∧ (len = 0 ∨ ∃ b off, a = some ⟨b, off, none⟩ ∧ b < w.heap.size ∧ ∀ i, i < len → (∀ (j : Nat) (u : Value), (opl (O i))[j]? = some u → w.cell? ⟨b, off + i * 5 + j, none⟩ = some u) ∧ (O i).b.size ≤ maxLen)

section
variable {H : Type} {enc : TypeId × Value → H}
theorem open_ops {w : World} {a : Option Addr} {len cap : Nat} {d : DataW H} {ps : List MemPlace} (h : DataW.Trod enc Try.prog w 0 (fun _ => true) true 22 (.slice a len cap) d ps) :
    ∃ O, IsOps w a len O := by
  obtain ⟨fuel, hf⟩ := h
  have ce : Try.prog.cellsOf 33 = 5 := by kernel_rfl
  rcases Go.Deep.open_slice Try.underlying22 hf with ⟨hcs, _⟩ | ⟨x, l, c, m, n, D, Pl, hcs, hb, hl, hm, hmm, hx, hall⟩
  · simp [Value.cells] at hcs
    exact ⟨fun _ => Cl.none, by rw [hcs.2.1]; exact Nat.zero_le _, .inl hcs.2.1⟩
  · simp [Value.cells] at hcs
    obtain ⟨rfl, rfl, rfl⟩ := hcs
    simp only [if_true] at hmm
    subst hmm
    have key : ∀ i, i < m → ∃ o : Cl, (∀ (j : Nat) (u : Value), (opl o)[j]? = some u → w.cell? (x.add (i * 5 + j)) = some u) ∧ o.b.size ≤ maxLen := by
      intro i hi
      obtain ⟨cs', h1, h2⟩ := hall i hi
      rw [ce] at h1
      obtain ⟨_, hlen, hcell⟩ := World.cells?_some h1
      obtain ⟨o, h3, h4⟩ := op_in h2
      refine ⟨o, fun j u hu => ?_, h4⟩
      have hj : j < 5 := (List.getElem?_eq_some_iff.1 hu).1
      have := hcell j hj
      rw [Go.Deep.add_add] at this
      rw [this]
      exact h3 j u hu
    obtain ⟨O, hO⟩ := @Go.Deep.choose_lt Cl ⟨Cl.none⟩ _ _ key
    refine ⟨O, by omega, ?_⟩
    by_cases h0 : len = 0
    · exact .inl h0
    · right
      obtain ⟨b, off, spot⟩ := x
      have hs : spot = none := by simpa [Addr.add] using World.cell?_spot ((hO 0 (by omega)).1 0 _ rfl)
      subst hs
      have h00 := (hO 0 (by omega)).1 0 _ rfl
      refine ⟨b, off, rfl, ?_, fun i hi => ⟨fun j u hu => ?_, (hO i (by omega)).2⟩⟩
      · exact World.block_lt_of_cell? w _ (by rw [Addr.add_lit] at h00; exact h00)
      · have := (hO i (by omega)).1 j u hu
        rw [Addr.add_lit, ← Nat.add_assoc] at this
        exact this
end
end Go.Proofs.Ytcopjgincdbliaa
