/-
  An event as an argument: opened.
-/
import Derived.Test.YtmlfekbmbnfkjabGreatDoorQ06
import Derived.Deep.Slices
import Derived.ProofKit
import Derived.OpenShut
import Derived.ChangeOld
namespace Go.Proofs.YtmlfekbmbnfkjabGreatDoor
set_option maxRecDepth 100000
set_option maxRecDepth 100000
open Go.ChangeShapes Go.WideShapes Go.ChangeAt Go.RowKit

structure Room (e : Ev) : Prop where
  k : e.key.length ≤ 9223372036854775807
  f : e.field.length ≤ 9223372036854775807
  v : e.value.length ≤ 9223372036854775807
def zv : Ev := ⟨0, 0, 0, zeros, 0, [], [], [], 0, 0, 0⟩
theorem load_ev_run {w : World} {g : Nat} {e : Ev} (h : LiesE w g e) (hl : e.deps.length = 16) : (loadVar 47 ⟨g, 0, none⟩).run Tryz.prog w = .ok (.agg (evc e)) w :=
  run_loadVar_row w g 47 47 _ (0, 0) _ h Tryz.underlying47 rfl (size26 e hl)
theorem field_at {fs : Array Field} {ts : List (TypeId × Nat)} (h : fs.toList.map (fun f => (f.type, f.offset)) = ts) {i : Nat} {t : TypeId × Nat} (hi : ts[i]? = some t) : ∃ f, fs[i]? = some f ∧ f.type = t.1 ∧ f.offset = t.2 := by
  subst h
  rw [List.getElem?_map, Option.map_eq_some_iff] at hi
  obtain ⟨f, hf, rfl⟩ := hi
  exact ⟨f, by simpa using hf, rfl, rfl⟩
theorem one_at {L : List Value} {a : Nat} {v : Value} (h : (L.drop a).take 1 = [v]) : L[a]? = some v := by
  have := congrArg (fun l : List Value => l[0]?) h
  simpa using this
theorem in_at {L : List Value} {a b c : Nat} {v : Value} (h : ((L.drop a).take b)[c]? = some v) : L[a + c]? = some v := by
  rw [List.getElem?_take] at h
  split at h
  · rwa [List.getElem?_drop] at h
  · cases h

section
variable {H : Type} {enc : TypeId × Value → H} {w : World} {base : Nat} {spare : Nat → Bool} {held : Bool} {fuel : Nat} {L : List Value} {x : DataW H × List MemPlace}

/-- A field of a struct. -/
theorem open_field {t : TypeId} {ts : List (TypeId × Nat)} (hu : Tryz.prog.underlying t = some (.struct (Tryz.prog.fieldsOf t))) (hm : (Tryz.prog.fieldsOf t).toList.map (fun f => (f.type, f.offset)) = ts)
    (h : DataW.trod enc Tryz.prog w base spare held fuel t L = some x) : ∃ m, ∀ (i : Nat) (q : TypeId × Nat), ts[i]? = some q → ∃ y, DataW.trod enc Tryz.prog w base spare held m q.1 ((L.drop q.2).take (Tryz.prog.cellsOf q.1)) = some y := by
  obtain ⟨xs, n, -, -, -, hlen, hf⟩ := DataW.trod_struct hu h
  refine ⟨n, fun i q hq => ?_⟩
  obtain ⟨f, h1, h2, h3⟩ := field_at hm hq
  have := hf i f h1
  rw [h2, h3] at this
  have hi : i < xs.length := by
    have := (Array.getElem?_eq_some_iff.1 h1).1
    omega
  rw [List.getElem?_eq_getElem hi] at this
  exact ⟨_, this⟩

theorem cells_int : Tryz.prog.cellsOf 3 = 1 := by kernel_rfl
theorem cells_str : Tryz.prog.cellsOf 9 = 1 := by kernel_rfl
theorem int_in {a m : Nat} {y : DataW H × List MemPlace} (h : DataW.trod enc Tryz.prog w base spare held m 3 ((L.drop a).take (Tryz.prog.cellsOf 3)) = some y) : ∃ n, L[a]? = some (.int .i64 n) := by
  have h3 : Tryz.prog.underlying 3 = some (.int .i64) := by kernel_rfl
  rw [cells_int] at h
  obtain ⟨n, hn, -, -⟩ := DataW.trod_int h3 h
  exact ⟨n, one_at hn⟩
theorem str_in {a m : Nat} {y : DataW H × List MemPlace} (h : DataW.trod enc Tryz.prog w base spare held m 9 ((L.drop a).take (Tryz.prog.cellsOf 9)) = some y) : ∃ s : List UInt8, L[a]? = some (.string (sb s)) ∧ s.length ≤ 9223372036854775807 := by
  have h3 : Tryz.prog.underlying 9 = some .string := by kernel_rfl
  rw [cells_str] at h
  obtain ⟨s, hs, -, hl⟩ := DataW.trod_string h3 h
  have e : s.data.toList.length = s.size := by show s.data.toList.length = s.data.size; simp
  exact ⟨s.data.toList, one_at hs, by rw [e]; unfold maxLen at hl; omega⟩
theorem dot_in (h : DataW.trod enc Tryz.prog w base spare held fuel 32 L = some x) : ∃ r n, L[0]? = some (.int .i64 r) ∧ L[1]? = some (.int .i64 n) := by
  obtain ⟨m, hm⟩ := open_field (ts := [(3, 0), (3, 1)]) (by kernel_rfl) (by kernel_rfl) h
  obtain ⟨y0, h0⟩ := hm 0 _ rfl
  obtain ⟨y1, h1⟩ := hm 1 _ rfl
  obtain ⟨r, hr⟩ := int_in h0
  obtain ⟨n, hn⟩ := int_in h1
  exact ⟨r, n, hr, hn⟩
theorem vec_in (h : DataW.trod enc Tryz.prog w base spare held fuel 41 L = some x) : ∀ i, i < 16 → ∃ n, L[i]? = some (.int .i64 n) := by
  have hu : Tryz.prog.underlying 41 = some (.array 16 3) := by kernel_rfl
  obtain ⟨xs, m, -, -, -, hlx, hget⟩ := DataW.trod_array hu h
  intro i hi
  have := hget i hi
  rw [List.getElem?_eq_getElem (by omega : i < xs.length), cells_int, Nat.mul_one] at this
  exact int_in (a := i) (by rw [cells_int]; exact this)
theorem op_in (h : DataW.trod enc Tryz.prog w base spare held fuel 34 L = some x) : ∃ (k : Int) (s0 s1 s2 : List UInt8) (n r m : Int), L[0]? = some (.int .i64 k) ∧ (L[1]? = some (.string (sb s0)) ∧ L[2]? = some (.string (sb s1)) ∧ L[3]? = some (.string (sb s2))) ∧
    (L[4]? = some (.int .i64 n) ∧ L[5]? = some (.int .i64 r) ∧ L[6]? = some (.int .i64 m)) ∧ s0.length ≤ 9223372036854775807 ∧ s1.length ≤ 9223372036854775807 ∧ s2.length ≤ 9223372036854775807 := by
  obtain ⟨m, hm⟩ := open_field (ts := [(3, 0), (9, 1), (9, 2), (9, 3), (3, 4), (32, 5)]) (by kernel_rfl) (by kernel_rfl) h
  obtain ⟨y0, h0⟩ := hm 0 _ rfl
  obtain ⟨y1, h1⟩ := hm 1 _ rfl
  obtain ⟨y2, h2⟩ := hm 2 _ rfl
  obtain ⟨y3, h3⟩ := hm 3 _ rfl
  obtain ⟨y4, h4⟩ := hm 4 _ rfl
  obtain ⟨y5, h5⟩ := hm 5 _ rfl
  obtain ⟨k, e0⟩ := int_in h0
  obtain ⟨s0, e1, l1⟩ := str_in h1
  obtain ⟨s1, e2, l2⟩ := str_in h2
  obtain ⟨s2, e3, l3⟩ := str_in h3
  obtain ⟨n, e4⟩ := int_in h4
  obtain ⟨r, q, e5, e6⟩ := dot_in h5
  exact ⟨k, s0, s1, s2, n, r, q, e0, ⟨e1, e2, e3⟩, ⟨e4, in_at (a := 5) (c := 0) e5, in_at (a := 5) (c := 1) e6⟩, l1, l2, l3⟩

end Go.Proofs.YtmlfekbmbnfkjabGreatDoor

/-
  The zero thing, 28 cells an item.
-/
namespace Go.Proofs.YtmlfekbmbnfkjabGreatDoor.E
set_option maxRecDepth 100000
open Go.RowKit

def zx : Cx 26 := ⟨evl zv, by simp [evl, opl, zv, zeros], by
  intro u hu
  simp [evl, opl, zv, zeros] at hu
  rcases hu with rfl | rfl | rfl | rfl <;> rfl⟩
theorem zx_cells : xc (⟨0, 0, zx⟩ : It (Cx 26)) = #[Value.int IntKind.i64 0, Value.int IntKind.i64 0, Value.int IntKind.i64 0, Value.int IntKind.i64 0, Value.int IntKind.i64 0, Value.int IntKind.i64 0, Value.int IntKind.i64 0, Value.int IntKind.i64 0, Value.int IntKind.i64 0, Value.int IntKind.i64 0, Value.int IntKind.i64 0, Value.int IntKind.i64 0, Value.int IntKind.i64 0, Value.int IntKind.i64 0, Value.int IntKind.i64 0, Value.int IntKind.i64 0, Value.int IntKind.i64 0, Value.int IntKind.i64 0, Value.int IntKind.i64 0, Value.int IntKind.i64 0, Value.int IntKind.i64 0, Value.int IntKind.i64 0, Value.string { data := #[] }, Value.string { data := #[] }, Value.string { data := #[] }, Value.int IntKind.i64 0, Value.int IntKind.i64 0, Value.int IntKind.i64 0] := rfl
end Go.Proofs.YtmlfekbmbnfkjabGreatDoor.E

/-
  The zero thing, 30 cells an item.
-/
namespace Go.Proofs.YtmlfekbmbnfkjabGreatDoor.D
set_option maxRecDepth 100000
open Go.RowKit

def zx : Cx 28 := ⟨(evl zv ++ [.int .i64 0, .int .i64 0]), by simp [evl, opl, zv, zeros], by
  intro u hu
  simp [evl, opl, zv, zeros] at hu
  rcases hu with rfl | rfl | rfl | rfl <;> rfl⟩
theorem zx_cells : xc (⟨0, 0, zx⟩ : It (Cx 28)) = #[Value.int IntKind.i64 0, Value.int IntKind.i64 0, Value.int IntKind.i64 0, Value.int IntKind.i64 0, Value.int IntKind.i64 0, Value.int IntKind.i64 0, Value.int IntKind.i64 0, Value.int IntKind.i64 0, Value.int IntKind.i64 0, Value.int IntKind.i64 0, Value.int IntKind.i64 0, Value.int IntKind.i64 0, Value.int IntKind.i64 0, Value.int IntKind.i64 0, Value.int IntKind.i64 0, Value.int IntKind.i64 0, Value.int IntKind.i64 0, Value.int IntKind.i64 0, Value.int IntKind.i64 0, Value.int IntKind.i64 0, Value.int IntKind.i64 0, Value.int IntKind.i64 0, Value.string { data := #[] }, Value.string { data := #[] }, Value.string { data := #[] }, Value.int IntKind.i64 0, Value.int IntKind.i64 0, Value.int IntKind.i64 0, Value.int IntKind.i64 0, Value.int IntKind.i64 0] := rfl
end Go.Proofs.YtmlfekbmbnfkjabGreatDoor.D

