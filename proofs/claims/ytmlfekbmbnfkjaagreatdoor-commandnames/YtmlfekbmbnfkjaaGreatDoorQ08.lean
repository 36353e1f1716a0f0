/-
  An event as an argument: opened.
-/
import Derived.Test.YtmlfekbmbnfkjaaGreatDoorQ06
import Derived.Deep.Slices
import Derived.ProofKit
import Derived.OpenShut
import Derived.ChangeOld
namespace Go.Proofs.YtmlfekbmbnfkjaaGreatDoor
set_option maxRecDepth 100000
set_option maxRecDepth 100000
open Go.ChangeShapes Go.WideShapes Go.ChangeAt Go.RowKit

structure Room (e : Ev) : Prop where
  k : e.key.length ≤ 9223372036854775807
  f : e.field.length ≤ 9223372036854775807
  v : e.value.length ≤ 9223372036854775807
def zv : Ev := ⟨0, 0, 0, zeros, 0, [], [], [], 0, 0, 0⟩
theorem load_ev_run {w : World} {g : Nat} {e : Ev} (h : LiesE w g e) (hl : e.deps.length = 16) : (loadVar 62 ⟨g, 0, none⟩).run Tryz.prog w = .ok (.agg (evc e)) w :=
  run_loadVar_row w g 62 62 _ (0, 0) _ h Tryz.underlying62 rfl (size26 e hl)
theorem field_at {fs : Array Field} {ts : List (TypeId × Nat)} (h : fs.toList.map (fun f => (f.type, f.offset)) = ts) {i : Nat} {t : TypeId × Nat} (hi : ts[i]? = some t) : ∃ f, fs[i]? = some f ∧ f.type = t.1 ∧ f.offset = t.2 := by
  subst h
  rw [List.getElem?_map, Option.map_eq_some_iff] at hi
  obtain ⟨f, hf, rfl⟩ := hi
  exact ⟨f, by simpa using hf, rfl, rfl⟩
theorem one_at {L : List Value} {a : Nat} {v : Value} (h : (L.drop a).take 1 = [v]) : L[a]? = some v := by
  have := congrArg (fun l : List Value => l[0]?) h
  simpa using this
theorem in_at {L : List Value} {a b c : Nat} {v : Value} (h : ((L.drop a).take b)[c]? = some v) : L[a + c]? = some v := by
  rw [List.getElem?_take] at h
  split at h
  · rwa [List.getElem?_drop] at h
  · cases h

section
variable {H : Type} {enc : TypeId × Value → H} {w : World} {base : Nat} {spare : Nat → Bool} {held : Bool} {fuel : Nat} {L : List Value} {x : DataW H × List MemPlace}

/-- A field of a struct. -/
theorem open_field {t : TypeId} {ts : List (TypeId × Nat)} (hu : Tryz.prog.underlying t = some (.struct (Tryz.prog.fieldsOf t))) (hm : (Tryz.prog.fieldsOf t).toList.map (fun f => (f.type, f.offset)) = ts)
    (h : DataW.trod enc Tryz.prog w base spare held fuel t L = some x) : ∃ m, ∀ (i : Nat) (q : TypeId × Nat), ts[i]? = some q → ∃ y, DataW.trod enc Tryz.prog w base spare held m q.1 ((L.drop q.2).take (Tryz.prog.cellsOf q.1)) = some y := by
  obtain ⟨xs, n, -, -, -, hlen, hf⟩ := DataW.trod_struct hu h
  refine ⟨n, fun i q hq => ?_⟩
  obtain ⟨f, h1, h2, h3⟩ := field_at hm hq
  have := hf i f h1
  rw [h2, h3] at this
  have hi : i < xs.length := by
    have := (Array.getElem?_eq_some_iff.1 h1).1
    omega
  rw [List.getElem?_eq_getElem hi] at this
  exact ⟨_, this⟩

theorem cells_int : Tryz.prog.cellsOf 3 = 1 := by kernel_rfl
theorem cells_str : Tryz.prog.cellsOf 9 = 1 := by kernel_rfl
theorem int_in {a m : Nat} {y : DataW H × List MemPlace} (h : DataW.trod enc Tryz.prog w base spare held m 3 ((L.drop a).take (Tryz.prog.cellsOf 3)) = some y) : ∃ n, L[a]? = some (.int .i64 n) := by
  have h3 : Tryz.prog.underlying 3 = some (.int .i64) := by kernel_rfl
  rw [cells_int] at h
  obtain ⟨n, hn, -, -⟩ := DataW.trod_int h3 h
  exact ⟨n, one_at hn⟩
theorem str_in {a m : Nat} {y : DataW H × List MemPlace} (h : DataW.trod enc Tryz.prog w base spare held m 9 ((L.drop a).take (Tryz.prog.cellsOf 9)) = some y) : ∃ s : List UInt8, L[a]? = some (.string (sb s)) ∧ s.length ≤ 9223372036854775807 := by
  have h3 : Tryz.prog.underlying 9 = some .string := by kernel_rfl
  rw [cells_str] at h
  obtain ⟨s, hs, -, hl⟩ := DataW.trod_string h3 h
  have e : s.data.toList.length = s.size := by show s.data.toList.length = s.data.size; simp
  exact ⟨s.data.toList, one_at hs, by rw [e]; unfold maxLen at hl; omega⟩
theorem dot_in (h : DataW.trod enc Tryz.prog w base spare held fuel 46 L = some x) : ∃ r n, L[0]? = some (.int .i64 r) ∧ L[1]? = some (.int .i64 n) := by
  obtain ⟨m, hm⟩ := open_field (ts := [(3, 0), (3, 1)]) (by kernel_rfl) (by kernel_rfl) h
  obtain ⟨y0, h0⟩ := hm 0 _ rfl
  obtain ⟨y1, h1⟩ := hm 1 _ rfl
  obtain ⟨r, hr⟩ := int_in h0
  obtain ⟨n, hn⟩ := int_in h1
  exact ⟨r, n, hr, hn⟩
theorem vec_in (h : DataW.trod enc Tryz.prog w base spare held fuel 58 L = some x) : ∀ i, i < 16 → ∃ n, L[i]? = some (.int .i64 n) := by
  have hu : Tryz.prog.underlying 58 = some (.array 16 3) := by kernel_rfl
  obtain ⟨xs, m, -, -, -, hlx, hget⟩ := DataW.trod_array hu h
  intro i hi
  have := hget i hi
  rw [List.getElem?_eq_getElem (by omega : i < xs.length), cells_int, Nat.mul_one] at this
  exact int_in (a := i) (by rw [cells_int]; exact this)
theorem op_in (h : DataW.trod enc Tryz.prog w base spare held fuel 48 L = some x) : ∃ (k : Int) (s0 s1 s2 : List UInt8) (n r m : Int), L[0]? = some (.int .i64 k) ∧ (L[1]? = some (.string (sb s0)) ∧ L[2]? = some (.string (sb s1)) ∧ L[3]? = some (.string (sb s2))) ∧
    (L[4]? = some (.int .i64 n) ∧ L[5]? = some (.int .i64 r) ∧ L[6]? = some (.int .i64 m)) ∧ s0.length ≤ 9223372036854775807 ∧ s1.length ≤ 9223372036854775807 ∧ s2.length ≤ 9223372036854775807 := by
  obtain ⟨m, hm⟩ := open_field (ts := [(3, 0), (9, 1), (9, 2), (9, 3), (3, 4), (46, 5)]) (by kernel_rfl) (by kernel_rfl) h
  obtain ⟨y0, h0⟩ := hm 0 _ rfl
  obtain ⟨y1, h1⟩ := hm 1 _ rfl
  obtain ⟨y2, h2⟩ := hm 2 _ rfl
  obtain ⟨y3, h3⟩ := hm 3 _ rfl
  obtain ⟨y4, h4⟩ := hm 4 _ rfl
  obtain ⟨y5, h5⟩ := hm 5 _ rfl
  obtain ⟨k, e0⟩ := int_in h0
  obtain ⟨s0, e1, l1⟩ := str_in h1
  obtain ⟨s1, e2, l2⟩ := str_in h2
  obtain ⟨s2, e3, l3⟩ := str_in h3
  obtain ⟨n, e4⟩ := int_in h4
  obtain ⟨r, q, e5, e6⟩ := dot_in h5
  exact ⟨k, s0, s1, s2, n, r, q, e0, ⟨e1, e2, e3⟩, ⟨e4, in_at (a := 5) (c := 0) e5, in_at (a := 5) (c := 1) e6⟩, l1, l2, l3⟩

theorem open_ev {r : Reach} {b0 : Nat} {v : Value} {d : DataW H} {ps : List MemPlace} (hval : Value.okWide Tryz.prog w r b0 62 v) (hd : DataW.Trod enc Tryz.prog w base spare held 62 v d ps) :
    ∃ e : Ev, v = .agg (evc e) ∧ e.deps.length = 16 ∧ Room e := by
  have c2 : Tryz.prog.cellsOf 62 = 26 := by kernel_rfl
  have hu : Tryz.prog.underlying 62 = some (.struct (Tryz.prog.fieldsOf 62)) := by kernel_rfl
  obtain ⟨cs, rfl, hsz, -⟩ : ∃ cs, v = .agg cs ∧ cs.size = Tryz.prog.cellsOf 62 ∧ Row.okWide Tryz.prog w r b0 62 cs := by
    simpa [Value.okWide, hu] using hval
  rw [c2] at hsz
  obtain ⟨fuel, hf⟩ := hd
  obtain ⟨m, hm⟩ := open_field (ts := [(46, 0), (3, 2), (58, 3), (48, 19)]) hu (by kernel_rfl) hf
  obtain ⟨y0, h0⟩ := hm 0 _ rfl
  obtain ⟨y1, h1⟩ := hm 1 _ rfl
  obtain ⟨y2, h2⟩ := hm 2 _ rfl
  obtain ⟨y3, h3⟩ := hm 3 _ rfl
  obtain ⟨r0, n0, e0, e1⟩ := dot_in h0
  obtain ⟨t0, e2⟩ := int_in h1
  have ev := vec_in h2
  obtain ⟨k, s0, s1, s2, n, rr, rn, f0, ⟨f1, f2, f3⟩, ⟨f4, f5, f6⟩, l0, l1, l2⟩ := op_in h3
  have L : (Value.agg cs).cells.toList = cs.toList := rfl
  rw [L] at *
  have e0' : cs.toList[0]? = _ := in_at (a := 0) (c := 0) e0
  have e1' : cs.toList[1]? = _ := in_at (a := 0) (c := 1) e1
  have ev' : ∀ i, i < 16 → ∃ n, cs.toList[3 + i]? = some (.int .i64 n) := fun i hi => by
    obtain ⟨n, hn⟩ := ev i hi
    exact ⟨n, in_at hn⟩
  let e : Ev := ⟨r0, n0, t0, (List.range 16).map fun i => intOf (cs.toList.getD (3 + i) undef), k, s0, s1, s2, n, rr, rn⟩
  have hl : e.deps.length = 16 := by simp [e]
  refine ⟨e, ?_, hl, ⟨l0, l1, l2⟩⟩
  congr 1
  apply Array.ext_getElem?
  intro i
  rw [evc_get, ← Array.getElem?_toList]
  by_cases h26 : i < 26
  · by_cases h3' : i < 3
    · match i, h3' with
      | 0, _ => exact e0'
      | 1, _ => exact e1'
      | 2, _ => exact e2
    · by_cases h19 : i < 19
      · obtain ⟨j, rfl⟩ : ∃ j, i = 3 + j := ⟨i - 3, by omega⟩
        obtain ⟨z, hz⟩ := ev' j (by omega)
        have hj : j < 16 := by omega
        have hz2 : cs[3 + j]? = some (.int .i64 z) := by rw [← Array.getElem?_toList]; exact hz
        rw [evl_mid hl j hj, hz]
        simp [e, List.getD, hj, hz2, intOf]
      · obtain ⟨j, rfl⟩ : ∃ j, i = 19 + j := ⟨i - 19, by omega⟩
        rw [evl_hi hl]
        have hj : j < 7 := by omega
        match j, hj with
        | 0, _ => exact in_at (a := 19) (c := 0) f0
        | 1, _ => exact in_at (a := 19) (c := 1) f1
        | 2, _ => exact in_at (a := 19) (c := 2) f2
        | 3, _ => exact in_at (a := 19) (c := 3) f3
        | 4, _ => exact in_at (a := 19) (c := 4) f4
        | 5, _ => exact in_at (a := 19) (c := 5) f5
        | 6, _ => exact in_at (a := 19) (c := 6) f6
  · have a1 : cs.toList.length ≤ i := by simp; omega
    have a2 : (evl e).length ≤ i := by rw [evl_length e hl]; omega
    rw [List.getElem?_eq_none a1, List.getElem?_eq_none a2]
end
end Go.Proofs.YtmlfekbmbnfkjaaGreatDoor

