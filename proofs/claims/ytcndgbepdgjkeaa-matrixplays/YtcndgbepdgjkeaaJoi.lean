/-
  What vec.Join and vec.Meet come to: the greater, the smaller one of each number.
-/
import Derived.Test.YtcndgbepdgjkeaaVec
namespace Go.Proofs.Ytcndgbepdgjkeaa
set_option maxRecDepth 100000
open Go.RowKit

/-- Number by number. -/
def each (f : Int → Int → Int) (a b : List Int) : List Int := List.zipWith f a b
theorem each_length (f : Int → Int → Int) (a b : List Int) (la : a.length = 16) (lb : b.length = 16) : (each f a b).length = 16 := by
  rw [each, List.length_zipWith]; omega
/-- What the loop has laid behind k rounds. -/
def mixed (f : Int → Int → Int) (a b : List Int) (k : Nat) : List Int := (each f a b).take k ++ a.drop k
theorem mixed_zero (f : Int → Int → Int) (a b : List Int) : mixed f a b 0 = a := by simp [mixed]
theorem mixed_end (f : Int → Int → Int) (a b : List Int) (la : a.length = 16) (lb : b.length = 16) : mixed f a b 16 = each f a b := by
  have := each_length f a b la lb
  rw [mixed, List.take_of_length_le (by omega), List.drop_of_length_le (by omega), List.append_nil]
theorem mixed_length (f : Int → Int → Int) (a b : List Int) (k : Nat) (la : a.length = 16) (lb : b.length = 16) (hk : k ≤ 16) : (mixed f a b k).length = 16 := by
  have := each_length f a b la lb
  rw [mixed, List.length_append, List.length_take, List.length_drop]; omega
theorem mixed_get (f : Int → Int → Int) (a b : List Int) (k : Nat) (la : a.length = 16) (lb : b.length = 16) (hk : k < 16) : (mixed f a b k).getD k 0 = a.getD k 0 := by
  have := each_length f a b la lb
  rw [mixed, List.getD, List.getElem?_append_right (by rw [List.length_take]; omega), List.length_take, List.getElem?_drop, List.getD]
  congr 2
  omega
theorem mixed_step (f : Int → Int → Int) (a b : List Int) (k : Nat) (la : a.length = 16) (lb : b.length = 16) (hk : k < 16) :
    (mixed f a b k).set k (f (a.getD k 0) (b.getD k 0)) = mixed f a b (k + 1) := by
  have h := each_length f a b la lb
  have hka : k < a.length := by omega
  have hkb : k < b.length := by omega
  have hl : ((each f a b).take k).length = k := by rw [List.length_take]; omega
  have hg : (each f a b)[k]? = some (f (a.getD k 0) (b.getD k 0)) := by
    rw [each, List.getElem?_zipWith, List.getElem?_eq_getElem hka, List.getElem?_eq_getElem hkb]
    simp [List.getD, hka, hkb]
  have hd : (a.drop k).set 0 (f (a.getD k 0) (b.getD k 0)) = f (a.getD k 0) (b.getD k 0) :: a.drop (k + 1) := by
    rw [List.drop_eq_getElem_cons hka, List.set_cons_zero]
  rw [mixed, mixed, List.set_append_right _ _ (by omega), hl, Nat.sub_self, List.take_add_one, hg, hd]
  simp

def zeros : List Int := List.replicate 16 0
theorem zeros_vals : vals zeros = #[.int .i64 0, .int .i64 0, .int .i64 0, .int .i64 0, .int .i64 0, .int .i64 0, .int .i64 0, .int .i64 0, .int .i64 0, .int .i64 0, .int .i64 0, .int .i64 0, .int .i64 0, .int .i64 0, .int .i64 0, .int .i64 0] := rfl

theorem if_max (x y : Int) : (if x < y then y else x) = max x y := by
  split <;> omega
theorem if_min (x y : Int) : (if y < x then y else x) = min x y := by
  split <;> omega
set_option maxHeartbeats 400000 in
theorem join_any (a b : List Int) (la : a.length = 16) (lb : b.length = 16) (w : World) :
    Calls Try.prog 24 #[.agg (vals a), .agg (vals b)] w fun e w' => e = .returned (.agg (vals (each max a b))) ∧ Below w.heap.size w w' := by
  have hA : Lies (((w.alloc (.cells (vals a) 24)).alloc (.cells (vals b) 24)).alloc (.cells (vals zeros) 24)) w.heap.size a := ((lies_new w a).alloc _).alloc _
  have hB : Lies (((w.alloc (.cells (vals a) 24)).alloc (.cells (vals b) 24)).alloc (.cells (vals zeros) 24)) (w.heap.size + 1) b := by
    have := (lies_new (w.alloc (.cells (vals a) 24)) b).alloc (.cells (vals zeros) 24)
    simpa using this
  have hZ : Lies (((w.alloc (.cells (vals a) 24)).alloc (.cells (vals b) 24)).alloc (.cells (vals zeros) 24)) (w.heap.size + 1 + 1) zeros := by
    have := lies_new ((w.alloc (.cells (vals a) 24)).alloc (.cells (vals b) 24)) zeros
    simpa using this
  go_enter Try.func24, Try.ntmps24
  go_wp2_with (refine load_vec rfl rfl rfl hB lb ?_)
  go_loopw [8] (fun i wr => ∃ k : Nat, k ≤ 16 ∧ i = .int .i64 (k : Int) ∧ Lies wr w.heap.size (mixed max a b k) ∧ Lies wr (w.heap.size + 1 + 1) zeros ∧ Below w.heap.size w wr) (fun i _ => 16 - (intOf i).toNat)
  case atStart =>
    refine ⟨0, by omega, rfl, ?_, hZ, (((Below.refl _ _).alloc (Nat.le_refl _) _).alloc (by simp) _).alloc (by simp; omega) _⟩
    rw [mixed_zero]
    exact hA
  case round =>
    obtain ⟨k, hk, rfl, hM, hZ', hb⟩ := hrel
    by_cases h : k < 16
    · have hc := hM.cell (k := k) (by rw [mixed_length max a b k la lb hk]; exact h)
      rw [mixed_get max a b k la lb h] at hc
      have hf := hM.frozen (k := k)
      have hi := run_index_vec wr b k lb h
      have hia := run_indexAt_vec wr w.heap.size k h
      have Hs : Hid _ := hM.set (k := k) (max (a.getD k 0) (b.getD k 0))
      rw [mixed_step max a b k la lb h] at Hs
      have Hz : Hid _ := hZ'.other (ad := ⟨w.heap.size, k, none⟩) (.int .i64 (max (a.getD k 0) (b.getD k 0))) (by simp; omega)
      generalize a.getD k 0 = x at *
      generalize b.getD k 0 = y at *
      go_wp2
      go_roundw
      case rel => rw [if_max]; exact ⟨k + 1, by omega, by go_num, Hs.out, Hz.out, hb.setCell (Nat.le_refl _) _⟩
      case measure => simp [intOf]; omega
    · obtain rfl : k = 16 := by omega
      rw [mixed_end max a b la lb] at hM
      go_wp2_with (first | refine load_vec rfl rfl rfl hM (each_length max a b la lb) ?_ | refine store_vec rfl rfl rfl rfl hZ' (each_length max a b la lb) rfl ?_)
      exact ret_vec rfl rfl rfl (hZ'.row _) (each_length max a b la lb) ⟨rfl, below_setRow hb (by omega) _⟩

set_option maxHeartbeats 400000 in
theorem meet_any (a b : List Int) (la : a.length = 16) (lb : b.length = 16) (w : World) :
    Calls Try.prog 26 #[.agg (vals a), .agg (vals b)] w fun e w' => e = .returned (.agg (vals (each min a b))) ∧ Below w.heap.size w w' := by
  have hA : Lies (((w.alloc (.cells (vals a) 24)).alloc (.cells (vals b) 24)).alloc (.cells (vals zeros) 24)) w.heap.size a := ((lies_new w a).alloc _).alloc _
  have hB : Lies (((w.alloc (.cells (vals a) 24)).alloc (.cells (vals b) 24)).alloc (.cells (vals zeros) 24)) (w.heap.size + 1) b := by
    have := (lies_new (w.alloc (.cells (vals a) 24)) b).alloc (.cells (vals zeros) 24)
    simpa using this
  have hZ : Lies (((w.alloc (.cells (vals a) 24)).alloc (.cells (vals b) 24)).alloc (.cells (vals zeros) 24)) (w.heap.size + 1 + 1) zeros := by
    have := lies_new ((w.alloc (.cells (vals a) 24)).alloc (.cells (vals b) 24)) zeros
    simpa using this
  go_enter Try.func26, Try.ntmps26
  go_wp2_with (refine load_vec rfl rfl rfl hB lb ?_)
  go_loopw [8] (fun i wr => ∃ k : Nat, k ≤ 16 ∧ i = .int .i64 (k : Int) ∧ Lies wr w.heap.size (mixed min a b k) ∧ Lies wr (w.heap.size + 1 + 1) zeros ∧ Below w.heap.size w wr) (fun i _ => 16 - (intOf i).toNat)
  case atStart =>
    refine ⟨0, by omega, rfl, ?_, hZ, (((Below.refl _ _).alloc (Nat.le_refl _) _).alloc (by simp) _).alloc (by simp; omega) _⟩
    rw [mixed_zero]
    exact hA
  case round =>
    obtain ⟨k, hk, rfl, hM, hZ', hb⟩ := hrel
    by_cases h : k < 16
    · have hc := hM.cell (k := k) (by rw [mixed_length min a b k la lb hk]; exact h)
      rw [mixed_get min a b k la lb h] at hc
      have hf := hM.frozen (k := k)
      have hi := run_index_vec wr b k lb h
      have hia := run_indexAt_vec wr w.heap.size k h
      have Hs : Hid _ := hM.set (k := k) (min (a.getD k 0) (b.getD k 0))
      rw [mixed_step min a b k la lb h] at Hs
      have Hz : Hid _ := hZ'.other (ad := ⟨w.heap.size, k, none⟩) (.int .i64 (min (a.getD k 0) (b.getD k 0))) (by simp; omega)
      generalize a.getD k 0 = x at *
      generalize b.getD k 0 = y at *
      go_wp2
      go_roundw
      case rel => rw [if_min]; exact ⟨k + 1, by omega, by go_num, Hs.out, Hz.out, hb.setCell (Nat.le_refl _) _⟩
      case measure => simp [intOf]; omega
    · obtain rfl : k = 16 := by omega
      rw [mixed_end min a b la lb] at hM
      go_wp2_with (first | refine load_vec rfl rfl rfl hM (each_length min a b la lb) ?_ | refine store_vec rfl rfl rfl rfl hZ' (each_length min a b la lb) rfl ?_)
      exact ret_vec rfl rfl rfl (hZ'.row _) (each_length min a b la lb) ⟨rfl, below_setRow hb (by omega) _⟩
end Go.Proofs.Ytcndgbepdgjkeaa
