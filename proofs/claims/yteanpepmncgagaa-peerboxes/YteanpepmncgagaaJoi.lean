/-
  What vec.Join and vec.Meet come to: the greater, the smaller one of each number.
-/
import Derived.Test.YteanpepmncgagaaZer
import Derived.Test.YteanpepmncgagaaVec
namespace Go.Proofs.Yteanpepmncgagaa
set_option maxRecDepth 100000
open Go.RowKit

/-- Number by number. -/
def each (f : Int → Int → Int) (a b : List Int) : List Int := List.zipWith f a b
theorem each_length (f : Int → Int → Int) (a b : List Int) (la : a.length = 16) (lb : b.length = 16) : (each f a b).length = 16 := by
  rw [each, List.length_zipWith]; omega
/-- What the loop has laid behind k rounds. -/
def mixed (f : Int → Int → Int) (a b : List Int) (k : Nat) : List Int := (each f a b).take k ++ a.drop k
theorem mixed_zero (f : Int → Int → Int) (a b : List Int) : mixed f a b 0 = a := by simp [mixed]
theorem mixed_end (f : Int → Int → Int) (a b : List Int) (la : a.length = 16) (lb : b.length = 16) : mixed f a b 16 = each f a b := by
  have := each_length f a b la lb
  rw [mixed, List.take_of_length_le (by omega), List.drop_of_length_le (by omega), List.append_nil]
theorem mixed_length (f : Int → Int → Int) (a b : List Int) (k : Nat) (la : a.length = 16) (lb : b.length = 16) (hk : k ≤ 16) : (mixed f a b k).length = 16 := by
  have := each_length f a b la lb
  rw [mixed, List.length_append, List.length_take, List.length_drop]; omega
theorem mixed_get (f : Int → Int → Int) (a b : List Int) (k : Nat) (la : a.length = 16) (lb : b.length = 16) (hk : k < 16) : (mixed f a b k).getD k 0 = a.getD k 0 := by
  have := each_length f a b la lb
  rw [mixed, List.getD, List.getElem?_append_right (by rw [List.length_take]; omega), List.length_take, List.getElem?_drop, List.getD]
  congr 2
  omega
theorem mixed_step (f : Int → Int → Int) (a b : List Int) (k : Nat) (la : a.length = 16) (lb : b.length = 16) (hk : k < 16) :
    (mixed f a b k).set k (f (a.getD k 0) (b.getD k 0)) = mixed f a b (k + 1) := by
  have h := each_length f a b la lb
  have hka : k < a.length := by omega
  have hkb : k < b.length := by omega
  have hl : ((each f a b).take k).length = k := by rw [List.length_take]; omega
  have hg : (each f a b)[k]? = some (f (a.getD k 0) (b.getD k 0)) := by
    rw [each, List.getElem?_zipWith, List.getElem?_eq_getElem hka, List.getElem?_eq_getElem hkb]
    simp [List.getD, hka, hkb]
  have hd : (a.drop k).set 0 (f (a.getD k 0) (b.getD k 0)) = f (a.getD k 0) (b.getD k 0) :: a.drop (k + 1) := by
    rw [List.drop_eq_getElem_cons hka, List.set_cons_zero]
  rw [mixed, mixed, List.set_append_right _ _ (by omega), hl, Nat.sub_self, List.take_add_one, hg, hd]
  simp

theorem if_max (x y : Int) : (if x < y then y else x) = max x y := by
  split <;> omega
theorem if_min (x y : Int) : (if y < x then y else x) = min x y := by
  split <;> omega
end Go.Proofs.Yteanpepmncgagaa
