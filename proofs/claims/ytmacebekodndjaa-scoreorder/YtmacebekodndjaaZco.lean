/-
  What cmp.Compare of texts comes to.
-/
import Derived.Test.YtmacebekodndjaaZmp
import Derived.Test.YtmacebekodndjaaMco
import Derived.Sort.Walk0
namespace Go.Proofs.Ytmacebekodndjaa
set_option maxRecDepth 100000
open Go.RowKit Go.Sort

def cmpS (x y : List UInt8) : Int := if x < y then -1 else if y < x then 1 else 0
theorem less_sb {x y : List UInt8} {t : Bool} (h : decide (x < y) = t) : Op.bytesLess (sb x).toList (sb y).toList = t := by
  rw [ByteArray.toList_eq, ByteArray.toList_eq, data_sb, data_sb, bytesLess_eq, h]
theorem lss_sb (x y : List UInt8) {t : Bool} (h : decide (x < y) = t) (W : World) : (binOp .lss 9 (.string (sb x)) (.string (sb y))).run Try.prog W = .ok (.bool t) W := by
  rw [show binOp .lss 9 (.string (sb x)) (.string (sb y)) = pure (.bool (Op.bytesLess (sb x).toList (sb y).toList)) by simp [binOp, Op.stringOp], ByteArray.toList_eq, ByteArray.toList_eq, data_sb, data_sb, bytesLess_eq, h]
  rfl
theorem gtr_sb (x s : List UInt8) {t : Bool} (h : decide (s < x) = t) (W : World) : (binOp .gtr 9 (.string (sb x)) (.string (sb s))).run Try.prog W = .ok (.bool t) W := by
  have e : (!(Op.bytesLess (sb x).toList (sb s).toList || (sb x).toList == (sb s).toList)) = t := by
    rw [sb_beq, ByteArray.toList_eq, ByteArray.toList_eq, data_sb, data_sb, bytesLess_eq, ← h, Bool.eq_iff_iff]
    simp only [Bool.not_eq_true', Bool.or_eq_false_iff, decide_eq_false_iff_not, decide_eq_true_eq]
    refine ⟨fun hn => text_lt hn.1 hn.2, fun hl => ⟨List.lt_asymm hl, fun e => ?_⟩⟩
    subst e
    exact List.lt_irrefl _ hl
  rw [show binOp .gtr 9 (.string (sb x)) (.string (sb s)) = pure (.bool !(Op.bytesLess (sb x).toList (sb s).toList || (sb x).toList == (sb s).toList)) by simp [binOp, Op.stringOp], e]
  rfl
theorem geq_sb (x y : List UInt8) {t : Bool} (h : decide (x < y) = t) (W : World) : (binOp .geq 9 (.string (sb x)) (.string (sb y))).run Try.prog W = .ok (.bool (!t)) W := by
  rw [show binOp .geq 9 (.string (sb x)) (.string (sb y)) = pure (.bool !(Op.bytesLess (sb x).toList (sb y).toList)) by simp [binOp, Op.stringOp], ByteArray.toList_eq, ByteArray.toList_eq, data_sb, data_sb, bytesLess_eq, h]
  rfl
theorem isnans_any (x : List UInt8) (w : World) : Calls Try.prog 33 #[.string (sb x)] w fun e w' => e = .returned (.bool false) ∧ w' = w := by
  have hn : ∀ W, (binOp .neq 9 (.string (sb x)) (.string (sb x))).run Try.prog W = .ok (.bool false) W := fun W => by
    rw [show binOp .neq 9 (.string (sb x)) (.string (sb x)) = pure (.bool !((sb x).toList == (sb x).toList)) by simp [binOp, Op.stringOp]]
    simp
  go_enter Try.func33, Try.ntmps33
  go_wp2
  go_ret
  exact ⟨rfl, rfl⟩
set_option maxHeartbeats 400000 in
theorem compares_any (x y : List UInt8) (w : World) : Calls Try.prog 24 #[.string (sb x), .string (sb y)] w fun e w' => e = .returned (.int .i64 (cmpS x y)) ∧ w' = w := by
  have hx := isnans_any x w
  have hy := isnans_any y w
  have key : (Op.bytesLess (sb x).toList (sb y).toList = true ∧ cmpS x y = -1) ∨ (Op.bytesLess (sb x).toList (sb y).toList = false ∧ (∀ W, (binOp .gtr 9 (.string (sb x)) (.string (sb y))).run Try.prog W = .ok (.bool true) W) ∧ cmpS x y = 1) ∨ (Op.bytesLess (sb x).toList (sb y).toList = false ∧ (∀ W, (binOp .gtr 9 (.string (sb x)) (.string (sb y))).run Try.prog W = .ok (.bool false) W) ∧ cmpS x y = 0) := by
    unfold cmpS
    by_cases h1 : x < y
    · exact .inl ⟨less_sb (decide_eq_true h1), by simp [h1]⟩
    · by_cases h2 : y < x
      · exact .inr (.inl ⟨less_sb (decide_eq_false h1), gtr_sb x y (decide_eq_true h2), by simp [h1, h2]⟩)
      · exact .inr (.inr ⟨less_sb (decide_eq_false h1), gtr_sb x y (decide_eq_false h2), by simp [h1, h2]⟩)
  generalize cmpS x y = c at *
  rcases key with ⟨h1, rfl⟩ | ⟨h1, h2, rfl⟩ | ⟨h1, h2, rfl⟩
  all_goals
    go_enter Try.func24, Try.ntmps24
    go_wp2_with fail
    refine Calls.mono hx ?_
    rintro e w1 ⟨rfl, hw1⟩
    obtain rfl := hw1.symm
    go_wp2_with fail
    refine Calls.mono hy ?_
    rintro e w1 ⟨rfl, hw2⟩
    obtain rfl := hw2.symm
    go_wp2
    go_ret
    exact ⟨rfl, rfl⟩
end Go.Proofs.Ytmacebekodndjaa
