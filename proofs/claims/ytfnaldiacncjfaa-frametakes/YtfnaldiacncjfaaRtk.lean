/-
  What the reference's Take comes to.
-/
import Derived.Test.YtfnaldiacncjfaaRsl
import Derived.Test.YtfnaldiacncjfaaFtk
namespace Go.Proofs.Ytfnaldiacncjfaa
open Go.RowKit

/-- Bytes as a text. -/
def tx (l : List UInt8) : ByteArray := ⟨l.toArray⟩
theorem tx_list (l : List UInt8) : (tx l).data.toList = l := by simp [tx]
theorem tx_size (l : List UInt8) : (tx l).size = l.length := by simp [tx, ByteArray.size]
theorem tx_data (b : ByteArray) : tx b.data.toList = b := by cases b; simp [tx]
theorem tx_get (l : List UInt8) (i : Nat) (h : i < (tx l).size) : (tx l)[i] = l.getD i 0 := by
  have hi : i < l.length := by rw [tx_size] at h; exact h
  show l.toArray[i] = _
  rw [List.getElem_toArray]
  simp [List.getD, hi]
theorem ext_tx (b : ByteArray) (i j : Nat) : b.extract i j = tx ((b.data.toList.drop i).take (j - i)) := by
  rw [← tx_data (b.extract i j)]
  congr 1
  simp [List.take_drop]

theorem slice_tx (b : ByteArray) (i j : Nat) (I J : Int) (hI : I = (i : Int)) (hJ : J = (j : Int)) (hij : i ≤ j) (hj : j ≤ b.size) (W : World) :
    (Instr.slice 9 (.string b) (some (.int .i64 I)) (some (.int .i64 J)) none).run Try.prog W = .ok (.string (tx ((b.data.toList.drop i).take (j - i)))) W := by
  subst hI hJ
  rw [run_slice_string W 9 b .i64 .i64 _ _ Try.underlying9 (by omega) (by omega) (by omega), Int.toNat_natCast, Int.toNat_natCast, ext_tx]

theorem ropen_is (l : List UInt8) (hm : l.length ≤ 1048576) (h : Fr.isSealed l = true) (w : World) :
    Calls Try.prog 22 #[.string (tx l)] w fun e w' => e = .returned (.tuple #[.string (tx (l.take (l.length - 2))), .bool true]) ∧ Below w.heap.size w w' := by
  have h2 : 2 ≤ l.length := by
    rw [Fr.isSealed, Bool.and_eq_true, decide_eq_true_eq] at h
    exact h.1
  have hc := (Fr.sealed_iff l h2).1 h
  rw [show l.length - 1 = l.length - 2 + 1 by omega] at hc
  have := ropen_yes (tx l) (l.length - 2) (by rw [tx_size]; omega) (by omega) (by rw [tx_list]; exact hc) w
  rw [ext_tx, tx_list, List.drop_zero, Nat.sub_zero] at this
  exact this
theorem ropen_not (l : List UInt8) (hm : l.length ≤ 1048576) (h : Fr.isSealed l = false) (w : World) :
    Calls Try.prog 22 #[.string (tx l)] w fun e w' => e = .returned (.tuple #[.string ByteArray.empty, .bool false]) ∧ Below w.heap.size w w' := by
  by_cases h2 : 2 ≤ l.length
  · refine ropen_no (tx l) (l.length - 2) (by rw [tx_size]; omega) (by omega) (fun e => ?_) w
    rw [tx_list] at e
    rw [show l.length - 2 + 1 = l.length - 1 by omega] at e
    rw [(Fr.sealed_iff l h2).2 e] at h
    cases h
  · exact (ropen_few (tx l) (by rw [tx_size]; omega) w).mono fun _ _ ⟨h1, h2⟩ => ⟨h1, by rw [h2]; exact Below.refl _ _⟩

set_option maxHeartbeats 1000000 in
theorem rtake_arg (b : ByteArray) (a : Int) (hb : b.size ≤ 20000) (ha : a < 0 ∨ (b.size : Int) < a) (w : World) :
    Calls Try.prog 13 #[.string b, .int .i64 a] w fun e w' => e = .returned (.tuple #[.string ByteArray.empty, .int .i64 0, .int .i64 1]) ∧ w' = w := by
  rcases ha with ha | ha
  · go_enter Try.func13, Try.ntmps13
    go_wp2
    go_ret3
    exact ⟨rfl, rfl⟩
  · have ha' : ¬ a < 0 := by omega
    go_enter Try.func13, Try.ntmps13
    go_wp2
    go_ret3
    exact ⟨rfl, rfl⟩

/-- What Take answers at a place that there is. -/
def tkT (d : List UInt8) : ByteArray := if Fr.tkE d = 0 then tx (Fr.tkB d) else ByteArray.empty
def tkN (a : Nat) (d : List UInt8) : Nat := if Fr.tkE d = 0 then a + Fr.tkW d else 0

set_option maxHeartbeats 4000000 in
theorem rtake_any (b : ByteArray) (a : Nat) (hb : b.size ≤ 20000) (ha : a ≤ b.size) (w : World) :
    Calls Try.prog 13 #[.string b, .int .i64 (a : Int)] w fun e w' => e = .returned (.tuple #[.string (tkT (b.data.toList.drop a)), .int .i64 (tkN a (b.data.toList.drop a) : Int), .int .i64 (Fr.tkE (b.data.toList.drop a))]) ∧ Below w.heap.size w w' := by
  have h0 : ¬ (a : Int) < 0 := by omega
  have h1 : ¬ (b.size : Int) < (a : Int) := by omega
  have hl : b.data.toList.length = b.size := by rw [Array.length_toList]; rfl
  have hdl : (b.data.toList.drop a).length = b.size - a := by rw [List.length_drop, hl]
  have no : ∀ E, Fr.tkE (b.data.toList.drop a) = E → E ≠ 0 → tkT (b.data.toList.drop a) = ByteArray.empty ∧ tkN a (b.data.toList.drop a) = 0 := by
    intro E h1 h2
    rw [tkT, tkN, h1, if_neg h2, if_neg h2]
    exact ⟨rfl, rfl⟩
  by_cases h4 : b.size - a < 4
  · have e : Fr.tkE (b.data.toList.drop a) = 2 := by rw [Fr.tkE, if_pos (by omega)]
    rw [e, (no 2 e (by decide)).1, (no 2 e (by decide)).2]
    have h4' : (b.size : Int) - (a : Int) < 4 := by omega
    clear no e
    go_enter Try.func13, Try.ntmps13
    go_wp2
    go_ret3
    exact ⟨rfl, Below.refl _ _⟩
  have h4' : ¬ (b.size : Int) - (a : Int) < 4 := by omega
  have hsl : ∀ W, (Instr.slice 9 (.string b) (some (.int .i64 (a : Int))) (some (.int .i64 ((a : Int) + 4))) none).run Try.prog W = .ok (.string (tx ((b.data.toList.drop a).take 4))) W := fun W => by
    have := slice_tx b a (a + 4) (a : Int) ((a : Int) + 4) rfl (by omega) (by omega) (by omega) W
    rwa [show a + 4 - a = 4 by omega] at this
  have hxl : ((b.data.toList.drop a).take 4).length = 4 := by rw [List.length_take]; omega
  by_cases hs : Fr.isSealed ((b.data.toList.drop a).take 4) = false
  · have e : Fr.tkE (b.data.toList.drop a) = 5 := by rw [Fr.tkE, if_neg (by omega), if_pos hs]
    rw [e, (no 5 e (by decide)).1, (no 5 e (by decide)).2]
    have Ho : Hid _ := ropen_not ((b.data.toList.drop a).take 4) (by omega) hs w
    clear no e hs hxl
    generalize tx ((b.data.toList.drop a).take 4) = t4 at *
    go_enter Try.func13, Try.ntmps13
    go_wp2_with fail
    refine Calls.mono Ho.out ?_
    rintro e w1 ⟨rfl, hb1⟩
    go_wp2
    go_ret3
    exact ⟨rfl, hb1⟩
  rw [Bool.not_eq_false] at hs
  have Ho : Hid _ := ropen_is ((b.data.toList.drop a).take 4) (by omega) hs w
  rw [hxl, List.take_take, Nat.min_eq_left (by omega), show 4 - 2 = 2 by rfl] at Ho
  have hsl2 : ∀ N, a + N + 6 ≤ b.size → ∀ W, (Instr.slice 9 (.string b) (some (.int .i64 ((a : Int) + 4))) (some (.int .i64 ((a : Int) + 6 + (N : Int)))) none).run Try.prog W = .ok (.string (tx (((b.data.toList.drop a).drop 4).take (N + 2)))) W := fun N hN W => by
    have := slice_tx b (a + 4) (a + 6 + N) ((a : Int) + 4) ((a : Int) + 6 + (N : Int)) (by omega) (by omega) (by omega) (by omega) W
    rwa [show a + 6 + N - (a + 4) = N + 2 by omega, ← List.drop_drop] at this
  generalize b.data.toList.drop a = d at *
  have hts : (tx (d.take 2)).size = 2 := by rw [tx_size, List.length_take]; omega
  have g0 : ∀ h : 0 < (tx (d.take 2)).size, ((tx (d.take 2))[0]'h).toNat = (d.getD 0 0).toNat := fun h => by
    rw [tx_get]
    simp [List.getD]
  have g1 : ∀ h : 1 < (tx (d.take 2)).size, ((tx (d.take 2))[1]'h).toNat = (d.getD 1 0).toNat := fun h => by
    rw [tx_get]
    simp [List.getD]
  have hh : Fr.hd d = (d.getD 0 0).toNat * 256 + (d.getD 1 0).toNat := rfl
  have b0 := (d.getD 0 0).toNat_lt
  have b1 := (d.getD 1 0).toNat_lt
  generalize tx (d.take 4) = t4 at *
  generalize tx (d.take 2) = t2 at *
  generalize (d.getD 0 0).toNat = x at *
  generalize (d.getD 1 0).toNat = y at *
  have hxy : (x : Int) * 256 + (y : Int) = (Fr.hd d : Int) := by omega
  have Hh : Hid (Fr.hd d = x * 256 + y) := hh
  have eE : Fr.tkE d = if 65529 < Fr.hd d then 4 else if b.size - a < Fr.hd d + 6 then 2 else if Fr.isSealed ((d.drop 4).take (Fr.hd d + 2)) = false then 5 else 0 := by
    rw [Fr.tkE, if_neg (by omega), if_neg (by rw [hs]; decide), hdl]
  have eW : Fr.tkW d = Fr.hd d + 6 := rfl
  have eB : Fr.tkB d = (d.drop 4).take (Fr.hd d) := rfl
  clear hxl hs hh
  by_cases c1 : 65529 < Fr.hd d
  · rw [if_pos c1] at eE
    rw [eE, (no 4 eE (by decide)).1, (no 4 eE (by decide)).2]
    clear no eE eW eB hsl2
    generalize Fr.hd d = N at *
    have c1' : (65529 : Int) < (N : Int) := by omega
    go_enter Try.func13, Try.ntmps13
    go_wp2_with fail
    refine Calls.mono Ho.out ?_
    rintro e w1 ⟨rfl, hb1⟩
    go_wp2_with fail
    go_quiet (fail)
    go_wp2
    go_ret3
    exact ⟨rfl, hb1.trans ((drawn w1 nq).mono hb1.size)⟩
  rw [if_neg c1] at eE
  by_cases c2 : b.size - a < Fr.hd d + 6
  · rw [if_pos c2] at eE
    rw [eE, (no 2 eE (by decide)).1, (no 2 eE (by decide)).2]
    clear no eE eW eB hsl2
    generalize Fr.hd d = N at *
    have c1' : ¬ (65529 : Int) < (N : Int) := by omega
    have c2' : (b.size : Int) - (a : Int) - 4 < (N : Int) + 2 := by omega
    go_enter Try.func13, Try.ntmps13
    go_wp2_with fail
    refine Calls.mono Ho.out ?_
    rintro e w1 ⟨rfl, hb1⟩
    go_wp2_with fail
    go_quiet (fail)
    go_wp2
    go_ret3
    exact ⟨rfl, hb1.trans ((drawn w1 nq).mono hb1.size)⟩
  rw [if_neg c2] at eE
  have hsl3 := hsl2 (Fr.hd d) (by omega)
  have hpl : ((d.drop 4).take (Fr.hd d + 2)).length = Fr.hd d + 2 := by rw [List.length_take, List.length_drop]; omega
  clear hsl2
  by_cases c3 : Fr.isSealed ((d.drop 4).take (Fr.hd d + 2)) = false
  · rw [if_pos c3] at eE
    rw [eE, (no 5 eE (by decide)).1, (no 5 eE (by decide)).2]
    have Ho2 : ∀ W, Hid _ := fun W => ropen_not ((d.drop 4).take (Fr.hd d + 2)) (by omega) c3 W
    clear no eE eW eB c3 hpl
    generalize tx ((d.drop 4).take (Fr.hd d + 2)) = tb at *
    generalize Fr.hd d = N at *
    have c1' : ¬ (65529 : Int) < (N : Int) := by omega
    have c2' : ¬ (b.size : Int) - (a : Int) - 4 < (N : Int) + 2 := by omega
    go_enter Try.func13, Try.ntmps13
    go_wp2_with fail
    refine Calls.mono Ho.out ?_
    rintro e w1 ⟨rfl, hb1⟩
    go_wp2_with fail
    go_quiet (fail)
    go_wp2_with fail
    refine Calls.mono (Ho2 _).out ?_
    rintro e w2 ⟨rfl, hb2⟩
    have s1 := hb1.trans ((drawn w1 nq).mono hb1.size)
    have s2 := s1.trans (hb2.mono s1.size)
    go_wp2
    go_ret3
    exact ⟨rfl, s2⟩
  · rw [if_neg c3] at eE
    rw [Bool.not_eq_false] at c3
    have Ho2 : ∀ W, Hid _ := fun W => ropen_is ((d.drop 4).take (Fr.hd d + 2)) (by omega) c3 W
    have e1 : tkT d = tx (Fr.tkB d) := by rw [tkT, if_pos eE]
    have e2 : tkN a d = a + (Fr.hd d + 6) := by rw [tkN, if_pos eE, eW]
    have e3 : ((d.drop 4).take (Fr.hd d + 2)).take (Fr.hd d + 2 - 2) = Fr.tkB d := by rw [eB, List.take_take]; congr 1; omega
    rw [hpl, e3] at Ho2
    rw [eE, e1, e2]
    clear no eE eW eB c3 hpl e1 e2 e3
    generalize tx ((d.drop 4).take (Fr.hd d + 2)) = tb at *
    generalize tx (Fr.tkB d) = tr at *
    generalize Fr.hd d = N at *
    have c1' : ¬ (65529 : Int) < (N : Int) := by omega
    have c2' : ¬ (b.size : Int) - (a : Int) - 4 < (N : Int) + 2 := by omega
    go_enter Try.func13, Try.ntmps13
    go_wp2_with fail
    refine Calls.mono Ho.out ?_
    rintro e w1 ⟨rfl, hb1⟩
    go_wp2_with fail
    go_quiet (fail)
    go_wp2_with fail
    refine Calls.mono (Ho2 _).out ?_
    rintro e w2 ⟨rfl, hb2⟩
    have s1 := hb1.trans ((drawn w1 nq).mono hb1.size)
    have s2 := s1.trans (hb2.mono s1.size)
    go_wp2
    go_ret3
    refine ⟨?_, s2⟩
    have e1 : (a : Int) + 6 + (N : Int) = ((a + (N + 6) : Nat) : Int) := by omega
    rw [e1]
    rfl
end Go.Proofs.Ytfnaldiacncjfaa
