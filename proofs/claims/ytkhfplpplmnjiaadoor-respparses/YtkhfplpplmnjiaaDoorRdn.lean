/-
  What the reference's Digits comes to at any number; its line and bulk.
-/
import Derived.Test.YtkhfplpplmnjiaaDoorRdg
namespace Go.Proofs.YtkhfplpplmnjiaaDoor
set_option maxRecDepth 100000
open Go.RowKit Go.Sort

set_option maxHeartbeats 2000000 in
theorem rdigits_neg : ∀ (f k : Nat), k < f → 0 < k → k ≤ 9223372036854775808 → ∀ w : World, Calls Tryd.prog 25 #[.int .i64 (-(k : Int))] w fun e w' => e = .returned (.string (tx (45 :: Lib.decDigits k))) ∧ Below w.heap.size w w'
  | 0, _, h, _, _, _ => by omega
  | f + 1, k, hf, hk, hn, w => by
    have h0 : -(k : Int) < 0 := by omega
    by_cases h10 : k < 10
    · have h10' : (-10 : Int) < -(k : Int) := by omega
      have C : Hid (Calls Tryd.prog 25 #[.int .i64 (k : Int)] w _) := rdigits_nat (k + 1) k (by omega) (by omega) w
      have HD : Hid (tx (45 :: Lib.decDigits k) = tx [45] ++ tx (Lib.decDigits k)) := by rw [Hid, tx_app]; rfl
      have hadd := add_str w (tx [45]) (tx (Lib.decDigits k)) (by have := dec_len k (by omega); rw [tx_size, tx_size]; simp only [List.length_cons, List.length_nil]; omega)
      have hsz : (tx (Lib.decDigits k)).size ≤ 30 := by rw [tx_size]; exact dec_len k (by omega)
      generalize tx (Lib.decDigits k) = T at *
      have e45 : (⟨#[45]⟩ : ByteArray) = tx [45] := rfl
      have z45 : (tx [45]).size = 1 := rfl
      go_enter Tryd.func25, Tryd.ntmps25
      go_wp2_with fail
      refine Calls.mono C.out ?_
      rintro e w1 ⟨rfl, hb1⟩
      go_wp2
      go_ret
      rw [HD.out]
      exact ⟨rfl, hb1⟩
    · have h10' : ¬ (-10 : Int) < -(k : Int) := by omega
      have IH := rdigits_neg f (k / 10) (by omega) (by omega) (by omega)
      have hdl := dec_len (k / 10) (by omega)
      have HD : Hid (tx (45 :: Lib.decDigits k) = tx (45 :: Lib.decDigits (k / 10)) ++ tx [dgt k]) := by rw [Hid, tx_app, dec_ten k h10]; rfl
      have hdg := dgt_nat k
      have hadd := fun W => add_str W (tx (45 :: Lib.decDigits (k / 10))) (tx [dgt k]) (by rw [tx_size, tx_size]; simp only [List.length_cons, List.length_nil]; omega)
      generalize tx (45 :: Lib.decDigits (k / 10)) = T at *
      go_enter Tryd.func25, Tryd.ntmps25
      go_wp2_with fail
      refine region_at [11, 12, 13, 14, 15, 16, 17, 18, 19, 20, 2] [.int .i64 (-(k : Int)), .int .i64 (-((k / 10 : Nat) : Int)), .string T, .int .i64 (-(k : Int)), .int .i64 (-((k % 10 : Nat) : Int)), .int .i64 ((48 + k % 10 : Nat) : Int), .int .u8 ((48 + k % 10 : Nat) : Int), undef, .string (tx [dgt k]), .string (T ++ tx [dgt k]), .string (T ++ tx [dgt k])] 7 (Mb [dgt k]) _ (by kernel_rfl) (by kernel_rfl) (by rfl) (by decide) (by kernel_rfl) (by decide) (by simp) (fun v0 => by simp only [lay, Act.put, List.setIfInBounds_toArray, List.set_cons_zero, List.set_cons_succ, List.getD_cons_zero, List.getD_cons_succ, Nat.reduceAdd]; rfl) Mb.stable ⟨?_, ?_, ?_, ?_, ?_, ?_, ?_, ?_, ?_, ?_, ?_, trivial⟩ ?_
      · exact OkOne.at (by decide) (fun v0 => rfl) (fun v0 W hb hq => yields_move rfl rfl)
      · exact OkOne.at (by decide) (fun v0 => rfl) (fun v0 W hb hq => yields_bin rfl rfl rfl (eqGuard_int W) (quo_neg W k hn))
      · exact OkOne.at (by decide) (fun v0 => rfl) (fun v0 W hb hq => yields_call (vs := [.int .i64 (-((k / 10 : Nat) : Int))]) (v := .string T) rfl rfl (enters_dig _ _) (IH W))
      · exact OkOne.at (by decide) (fun v0 => rfl) (fun v0 W hb hq => yields_move rfl rfl)
      · exact OkOne.at (by decide) (fun v0 => rfl) (fun v0 W hb hq => yields_bin rfl rfl rfl (eqGuard_int W) (rem_neg W k hn))
      · exact OkOne.at (by decide) (fun v0 => rfl) (fun v0 W hb hq => yields_bin rfl rfl rfl (eqGuard_int W) (sub_48 W (k % 10) (Nat.mod_lt _ (by decide))))
      · exact OkOne.at (by decide) (fun v0 => rfl) (fun v0 W hb hq => yields_convert rfl rfl (conv_u8 W _ (by omega)))
      · exact OkOne.it (fun v0 => rfl) (fun v0 W hb => build_yields rfl (by rw [hdg]; rfl))
      · exact OkOne.at (by decide) (fun v0 => rfl) (fun v0 W hb hq => yields_convert (vx := v0) rfl rfl (conv_mb (hq (by kernel_rfl))))
      · exact OkOne.at (by decide) (fun v0 => rfl) (fun v0 W hb hq => yields_bin rfl rfl rfl (eqGuard_str W) (hadd W))
      · exact OkOne.at (by decide) (fun v0 => rfl) (fun v0 W hb hq => yields_assign rfl rfl)
      intro v0 W hb hMb
      clear hMb hadd IH
      go_wp2
      go_ret
      rw [HD.out]
      exact ⟨rfl, hb⟩

theorem rdigits_any (n : Int) (h0 : -9223372036854775808 ≤ n) (h1 : n ≤ 9223372036854775807) (w : World) :
    Calls Tryd.prog 25 #[.int .i64 n] w fun e w' => e = .returned (.string (tx (Lib.itoa n))) ∧ Below w.heap.size w w' := by
  by_cases h : n < 0
  · have := rdigits_neg (n.natAbs + 1) n.natAbs (by omega) (by omega) (by omega) w
    have e : -(n.natAbs : Int) = n := by omega
    rw [e] at this
    rw [Lib.itoa, if_pos h]
    exact this
  · have := rdigits_nat (n.toNat + 1) n.toNat (by omega) (by omega) w
    have e : (n.toNat : Int) = n := by omega
    rw [e] at this
    rw [Lib.itoa, if_neg h]
    exact this

theorem cat3 (a b c : List UInt8) : tx a ++ tx b ++ tx c = tx (a ++ b ++ c) := by rw [tx_app, tx_app]

set_option maxHeartbeats 2000000 in
theorem rbulk_any (s : ByteArray) (hs : s.size ≤ 1000000) (w : World) : Calls Tryd.prog 26 #[.string s] w fun e w' => e = .returned (.string (tx (Rs.bulk s.data.toList))) ∧ Below w.heap.size w w' := by
  have C : Hid _ := rdigits_any (s.size : Int) (by omega) (by omega) w
  have hil := Lib.itoa_length_le (s.size : Int) (by omega) (by omega)
  have HD : Hid (tx (Rs.bulk s.data.toList) = tx [36] ++ tx (Lib.itoa (s.size : Int)) ++ tx [13, 10] ++ s ++ tx [13, 10]) := by
    have h : tx (Rs.bulk s.data.toList) = tx [36] ++ tx (Lib.itoa (s.size : Int)) ++ tx [13, 10] ++ tx s.data.toList ++ tx [13, 10] := by
      rw [tx_app, tx_app, tx_app, tx_app, Rs.bulk, lsize]
      simp [Rs.ln, Rs.crlf]
    rw [tx_data] at h
    exact h
  have hsz : (tx (Lib.itoa (s.size : Int))).size ≤ 21 := by rw [tx_size]; exact hil
  clear hil
  generalize tx (Lib.itoa (s.size : Int)) = T at *
  have e1 : (⟨#[36]⟩ : ByteArray) = tx [36] := rfl
  have e2 : (⟨#[13, 10]⟩ : ByteArray) = tx [13, 10] := rfl
  have z1 : (tx [36]).size = 1 := rfl
  have z2 : (tx [13, 10]).size = 2 := rfl
  go_enter Tryd.func26, Tryd.ntmps26
  go_wp2_with fail
  refine Calls.mono C.out ?_
  rintro e w1 ⟨rfl, hb1⟩
  go_wp2
  go_ret
  rw [HD.out]
  exact ⟨rfl, hb1⟩
end Go.Proofs.YtkhfplpplmnjiaaDoor
