/-
  What a kind uses, whether it is one, whether it adds; whether a number may be: the program's answers and the reference's.
-/
import Derived.Test.YthlebgioamcioabGreatQ02
import Derived.Test.YthlebgioamcioabGreatQ06
import Derived.Test.YthlebgioamcioabGreatQ35
import Derived.Test.YthlebgioamcioabGreatQ04
namespace Go.Proofs.YthlebgioamcioabGreat
set_option maxRecDepth 100000
open Go.RowKit

def iskindE (k : Int) : Bool := decide (1 ≤ k ∧ k ≤ 11)
def numE (n : Int) : Bool := decide (-1099511627776 ≤ n ∧ n ≤ 1099511627776)

theorem ret_of {b c : Bool} {w : World} (h : c = b) : Ending.returned (.bool b) = .returned (.bool c) ∧ w = w := by rw [h]; exact ⟨rfl, rfl⟩

section
variable (k : Int) (w : World)
set_option maxHeartbeats 400000 in
theorem usesfield_any : Calls Tryz.prog 215 #[.int .i64 k] w fun e w' => e = .returned (.bool (usesF k)) ∧ w' = w := by
  go_enter Tryz.func215, Tryz.ntmps215
  go_wp2
  all_goals
    go_ret
    refine ⟨congrArg (fun b => Ending.returned (.bool b)) (?_ : _ = usesF k), rfl⟩
    simp only [beq_iff_eq, beq_eq_false_iff_ne, ne_eq] at *
    unfold usesF
    first
    | exact (decide_eq_true (by omega)).symm
    | exact (decide_eq_false (by omega)).symm
set_option maxHeartbeats 400000 in
theorem usesvalue_any : Calls Tryz.prog 216 #[.int .i64 k] w fun e w' => e = .returned (.bool (usesV k)) ∧ w' = w := by
  go_enter Tryz.func216, Tryz.ntmps216
  go_wp2
  all_goals
    go_ret
    refine ⟨congrArg (fun b => Ending.returned (.bool b)) (?_ : _ = usesV k), rfl⟩
    simp only [beq_iff_eq, beq_eq_false_iff_ne, ne_eq] at *
    unfold usesV
    first
    | exact (decide_eq_true (by omega)).symm
    | exact (decide_eq_false (by omega)).symm
set_option maxHeartbeats 400000 in
theorem usesnum_any : Calls Tryz.prog 217 #[.int .i64 k] w fun e w' => e = .returned (.bool (usesN k)) ∧ w' = w := by
  go_enter Tryz.func217, Tryz.ntmps217
  go_wp2
  all_goals
    go_ret
    refine ⟨congrArg (fun b => Ending.returned (.bool b)) (?_ : _ = usesN k), rfl⟩
    simp only [beq_iff_eq, beq_eq_false_iff_ne, ne_eq] at *
    unfold usesN
    first
    | exact (decide_eq_true (by omega)).symm
    | exact (decide_eq_false (by omega)).symm
set_option maxHeartbeats 400000 in
theorem usesref_any : Calls Tryz.prog 218 #[.int .i64 k] w fun e w' => e = .returned (.bool (usesR k)) ∧ w' = w := by
  go_enter Tryz.func218, Tryz.ntmps218
  go_wp2
  all_goals
    go_ret
    refine ⟨congrArg (fun b => Ending.returned (.bool b)) (?_ : _ = usesR k), rfl⟩
    simp only [beq_iff_eq, beq_eq_false_iff_ne, ne_eq] at *
    unfold usesR
    first
    | exact (decide_eq_true (by omega)).symm
    | exact (decide_eq_false (by omega)).symm
set_option maxHeartbeats 400000 in
theorem iskind_any : Calls Tryz.prog 167 #[.int .i64 k] w fun e w' => e = .returned (.bool (iskindE k)) ∧ w' = w := by
  by_cases h0 : 1 ≤ k
  · by_cases h1 : k ≤ 11
    · rw [show iskindE k = true from decide_eq_true ⟨h0, h1⟩]
      go_enter Tryz.func167, Tryz.ntmps167
      go_wp2
      go_ret
      exact ⟨by simp, rfl⟩
    · rw [show iskindE k = false from decide_eq_false (by omega)]
      go_enter Tryz.func167, Tryz.ntmps167
      go_wp2
      go_ret
      exact ⟨by simp, rfl⟩
  · rw [show iskindE k = false from decide_eq_false (by omega)]
    go_enter Tryz.func167, Tryz.ntmps167
    go_wp2
    go_ret
    exact ⟨rfl, rfl⟩
set_option maxHeartbeats 400000 in
theorem rightnum_any : Calls Tryz.prog 169 #[.int .i64 k] w fun e w' => e = .returned (.bool (numE k)) ∧ w' = w := by
  by_cases h0 : -1099511627776 ≤ k
  · by_cases h1 : k ≤ 1099511627776
    · rw [show numE k = true from decide_eq_true ⟨h0, h1⟩]
      go_enter Tryz.func169, Tryz.ntmps169
      go_wp2
      go_ret
      exact ⟨by simp, rfl⟩
    · rw [show numE k = false from decide_eq_false (by omega)]
      go_enter Tryz.func169, Tryz.ntmps169
      go_wp2
      go_ret
      exact ⟨by simp, rfl⟩
  · rw [show numE k = false from decide_eq_false (by omega)]
    go_enter Tryz.func169, Tryz.ntmps169
    go_wp2
    go_ret
    exact ⟨rfl, rfl⟩
end
end Go.Proofs.YthlebgioamcioabGreat

/-
  What putNumber and putDot come to: the bytes, and behind them a number's, a dot's.
-/
namespace Go.Proofs.YthlebgioamcioabGreat
set_option maxRecDepth 100000
open Go.RowKit

/-- A new list of bytes is the answer. -/
def Out (w w' : World) (e : Ending) (l : List UInt8) : Prop := ∃ g c, e = .returned (.slice (some ⟨g, 0, none⟩) l.length c) ∧ Bytes w' (some ⟨g, 0, none⟩) l.length c l ∧ c ≤ maxLen ∧ Below w.heap.size w w'

theorem nm_length (x : Int) : (nm x).length = Vq.wd x.toNat := by rw [nm, Vq.num_length]
theorem nm_le (x : Int) : (nm x).length ≤ 10 := by rw [nm_length]; exact Vq.wd_le _
theorem small_cap {m : Nat} (h : m ≤ 1099511627776) : m ≤ maxLen := by unfold maxLen; omega

set_option maxHeartbeats 400000 in
theorem putnumber_any (ao : Option Addr) (c : Nat) (l : List UInt8) (x : Int) (w : World) (hb : Bytes w ao l.length c l) (hm : l.length ≤ 1048576) (hx : Nn x) :
    Calls Tryz.prog 183 #[.slice ao l.length c, .int .i64 x] w fun e w' => Out w w' e (l ++ nm x) := by
  obtain ⟨h0, h1⟩ := hx
  obtain ⟨k, rfl⟩ : ∃ k : Nat, x = (k : Int) := ⟨x.toNat, by omega⟩
  have hl := nm_le (k : Int)
  have hk : k < 18446744073709551616 := by omega
  have HC : Hid _ := put_any ao l.length c l k w hb (by omega) hk
  have HL : Hid ((l ++ nm (k : Int)).length = l.length + Vq.wd k) := by show _ = _; rw [List.length_append, nm_length]; rfl
  have HW := Vq.wd_le k
  clear hb hl
  go_enter Tryz.func183, Tryz.ntmps183
  go_wp2_with fail
  refine Calls.mono HC.out ?_
  rintro e w1 ⟨g, rfl, ho, hb1⟩
  have HO : Hid _ := Bytes.own ho
  have HB : Hid (Below w.heap.size w w1) := hb1
  clear ho hb1 HC
  generalize Vq.wd k = d at *
  go_wp2
  go_ret
  refine ⟨g, l.length + d, by rw [HL.out]; rfl, by rw [HL.out]; exact HO.out, small_cap (by omega), HB.out⟩

/-- What an operation of a region leaves: a value, or a new list of bytes. -/
inductive Kd where
  | val (v : Value)
  | bytes (l : List UInt8)
def Kd.holds : Kd → Value → World → Prop
  | .val v, u, _ => u = v
  | .bytes l, u, W => ∃ g c, u = .slice (some ⟨g, 0, none⟩) l.length c ∧ Bytes W (some ⟨g, 0, none⟩) l.length c l ∧ c ≤ maxLen
def Kd.at (l : List Kd) (i : Nat) : Kd := l.getD i (.val undef)
theorem Kd.stable {k : Kd} {v : Value} {w w' : World} (hb : Below w.heap.size w w') (h : k.holds v w) : k.holds v w' := by
  cases k with
  | val x => exact h
  | bytes l =>
    obtain ⟨g, c, h1, h2, h3⟩ := h
    exact ⟨g, c, h1, h2.below hb (Nat.le_refl _), h3⟩

set_option maxHeartbeats 1000000 in
theorem putdot_any (ao : Option Addr) (c : Nat) (l : List UInt8) (r n : Int) (w : World) (hb : Bytes w ao l.length c l) (hm : l.length ≤ 1000000) (hr : Nn r) (hn : Nn n) :
    Calls Tryz.prog 182 #[.slice ao l.length c, .agg (dotc r n)] w fun e w' => Out w w' e (l ++ nm r ++ nm n) := by
  have hD := liesD_new w r n
  have B0 : Below w.heap.size w (w.alloc (.cells (dotc r n) 23)) := (Below.refl _ _).alloc (Nat.le_refl _) _
  have HY : Hid (Bytes (w.alloc (.cells (dotc r n) 23)) ao l.length c l) := hb.below B0 (Nat.le_refl _)
  have H0 : Hid (Below w.heap.size w (w.alloc (.cells (dotc r n) 23))) := B0
  have c0 := hD.cell0
  have c1 := hD.cell1
  have HR : Hid _ := hr
  have HN : Hid _ := hn
  have HM : Hid _ := hm
  have HL : Hid ((l ++ nm r).length ≤ 1048576) := by
    have := nm_le r
    show _ ≤ _
    rw [List.length_append]
    omega
  clear hb B0 hr hn hm
  go_enter Tryz.func182, Tryz.ntmps182
  go_wp2_with fail
  refine region_parts [5, 6, 7, 8, 9, 10, 11, 4] (fun i => (Kd.at [.val (.slice ao l.length c), .val (.pointer (some ⟨w.heap.size, 0, none⟩)), .val (.int .i64 r), .bytes (l ++ nm r), .val (.pointer (some ⟨w.heap.size, 1, none⟩)), .val (.int .i64 n), .bytes (l ++ nm r ++ nm n), .bytes (l ++ nm r ++ nm n)] i).holds) (by kernel_rfl) (by kernel_rfl) (by rfl) (by decide) (fun i v w w' hb h => Kd.stable hb h) ?_ ?_
  · refine ⟨?_, ?_, ?_, ?_, ?_, ?_, ?_, ?_, trivial⟩
    · intro u W hb hd K hK
      simp only [lay, Act.put, List.setIfInBounds_toArray, List.set_cons_zero, List.set_cons_succ, Nat.reduceAdd] at hK ⊢
      go_simp
      exact hK.out _ _ rfl (Below.refl _ _)
    · intro u W hb hd K hK
      simp only [lay, Act.put, List.setIfInBounds_toArray, List.set_cons_zero, List.set_cons_succ, Nat.reduceAdd] at hK ⊢
      go_simp
      exact hK.out _ _ rfl (Below.refl _ _)
    · intro u W hb hd K hK
      have h1 : u 1 = (.pointer (some ⟨w.heap.size, 0, none⟩)) := hd 1 (by kernel_rfl)
      simp only [lay, Act.put, List.setIfInBounds_toArray, List.set_cons_zero, List.set_cons_succ, Nat.reduceAdd, h1] at hK ⊢
      clear h1
      have c0' := (hb.cell (block_lt_of_cell c0)).trans c0
      go_simp
      exact hK.out _ _ rfl (Below.refl _ _)
    · intro u W hb hd K hK
      have h0 : u 0 = (.slice ao l.length c) := hd 0 (by kernel_rfl)
      have h2 : u 2 = (.int .i64 r) := hd 2 (by kernel_rfl)
      simp only [lay, Act.put, List.setIfInBounds_toArray, List.set_cons_zero, List.set_cons_succ, Nat.reduceAdd, h0, h2] at hK ⊢
      clear h0 h2
      go_simp
      refine (putnumber_any ao c l r W (HY.out.below hb (Nat.le_refl _)) (Nat.le_trans HM.out (by omega)) HR.out).mono ?_
      rintro e w' ⟨g, c', rfl, h3, h4, h5⟩
      exact hK.out _ _ ⟨g, c', rfl, h3, h4⟩ h5
    · intro u W hb hd K hK
      simp only [lay, Act.put, List.setIfInBounds_toArray, List.set_cons_zero, List.set_cons_succ, Nat.reduceAdd] at hK ⊢
      go_simp
      exact hK.out _ _ rfl (Below.refl _ _)
    · intro u W hb hd K hK
      have h4 : u 4 = (.pointer (some ⟨w.heap.size, 1, none⟩)) := hd 4 (by kernel_rfl)
      simp only [lay, Act.put, List.setIfInBounds_toArray, List.set_cons_zero, List.set_cons_succ, Nat.reduceAdd, h4] at hK ⊢
      clear h4
      have c1' := (hb.cell (block_lt_of_cell c1)).trans c1
      go_simp
      exact hK.out _ _ rfl (Below.refl _ _)
    · intro u W hb hd K hK
      obtain ⟨g, c', h3, hB, hc⟩ : ∃ g c', u 3 = .slice (some ⟨g, 0, none⟩) (l ++ nm r).length c' ∧ Bytes W (some ⟨g, 0, none⟩) (l ++ nm r).length c' (l ++ nm r) ∧ c' ≤ maxLen := hd 3 (by kernel_rfl)
      have h5 : u 5 = (.int .i64 n) := hd 5 (by kernel_rfl)
      simp only [lay, Act.put, List.setIfInBounds_toArray, List.set_cons_zero, List.set_cons_succ, Nat.reduceAdd, h3, h5] at hK ⊢
      clear h3 h5
      have HC : Hid _ := putnumber_any (some ⟨g, 0, none⟩) c' (l ++ nm r) n W hB HL.out HN.out
      clear hB
      generalize hq : l ++ nm r = q at *
      go_simp
      refine Calls.mono HC.out ?_
      rintro e w' ⟨g2, c2, rfl, h3, h4, h5⟩
      exact hK.out _ _ ⟨g2, c2, rfl, h3, h4⟩ h5
    · intro u W hb hd K hK
      obtain ⟨g, c', h6, hB, hc⟩ : ∃ g c', u 6 = .slice (some ⟨g, 0, none⟩) (l ++ nm r ++ nm n).length c' ∧ Bytes W (some ⟨g, 0, none⟩) (l ++ nm r ++ nm n).length c' (l ++ nm r ++ nm n) ∧ c' ≤ maxLen := hd 6 (by kernel_rfl)
      simp only [lay, Act.put, List.setIfInBounds_toArray, List.set_cons_zero, List.set_cons_succ, Nat.reduceAdd, h6] at hK ⊢
      clear h6
      generalize hq : l ++ nm r ++ nm n = q at *
      go_simp
      exact hK.out _ _ ⟨g, c', rfl, hB, hc⟩ (Below.refl _ _)
  · intro u w2 hb2 hu
    obtain ⟨g, c', h7, hB, hc⟩ : ∃ g c', u 7 = .slice (some ⟨g, 0, none⟩) (l ++ nm r ++ nm n).length c' ∧ Bytes w2 (some ⟨g, 0, none⟩) (l ++ nm r ++ nm n).length c' (l ++ nm r ++ nm n) ∧ c' ≤ maxLen := hu 7 (by decide)
    simp only [lay, Act.put, List.setIfInBounds_toArray, List.set_cons_zero, List.set_cons_succ, Nat.reduceAdd, h7]
    have HO : Hid _ := hB
    have HC : Hid _ := hc
    have HB : Hid (Below w.heap.size w w2) := H0.out.trans (hb2.mono H0.out.size)
    clear hu h7 hB hb2 c0 c1 hD hc
    generalize hq : l ++ nm r ++ nm n = q at *
    have Hq : Hid _ := hq
    clear hq
    go_wp2
    go_ret
    exact ⟨g, c', by rw [Hq.out]; rfl, by rw [Hq.out]; exact HO.out, HC.out, HB.out⟩
end Go.Proofs.YthlebgioamcioabGreat

