/-
  What vlq.TakeInt comes to where a number's bytes stand.
-/
import Derived.Test.YthdhnilfkpbmpaaMor
namespace Go.Proofs.Ythdhnilfkpbmpaa
open Go.RowKit

/-- The number with a sign that one without goes for. -/
def zag (u : Nat) : Int := if u % 2 = 1 then -1 - ((u / 2 : Nat) : Int) else ((u / 2 : Nat) : Int)
theorem zag_zig (n : Int) : zag (zig n) = n := by
  unfold zag zig; split <;> split <;> omega

set_option maxHeartbeats 400000 in
/-- TakeInt, where Take tells a number. -/
theorem takeint_ok (ao : Option Addr) (m c : Nat) (l : List UInt8) (a p : Nat) (w : World) (hb : Bytes w ao m c l) (hc : c ≤ maxLen) (ha : a + p < m) (hl : ∀ j, j < p → 128 ≤ ((l.drop a).getD j 0).toNat) (hx : ((l.drop a).getD p 0).toNat < 128)
    (hh : (seg l a p).head? ≠ some 128) (hv : Vq.val (seg l a p) < 18446744073709551616) :
    Calls Try.prog 87 #[.slice ao m c, .int .i64 (a : Int)] w fun e w' => e = .returned (.tuple #[.int .i64 (zag (Vq.val (seg l a p))), .int .i64 ((a + p + 1 : Nat) : Int), .int .i64 0]) ∧ w' = w := by
  have hr := hb.room
  have ht := take_ok ao m c l a p w hb hc ha hl hx hh hv
  unfold maxLen at hc
  generalize Vq.val (seg l a p) = N at *
  clear hl hx hh
  have Ht : Hid _ := ht
  clear ht
  by_cases hodd : N % 2 = 1
  · have e : zag N = -1 - ((N / 2 : Nat) : Int) := by unfold zag; rw [if_pos hodd]
    have ho : ((N : Int) % 2 == 1) = true := by rw [beq_iff_eq]; omega
    rw [e]
    clear e hodd
    go_enter Try.func87, Try.ntmps87
    go_wp2_with fail
    refine Calls.mono Ht.out ?_
    rintro e w1 ⟨rfl, rfl⟩
    go_wp2
    go_ret3
    exact ⟨rfl, rfl⟩
  · have e : zag N = ((N / 2 : Nat) : Int) := by unfold zag; rw [if_neg hodd]
    have ho : ((N : Int) % 2 == 1) = false := by rw [beq_eq_false_iff_ne]; omega
    rw [e]
    clear e hodd
    go_enter Try.func87, Try.ntmps87
    go_wp2_with fail
    refine Calls.mono Ht.out ?_
    rintro e w1 ⟨rfl, rfl⟩
    go_wp2
    go_ret3
    exact ⟨rfl, rfl⟩

theorem takeint_num (ao : Option Addr) (m c : Nat) (A B : List UInt8) (n : Int) (w : World) (hn : -9223372036854775808 ≤ n ∧ n ≤ 9223372036854775807) (hb : Bytes w ao m c (A ++ Vq.num (zig n) ++ B)) (hc : c ≤ maxLen) :
    Calls Try.prog 87 #[.slice ao m c, .int .i64 (A.length : Int)] w fun e w' => e = .returned (.tuple #[.int .i64 n, .int .i64 ((A.length + Vq.wd (zig n) : Nat) : Int), .int .i64 0]) ∧ w' = w := by
  have hu := zig_lt hn
  obtain ⟨h1, h2, h3, h4⟩ := num_there A B (zig n)
  have hp := Vq.wd_pos (zig n)
  obtain ⟨_, _, _, _, _, hh⟩ := Vq.whole_num (zig n) hu
  have h := takeint_ok ao m c (A ++ Vq.num (zig n) ++ B) A.length (Vq.wd (zig n) - 1) w hb hc (by rw [← hb.len]; exact h4) h1 h2 (by rw [h3]; exact hh) (by rw [h3, Vq.val_num _ hu]; exact hu)
  rw [h3, Vq.val_num _ hu, show A.length + (Vq.wd (zig n) - 1) + 1 = A.length + Vq.wd (zig n) from by omega, zag_zig] at h
  exact h

end Go.Proofs.Ythdhnilfkpbmpaa
