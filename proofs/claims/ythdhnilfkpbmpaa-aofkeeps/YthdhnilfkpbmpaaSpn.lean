/-
  What vlq.span and vlq.join come to: where the first number's bytes end, and which number bytes tell. They read alone.
-/
import Derived.Test.YthdhnilfkpbmpaaPut
import Derived.Laws.Bits64b
namespace Go.Proofs.Ythdhnilfkpbmpaa
open Go.RowKit

/-- Where bytes lie: nowhere, since there are none; or at an address. -/
theorem Bytes.norm {w : World} {ao : Option Addr} {m c : Nat} {l : List UInt8} (h : Bytes w ao m c l) :
    (m = 0 ∧ l = []) ∨ ∃ b off, ao = some ⟨b, off, .none⟩ ∧ 0 < m ∧ ∀ j, j < m → w.cell? ⟨b, off + j, .none⟩ = some (.int .u8 ((l.getD j 0).toNat : Int)) := by
  by_cases h0 : m = 0
  · exact .inl ⟨h0, List.eq_nil_of_length_eq_zero (h.len.trans h0)⟩
  · right
    cases ao with
    | none => exact absurd (h.none rfl).1 h0
    | some ad =>
      obtain ⟨b, off, spot⟩ := ad
      have hg : ∀ j, j < m → w.cell? ((⟨b, off, spot⟩ : Addr).add j) = some (.int .u8 ((l.getD j 0).toNat : Int)) := by
        intro j hj
        refine h.cells _ rfl j _ ?_
        have hj' : j < l.length := by rw [h.len]; exact hj
        simp [bs, hj']
      have hspot : spot = .none := by simpa [Addr.add] using World.cell?_spot (hg 0 (by omega))
      subst hspot
      exact ⟨b, off, rfl, by omega, fun j hj => by have := hg j hj; rwa [Addr.add_lit] at this⟩

set_option maxHeartbeats 400000 in
theorem span_no (ao : Option Addr) (m c : Nat) (l : List UInt8) (w : World) (hb : Bytes w ao m c l) (hm : m ≤ maxLen) (hl : ∀ x ∈ l, 128 ≤ x.toNat) :
    Calls Try.prog 84 #[.slice ao m c] w fun e w' => e = .returned (.tuple #[.int .i64 0, .bool false]) ∧ w' = w := by
  unfold maxLen at hm
  rcases hb.norm with ⟨rfl, rfl⟩ | ⟨b, off, rfl, h0, hcell⟩
  · go_enter Try.func84, Try.ntmps84
    go_wp2
    refine wp_loop_rounds 1 ?_
    rw [rounds_succ]
    go_wp2
    go_ret2
    exact ⟨rfl, rfl⟩
  · go_enter Try.func84, Try.ntmps84
    go_wp2
    go_loop [8] (fun i => ∃ k : Nat, k ≤ m ∧ i = .int .i64 (k : Int)) (fun i => m - (intOf i).toNat)
    case atStart => exact ⟨0, Nat.zero_le _, rfl⟩
    case round =>
      obtain ⟨k, hk, rfl⟩ := hrel
      by_cases hlt : k < m
      · have hc := hcell k hlt
        have hge : 128 ≤ ((l.getD k 0).toNat : Int) := by
          have hj : k < l.length := by rw [hb.len]; exact hlt
          have := hl (l.getD k 0) (by simp [List.getD, hj])
          omega
        generalize ((l.getD k 0).toNat : Int) = x at hc hge
        clear hcell
        go_wp2
        go_round
        case rel => exact ⟨k + 1, by omega, by go_num⟩
        case measure => simp [intOf]; omega
      · clear hcell
        go_wp2
        go_ret2
        exact ⟨rfl, rfl⟩

set_option maxHeartbeats 400000 in
theorem span_yes (ao : Option Addr) (m c : Nat) (l : List UInt8) (p : Nat) (w : World) (hb : Bytes w ao m c l) (hm : m ≤ maxLen) (hp : p < m) (hl : ∀ j, j < p → 128 ≤ (l.getD j 0).toNat) (hx : (l.getD p 0).toNat < 128) :
    Calls Try.prog 84 #[.slice ao m c] w fun e w' => e = .returned (.tuple #[.int .i64 ((p + 1 : Nat) : Int), .bool true]) ∧ w' = w := by
  unfold maxLen at hm
  rcases hb.norm with ⟨rfl, rfl⟩ | ⟨b, off, rfl, h0, hcell⟩
  · omega
  · go_enter Try.func84, Try.ntmps84
    go_wp2
    go_loop [8] (fun i => ∃ k : Nat, k ≤ p ∧ i = .int .i64 (k : Int)) (fun i => m - (intOf i).toNat)
    case atStart => exact ⟨0, Nat.zero_le _, rfl⟩
    case round =>
      obtain ⟨k, hk, rfl⟩ := hrel
      have hc := hcell k (by omega)
      by_cases hlt : k < p
      · have hge : 128 ≤ ((l.getD k 0).toNat : Int) := by have := hl k hlt; omega
        have hkm : k < m := by omega
        generalize ((l.getD k 0).toNat : Int) = x at hc hge
        clear hcell
        go_wp2
        go_round
        case rel => exact ⟨k + 1, by omega, by go_num⟩
        case measure => simp [intOf]; omega
      · obtain rfl : k = p := by omega
        have hge : ((l.getD k 0).toNat : Int) < 128 := by omega
        generalize ((l.getD k 0).toNat : Int) = x at hc hge
        clear hcell
        go_wp2
        go_ret2
        exact ⟨rfl, rfl⟩

theorem or_low (n y : Nat) (hn : n ≤ 144115188075855871) (hy : y < 128) : bits .or .u64 ((n : Int) * 128) (y : Int) = (n : Int) * 128 + (y : Int) := by
  have h := bits_or_u64_nat (n * 128) y (by omega) (by omega)
  have e := Nat.two_pow_add_eq_or_of_lt (i := 7) (b := y) (by omega) n
  rw [Nat.mul_comm n 128] at h
  rw [show (2 : Nat) ^ 7 = 128 from rfl] at e
  rw [← e] at h
  have e2 : ((n : Int) * 128) = ((128 * n : Nat) : Int) := by omega
  rw [e2, h]
  omega

set_option maxHeartbeats 400000 in
theorem join_form (ao : Option Addr) (m c : Nat) (l : List UInt8) (w : World) (hb : Bytes w ao m c l) (hm : m ≤ maxLen) (hl : l.head? = some 128) :
    Calls Try.prog 85 #[.slice ao m c] w fun e w' => e = .returned (.tuple #[.int .u64 0, .int .i64 3]) ∧ w' = w := by
  unfold maxLen at hm
  rcases hb.norm with ⟨rfl, rfl⟩ | ⟨b, off, rfl, h0, hcell⟩
  · simp at hl
  · have hc : w.cell? ⟨b, off, none⟩ = some (.int .u8 128) := by
      have := hcell 0 h0
      cases l with
      | nil => simp at hl
      | cons x t =>
        simp only [List.head?_cons, Option.some.injEq] at hl
        subst hl
        exact this
    have hp : (0 : Int) < (m : Int) := by omega
    clear hcell
    go_enter Try.func85, Try.ntmps85
    go_wp2
    go_ret2
    exact ⟨rfl, rfl⟩

set_option maxHeartbeats 400000 in
theorem join_ok (ao : Option Addr) (m c : Nat) (l : List UInt8) (w : World) (hb : Bytes w ao m c l) (hm : m ≤ maxLen) (h1 : 0 < m) (hl : l.head? ≠ some 128) (hv : Vq.val l < 18446744073709551616) :
    Calls Try.prog 85 #[.slice ao m c] w fun e w' => e = .returned (.tuple #[.int .u64 (Vq.val l : Nat), .int .i64 0]) ∧ w' = w := by
  unfold maxLen at hm
  rcases hb.norm with ⟨rfl, rfl⟩ | ⟨b, off, rfl, h0, hcell⟩
  · omega
  · have hc : w.cell? ⟨b, off, none⟩ = some (.int .u8 ((l.getD 0 0).toNat : Int)) := hcell 0 h0
    have hne : (((l.getD 0 0).toNat : Int) == 128) = false := by
      rw [beq_eq_false_iff_ne]
      intro e
      apply hl
      cases l with
      | nil => have := hb.len; simp at this; omega
      | cons x t =>
        have e2 : x.toNat = 128 := by simp at e; omega
        simp only [List.head?_cons, Option.some.injEq]
        exact UInt8.toNat_inj.1 e2
    generalize ((l.getD 0 0).toNat : Int) = x0 at hc hne
    have hp : (0 : Int) < (m : Int) := by omega
    go_enter Try.func85, Try.ntmps85
    go_wp2
    go_loop [4, 13] (fun n i => ∃ k : Nat, k ≤ m ∧ i = .int .i64 (k : Int) ∧ n = .int .u64 ((Vq.val (l.take k) : Nat) : Int)) (fun _ i => m - (intOf i).toNat)
    case atStart => exact ⟨0, Nat.zero_le _, rfl, rfl⟩
    case round =>
      obtain ⟨k, hk, rfl, rfl⟩ := hrel
      by_cases hlt : k < m
      · have hck := hcell k hlt
        have hkl : k < l.length := by rw [hb.len]; exact hlt
        have hsm : Vq.val (l.take k) ≤ 144115188075855871 := Vq.val_take_small hkl hv
        have HS : Hid (Vq.val (l.take (k + 1)) = Vq.val (l.take k) * 128 + (l.getD k 0).toNat % 128) := Vq.val_take_succ hkl
        have hx := (l.getD k 0).toNat_lt
        generalize (l.getD k 0).toNat = x at hck HS hx
        generalize Vq.val (l.take k) = n at HS hsm
        have hand := and127 x (by omega)
        have hor := or_low n (x % 128) (by omega) (by omega)
        have hx1 : x % 128 < 128 := by omega
        generalize hy : x % 128 = y at hand hor HS hx1
        clear hcell hy
        go_wp2
        go_round
        case rel => exact ⟨k + 1, by omega, by go_num, by rw [HS.out]; go_num⟩
        case measure => simp [intOf]; omega
      · clear hcell
        go_wp2
        go_ret2
        rw [List.take_of_length_le (by rw [hb.len]; omega)]
        exact ⟨rfl, rfl⟩
set_option maxHeartbeats 400000 in
theorem join_long (ao : Option Addr) (m c : Nat) (l : List UInt8) (w : World) (hb : Bytes w ao m c l) (hm : m ≤ maxLen) (h1 : 0 < m) (hl : l.head? ≠ some 128) (hv : 18446744073709551616 ≤ Vq.val l) :
    Calls Try.prog 85 #[.slice ao m c] w fun e w' => e = .returned (.tuple #[.int .u64 0, .int .i64 4]) ∧ w' = w := by
  unfold maxLen at hm
  rcases hb.norm with ⟨rfl, rfl⟩ | ⟨b, off, rfl, h0, hcell⟩
  · omega
  · have hc : w.cell? ⟨b, off, none⟩ = some (.int .u8 ((l.getD 0 0).toNat : Int)) := hcell 0 h0
    have hne : (((l.getD 0 0).toNat : Int) == 128) = false := by
      rw [beq_eq_false_iff_ne]
      intro e
      apply hl
      cases l with
      | nil => have := hb.len; simp at this; omega
      | cons x t =>
        have e2 : x.toNat = 128 := by simp at e; omega
        simp only [List.head?_cons, Option.some.injEq]
        exact UInt8.toNat_inj.1 e2
    generalize ((l.getD 0 0).toNat : Int) = x0 at hc hne
    have hp : (0 : Int) < (m : Int) := by omega
    go_enter Try.func85, Try.ntmps85
    go_wp2
    go_loop [4, 13] (fun n i => ∃ k : Nat, k ≤ m ∧ i = .int .i64 (k : Int) ∧ Vq.val (l.take k) < 18446744073709551616 ∧ n = .int .u64 ((Vq.val (l.take k) : Nat) : Int)) (fun _ i => m - (intOf i).toNat)
    case atStart => exact ⟨0, Nat.zero_le _, rfl, by simp [Vq.val], rfl⟩
    case round =>
      obtain ⟨k, hk, rfl, hn64, rfl⟩ := hrel
      have hlt : k < m := by
        apply Classical.byContradiction
        intro hn
        rw [List.take_of_length_le (by rw [hb.len]; omega)] at hn64
        omega
      have hck := hcell k hlt
      have hkl : k < l.length := by rw [hb.len]; exact hlt
      have HS : Hid (Vq.val (l.take (k + 1)) = Vq.val (l.take k) * 128 + (l.getD k 0).toNat % 128) := Vq.val_take_succ hkl
      have hx := (l.getD k 0).toNat_lt
      generalize (l.getD k 0).toNat = x at hck HS hx
      generalize Vq.val (l.take k) = n at HS hn64
      by_cases hsm : n ≤ 144115188075855871
      · have hand := and127 x (by omega)
        have hor := or_low n (x % 128) (by omega) (by omega)
        have hx1 : x % 128 < 128 := by omega
        generalize hy : x % 128 = y at hand hor HS hx1
        clear hcell hy
        go_wp2
        go_round
        case rel => exact ⟨k + 1, by omega, by go_num, by rw [HS.out]; omega, by rw [HS.out]; go_num⟩
        case measure => simp [intOf]; omega
      · have hbig : 144115188075855871 < (n : Int) := by omega
        clear hcell
        go_wp2
        go_ret2
        exact ⟨rfl, rfl⟩
end Go.Proofs.Ythdhnilfkpbmpaa
