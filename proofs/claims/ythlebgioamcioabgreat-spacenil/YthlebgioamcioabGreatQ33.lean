/-
  What vlq.span and vlq.join come to: where the first number's bytes end, and which number bytes tell. They read alone.
-/
import Derived.Test.YthlebgioamcioabGreatQ02
import Derived.Laws.Bits64b
namespace Go.Proofs.YthlebgioamcioabGreat
set_option maxRecDepth 100000
open Go.RowKit

/-- Where bytes lie: nowhere, since there are none; or at an address. -/
theorem Bytes.norm {w : World} {ao : Option Addr} {m c : Nat} {l : List UInt8} (h : Bytes w ao m c l) :
    (m = 0 ∧ l = []) ∨ ∃ b off, ao = some ⟨b, off, .none⟩ ∧ 0 < m ∧ ∀ j, j < m → w.cell? ⟨b, off + j, .none⟩ = some (.int .u8 ((l.getD j 0).toNat : Int)) := by
  by_cases h0 : m = 0
  · exact .inl ⟨h0, List.eq_nil_of_length_eq_zero (h.len.trans h0)⟩
  · right
    cases ao with
    | none => exact absurd (h.none rfl).1 h0
    | some ad =>
      obtain ⟨b, off, spot⟩ := ad
      have hg : ∀ j, j < m → w.cell? ((⟨b, off, spot⟩ : Addr).add j) = some (.int .u8 ((l.getD j 0).toNat : Int)) := by
        intro j hj
        refine h.cells _ rfl j _ ?_
        have hj' : j < l.length := by rw [h.len]; exact hj
        simp [bs, hj']
      have hspot : spot = .none := by simpa [Addr.add] using World.cell?_spot (hg 0 (by omega))
      subst hspot
      exact ⟨b, off, rfl, by omega, fun j hj => by have := hg j hj; rwa [Addr.add_lit] at this⟩

set_option maxHeartbeats 400000 in
theorem span_no (ao : Option Addr) (m c : Nat) (l : List UInt8) (w : World) (hb : Bytes w ao m c l) (hm : m ≤ maxLen) (hl : ∀ x ∈ l, 128 ≤ x.toNat) :
    Calls Tryz.prog 318 #[.slice ao m c] w fun e w' => e = .returned (.tuple #[.int .i64 0, .bool false]) ∧ w' = w := by
  unfold maxLen at hm
  rcases hb.norm with ⟨rfl, rfl⟩ | ⟨b, off, rfl, h0, hcell⟩
  · go_enter Tryz.func318, Tryz.ntmps318
    go_wp2
    refine wp_loop_rounds 1 ?_
    rw [rounds_succ]
    go_wp2
    go_ret2
    exact ⟨rfl, rfl⟩
  · go_enter Tryz.func318, Tryz.ntmps318
    go_wp2
    go_loop [8] (fun i => ∃ k : Nat, k ≤ m ∧ i = .int .i64 (k : Int)) (fun i => m - (intOf i).toNat)
    case atStart => exact ⟨0, Nat.zero_le _, rfl⟩
    case round =>
      obtain ⟨k, hk, rfl⟩ := hrel
      by_cases hlt : k < m
      · have hc := hcell k hlt
        have hge : 128 ≤ ((l.getD k 0).toNat : Int) := by
          have hj : k < l.length := by rw [hb.len]; exact hlt
          have := hl (l.getD k 0) (by simp [List.getD, hj])
          omega
        generalize ((l.getD k 0).toNat : Int) = x at hc hge
        clear hcell
        go_wp2
        go_round
        case rel => exact ⟨k + 1, by omega, by go_num⟩
        case measure => simp [intOf]; omega
      · clear hcell
        go_wp2
        go_ret2
        exact ⟨rfl, rfl⟩

set_option maxHeartbeats 400000 in
theorem span_yes (ao : Option Addr) (m c : Nat) (l : List UInt8) (p : Nat) (w : World) (hb : Bytes w ao m c l) (hm : m ≤ maxLen) (hp : p < m) (hl : ∀ j, j < p → 128 ≤ (l.getD j 0).toNat) (hx : (l.getD p 0).toNat < 128) :
    Calls Tryz.prog 318 #[.slice ao m c] w fun e w' => e = .returned (.tuple #[.int .i64 ((p + 1 : Nat) : Int), .bool true]) ∧ w' = w := by
  unfold maxLen at hm
  rcases hb.norm with ⟨rfl, rfl⟩ | ⟨b, off, rfl, h0, hcell⟩
  · omega
  · go_enter Tryz.func318, Tryz.ntmps318
    go_wp2
    go_loop [8] (fun i => ∃ k : Nat, k ≤ p ∧ i = .int .i64 (k : Int)) (fun i => m - (intOf i).toNat)
    case atStart => exact ⟨0, Nat.zero_le _, rfl⟩
    case round =>
      obtain ⟨k, hk, rfl⟩ := hrel
      have hc := hcell k (by omega)
      by_cases hlt : k < p
      · have hge : 128 ≤ ((l.getD k 0).toNat : Int) := by have := hl k hlt; omega
        have hkm : k < m := by omega
        generalize ((l.getD k 0).toNat : Int) = x at hc hge
        clear hcell
        go_wp2
        go_round
        case rel => exact ⟨k + 1, by omega, by go_num⟩
        case measure => simp [intOf]; omega
      · obtain rfl : k = p := by omega
        have hge : ((l.getD k 0).toNat : Int) < 128 := by omega
        generalize ((l.getD k 0).toNat : Int) = x at hc hge
        clear hcell
        go_wp2
        go_ret2
        exact ⟨rfl, rfl⟩

theorem or_low (n y : Nat) (hn : n ≤ 144115188075855871) (hy : y < 128) : bits .or .u64 ((n : Int) * 128) (y : Int) = (n : Int) * 128 + (y : Int) := by
  have h := bits_or_u64_nat (n * 128) y (by omega) (by omega)
  have e := Nat.two_pow_add_eq_or_of_lt (i := 7) (b := y) (by omega) n
  rw [Nat.mul_comm n 128] at h
  rw [show (2 : Nat) ^ 7 = 128 from rfl] at e
  rw [← e] at h
  have e2 : ((n : Int) * 128) = ((128 * n : Nat) : Int) := by omega
  rw [e2, h]
  omega

set_option maxHeartbeats 400000 in
theorem join_form (ao : Option Addr) (m c : Nat) (l : List UInt8) (w : World) (hb : Bytes w ao m c l) (hm : m ≤ maxLen) (hl : l.head? = some 128) :
    Calls Tryz.prog 319 #[.slice ao m c] w fun e w' => e = .returned (.tuple #[.int .u64 0, .int .i64 3]) ∧ w' = w := by
  unfold maxLen at hm
  rcases hb.norm with ⟨rfl, rfl⟩ | ⟨b, off, rfl, h0, hcell⟩
  · simp at hl
  · have hc : w.cell? ⟨b, off, none⟩ = some (.int .u8 128) := by
      have := hcell 0 h0
      cases l with
      | nil => simp at hl
      | cons x t =>
        simp only [List.head?_cons, Option.some.injEq] at hl
        subst hl
        exact this
    have hp : (0 : Int) < (m : Int) := by omega
    clear hcell
    go_enter Tryz.func319, Tryz.ntmps319
    go_wp2
    go_ret2
    exact ⟨rfl, rfl⟩

set_option maxHeartbeats 400000 in
theorem join_ok (ao : Option Addr) (m c : Nat) (l : List UInt8) (w : World) (hb : Bytes w ao m c l) (hm : m ≤ maxLen) (h1 : 0 < m) (hl : l.head? ≠ some 128) (hv : Vq.val l < 18446744073709551616) :
    Calls Tryz.prog 319 #[.slice ao m c] w fun e w' => e = .returned (.tuple #[.int .u64 (Vq.val l : Nat), .int .i64 0]) ∧ w' = w := by
  unfold maxLen at hm
  rcases hb.norm with ⟨rfl, rfl⟩ | ⟨b, off, rfl, h0, hcell⟩
  · omega
  · have hc : w.cell? ⟨b, off, none⟩ = some (.int .u8 ((l.getD 0 0).toNat : Int)) := hcell 0 h0
    have hne : (((l.getD 0 0).toNat : Int) == 128) = false := by
      rw [beq_eq_false_iff_ne]
      intro e
      apply hl
      cases l with
      | nil => have := hb.len; simp at this; omega
      | cons x t =>
        have e2 : x.toNat = 128 := by simp at e; omega
        simp only [List.head?_cons, Option.some.injEq]
        exact UInt8.toNat_inj.1 e2
    generalize ((l.getD 0 0).toNat : Int) = x0 at hc hne
    have hp : (0 : Int) < (m : Int) := by omega
    go_enter Tryz.func319, Tryz.ntmps319
    go_wp2
    go_loop [4, 13] (fun n i => ∃ k : Nat, k ≤ m ∧ i = .int .i64 (k : Int) ∧ n = .int .u64 ((Vq.val (l.take k) : Nat) : Int)) (fun _ i => m - (intOf i).toNat)
    case atStart => exact ⟨0, Nat.zero_le _, rfl, rfl⟩
    case round =>
      obtain ⟨k, hk, rfl, rfl⟩ := hrel
      by_cases hlt : k < m
      · have hck := hcell k hlt
        have hkl : k < l.length := by rw [hb.len]; exact hlt
        have hsm : Vq.val (l.take k) ≤ 144115188075855871 := Vq.val_take_small hkl hv
        have HS : Hid (Vq.val (l.take (k + 1)) = Vq.val (l.take k) * 128 + (l.getD k 0).toNat % 128) := Vq.val_take_succ hkl
        have hx := (l.getD k 0).toNat_lt
        generalize (l.getD k 0).toNat = x at hck HS hx
        generalize Vq.val (l.take k) = n at HS hsm
        have hand := and127 x (by omega)
        have hor := or_low n (x % 128) (by omega) (by omega)
        have hx1 : x % 128 < 128 := by omega
        generalize hy : x % 128 = y at hand hor HS hx1
        clear hcell hy
        go_wp2
        go_round
        case rel => exact ⟨k + 1, by omega, by go_num, by rw [HS.out]; go_num⟩
        case measure => simp [intOf]; omega
      · clear hcell
        go_wp2
        go_ret2
        rw [List.take_of_length_le (by rw [hb.len]; omega)]
        exact ⟨rfl, rfl⟩
set_option maxHeartbeats 400000 in
theorem join_long (ao : Option Addr) (m c : Nat) (l : List UInt8) (w : World) (hb : Bytes w ao m c l) (hm : m ≤ maxLen) (h1 : 0 < m) (hl : l.head? ≠ some 128) (hv : 18446744073709551616 ≤ Vq.val l) :
    Calls Tryz.prog 319 #[.slice ao m c] w fun e w' => e = .returned (.tuple #[.int .u64 0, .int .i64 4]) ∧ w' = w := by
  unfold maxLen at hm
  rcases hb.norm with ⟨rfl, rfl⟩ | ⟨b, off, rfl, h0, hcell⟩
  · omega
  · have hc : w.cell? ⟨b, off, none⟩ = some (.int .u8 ((l.getD 0 0).toNat : Int)) := hcell 0 h0
    have hne : (((l.getD 0 0).toNat : Int) == 128) = false := by
      rw [beq_eq_false_iff_ne]
      intro e
      apply hl
      cases l with
      | nil => have := hb.len; simp at this; omega
      | cons x t =>
        have e2 : x.toNat = 128 := by simp at e; omega
        simp only [List.head?_cons, Option.some.injEq]
        exact UInt8.toNat_inj.1 e2
    generalize ((l.getD 0 0).toNat : Int) = x0 at hc hne
    have hp : (0 : Int) < (m : Int) := by omega
    go_enter Tryz.func319, Tryz.ntmps319
    go_wp2
    go_loop [4, 13] (fun n i => ∃ k : Nat, k ≤ m ∧ i = .int .i64 (k : Int) ∧ Vq.val (l.take k) < 18446744073709551616 ∧ n = .int .u64 ((Vq.val (l.take k) : Nat) : Int)) (fun _ i => m - (intOf i).toNat)
    case atStart => exact ⟨0, Nat.zero_le _, rfl, by simp [Vq.val], rfl⟩
    case round =>
      obtain ⟨k, hk, rfl, hn64, rfl⟩ := hrel
      have hlt : k < m := by
        apply Classical.byContradiction
        intro hn
        rw [List.take_of_length_le (by rw [hb.len]; omega)] at hn64
        omega
      have hck := hcell k hlt
      have hkl : k < l.length := by rw [hb.len]; exact hlt
      have HS : Hid (Vq.val (l.take (k + 1)) = Vq.val (l.take k) * 128 + (l.getD k 0).toNat % 128) := Vq.val_take_succ hkl
      have hx := (l.getD k 0).toNat_lt
      generalize (l.getD k 0).toNat = x at hck HS hx
      generalize Vq.val (l.take k) = n at HS hn64
      by_cases hsm : n ≤ 144115188075855871
      · have hand := and127 x (by omega)
        have hor := or_low n (x % 128) (by omega) (by omega)
        have hx1 : x % 128 < 128 := by omega
        generalize hy : x % 128 = y at hand hor HS hx1
        clear hcell hy
        go_wp2
        go_round
        case rel => exact ⟨k + 1, by omega, by go_num, by rw [HS.out]; omega, by rw [HS.out]; go_num⟩
        case measure => simp [intOf]; omega
      · have hbig : 144115188075855871 < (n : Int) := by omega
        clear hcell
        go_wp2
        go_ret2
        exact ⟨rfl, rfl⟩
end Go.Proofs.YthlebgioamcioabGreat

/-
  What vlq.Take comes to. It reads alone.
-/
namespace Go.Proofs.YthlebgioamcioabGreat
set_option maxRecDepth 100000
open Go.RowKit

set_option maxHeartbeats 400000 in
theorem take_arg (ao : Option Addr) (m c : Nat) (a : Int) (w : World) (hm : m ≤ maxLen) (ha : a < 0 ∨ (m : Int) < a) :
    Calls Tryz.prog 306 #[.slice ao m c, .int .i64 a] w fun e w' => e = .returned (.tuple #[.int .u64 0, .int .i64 0, .int .i64 1]) ∧ w' = w := by
  unfold maxLen at hm
  rcases ha with ha | ha
  · go_enter Tryz.func306, Tryz.ntmps306
    go_wp2
    go_ret3
    exact ⟨rfl, rfl⟩
  · have ha' : ¬ a < 0 := by omega
    go_enter Tryz.func306, Tryz.ntmps306
    go_wp2
    go_ret3
    exact ⟨rfl, rfl⟩

theorem Bytes.drop {w : World} {ao : Option Addr} {m c : Nat} {l : List UInt8} (h : Bytes w ao m c l) (a : Nat) (ha : a ≤ m) :
    Bytes w (Option.map (fun x => x.add a) ao) (m - a) (c - a) (l.drop a) :=
  ⟨by rw [List.length_drop, h.len], by have := h.room; omega,
   (fun hn => by
    cases ao with
    | none => have := h.none rfl; omega
    | some ad => cases hn),
   fun ad had j u hu => by
    cases ao with
    | none => cases had
    | some x =>
      obtain rfl := Option.some.inj had
      rw [bs, List.map_drop, List.getElem?_drop] at hu
      have := h.cells x rfl (a + j) u hu
      rwa [Addr.add_add]⟩

theorem Bytes.take {w : World} {ao : Option Addr} {m c : Nat} {l : List UInt8} (h : Bytes w ao m c l) (k : Nat) (hk : k ≤ m) : Bytes w ao k c (l.take k) :=
  ⟨by rw [List.length_take, h.len]; omega, by have := h.room; omega, (fun hn => by have := h.none hn; omega),
   fun ad had j u hu => by
    refine h.cells ad had j u ?_
    rw [bs, List.map_take, List.getElem?_take] at hu
    split at hu
    · exact hu
    · cases hu⟩

set_option maxHeartbeats 400000 in
theorem take_short (ao : Option Addr) (m c : Nat) (l : List UInt8) (a : Nat) (w : World) (hb : Bytes w ao m c l) (hc : c ≤ maxLen) (ha : a ≤ m) (hl : ∀ x ∈ l.drop a, 128 ≤ x.toNat) :
    Calls Tryz.prog 306 #[.slice ao m c, .int .i64 (a : Int)] w fun e w' => e = .returned (.tuple #[.int .u64 0, .int .i64 0, .int .i64 2]) ∧ w' = w := by
  have hc' := hc
  have hr := hb.room
  unfold maxLen at hc
  have h0 : ¬ (a : Int) < 0 := by omega
  have h1 : ¬ (m : Int) < (a : Int) := by omega
  by_cases hca : c = a
  · subst hca
    obtain rfl : m = c := by omega
    have hd : Bytes w ao 0 0 [] := ⟨rfl, Nat.le_refl _, fun _ => ⟨rfl, rfl⟩, fun _ _ j u hu => by simp [bs] at hu⟩
    go_enter Tryz.func306, Tryz.ntmps306
    go_wp2_with fail
    refine (span_no ao 0 0 [] _ hd (Nat.zero_le _) (by simp)).mono ?_
    rintro e w' ⟨rfl, rfl⟩
    go_wp2_with fail
    go_ret3
    exact ⟨rfl, rfl⟩
  · have hd := hb.drop a ha
    go_enter Tryz.func306, Tryz.ntmps306
    go_wp2_with fail
    refine (span_no _ _ _ _ _ hd (by omega) hl).mono ?_
    rintro e w' ⟨rfl, rfl⟩
    go_wp2_with fail
    go_ret3
    exact ⟨rfl, rfl⟩

/-- The bytes of the number at a place. -/
abbrev vseg (l : List UInt8) (a p : Nat) : List UInt8 := (l.drop a).take (p + 1)

set_option maxHeartbeats 400000 in
theorem take_form (ao : Option Addr) (m c : Nat) (l : List UInt8) (a p : Nat) (w : World) (hb : Bytes w ao m c l) (hc : c ≤ maxLen) (ha : a + p < m) (hl : ∀ j, j < p → 128 ≤ ((l.drop a).getD j 0).toNat) (hx : ((l.drop a).getD p 0).toNat < 128)
    (hh : (vseg l a p).head? = some 128) :
    Calls Tryz.prog 306 #[.slice ao m c, .int .i64 (a : Int)] w fun e w' => e = .returned (.tuple #[.int .u64 0, .int .i64 0, .int .i64 3]) ∧ w' = w := by
  have hr := hb.room
  have hd := hb.drop a (by omega)
  have ht := hd.take (p + 1) (by omega)
  have h0 : ¬ (a : Int) < 0 := by omega
  have h1 : ¬ (m : Int) < (a : Int) := by omega
  have hca : ¬ c = a := by omega
  have hcm := hc
  unfold maxLen at hc
  go_enter Tryz.func306, Tryz.ntmps306
  go_wp2_with fail
  refine (span_yes _ _ _ _ p _ hd (by omega) (by omega) hl hx).mono ?_
  rintro e w' ⟨rfl, rfl⟩
  go_wp2_with fail
  refine (join_form _ _ _ _ _ ht (by omega) hh).mono ?_
  rintro e w' ⟨rfl, rfl⟩
  go_wp2_with fail
  go_ret3
  exact ⟨rfl, rfl⟩
set_option maxHeartbeats 400000 in
theorem take_long (ao : Option Addr) (m c : Nat) (l : List UInt8) (a p : Nat) (w : World) (hb : Bytes w ao m c l) (hc : c ≤ maxLen) (ha : a + p < m) (hl : ∀ j, j < p → 128 ≤ ((l.drop a).getD j 0).toNat) (hx : ((l.drop a).getD p 0).toNat < 128)
    (hh : (vseg l a p).head? ≠ some 128) (hv : 18446744073709551616 ≤ Vq.val (vseg l a p)) :
    Calls Tryz.prog 306 #[.slice ao m c, .int .i64 (a : Int)] w fun e w' => e = .returned (.tuple #[.int .u64 0, .int .i64 0, .int .i64 4]) ∧ w' = w := by
  have hr := hb.room
  have hd := hb.drop a (by omega)
  have ht := hd.take (p + 1) (by omega)
  have h0 : ¬ (a : Int) < 0 := by omega
  have h1 : ¬ (m : Int) < (a : Int) := by omega
  have hca : ¬ c = a := by omega
  have hcm := hc
  unfold maxLen at hc
  go_enter Tryz.func306, Tryz.ntmps306
  go_wp2_with fail
  refine (span_yes _ _ _ _ p _ hd (by omega) (by omega) hl hx).mono ?_
  rintro e w' ⟨rfl, rfl⟩
  go_wp2_with fail
  refine (join_long _ _ _ _ _ ht (by omega) (by omega) hh hv).mono ?_
  rintro e w' ⟨rfl, rfl⟩
  go_wp2_with fail
  go_ret3
  exact ⟨rfl, rfl⟩
set_option maxHeartbeats 400000 in
theorem take_ok (ao : Option Addr) (m c : Nat) (l : List UInt8) (a p : Nat) (w : World) (hb : Bytes w ao m c l) (hc : c ≤ maxLen) (ha : a + p < m) (hl : ∀ j, j < p → 128 ≤ ((l.drop a).getD j 0).toNat) (hx : ((l.drop a).getD p 0).toNat < 128)
    (hh : (vseg l a p).head? ≠ some 128) (hv : Vq.val (vseg l a p) < 18446744073709551616) :
    Calls Tryz.prog 306 #[.slice ao m c, .int .i64 (a : Int)] w fun e w' => e = .returned (.tuple #[.int .u64 (Vq.val (vseg l a p) : Nat), .int .i64 ((a + p + 1 : Nat) : Int), .int .i64 0]) ∧ w' = w := by
  have hr := hb.room
  have hd := hb.drop a (by omega)
  have ht := hd.take (p + 1) (by omega)
  have h0 : ¬ (a : Int) < 0 := by omega
  have h1 : ¬ (m : Int) < (a : Int) := by omega
  have hca : ¬ c = a := by omega
  have hcm := hc
  unfold maxLen at hc
  go_enter Tryz.func306, Tryz.ntmps306
  go_wp2_with fail
  refine (span_yes _ _ _ _ p _ hd (by omega) (by omega) hl hx).mono ?_
  rintro e w' ⟨rfl, rfl⟩
  go_wp2_with fail
  refine (join_ok _ _ _ _ _ ht (by omega) (by omega) hh hv).mono ?_
  rintro e w' ⟨rfl, rfl⟩
  go_wp2_with fail
  go_ret3
  exact ⟨rfl, rfl⟩
/-- WHAT TAKE COMES TO, whatever the bytes and the place: an error, or the number whose bytes stand there. -/
def Took (l : List UInt8) (a : Int) (e : Ending) : Prop :=
  (∃ k : Int, k ≠ 0 ∧ e = .returned (.tuple #[.int .u64 0, .int .i64 0, .int .i64 k])) ∨
  ∃ n p : Nat, a = (n : Int) ∧ n + p < l.length ∧ Vq.Whole (vseg l n p) ∧ Vq.val (vseg l n p) < 18446744073709551616 ∧ e = .returned (.tuple #[.int .u64 (Vq.val (vseg l n p) : Nat), .int .i64 ((n + p + 1 : Nat) : Int), .int .i64 0])

theorem first_low (l : List UInt8) : (∀ x ∈ l, 128 ≤ x.toNat) ∨ ∃ p, p < l.length ∧ (∀ j, j < p → 128 ≤ (l.getD j 0).toNat) ∧ (l.getD p 0).toNat < 128 := by
  induction l with
  | nil => left; simp
  | cons c l ih =>
    by_cases hc : c.toNat < 128
    · right; exact ⟨0, by simp, fun j hj => by omega, by simpa using hc⟩
    · rcases ih with h | ⟨p, hp, h1, h2⟩
      · left
        intro x hx
        rcases List.mem_cons.1 hx with rfl | hx
        · omega
        · exact h x hx
      · right
        refine ⟨p + 1, by simp; omega, ?_, by simpa using h2⟩
        intro j hj
        cases j with
        | zero => simp; omega
        | succ j => simpa using h1 j (by omega)

theorem whole_seg {l : List UInt8} {a p : Nat} (hp : p < (l.drop a).length) (h1 : ∀ j, j < p → 128 ≤ ((l.drop a).getD j 0).toNat) (h2 : ((l.drop a).getD p 0).toNat < 128) (hh : (vseg l a p).head? ≠ some 128) : Vq.Whole (vseg l a p) := by
  refine ⟨(l.drop a).take p, (l.drop a).getD p 0, ?_, ?_, h2, hh⟩
  · rw [vseg, List.take_succ_eq_append_getElem hp]
    simp only [List.getD, List.getElem?_eq_getElem hp, Option.getD_some]
  · intro x hx
    obtain ⟨j, hj, rfl⟩ := List.getElem_of_mem hx
    have hj' : j < p := by rw [List.length_take] at hj; omega
    have := h1 j hj'
    rw [List.getElem_take]
    simpa only [List.getD, List.getElem?_eq_getElem (show j < (l.drop a).length by omega), Option.getD_some] using this

theorem take_any (ao : Option Addr) (m c : Nat) (l : List UInt8) (a : Int) (w : World) (hb : Bytes w ao m c l) (hc : c ≤ maxLen) :
    Calls Tryz.prog 306 #[.slice ao m c, .int .i64 a] w fun e w' => Took l a e ∧ w' = w := by
  have hr := hb.room
  by_cases ha : a < 0 ∨ (m : Int) < a
  · refine (take_arg ao m c a w (by omega) ha).mono ?_
    rintro e w' ⟨rfl, rfl⟩
    exact ⟨.inl ⟨1, by omega, rfl⟩, rfl⟩
  · obtain ⟨n, rfl⟩ := Int.eq_ofNat_of_zero_le (show 0 ≤ a by omega)
    rcases first_low (l.drop n) with hn | ⟨p, hp, h1, h2⟩
    · refine (take_short ao m c l n w hb hc (by omega) hn).mono ?_
      rintro e w' ⟨rfl, rfl⟩
      exact ⟨.inl ⟨2, by omega, rfl⟩, rfl⟩
    · have hp' := hp
      rw [List.length_drop] at hp'
      have hl := hb.len
      by_cases hh : (vseg l n p).head? = some 128
      · refine (take_form ao m c l n p w hb hc (by omega) h1 h2 hh).mono ?_
        rintro e w' ⟨rfl, rfl⟩
        exact ⟨.inl ⟨3, by omega, rfl⟩, rfl⟩
      · by_cases hv : Vq.val (vseg l n p) < 18446744073709551616
        · refine (take_ok ao m c l n p w hb hc (by omega) h1 h2 hh hv).mono ?_
          rintro e w' ⟨rfl, rfl⟩
          exact ⟨.inr ⟨n, p, rfl, by omega, whole_seg hp h1 h2 hh, hv, rfl⟩, rfl⟩
        · refine (take_long ao m c l n p w hb hc (by omega) h1 h2 hh (by omega)).mono ?_
          rintro e w' ⟨rfl, rfl⟩
          exact ⟨.inl ⟨4, by omega, rfl⟩, rfl⟩
end Go.Proofs.YthlebgioamcioabGreat

