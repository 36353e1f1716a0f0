/-
  Events as plain data.
-/
import Derived.Test.YthlebgioamcioabGreatProg
import Derived.WalkKit
import Derived.Test.YthlebgioamcioabGreatQ01
namespace Go.Proofs.YthlebgioamcioabGreat
set_option maxRecDepth 100000
open Go.RowKit

/-- An event. -/
structure Ev where
  r : Int
  n : Int
  t : Int
  deps : List Int
  kind : Int
  key : List UInt8
  field : List UInt8
  value : List UInt8
  num : Int
  rr : Int
  rn : Int
def addsE (k : Int) : Bool := decide (k = 1 ∨ k = 2 ∨ k = 3 ∨ k = 5 ∨ k = 7 ∨ k = 9)
end Go.Proofs.YthlebgioamcioabGreat

/-
  What vlq.width comes to: a number's count of groups.
-/
namespace Go.Proofs.YthlebgioamcioabGreat
set_option maxRecDepth 100000
open Go.RowKit

set_option maxHeartbeats 400000 in
theorem width_any (n : Nat) (w : World) (hn : n < 18446744073709551616) :
    Calls Tryz.prog 224 #[.int .u64 (n : Int)] w fun e w' => e = .returned (.int .i64 (Vq.wd n : Nat)) ∧ w' = w := by
  go_enter Tryz.func224, Tryz.ntmps224
  go_wp2
  go_loop [0, 3] (fun x y => ∃ k : Nat, k ≤ 9 ∧ (k = 0 ∨ 128 ^ k ≤ n) ∧ x = .int .u64 ((n / 128 ^ k : Nat) : Int) ∧ y = .int .i64 ((k + 1 : Nat) : Int)) (fun x _ => (intOf x).toNat)
  case atStart => exact ⟨0, by omega, .inl rfl, by simp, rfl⟩
  case round =>
    obtain ⟨k, hk, hge, rfl, rfl⟩ := hrel
    have hm : n / 128 ^ k ≤ n := Nat.div_le_self _ _
    generalize hmk : n / 128 ^ k = m at *
    have Hmk : Hid (n / 128 ^ k = m) := hmk
    clear hmk
    have Hge : Hid (k = 0 ∨ 128 ^ k ≤ n) := hge
    clear hge
    by_cases h : m ≤ 127
    · have h1 : ¬ (127 : Int) < (m : Int) := by omega
      go_wp2
      go_ret
      exact ⟨by rw [Vq.wid_end hk Hge.out Hmk.out h]; rfl, rfl⟩
    · have h1 : (127 : Int) < (m : Int) := by omega
      go_wp2
      go_round
      case rel =>
        obtain ⟨a, b, c⟩ := Vq.wid_step hn Hmk.out h
        exact ⟨k + 1, a, .inr b, by rw [c]; go_num, by go_num⟩
      case measure => simp [intOf]; omega
end Go.Proofs.YthlebgioamcioabGreat

/-
  What vlq.groups comes to: a new list that holds just a number's bytes; nothing that was there has turned.
-/
namespace Go.Proofs.YthlebgioamcioabGreat
set_option maxRecDepth 100000
open Go.RowKit

/-- Bytes as they lie in memory. -/
def bs (l : List UInt8) : List Value := l.map (fun c => Value.int .u8 (c.toNat : Int))
theorem bs_length (l : List UInt8) : (bs l).length = l.length := by simp [bs]
theorem info5 : (Tryz.prog.info? 5).map (fun i => (i.zero, i.size, i.bytes)) = some (some (.int .u8 0), 1, 1) := by kernel_rfl

/-- What the loop has laid behind k rounds. -/
def laidTo (n k : Nat) : List Value := bs ((Vq.hi (Vq.wd n) n).take k) ++ List.replicate (Vq.wd n - k) (Value.int .u8 0)

theorem laid_cell {w wr : World} {n k : Nat} (h : wr.ownsRow w.heap.size 5 1 (.slice (some ⟨w.heap.size, 0, none⟩) (Vq.wd n) (Vq.wd n)) (Vq.wd n) (laidTo n k)) (hk : k < Vq.wd n) :
    wr.cell? ⟨w.heap.size, k, none⟩ = some (.int .u8 0) := by
  rw [h.cellAt k (by omega), laidTo, List.getElem?_append_right (by rw [bs_length, List.length_take]; exact Nat.min_le_left _ _), bs_length, List.length_take, Vq.hi_length, Nat.min_eq_left (by omega), Nat.sub_self,
    List.getElem?_replicate, if_pos (by omega)]

theorem last_cell {w wr : World} {n : Nat} (h : wr.ownsRow w.heap.size 5 1 (.slice (some ⟨w.heap.size, 0, none⟩) (Vq.wd n) (Vq.wd n)) (Vq.wd n) (laidTo n (Vq.wd n))) :
    wr.cell? ⟨w.heap.size, Vq.wd n - 1, none⟩ = some (.int .u8 (128 + (n : Int) % 128)) := by
  have hp := Vq.wd_pos n
  rw [h.cellAt _ (by omega), laidTo, List.getElem?_append_left (by rw [bs_length, List.length_take, Vq.hi_length]; omega), bs, List.getElem?_map, List.getElem?_take, if_pos (by omega), Vq.hi_get _ _ _ (by omega)]
  have e : Vq.wd n - 1 - (Vq.wd n - 1) = 0 := by omega
  rw [e, Option.map_some, Vq.toNat_ofNat_lt _ (by omega)]
  simp

theorem or128 (x : Nat) (h : x < 256) : bits .or .u8 (x : Int) 128 = ((128 + x % 128 : Nat) : Int) :=
  (by decide +kernel : ∀ c : Fin 256, bits .or .u8 (c.val : Int) 128 = ((128 + c.val % 128 : Nat) : Int)) ⟨x, h⟩
theorem and127 (x : Nat) (h : x < 256) : bits .and .u8 (x : Int) 127 = ((x % 128 : Nat) : Int) :=
  (by decide +kernel : ∀ c : Fin 256, bits .and .u8 (c.val : Int) 127 = ((c.val % 128 : Nat) : Int)) ⟨x, h⟩

theorem group_byte (n j : Nat) : bits .or .u8 ((n : Int) / 2 ^ (7 * j) % 256) 128 = ((UInt8.ofNat (128 + n / 128 ^ j % 128)).toNat : Int) := by
  have e : (2 : Nat) ^ (7 * j) = 128 ^ j := by rw [Nat.pow_mul]
  have h : (n : Int) / 2 ^ (7 * j) % 256 = ((n / 128 ^ j % 256 : Nat) : Int) := by
    rw [← e]; simp
  rw [h, or128 _ (by omega), Vq.toNat_ofNat_lt _ (by omega)]
  congr 1
  omega

theorem laid_step {n k : Nat} (hk : k < Vq.wd n) : (laidTo n k).set k (.int .u8 (bits .or .u8 ((n : Int) / 2 ^ (7 * (Vq.wd n - 1 - k)) % 256) 128)) = laidTo n (k + 1) := by
  rw [group_byte]
  have hl : (bs ((Vq.hi (Vq.wd n) n).take k)).length = k := by rw [bs_length, List.length_take, Vq.hi_length]; omega
  rw [laidTo, List.set_append_right _ _ (by omega), hl, Nat.sub_self]
  obtain ⟨m, hm⟩ : ∃ m, Vq.wd n - k = m + 1 := ⟨Vq.wd n - k - 1, by omega⟩
  have hm' : Vq.wd n - (k + 1) = m := by omega
  have hs : (Vq.hi (Vq.wd n) n).take (k + 1) = (Vq.hi (Vq.wd n) n).take k ++ [UInt8.ofNat (128 + n / 128 ^ (Vq.wd n - 1 - k) % 128)] := by
    have hkl : k < (Vq.hi (Vq.wd n) n).length := by rw [Vq.hi_length]; exact hk
    rw [List.take_succ_eq_append_getElem hkl]
    congr 2
    have := Vq.hi_get (Vq.wd n) n k hk
    rw [List.getElem?_eq_getElem hkl] at this
    exact Option.some.inj this
  rw [laidTo, hs, hm, hm', List.replicate_succ]
  simp [bs]

theorem laid_zero {n : Nat} : laidTo n 0 = List.replicate (Vq.wd n) (.int .u8 0) := by simp [laidTo, bs]

theorem laid_end {n : Nat} : (laidTo n (Vq.wd n)).set (Vq.wd n - 1) (.int .u8 (bits .and .u8 (128 + (n : Int) % 128) 127)) = bs (Vq.num n) := by
  have h : (128 + (n : Int) % 128) = ((128 + n % 128 : Nat) : Int) := by simp
  rw [h, and127 _ (by omega)]
  have hl : (Vq.hi (Vq.wd n) n).take (Vq.wd n) = Vq.hi (Vq.wd n) n := List.take_of_length_le (by rw [Vq.hi_length]; exact Nat.le_refl _)
  rw [laidTo, hl, Nat.sub_self, List.replicate_zero, List.append_nil, ← Vq.num_set, bs, bs, List.map_set, Vq.toNat_ofNat_lt _ (by omega)]
  congr 3
  omega

set_option maxHeartbeats 400000 in
theorem groups_any (n : Nat) (w : World) (hn : n < 18446744073709551616) :
    Calls Tryz.prog 178 #[.int .u64 (n : Int)] w fun e w' =>
      e = .returned (.slice (some ⟨w.heap.size, 0, none⟩) (Vq.wd n) (Vq.wd n)) ∧ w'.ownsRow w.heap.size 5 1 (.slice (some ⟨w.heap.size, 0, none⟩) (Vq.wd n) (Vq.wd n)) (Vq.wd n) (bs (Vq.num n)) ∧ Below w.heap.size w w' := by
  obtain ⟨i0, hi, hz0, hz1, hz2⟩ := info_parts info5
  have hw1 := Vq.wd_pos n
  have hw2 := Vq.wd_le n
  go_enter Tryz.func178, Tryz.ntmps178
  go_wp2_with (first
    | (go_at_call 224; refine (width_any n _ hn).mono ?_; rintro e w' ⟨rfl, hw⟩; obtain rfl := hw.symm)
    | (at_make; refine wpList_make_full _ rfl _ _ 106 rfl w.heap.size 5 i0 (.int .u8 0) 1 Tryz.underlying106 hi hz0 hz1 _ _ _ _ (Vq.wd n) rfl rfl (by omega) (by omega) ?b2 ?b3 (Nat.le_refl _) ?_))
  case b2 => rw [hz2]; omega
  case b3 => unfold maxLen; omega
  intro w0 hown0 hgrow0
  go_wp2
  go_loopw [14] (fun i wr => ∃ k : Nat, k ≤ Vq.wd n ∧ i = .int .i64 (k : Int) ∧ wr.ownsRow w.heap.size 5 1 (.slice (some ⟨w.heap.size, 0, none⟩) (Vq.wd n) (Vq.wd n)) (Vq.wd n) (laidTo n k) ∧ Below w.heap.size w wr) (fun i _ => Vq.wd n - (intOf i).toNat)
  case atStart =>
    refine ⟨0, by omega, rfl, ?_, (Below.refl _ _).grown hgrow0 (Nat.le_refl _) (fun k h => by cases h)⟩
    rw [laid_zero]
    rw [← toList_madeCells_one]
    exact hown0
  case round =>
    obtain ⟨k, hk, rfl, hown, hbel⟩ := hrel
    by_cases hlt : k < Vq.wd n
    · have hc := laid_cell hown hlt
      have hf := hown.frozenAt k
      have h0 : (0 : Int) ≤ 7 * ((Vq.wd n : Int) - 1 - k) := by omega
      have h1 : 7 * ((Vq.wd n : Int) - 1 - k) ≤ 63 := by omega
      go_wp2
      go_roundw
      case rel =>
        refine ⟨k + 1, by omega, by go_num, ?_, hbel.setCell (Nat.le_refl _) _⟩
        rw [← laid_step hlt]
        exact (hown.stored k _).1
      case measure => simp [intOf]; omega
    · have hkk : k = Vq.wd n := by omega
      subst hkk
      have hc := last_cell hown
      have hf := hown.frozenAt (Vq.wd n - 1)
      go_wp2
      go_ret
      refine ⟨rfl, ?_, hbel.setCell (Nat.le_refl _) _⟩
      rw [← laid_end]
      exact (hown.stored _ _).1
end Go.Proofs.YthlebgioamcioabGreat

/-
  What vlq.Put comes to: a new list that holds the bytes that were there and a number's bytes behind; nothing that was there has turned. Asked: that the bytes are fewer than 2^47.
-/
namespace Go.Proofs.YthlebgioamcioabGreat
set_option maxRecDepth 100000
open Go.RowKit

/-- A list of bytes as a call may be handed it: nil, or an address where they lie. -/
structure Bytes (w : World) (ao : Option Addr) (m c : Nat) (l : List UInt8) : Prop where
  len : l.length = m
  room : m ≤ c
  none : ao = none → m = 0 ∧ c = 0
  cells : ∀ ad, ao = some ad → ∀ j u, (bs l)[j]? = some u → w.cell? (ad.add j) = some u

theorem Bytes.below {w w' : World} {ao : Option Addr} {m c : Nat} {l : List UInt8} {B : Nat} (h : Bytes w ao m c l) (hb : Below B w w') (hB : w.heap.size ≤ B) : Bytes w' ao m c l :=
  ⟨h.len, h.room, h.none, fun ad had j u hu => by
    have hc := h.cells ad had j u hu
    have hlt := World.block_lt_of_cell? w _ hc
    rw [hb.cell (Nat.lt_of_lt_of_le hlt hB)]
    exact hc⟩

theorem Bytes.nil (w : World) : Bytes w .none 0 0 [] := ⟨rfl, Nat.le_refl _, fun _ => ⟨rfl, rfl⟩, fun _ h => by cases h⟩

theorem Bytes.own {w : World} {base g n cap : Nat} {l : List UInt8} (h : w.ownsRow base 5 1 (.slice (some ⟨g, 0, .none⟩) n cap) n (bs l)) : Bytes w (some ⟨g, 0, .none⟩) n cap l :=
  ⟨by have := h.1; rw [bs_length] at this; omega,
   by rcases h.2 with ⟨h', _⟩ | ⟨g', cap', cur, h', _, _, hn, _⟩
      · cases h'
      · simp only [Value.slice.injEq] at h'; omega,
   (fun h => by cases h),
   fun ad had j u hu => by
    obtain rfl := Option.some.inj had
    exact h.cells rfl j u hu⟩

theorem bs_oneCell (l : List UInt8) : ∀ u ∈ bs l, u.oneCell' = true := by
  intro u hu
  obtain ⟨_, _, rfl⟩ := List.mem_map.1 hu
  rfl
theorem bs_append (a b : List UInt8) : bs (a ++ b) = bs a ++ bs b := by simp [bs]

set_option maxHeartbeats 400000 in
theorem put_any (ao : Option Addr) (m c : Nat) (l : List UInt8) (n : Nat) (w : World) (hb : Bytes w ao m c l) (hm : m ≤ 140737488355328) (hn : n < 18446744073709551616) :
    Calls Tryz.prog 116 #[.slice ao m c, .int .u64 (n : Int)] w fun e w' =>
      ∃ g, e = .returned (.slice (some ⟨g, 0, none⟩) (m + Vq.wd n) (m + Vq.wd n)) ∧ w'.ownsRow w.heap.size 5 1 (.slice (some ⟨g, 0, none⟩) (m + Vq.wd n) (m + Vq.wd n)) (m + Vq.wd n) (bs (l ++ Vq.num n)) ∧ Below w.heap.size w w' := by
  obtain ⟨i0, hi, hz0, hz1, hz2⟩ := info_parts info5
  have hw1 := Vq.wd_pos n
  have hw2 := Vq.wd_le n
  go_enter Tryz.func116, Tryz.ntmps116
  go_wp2_with fail
  refine (groups_any n _ hn).mono ?_
  rintro e w1 ⟨rfl, hown1, hbel1⟩
  have hb1 := hb.below hbel1 (Nat.le_refl _)
  go_wp2_with (first
    | (at_make; refine wpList_make_own _ rfl _ _ 106 rfl w.heap.size 5 i0 (.int .u8 0) 1 Tryz.underlying106 hi hz0 hz1 _ _ _ (m + Vq.wd n) rfl rfl (by omega) ?b2 ?b3 hbel1.size ?_))
  case b2 => rw [hz2]; omega
  case b3 => unfold maxLen; omega
  intro w2 hown2 hgrow2
  have hbel2 : Below w.heap.size w w2 := hbel1.grown hgrow2 hbel1.size (fun k h => by cases h)
  have hb2 := hb.below hbel2 (Nat.le_refl _)
  have hown12 := hown1.kept hgrow2 (.inr (by simp [Value.ownBlock]))
  go_wp2_with (first
    | (at_builtin; refine wpList_append_fits_any _ rfl (.tmp 15) (.tmp 16) 106 rfl w.heap.size 5 i0 1 Tryz.underlying106 hi hz1 w1.heap.size 0 (m + Vq.wd n) _ rfl hown2 ao m c (bs l) rfl (by rw [bs_length, hb.len]; omega) hb2.none hb2.cells (bs_oneCell _) (by omega) ?_))
  intro w3 hown3 hgrow3
  have hs1 := hbel1.size
  have hlt := (hown1.lt w.heap.size rfl).2
  have hown13 := hown12.kept hgrow3 (.inr (by simp only [Value.ownBlock, ne_eq, Option.some.injEq]; omega))
  go_wp2_with (first
    | (at_builtin; refine wpList_append_fits _ rfl (.tmp 18) (.tmp 19) 106 rfl w.heap.size 5 i0 1 Tryz.underlying106 hi hz1 w1.heap.size m (m + Vq.wd n) _ rfl hown3 ⟨w.heap.size, 0, none⟩ (Vq.wd n) (Vq.wd n) (bs (Vq.num n)) rfl (by rw [bs_length, Vq.num_length]; omega) (hown13.cells rfl) (bs_oneCell _) (by omega) ?_))
  intro w4 hown4 hgrow4
  go_wp2
  go_ret
  refine ⟨w1.heap.size, rfl, ?_, ?_⟩
  · rw [bs_append]; exact hown4
  · exact (hbel2.grown hgrow3 hbel2.size (fun k hk => by cases hk; exact hs1)).grown hgrow4 (Nat.le_trans hbel2.size hgrow3.size) (fun k hk => by cases hk; exact hs1)
end Go.Proofs.YthlebgioamcioabGreat

