/-
  What vlq.groups comes to: a new list that holds just a number's bytes; nothing that was there has turned.
-/
import Derived.Test.YthdhnilfkpbmpaaWid
namespace Go.Proofs.Ythdhnilfkpbmpaa
open Go.RowKit

/-- Bytes as they lie in memory. -/
def bs (l : List UInt8) : List Value := l.map (fun c => Value.int .u8 (c.toNat : Int))
theorem bs_length (l : List UInt8) : (bs l).length = l.length := by simp [bs]
theorem info5 : (Try.prog.info? 5).map (fun i => (i.zero, i.size, i.bytes)) = some (some (.int .u8 0), 1, 1) := by kernel_rfl

/-- What the loop has laid behind k rounds. -/
def laidTo (n k : Nat) : List Value := bs ((Vq.hi (Vq.wd n) n).take k) ++ List.replicate (Vq.wd n - k) (Value.int .u8 0)

theorem laid_cell {w wr : World} {n k : Nat} (h : wr.ownsRow w.heap.size 5 1 (.slice (some ⟨w.heap.size, 0, none⟩) (Vq.wd n) (Vq.wd n)) (Vq.wd n) (laidTo n k)) (hk : k < Vq.wd n) :
    wr.cell? ⟨w.heap.size, k, none⟩ = some (.int .u8 0) := by
  rw [h.cellAt k (by omega), laidTo, List.getElem?_append_right (by rw [bs_length, List.length_take]; exact Nat.min_le_left _ _), bs_length, List.length_take, Vq.hi_length, Nat.min_eq_left (by omega), Nat.sub_self,
    List.getElem?_replicate, if_pos (by omega)]

theorem last_cell {w wr : World} {n : Nat} (h : wr.ownsRow w.heap.size 5 1 (.slice (some ⟨w.heap.size, 0, none⟩) (Vq.wd n) (Vq.wd n)) (Vq.wd n) (laidTo n (Vq.wd n))) :
    wr.cell? ⟨w.heap.size, Vq.wd n - 1, none⟩ = some (.int .u8 (128 + (n : Int) % 128)) := by
  have hp := Vq.wd_pos n
  rw [h.cellAt _ (by omega), laidTo, List.getElem?_append_left (by rw [bs_length, List.length_take, Vq.hi_length]; omega), bs, List.getElem?_map, List.getElem?_take, if_pos (by omega), Vq.hi_get _ _ _ (by omega)]
  have e : Vq.wd n - 1 - (Vq.wd n - 1) = 0 := by omega
  rw [e, Option.map_some, Vq.toNat_ofNat_lt _ (by omega)]
  simp

theorem or128 (x : Nat) (h : x < 256) : bits .or .u8 (x : Int) 128 = ((128 + x % 128 : Nat) : Int) :=
  (by decide +kernel : ∀ c : Fin 256, bits .or .u8 (c.val : Int) 128 = ((128 + c.val % 128 : Nat) : Int)) ⟨x, h⟩
theorem and127 (x : Nat) (h : x < 256) : bits .and .u8 (x : Int) 127 = ((x % 128 : Nat) : Int) :=
  (by decide +kernel : ∀ c : Fin 256, bits .and .u8 (c.val : Int) 127 = ((c.val % 128 : Nat) : Int)) ⟨x, h⟩

theorem group_byte (n j : Nat) : bits .or .u8 ((n : Int) / 2 ^ (7 * j) % 256) 128 = ((UInt8.ofNat (128 + n / 128 ^ j % 128)).toNat : Int) := by
  have e : (2 : Nat) ^ (7 * j) = 128 ^ j := by rw [Nat.pow_mul]
  have h : (n : Int) / 2 ^ (7 * j) % 256 = ((n / 128 ^ j % 256 : Nat) : Int) := by
    rw [← e]; simp
  rw [h, or128 _ (by omega), Vq.toNat_ofNat_lt _ (by omega)]
  congr 1
  omega

theorem laid_step {n k : Nat} (hk : k < Vq.wd n) : (laidTo n k).set k (.int .u8 (bits .or .u8 ((n : Int) / 2 ^ (7 * (Vq.wd n - 1 - k)) % 256) 128)) = laidTo n (k + 1) := by
  rw [group_byte]
  have hl : (bs ((Vq.hi (Vq.wd n) n).take k)).length = k := by rw [bs_length, List.length_take, Vq.hi_length]; omega
  rw [laidTo, List.set_append_right _ _ (by omega), hl, Nat.sub_self]
  obtain ⟨m, hm⟩ : ∃ m, Vq.wd n - k = m + 1 := ⟨Vq.wd n - k - 1, by omega⟩
  have hm' : Vq.wd n - (k + 1) = m := by omega
  have hs : (Vq.hi (Vq.wd n) n).take (k + 1) = (Vq.hi (Vq.wd n) n).take k ++ [UInt8.ofNat (128 + n / 128 ^ (Vq.wd n - 1 - k) % 128)] := by
    have hkl : k < (Vq.hi (Vq.wd n) n).length := by rw [Vq.hi_length]; exact hk
    rw [List.take_succ_eq_append_getElem hkl]
    congr 2
    have := Vq.hi_get (Vq.wd n) n k hk
    rw [List.getElem?_eq_getElem hkl] at this
    exact Option.some.inj this
  rw [laidTo, hs, hm, hm', List.replicate_succ]
  simp [bs]

theorem laid_zero {n : Nat} : laidTo n 0 = List.replicate (Vq.wd n) (.int .u8 0) := by simp [laidTo, bs]

theorem laid_end {n : Nat} : (laidTo n (Vq.wd n)).set (Vq.wd n - 1) (.int .u8 (bits .and .u8 (128 + (n : Int) % 128) 127)) = bs (Vq.num n) := by
  have h : (128 + (n : Int) % 128) = ((128 + n % 128 : Nat) : Int) := by simp
  rw [h, and127 _ (by omega)]
  have hl : (Vq.hi (Vq.wd n) n).take (Vq.wd n) = Vq.hi (Vq.wd n) n := List.take_of_length_le (by rw [Vq.hi_length]; exact Nat.le_refl _)
  rw [laidTo, hl, Nat.sub_self, List.replicate_zero, List.append_nil, ← Vq.num_set, bs, bs, List.map_set, Vq.toNat_ofNat_lt _ (by omega)]
  congr 3
  omega

set_option maxHeartbeats 400000 in
theorem groups_any (n : Nat) (w : World) (hn : n < 18446744073709551616) :
    Calls Try.prog 68 #[.int .u64 (n : Int)] w fun e w' =>
      e = .returned (.slice (some ⟨w.heap.size, 0, none⟩) (Vq.wd n) (Vq.wd n)) ∧ w'.ownsRow w.heap.size 5 1 (.slice (some ⟨w.heap.size, 0, none⟩) (Vq.wd n) (Vq.wd n)) (Vq.wd n) (bs (Vq.num n)) ∧ Below w.heap.size w w' := by
  obtain ⟨i0, hi, hz0, hz1, hz2⟩ := info_parts info5
  have hw1 := Vq.wd_pos n
  have hw2 := Vq.wd_le n
  go_enter Try.func68, Try.ntmps68
  go_wp2_with (first
    | (go_at_call 75; refine (width_any n _ hn).mono ?_; rintro e w' ⟨rfl, hw⟩; obtain rfl := hw.symm)
    | (at_make; refine wpList_make_full _ rfl _ _ 54 rfl w.heap.size 5 i0 (.int .u8 0) 1 Try.underlying54 hi hz0 hz1 _ _ _ _ (Vq.wd n) rfl rfl (by omega) (by omega) ?b2 ?b3 (Nat.le_refl _) ?_))
  case b2 => rw [hz2]; omega
  case b3 => unfold maxLen; omega
  intro w0 hown0 hgrow0
  go_wp2
  go_loopw [14] (fun i wr => ∃ k : Nat, k ≤ Vq.wd n ∧ i = .int .i64 (k : Int) ∧ wr.ownsRow w.heap.size 5 1 (.slice (some ⟨w.heap.size, 0, none⟩) (Vq.wd n) (Vq.wd n)) (Vq.wd n) (laidTo n k) ∧ Below w.heap.size w wr) (fun i _ => Vq.wd n - (intOf i).toNat)
  case atStart =>
    refine ⟨0, by omega, rfl, ?_, (Below.refl _ _).grown hgrow0 (Nat.le_refl _) (fun k h => by cases h)⟩
    rw [laid_zero]
    rw [← toList_madeCells_one]
    exact hown0
  case round =>
    obtain ⟨k, hk, rfl, hown, hbel⟩ := hrel
    by_cases hlt : k < Vq.wd n
    · have hc := laid_cell hown hlt
      have hf := hown.frozenAt k
      have h0 : (0 : Int) ≤ 7 * ((Vq.wd n : Int) - 1 - k) := by omega
      have h1 : 7 * ((Vq.wd n : Int) - 1 - k) ≤ 63 := by omega
      go_wp2
      go_roundw
      case rel =>
        refine ⟨k + 1, by omega, by go_num, ?_, hbel.setCell (Nat.le_refl _) _⟩
        rw [← laid_step hlt]
        exact (hown.stored k _).1
      case measure => simp [intOf]; omega
    · have hkk : k = Vq.wd n := by omega
      subst hkk
      have hc := last_cell hown
      have hf := hown.frozenAt (Vq.wd n - 1)
      go_wp2
      go_ret
      refine ⟨rfl, ?_, hbel.setCell (Nat.le_refl _) _⟩
      rw [← laid_end]
      exact (hown.stored _ _).1
end Go.Proofs.Ythdhnilfkpbmpaa
