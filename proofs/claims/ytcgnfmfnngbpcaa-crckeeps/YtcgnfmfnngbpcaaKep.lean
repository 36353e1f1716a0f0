/-
  CrcKeeps: what goes in stays as it is, its spare room too, and what comes out is memory of its own. For every input.
-/
import Derived.Test.YtcgnfmfnngbpcaaBck
import Derived.Lib.BufferWrite
namespace Go.Proofs.Ytcgnfmfnngbpcaa
open Go.RowKit

/-- The room: a text's bytes, and 8 zeros behind them. -/
def roomy (b : ByteArray) : List UInt8 := b.data.toList ++ List.replicate 8 0
theorem roomy_length (b : ByteArray) : (roomy b).length = b.size + 8 := by
  rw [roomy, List.length_append, List.length_replicate, Array.length_toList]; rfl

theorem room_made (b : ByteArray) (w : World) (ty : TypeId) (hb : b.size ≤ 5000) :
    ∃ w', (Builtin.copy_ #[23, 9] ty #[.slice (some ⟨w.heap.size, 0, none⟩) b.size (b.size + 8), .string b]).run Try.prog (w.alloc (.cells (madeCells #[.int .u8 0] (b.size + 8)) 5)) = .ok (goInt b.size) w' ∧
      w'.ownsRow w.heap.size 5 1 (.slice (some ⟨w.heap.size, 0, none⟩) (b.size + 8) (b.size + 8)) (b.size + 8) (bs (roomy b)) ∧ Below w.heap.size w w' ∧ w'.heap.size = w.heap.size + 1 := by
  have hg : (w.alloc (.cells (madeCells #[.int .u8 0] (b.size + 8)) 5)).heap[w.heap.size]? = some (.cells (madeCells #[.int .u8 0] (b.size + 8)) 5 (0, 0)) := heap_alloc_new w _
  have hcs : (madeCells #[Value.int .u8 0] (b.size + 8)).size = b.size + 8 := size_madeCells _ _
  have hr := Lib.run_copy_row_string (P := Try.prog) _ 23 9 ty 5 w.heap.size 0 b.size (b.size + 8) b _ 5 Try.underlying23 (by kernel_rfl) hg (Nat.le_refl _) (by rw [hcs]; omega)
  have e : ((madeCells #[Value.int .u8 0] (b.size + 8)).toList.take 0 ++ Lib.byteCells b.data.toList ++ (madeCells #[Value.int .u8 0] (b.size + 8)).toList.drop (0 + b.size)).toArray = (bs (roomy b)).toArray := by
    rw [toList_madeCells_one, List.take_zero, List.nil_append, Nat.zero_add, List.drop_replicate, roomy, bs_append]
    congr 2
    rw [bs, List.map_replicate]
    congr 1
    omega
  rw [e] at hr
  have hg2 := setRow_heap _ w.heap.size _ (bs (roomy b)).toArray 5 (0, 0) hg
  refine ⟨_, hr, ⟨by rw [bs_length, roomy_length, Nat.mul_one], .inr ⟨w.heap.size, _, _, rfl, Nat.le_refl _, hg2, Nat.le_refl _, ?_, ?_, ?_⟩⟩, ?_, ?_⟩
  · unfold maxLen; omega
  · rw [List.size_toArray, bs_length, roomy_length, Nat.mul_one]
  · rw [List.take_of_length_le (by rw [List.toList_toArray, bs_length, roomy_length]; omega)]
  · exact ((Below.refl _ _).alloc (Nat.le_refl _) _).trans ⟨rfl, rfl, rfl, by simp [World.setRow], fun k hk => setRow_other _ _ k _ (by omega)⟩
  · simp [World.setRow]

theorem xor255 (x : Nat) (h : x < 256) : bits .xor .u8 (x : Int) 255 = (((UInt8.ofNat (255 - x)).toNat : Nat) : Int) := by
  rw [toNat_ofNat_lt _ (by omega)]
  exact (by decide +kernel : ∀ c : Fin 256, bits .xor .u8 (c.val : Int) 255 = ((255 - c.val : Nat) : Int)) ⟨x, h⟩

/-- The list of bytes that a list with room begins with. -/
theorem Bytes.head {w : World} {base g n cap : Nat} {l r : List UInt8} (h : w.ownsRow base 5 1 (.slice (some ⟨g, 0, .none⟩) n cap) n (bs (l ++ r))) : Bytes w (some ⟨g, 0, .none⟩) l.length cap l := by
  have hb := Bytes.own h
  have hl := hb.len
  rw [List.length_append] at hl
  have := hb.part l.length (by omega) (by simp)
  rwa [List.take_left] at this

theorem room_zero {w : World} {base g n cap : Nat} {b : ByteArray} (h : w.ownsRow base 5 1 (.slice (some ⟨g, 0, none⟩) n cap) n (bs (roomy b))) (k : Nat) (h1 : b.size ≤ k) (h2 : k < b.size + 8) : w.cell? ⟨g, k, none⟩ = some (.int .u8 0) := by
  have hn : n = b.size + 8 := by have := h.1; rw [bs_length, roomy_length] at this; omega
  have hl : b.data.toList.length = b.size := by rw [Array.length_toList]; rfl
  rw [h.cellAt k (by omega), bs, List.getElem?_map, roomy, List.getElem?_append_right (by omega), hl, List.getElem?_replicate, if_pos (by omega)]
  rfl

theorem row_cell {w : World} {base g n cap : Nat} {l : List UInt8} (h : w.ownsRow base 5 1 (.slice (some ⟨g, 0, none⟩) n cap) n (bs l)) (k : Nat) (hk : k < n) : w.cell? ⟨g, k, none⟩ = some (.int .u8 ((l.getD k 0).toNat : Int)) := by
  have hl : l.length = n := by have := h.1; rw [bs_length] at this; omega
  rw [h.cellAt k (by omega), bs, List.getElem?_map, List.getElem?_eq_getElem (by omega)]
  simp [List.getD, show k < l.length by omega]

theorem row_turn {w : World} {base g n cap : Nat} {l : List UInt8} (h : w.ownsRow base 5 1 (.slice (some ⟨g, 0, none⟩) n cap) n (bs l)) (k : Nat) (c : UInt8) :
    (w.setCell ⟨g, k, none⟩ (.int .u8 (c.toNat : Int))).ownsRow base 5 1 (.slice (some ⟨g, 0, none⟩) n cap) n (bs (l.set k c)) ∧ w.grownBy (w.setCell ⟨g, k, none⟩ (.int .u8 (c.toNat : Int))) (some g) := by
  have := h.stored k (.int .u8 (c.toNat : Int))
  rw [bs, List.map_set]
  exact this

theorem grown_trans {a b c : World} {row : Option Nat} (h : a.grownBy b row) (k : b.grownBy c row) : a.grownBy c row :=
  ⟨k.os.trans h.os, k.tape.trans h.tape, k.output.trans h.output, Nat.le_trans h.size k.size, fun i hi hr => (k.block i (Nat.lt_of_lt_of_le hi h.size) hr).trans (h.block i hi hr)⟩

theorem conv_room {w : World} {base g n cap : Nat} {b : ByteArray} (h : w.ownsRow base 5 1 (.slice (some ⟨g, 0, none⟩) n cap) n (bs (roomy b))) :
    (convert 23 9 (.slice (some ⟨g, 0, none⟩) b.size cap)).run Try.prog w = .ok (.string b) w := by
  have hl : b.data.toList.length = b.size := by rw [Array.length_toList]; rfl
  have hr := run_convert_bytes_back (P := Try.prog) w 23 9 5 ⟨g, 0, none⟩ cap b.data.toList Try.underlying23 Try.underlying5 Try.underlying9 (fun j hj => by
    refine h.cells rfl j _ ?_
    rw [roomy, bs, List.getElem?_map, List.getElem?_append_left hj, List.getElem?_eq_getElem hj]
    rfl)
  rw [hl] at hr
  exact hr

set_option maxHeartbeats 400000 in
theorem keeps_long (b : ByteArray) (w : World) (hb : b.size ≤ maxLen) (h : 5000 < b.size) :
    Calls Try.prog 7 #[.string b] w fun e w' => e = .returned (.bool true) ∧ Below w.heap.size w w' := by
  unfold maxLen at hb
  have hgt : (5000 : Int) < (b.size : Int) := by omega
  go_enter Try.func7, Try.ntmps7
  go_wp2_with fail
  refine (awake_any _).mono ?_
  rintro e w1 ⟨rfl, hb1⟩
  go_wp2_with fail
  refine (awake_any _).mono ?_
  rintro e w2 ⟨rfl, hb2⟩
  go_wp2
  go_ret
  exact ⟨rfl, hb1.trans (hb2.mono hb1.size)⟩

set_option maxHeartbeats 2000000 in
theorem keeps_walk (b : ByteArray) (w : World) (hb : b.size ≤ 5000) :
    Calls Try.prog 7 #[.string b] w fun e w' => e = .returned (.bool true) ∧ Below w.heap.size w w' := by
  obtain ⟨i0, hi, hz0, hz1, hz2⟩ := info_parts info5
  have hmk : ∀ W : World, (Instr.makeSlice 23 (.int .i64 (b.size : Int)) (.int .i64 ((b.size : Int) + 8))).run Try.prog W =
      .ok (.slice (some ⟨W.heap.size, 0, none⟩) b.size (b.size + 8)) (W.alloc (.cells (madeCells #[.int .u8 0] (b.size + 8)) 5)) := fun W => by
    have h := run_make (P := Try.prog) W 23 5 i0 (.int .u8 0) Try.underlying23 hi hz0 .i64 .i64 (b.size : Int) ((b.size : Int) + 8) (by omega) (by omega) (by rw [hz2]; omega) (by omega)
    have e : ((b.size : Int) + 8).toNat = b.size + 8 := by omega
    rw [e] at h
    simpa [hz1, Value.cells] using h
  have h1 : ¬ (5000 : Int) < (b.size : Int) := by omega
  go_enter Try.func7, Try.ntmps7
  go_wp2_with fail
  refine (awake_any _).mono ?_
  rintro e w1 ⟨rfl, hb1⟩
  obtain ⟨w3, hcopy, hR, hb3, hz3⟩ := room_made b w1 3 hb
  go_wp2_with (at_builtin; refine Lib.wpList_copy_run _ rfl _ _ 23 9 rfl _ _ rfl rfl hcopy ?_)
  have hlt3 : w1.heap.size < w3.heap.size := by omega
  have hl : b.data.toList.length = b.size := by rw [Array.length_toList]; rfl
  have hby : Bytes w3 (some ⟨w1.heap.size, 0, none⟩) b.size (b.size + 8) b.data.toList := by
    have := Bytes.head hR
    rwa [hl] at this
  clear hcopy hz3 hmk
  refine (seal_any _ _ _ _ _ hby (by omega)).mono ?_
  rintro e w4 ⟨gS, rfl, hS, hb4⟩
  have hR4 := own_below hR hb4
  have lS := hS.lt gS rfl
  have s1 := hb1.size
  have s4 := hb4.size
  have hB3 : Below w.heap.size w w3 := hb1.trans (hb3.mono hb1.size)
  have hB4 := hB3.trans (hb4.mono hB3.size)
  clear hby hR hb1 hb3 hb4 hB3
  go_wp2_with fail
  go_loop [6] (fun i => ∃ k : Nat, b.size ≤ k ∧ k ≤ b.size + 8 ∧ i = .int .i64 (k : Int)) (fun i => b.size + 8 - (intOf i).toNat)
  case atStart => exact ⟨b.size, Nat.le_refl _, by omega, rfl⟩
  case round =>
    obtain ⟨k, hk1, hk2, rfl⟩ := hrel
    by_cases hk : k < b.size + 8
    · have hc := room_zero hR4 k hk1 hk
      have hki : (k : Int) < (b.size : Int) + 8 := by omega
      go_wp2
      go_round
      case rel => exact ⟨k + 1, by omega, by omega, by go_num⟩
      case measure => simp [intOf]; omega
    · obtain rfl : k = b.size + 8 := by omega
      go_wp2_with fail
      refine (open_sealed _ _ _ _ _ (Bytes.own hS) (by omega)).mono ?_
      rintro e w5 ⟨gX, rfl, hX, hb5⟩
      have hR5 := own_below hR4 hb5
      have hS5 := own_below hS hb5
      go_wp2_with fail
      refine (open_sealed _ _ _ _ _ (Bytes.own hS5) (by omega)).mono ?_
      rintro e w6 ⟨gY, rfl, hY, hb6⟩
      have hR6 := own_below hR5 hb6
      have hS6 := own_below hS5 hb6
      have hX6 := own_below hX hb6
      have lX := hX.lt gX rfl
      have lY := hY.lt gY rfl
      have s5 := hb5.size
      have s6 := hb6.size
      have hB5 := hB4.trans (hb5.mono hB4.size)
      have hB6 := hB5.trans (hb6.mono hB5.size)
      clear hR4 hR5 hS hS5 hX hb5 hb6 hB4 hB5
      go_wp2_with fail
      go_loopw [62] (fun i wr => ∃ (k : Nat) (l : List UInt8), k ≤ b.size ∧ i = .int .i64 (k : Int) ∧ wr.ownsRow w4.heap.size 5 1 (.slice (some ⟨gX, 0, none⟩) b.size b.size) b.size (bs l) ∧ w6.grownBy wr (some gX)) (fun i _ => b.size - (intOf i).toNat)
      case atStart => exact ⟨0, _, Nat.zero_le _, rfl, hX6, World.grownBy.refl _ _⟩
      case round =>
        obtain ⟨k, l, hk, rfl, hX7, hg7⟩ := hrel
        by_cases hkn : k < b.size
        · have hc := row_cell hX7 k hkn
          have hf := hX7.frozenAt k
          have hx := (l.getD k 0).toNat_lt
          have hxor := xor255 (l.getD k 0).toNat (by omega)
          have Ht : Hid _ := row_turn hX7 k (UInt8.ofNat (255 - (l.getD k 0).toNat))
          generalize (UInt8.ofNat (255 - (l.getD k 0).toNat)) = y at *
          generalize (l.getD k 0).toNat = x at *
          go_wp2
          go_roundw
          case rel => exact ⟨k + 1, _, by omega, by go_num, Ht.out.1, grown_trans hg7 Ht.out.2⟩
          case measure => simp [intOf]; omega
        · obtain rfl : k = b.size := by omega
          have hR7 := hR6.kept hg7 (.inr (by simp only [Value.ownBlock, ne_eq, Option.some.injEq]; omega))
          have hY7 := hY.kept hg7 (.inr (by simp only [Value.ownBlock, ne_eq, Option.some.injEq]; omega))
          have hS7 := hS6.kept hg7 (.inr (by simp only [Value.ownBlock, ne_eq, Option.some.injEq]; omega))
          have hB7 := hB6.grown hg7 hB6.size (fun k hk => by cases hk; omega)
          clear hR6 hY hS6 hX6 hX7 hB6 hg7
          generalize wr = w7 at *
          go_wp2_with fail
          go_loopw [74] (fun i wr => ∃ (k : Nat) (l : List UInt8), k ≤ b.size + 2 ∧ i = .int .i64 (k : Int) ∧ wr.ownsRow w3.heap.size 5 1 (.slice (some ⟨gS, 0, none⟩) (b.size + 2) (b.size + 2)) (b.size + 2) (bs l) ∧ w7.grownBy wr (some gS)) (fun i _ => b.size + 2 - (intOf i).toNat)
          case atStart => exact ⟨0, _, Nat.zero_le _, rfl, hS7, World.grownBy.refl _ _⟩
          case round =>
            obtain ⟨k, l, hk, rfl, hS8, hg8⟩ := hrel
            by_cases hkn : k < b.size + 2
            · have hc := row_cell hS8 k hkn
              have hf := hS8.frozenAt k
              have Ht : Hid _ := row_turn hS8 k 0
              generalize (l.getD k 0).toNat = x at *
              have hki : (k : Int) < (b.size : Int) + 2 := by omega
              go_wp2
              go_roundw
              case rel => exact ⟨k + 1, _, by omega, by go_num, Ht.out.1, grown_trans hg8 Ht.out.2⟩
              case measure => simp [intOf]; omega
            · obtain rfl : k = b.size + 2 := by omega
              have hR8 := hR7.kept hg8 (.inr (by simp only [Value.ownBlock, ne_eq, Option.some.injEq]; omega))
              have hY8 := hY7.kept hg8 (.inr (by simp only [Value.ownBlock, ne_eq, Option.some.injEq]; omega))
              have hB8 := hB7.grown hg8 hB7.size (fun k hk => by cases hk; omega)
              clear hR7 hY7 hS7 hS8 hB7 hg8
              have c1 := conv_room hR8
              have c2 := conv_own hY8
              go_wp2
              go_ret
              exact ⟨by simp, hB8⟩
end Go.Proofs.Ytcgnfmfnngbpcaa
