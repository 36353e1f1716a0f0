/-
  VlqKeeps: what goes in stays as it is, its spare room too, and what comes out is memory of its own. For every input.
-/
import Derived.Test.YtjfbmjdeohlpjabTxt
import Derived.Test.YtjfbmjdeohlpjabAwk
import Derived.Test.YtjfbmjdeohlpjabRgn
import Derived.Lib.BufferWrite
import Derived.Lib.SlBuf
import Derived.OpenShut
namespace Go.Proofs.Ytjfbmjdeohlpjab
open Go.RowKit

set_option maxHeartbeats 400000 in
/-- Texts that are too long: nothing is asked. -/
theorem keeps_long (b s : ByteArray) (u : Int) (w : World) (hb : b.size ≤ maxLen) (hs : s.size ≤ maxLen) (h : 1000 < b.size ∨ 1000 < s.size) :
    Calls Try.prog 4 #[.string b, .string s, .int .u64 u] w fun e w' => e = .returned (.bool true) ∧ Below w.heap.size w w' := by
  unfold maxLen at hb hs
  by_cases h1 : (1000 : Int) < (b.size : Int)
  · go_enter Try.func4, Try.ntmps4
    go_wp2_with fail
    refine (awake_any _).mono ?_
    rintro e w1 ⟨rfl, hb1⟩
    go_wp2_with fail
    refine (awake_any _).mono ?_
    rintro e w2 ⟨rfl, hb2⟩
    go_wp2
    go_ret
    exact ⟨rfl, hb1.trans (hb2.mono hb1.size)⟩
  · have h2 : (1000 : Int) < (s.size : Int) := by omega
    go_enter Try.func4, Try.ntmps4
    go_wp2_with fail
    refine (awake_any _).mono ?_
    rintro e w1 ⟨rfl, hb1⟩
    go_wp2_with fail
    refine (awake_any _).mono ?_
    rintro e w2 ⟨rfl, hb2⟩
    go_wp2
    go_ret
    exact ⟨rfl, hb1.trans (hb2.mono hb1.size)⟩

/-- The room: a text's bytes, and 2000 zeros behind them. -/
def roomy (b : ByteArray) : List UInt8 := b.data.toList ++ List.replicate 2000 0
theorem roomy_length (b : ByteArray) : (roomy b).length = b.size + 2000 := by
  rw [roomy, List.length_append, List.length_replicate, Array.length_toList]; rfl

theorem room_made (b : ByteArray) (w : World) (ty : TypeId) (hb : b.size ≤ 1000) :
    ∃ w', (Builtin.copy_ #[24, 9] ty #[.slice (some ⟨w.heap.size, 0, none⟩) b.size (b.size + 2000), .string b]).run Try.prog (w.alloc (.cells (madeCells #[.int .u8 0] (b.size + 2000)) 5)) = .ok (goInt b.size) w' ∧
      w'.ownsRow w.heap.size 5 1 (.slice (some ⟨w.heap.size, 0, none⟩) (b.size + 2000) (b.size + 2000)) (b.size + 2000) (bs (roomy b)) ∧ Below w.heap.size w w' ∧ w'.heap.size = w.heap.size + 1 := by
  have hg : (w.alloc (.cells (madeCells #[.int .u8 0] (b.size + 2000)) 5)).heap[w.heap.size]? = some (.cells (madeCells #[.int .u8 0] (b.size + 2000)) 5 (0, 0)) := heap_alloc_new w _
  have hcs : (madeCells #[Value.int .u8 0] (b.size + 2000)).size = b.size + 2000 := size_madeCells _ _
  have hr := Lib.run_copy_row_string (P := Try.prog) _ 24 9 ty 5 w.heap.size 0 b.size (b.size + 2000) b _ 5 Try.underlying24 (by kernel_rfl) hg (Nat.le_refl _) (by rw [hcs]; omega)
  have e : ((madeCells #[Value.int .u8 0] (b.size + 2000)).toList.take 0 ++ Lib.byteCells b.data.toList ++ (madeCells #[Value.int .u8 0] (b.size + 2000)).toList.drop (0 + b.size)).toArray = (bs (roomy b)).toArray := by
    rw [toList_madeCells_one, List.take_zero, List.nil_append, Nat.zero_add, List.drop_replicate, roomy, bs_append]
    congr 2
    rw [bs, List.map_replicate]
    congr 1
    omega
  rw [e] at hr
  have hg2 := setRow_heap _ w.heap.size _ (bs (roomy b)).toArray 5 (0, 0) hg
  refine ⟨_, hr, ⟨by rw [bs_length, roomy_length, Nat.mul_one], .inr ⟨w.heap.size, _, _, rfl, Nat.le_refl _, hg2, Nat.le_refl _, ?_, ?_, ?_⟩⟩, ?_, ?_⟩
  · unfold maxLen; omega
  · rw [List.size_toArray, bs_length, roomy_length, Nat.mul_one]
  · rw [List.take_of_length_le (by rw [List.toList_toArray, bs_length, roomy_length]; omega)]
  · exact ((Below.refl _ _).alloc (Nat.le_refl _) _).trans ⟨rfl, rfl, rfl, by simp [World.setRow], fun k hk => setRow_other _ _ k _ (by omega)⟩
  · simp [World.setRow]

theorem xor255 (x : Nat) (h : x < 256) : bits .xor .u8 (x : Int) 255 = (((UInt8.ofNat (255 - x)).toNat : Nat) : Int) := by
  rw [Vq.toNat_ofNat_lt _ (by omega)]
  exact (by decide +kernel : ∀ c : Fin 256, bits .xor .u8 (c.val : Int) 255 = ((255 - c.val : Nat) : Int)) ⟨x, h⟩

/-- The list of bytes that a list with room begins with. -/
theorem Bytes.head {w : World} {base g n cap : Nat} {l r : List UInt8} (h : w.ownsRow base 5 1 (.slice (some ⟨g, 0, .none⟩) n cap) n (bs (l ++ r))) : Bytes w (some ⟨g, 0, .none⟩) l.length cap l := by
  have hb := Bytes.own h
  have hl := hb.len
  rw [List.length_append] at hl
  have := hb.take l.length (by omega)
  rwa [List.take_left] at this

theorem room_zero {w : World} {base g n cap : Nat} {b : ByteArray} (h : w.ownsRow base 5 1 (.slice (some ⟨g, 0, none⟩) n cap) n (bs (roomy b))) (k : Nat) (h1 : b.size ≤ k) (h2 : k < b.size + 2000) : w.cell? ⟨g, k, none⟩ = some (.int .u8 0) := by
  have hn : n = b.size + 2000 := by have := h.1; rw [bs_length, roomy_length] at this; omega
  have hl : b.data.toList.length = b.size := by rw [Array.length_toList]; rfl
  rw [h.cellAt k (by omega), bs, List.getElem?_map, roomy, List.getElem?_append_right (by omega), hl, List.getElem?_replicate, if_pos (by omega)]
  rfl

theorem row_cell {w : World} {base g n cap : Nat} {l : List UInt8} (h : w.ownsRow base 5 1 (.slice (some ⟨g, 0, none⟩) n cap) n (bs l)) (k : Nat) (hk : k < n) : w.cell? ⟨g, k, none⟩ = some (.int .u8 ((l.getD k 0).toNat : Int)) := by
  have hl : l.length = n := by have := h.1; rw [bs_length] at this; omega
  rw [h.cellAt k (by omega), bs, List.getElem?_map, List.getElem?_eq_getElem (by omega)]
  simp [List.getD, show k < l.length by omega]

theorem row_turn {w : World} {base g n cap : Nat} {l : List UInt8} (h : w.ownsRow base 5 1 (.slice (some ⟨g, 0, none⟩) n cap) n (bs l)) (k : Nat) (c : UInt8) :
    (w.setCell ⟨g, k, none⟩ (.int .u8 (c.toNat : Int))).ownsRow base 5 1 (.slice (some ⟨g, 0, none⟩) n cap) n (bs (l.set k c)) ∧ w.grownBy (w.setCell ⟨g, k, none⟩ (.int .u8 (c.toNat : Int))) (some g) := by
  have := h.stored k (.int .u8 (c.toNat : Int))
  rw [bs, List.map_set]
  exact this

theorem grown_trans {a b c : World} {row : Option Nat} (h : a.grownBy b row) (k : b.grownBy c row) : a.grownBy c row :=
  ⟨k.os.trans h.os, k.tape.trans h.tape, k.output.trans h.output, Nat.le_trans h.size k.size, fun i hi hr => (k.block i (Nat.lt_of_lt_of_le hi h.size) hr).trans (h.block i hi hr)⟩

theorem conv_room {w : World} {base g n cap : Nat} {b : ByteArray} (h : w.ownsRow base 5 1 (.slice (some ⟨g, 0, none⟩) n cap) n (bs (roomy b))) :
    (convert 24 9 (.slice (some ⟨g, 0, none⟩) b.size cap)).run Try.prog w = .ok (.string b) w := by
  have hl : b.data.toList.length = b.size := by rw [Array.length_toList]; rfl
  have hr := run_convert_bytes_back (P := Try.prog) w 24 9 5 ⟨g, 0, none⟩ cap b.data.toList Try.underlying24 Try.underlying5 Try.underlying9 (fun j hj => by
    refine h.cells rfl j _ ?_
    rw [roomy, bs, List.getElem?_map, List.getElem?_append_left hj, List.getElem?_eq_getElem hj]
    rfl)
  rw [hl] at hr
  exact hr
theorem room_text (b : ByteArray) : (b.toList == b.toList) = true := by simp

/-- Bytes behind a text. -/
def glue (b : ByteArray) (l : List UInt8) : ByteArray := ⟨(b.data.toList ++ l).toArray⟩
theorem conv_glue2 {w : World} {base g cap : Nat} {b s : ByteArray} (h : w.ownsRow base 5 1 (.slice (some ⟨g, 0, none⟩) (b.size + Vq.wd s.size + s.size) cap) (b.size + Vq.wd s.size + s.size) (bs (b.data.toList ++ Vq.num s.size ++ s.data.toList))) :
    (convert 24 9 (.slice (some ⟨g, 0, none⟩) (b.size + Vq.wd s.size + s.size) cap)).run Try.prog w = .ok (.string (glue b (Vq.num s.size ++ s.data.toList))) w := by
  rw [List.append_assoc] at h
  exact conv_own h
theorem glue_text (b s : ByteArray) : ((glue b (Vq.num s.size ++ s.data.toList)).toList == (b ++ ttx s).toList) = true := by
  rw [beq_iff_eq, ByteArray.toList_eq, ByteArray.toList_eq, ByteArray.data_append]
  simp [glue, txt, ttx, ByteArray.data_append]

set_option maxHeartbeats 2000000 in
theorem keeps_walk (b s : ByteArray) (u : Nat) (w : World) (hb : b.size ≤ 1000) (hs : s.size ≤ 1000) (hu : u < 18446744073709551616) :
    Calls Try.prog 4 #[.string b, .string s, .int .u64 (u : Int)] w fun e w' => e = .returned (.bool true) ∧ Below w.heap.size w w' := by
  obtain ⟨i0, hi, hz0, hz1, hz2⟩ := info_parts info5
  have hmk : ∀ W : World, (Instr.makeSlice 24 (.int .i64 (b.size : Int)) (.int .i64 ((b.size : Int) + 2000))).run Try.prog W =
      .ok (.slice (some ⟨W.heap.size, 0, none⟩) b.size (b.size + 2000)) (W.alloc (.cells (madeCells #[.int .u8 0] (b.size + 2000)) 5)) := fun W => by
    have h := run_make (P := Try.prog) W 24 5 i0 (.int .u8 0) Try.underlying24 hi hz0 .i64 .i64 (b.size : Int) ((b.size : Int) + 2000) (by omega) (by omega) (by rw [hz2]; omega) (by omega)
    have e : ((b.size : Int) + 2000).toNat = b.size + 2000 := by omega
    rw [e] at h
    simpa [hz1, Value.cells] using h
  have h1 : ¬ (1000 : Int) < (b.size : Int) := by omega
  have h2 : ¬ (1000 : Int) < (s.size : Int) := by omega
  go_enter Try.func4, Try.ntmps4
  go_wp2_with fail
  refine (awake_any _).mono ?_
  rintro e w1 ⟨rfl, hb1⟩
  obtain ⟨w3, hcopy, hR, hb3, hz3⟩ := room_made b w1 3 hb
  go_wp2_with (at_builtin; refine Lib.wpList_copy_run _ rfl _ _ 24 9 rfl _ _ rfl rfl hcopy ?_)
  have hlt3 : w1.heap.size < w3.heap.size := by omega
  have hl : b.data.toList.length = b.size := by rw [Array.length_toList]; rfl
  have hby : Bytes w3 (some ⟨w1.heap.size, 0, none⟩) b.size (b.size + 2000) b.data.toList := by
    have := Bytes.head hR
    rwa [hl] at this
  clear hcopy hz3 hmk
  have hw := Vq.wd_le u
  refine (put_any _ _ _ _ u _ hby (by omega) hu).mono ?_
  rintro e w4 ⟨gX, rfl, hX, hb4⟩
  have hR4 := own_below hR hb4
  have hby4 := hby.below hb4 (Nat.le_refl _)
  go_wp2_with fail
  refine (puttext_any _ _ _ _ s _ hby4 (by omega) (by omega)).mono ?_
  rintro e w5 ⟨gY, capY, rfl, hY, hb5, hcapY⟩
  have hX5 := own_below hX hb5
  have hR5 := own_below hR4 hb5
  have hby5 := hby4.below hb5 (Nat.le_refl _)
  go_wp2_with fail
  have hn := bounds_i64 (wrap64_wf (u : Int))
  generalize wrap64 (u : Int) = n at *
  have hwz := Vq.wd_le (zig n)
  refine (putint_any _ _ _ _ n _ hby5 (by omega) hn).mono ?_
  rintro e w6 ⟨gZ, rfl, hZ, hb6⟩
  have hX6 := own_below hX5 hb6
  have hR6 := own_below hR5 hb6
  have hY6 := own_below hY hb6
  have lX := hX.lt gX rfl
  have lY := hY.lt gY rfl
  have lZ := hZ.lt gZ rfl
  have s4 := hb4.size
  have s5 := hb5.size
  have s6 := hb6.size
  have s1 := hb1.size
  have hB3 : Below w.heap.size w w3 := hb1.trans (hb3.mono hb1.size)
  have hB4 := hB3.trans (hb4.mono hB3.size)
  have hB5 := hB4.trans (hb5.mono hB4.size)
  have hB6 := hB5.trans (hb6.mono hB5.size)
  clear hby hby4 hby5 hX hX5 hR hR4 hR5 hY hb4 hb5 hb6 hb1 hb3 hB3 hB4 hB5 hl
  have e1 := room_text b
  have e2 := glue_text b s
  have z2 := ttx_size s
  have y2 := Vq.wd_le s.size
  have a2 : ¬ 9223372036854775807 < b.size + (Vq.wd s.size + s.size) := by omega
  go_wp2_with fail
  go_loop [12] (fun i => ∃ k : Nat, b.size ≤ k ∧ k ≤ b.size + 2000 ∧ i = .int .i64 (k : Int)) (fun i => b.size + 2000 - (intOf i).toNat)
  case atStart => exact ⟨b.size, Nat.le_refl _, by omega, rfl⟩
  case round =>
    obtain ⟨k, hk1, hk2, rfl⟩ := hrel
    by_cases hk : k < b.size + 2000
    · have hc := room_zero hR6 k hk1 hk
      have hki : (k : Int) < (b.size : Int) + 2000 := by omega
      go_wp2
      go_round
      case rel => exact ⟨k + 1, by omega, by omega, by go_num⟩
      case measure => simp [intOf]; omega
    · obtain rfl : k = b.size + 2000 := by omega
      go_wp2_with fail
      go_loopw [67] (fun i wr => ∃ (k : Nat) (l : List UInt8), k ≤ b.size + Vq.wd u ∧ i = .int .i64 (k : Int) ∧ wr.ownsRow w3.heap.size 5 1 (.slice (some ⟨gX, 0, none⟩) (b.size + Vq.wd u) (b.size + Vq.wd u)) (b.size + Vq.wd u) (bs l) ∧ w6.grownBy wr (some gX)) (fun i _ => b.size + Vq.wd u - (intOf i).toNat)
      case atStart => exact ⟨0, _, Nat.zero_le _, rfl, hX6, World.grownBy.refl _ _⟩
      case round =>
        obtain ⟨k, l, hk, rfl, hX7, hg7⟩ := hrel
        by_cases hkn : k < b.size + Vq.wd u
        · have hc := row_cell hX7 k hkn
          have hf := hX7.frozenAt k
          have hx := (l.getD k 0).toNat_lt
          have hxor := xor255 (l.getD k 0).toNat (by omega)
          have ht := row_turn hX7 k (UInt8.ofNat (255 - (l.getD k 0).toNat))
          have Ht : Hid _ := ht
          clear ht
          generalize (UInt8.ofNat (255 - (l.getD k 0).toNat)) = y at *
          generalize (l.getD k 0).toNat = x at *
          have hki : (k : Int) < (b.size : Int) + (Vq.wd u : Int) := by omega
          go_wp2
          go_roundw
          case rel => exact ⟨k + 1, _, by omega, by go_num, Ht.out.1, grown_trans hg7 Ht.out.2⟩
          case measure => simp [intOf]; omega
        · obtain rfl : k = b.size + Vq.wd u := by omega
          have hR7 := hR6.kept hg7 (.inr (by simp only [Value.ownBlock, ne_eq, Option.some.injEq]; omega))
          have hY7 := hY6.kept hg7 (.inr (by simp only [Value.ownBlock, ne_eq, Option.some.injEq]; omega))
          have hZ7 := hZ.kept hg7 (.inr (by simp only [Value.ownBlock, ne_eq, Option.some.injEq]; omega))
          have hB7 := hB6.grown hg7 hB6.size (fun k hk => by cases hk; omega)
          clear hR6 hY6 hZ hX6 hX7 hB6 hg7
          generalize wr = w7 at *
          go_wp2_with fail
          go_loopw [79] (fun i wr => ∃ (k : Nat) (l : List UInt8), k ≤ b.size + Vq.wd (zig n) ∧ i = .int .i64 (k : Int) ∧ wr.ownsRow w5.heap.size 5 1 (.slice (some ⟨gZ, 0, none⟩) (b.size + Vq.wd (zig n)) (b.size + Vq.wd (zig n))) (b.size + Vq.wd (zig n)) (bs l) ∧ w7.grownBy wr (some gZ)) (fun i _ => b.size + Vq.wd (zig n) - (intOf i).toNat)
          case atStart => exact ⟨0, _, Nat.zero_le _, rfl, hZ7, World.grownBy.refl _ _⟩
          case round =>
            obtain ⟨k, l, hk, rfl, hX7, hg7⟩ := hrel
            by_cases hkn : k < b.size + Vq.wd (zig n)
            · have hc := row_cell hX7 k hkn
              have hf := hX7.frozenAt k
              have hx := (l.getD k 0).toNat_lt
              have hxor := xor255 (l.getD k 0).toNat (by omega)
              have ht := row_turn hX7 k (UInt8.ofNat (255 - (l.getD k 0).toNat))
              have Ht : Hid _ := ht
              clear ht
              generalize (UInt8.ofNat (255 - (l.getD k 0).toNat)) = y at *
              generalize (l.getD k 0).toNat = x at *
              have hki : (k : Int) < (b.size : Int) + (Vq.wd (zig n) : Int) := by omega
              go_wp2
              go_roundw
              case rel => exact ⟨k + 1, _, by omega, by go_num, Ht.out.1, grown_trans hg7 Ht.out.2⟩
              case measure => simp [intOf]; omega
            · obtain rfl : k = b.size + Vq.wd (zig n) := by omega
              have hR8 := hR7.kept hg7 (.inr (by simp only [Value.ownBlock, ne_eq, Option.some.injEq]; omega))
              have hY8 := hY7.kept hg7 (.inr (by simp only [Value.ownBlock, ne_eq, Option.some.injEq]; omega))
              have hB8 := hB7.grown hg7 hB7.size (fun k hk => by cases hk; omega)
              clear hR7 hY7 hZ7 hX7 hB7 hg7
              go_wp2_with fail
              refine wp_region_noPanic ?_
              refine wp_region_held_drew (S := fun w0 => w0.ownsRow w1.heap.size 5 1 (.slice (some ⟨w1.heap.size, 0, none⟩) (b.size + 2000) (b.size + 2000)) (b.size + 2000) (bs (roomy b)) ∧ w0.ownsRow w4.heap.size 5 1 (.slice (some ⟨gY, 0, none⟩) (b.size + Vq.wd s.size + s.size) capY) (b.size + Vq.wd s.size + s.size) (bs (b.data.toList ++ Vq.num s.size ++ s.data.toList))) (by kernel_rfl) ⟨hR8.drew, hY8.drew⟩ (fun hHeld => ?_)
              refine wpAnyH_take (i := 0) (oi := { dst := some 89, op := _, type := _, pos := _, after := _, guard := _ }) (v := ?_) rfl (by kernel_rfl) (by kernel_rfl) (by kernel_rfl) (fun _ _ _ h => h) (Or.inl ⟨by rfl, ?_⟩) (by assumption) ?_
              rotate_left
              · intro w hSw
                go_simp <;> with_reducible rfl
              simp only [Act.put, List.setIfInBounds_toArray, List.set_cons_zero, List.set_cons_succ]
              refine wpAnyH_take (i := 1) (oi := { dst := some 90, op := _, type := _, pos := _, after := _, guard := _ }) (v := ?_) rfl (by kernel_rfl) (by kernel_rfl) (by kernel_rfl) (fun _ _ _ h => h) (Or.inl ⟨by rfl, ?_⟩) (by assumption) ?_
              rotate_left
              · intro w hSw
                have hc := conv_room hSw.1
                go_simp <;> with_reducible rfl
              simp only [Act.put, List.setIfInBounds_toArray, List.set_cons_zero, List.set_cons_succ]
              refine wpAnyH_take (i := 2) (oi := { dst := some 91, op := _, type := _, pos := _, after := _, guard := _ }) (v := ?_) rfl (by kernel_rfl) (by kernel_rfl) (by kernel_rfl) (fun _ _ _ h => h) (Or.inl ⟨by rfl, ?_⟩) (by assumption) ?_
              rotate_left
              · intro w hSw
                go_simp <;> with_reducible rfl
              simp only [Act.put, List.setIfInBounds_toArray, List.set_cons_zero, List.set_cons_succ]
              refine wpAnyH_take (i := 3) (oi := { dst := some 92, op := _, type := _, pos := _, after := _, guard := _ }) (v := ?_) rfl (by kernel_rfl) (by kernel_rfl) (by kernel_rfl) (fun _ _ _ h => h) (Or.inl ⟨by rfl, ?_⟩) (by assumption) ?_
              rotate_left
              · intro w hSw
                go_simp <;> with_reducible rfl
              simp only [Act.put, List.setIfInBounds_toArray, List.set_cons_zero, List.set_cons_succ]
              refine wpAnyH_take (i := 4) (oi := { dst := some 93, op := _, type := _, pos := _, after := _, guard := _ }) (v := ?_) rfl (by kernel_rfl) (by kernel_rfl) (by kernel_rfl) (fun _ _ _ h => h) (Or.inl ⟨by rfl, ?_⟩) (by assumption) ?_
              rotate_left
              · intro w hSw
                go_simp <;> with_reducible rfl
              simp only [Act.put, List.setIfInBounds_toArray, List.set_cons_zero, List.set_cons_succ]
              refine wpAnyH_take (i := 5) (oi := { dst := some 94, op := _, type := _, pos := _, after := _, guard := _ }) (v := ?_) rfl (by kernel_rfl) (by kernel_rfl) (by kernel_rfl) (fun _ _ _ h => h) (Or.inl ⟨by rfl, ?_⟩) (by assumption) ?_
              rotate_left
              · intro w hSw
                go_simp <;> with_reducible rfl
              simp only [Act.put, List.setIfInBounds_toArray, List.set_cons_zero, List.set_cons_succ]
              refine wpAnyH_take (i := 6) (oi := { dst := some 95, op := _, type := _, pos := _, after := _, guard := _ }) (v := ?_) rfl (by kernel_rfl) (by kernel_rfl) (by kernel_rfl) (fun _ _ _ h => h) (Or.inl ⟨by rfl, ?_⟩) (by assumption) ?_
              rotate_left
              · intro w hSw
                have hc := conv_glue2 hSw.2
                go_simp <;> with_reducible rfl
              simp only [Act.put, List.setIfInBounds_toArray, List.set_cons_zero, List.set_cons_succ]
              refine wpAnyH_take (i := 7) (oi := { dst := some 96, op := _, type := _, pos := _, after := _, guard := _ }) (v := ?_) rfl (by kernel_rfl) (by kernel_rfl) (by kernel_rfl) (fun _ _ _ h => h) (Or.inl ⟨by rfl, ?_⟩) (by assumption) ?_
              rotate_left
              · intro w hSw
                go_simp <;> with_reducible rfl
              simp only [Act.put, List.setIfInBounds_toArray, List.set_cons_zero, List.set_cons_succ]
              refine wpAnyH_take (i := 8) (oi := { dst := some 97, op := _, type := _, pos := _, after := _, guard := _ }) (v := ?_) rfl (by kernel_rfl) (by kernel_rfl) (by kernel_rfl) (fun _ _ _ h => h) (Or.inl ⟨by rfl, ?_⟩) (by assumption) ?_
              rotate_left
              · intro w hSw
                go_simp <;> with_reducible rfl
              simp only [Act.put, List.setIfInBounds_toArray, List.set_cons_zero, List.set_cons_succ]
              refine wpAnyH_ready (rs := [9]) (by kernel_rfl) (by simp) ?_
              refine AllReadyH.cons (o := { dst := some 98, op := _, type := _, pos := _, after := _, guard := _ }) rfl (fun K hK => ?_) AllReadyH.nil
              go_simp
              refine (text_any s _ (by omega)).mono ?_
              rintro e w9 ⟨rfl, hb9⟩
              refine hK.out _ _ (⟨own_below hHeld.1 hb9, own_below hHeld.2 hb9⟩) (fun hHeld => ?_)
              clear hK K
              refine wpAnyH_take (i := 10) (oi := { dst := some 99, op := _, type := _, pos := _, after := _, guard := _ }) (v := ?_) rfl (by kernel_rfl) (by kernel_rfl) (by kernel_rfl) (fun _ _ _ h => h) (Or.inl ⟨by rfl, ?_⟩) (by assumption) ?_
              rotate_left
              · intro w hSw
                go_simp <;> with_reducible rfl
              simp only [Act.put, List.setIfInBounds_toArray, List.set_cons_zero, List.set_cons_succ]
              refine wpAnyH_take (i := 11) (oi := { dst := some 100, op := _, type := _, pos := _, after := _, guard := _ }) (v := ?_) rfl (by kernel_rfl) (by kernel_rfl) (by kernel_rfl) (fun _ _ _ h => h) (Or.inl ⟨by rfl, ?_⟩) (by assumption) ?_
              rotate_left
              · intro w hSw
                go_simp <;> with_reducible rfl
              simp only [Act.put, List.setIfInBounds_toArray, List.set_cons_zero, List.set_cons_succ]
              refine wpAnyH_take (i := 12) (oi := { dst := some 101, op := _, type := _, pos := _, after := _, guard := _ }) (v := ?_) rfl (by kernel_rfl) (by kernel_rfl) (by kernel_rfl) (fun _ _ _ h => h) (Or.inl ⟨by rfl, ?_⟩) (by assumption) ?_
              rotate_left
              · intro w hSw
                go_simp <;> with_reducible rfl
              simp only [Act.put, List.setIfInBounds_toArray, List.set_cons_zero, List.set_cons_succ]
              refine wpAnyH_take (i := 13) (oi := { dst := some 6, op := _, type := _, pos := _, after := _, guard := _ }) (v := ?_) rfl (by kernel_rfl) (by kernel_rfl) (by kernel_rfl) (fun _ _ _ h => h) (Or.inl ⟨by rfl, ?_⟩) (by assumption) ?_
              rotate_left
              · intro w hSw
                go_simp <;> with_reducible rfl
              simp only [Act.put, List.setIfInBounds_toArray, List.set_cons_zero, List.set_cons_succ]
              refine wpAnyH_done (by kernel_rfl) ?_ _
              refine NoPanic.normal ?_
              go_wp2
              go_ret
              exact ⟨rfl, hB8.drew.trans (hb9.mono hB8.size)⟩
end Go.Proofs.Ytjfbmjdeohlpjab
