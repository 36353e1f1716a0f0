/-
  The reference's disk in memory; what its New, Append, Replace and Cut, and rest come to.
-/
import Derived.Test.YtcopjgincdbliaaDaw
import Derived.Test.YtcopjgincdbliaaDpa
namespace Go.Proofs.Ytcopjgincdbliaa
open Go.RowKit

/-- The reference's disk lies in a block. -/
structure Rf (w : World) (g : Nat) (l : List UInt8) (f r : Nat) : Prop where
  blk : w.heap[g]? = some (.cells #[.string (tx l), .int .i64 (f : Int), .int .i64 (r : Int)] 31 (0, 0))
theorem Rf.lt {w : World} {g f r : Nat} {l : List UInt8} (h : Rf w g l f r) : g < w.heap.size := (Array.getElem?_eq_some_iff.1 h.blk).1
theorem Rf.c0 {w : World} {g f r : Nat} {l : List UInt8} (h : Rf w g l f r) : w.cell? ⟨g, 0, none⟩ = some (.string (tx l)) := cell_of_row w g 0 _ _ _ h.blk
theorem Rf.c1 {w : World} {g f r : Nat} {l : List UInt8} (h : Rf w g l f r) : w.cell? ⟨g, 1, none⟩ = some (.int .i64 (f : Int)) := cell_of_row w g 1 _ _ _ h.blk
theorem Rf.c2 {w : World} {g f r : Nat} {l : List UInt8} (h : Rf w g l f r) : w.cell? ⟨g, 2, none⟩ = some (.int .i64 (r : Int)) := cell_of_row w g 2 _ _ _ h.blk
theorem Rf.fz {w : World} {g f r : Nat} {l : List UInt8} (h : Rf w g l f r) (i : Nat) : w.frozen? ⟨g, i, none⟩ = false := frozen_of_row w g i _ _ h.blk
theorem Rf.same {w w' : World} {g f r : Nat} {l : List UInt8} (h : Rf w g l f r) (hb : w'.heap[g]? = w.heap[g]?) : Rf w' g l f r := ⟨by rw [hb]; exact h.blk⟩
theorem Rf.below {w w' : World} {g f r : Nat} {l : List UInt8} (h : Rf w g l f r) (hb : Below w.heap.size w w') : Rf w' g l f r := h.same (hb.block g h.lt)
theorem Rf.set0 {w : World} {g f r : Nat} {l l' : List UInt8} (h : Rf w g l f r) : Rf (w.setCell ⟨g, 0, none⟩ (.string (tx l'))) g l' f r := ⟨set_three0 w g _ _ _ _ _ h.blk⟩
theorem Rf.set1 {w : World} {g f r : Nat} {l : List UInt8} (h : Rf w g l f r) (n : Nat) : Rf (w.setCell ⟨g, 1, none⟩ (.int .i64 (n : Int))) g l n r := ⟨set_three1 w g _ _ _ _ _ h.blk⟩
theorem rf_new (w : World) (r : Nat) : Rf (w.alloc (.cells #[.string ByteArray.empty, .int .i64 0, .int .i64 (r : Int)] 31)) w.heap.size [] 0 r := ⟨heap_alloc_new w _⟩
/-- A disk's file does not lie in the reference's block. -/
theorem Rf.apart {w : World} {g f r base gd fd rd : Nat} {l ld : List UInt8} {v : Value} (h : Rf w g l f r) (hD : Dsk w base gd v ld fd rd) : gd ≠ g ∧ v.ownBlock ≠ some g := by
  constructor
  · rintro rfl
    have := hD.blk
    rw [h.blk] at this
    simp only [Option.some.injEq, Obj.cells.injEq] at this
    exact absurd this.2.1 (by decide)
  · intro e
    rcases hD.row.2 with ⟨rfl, _⟩ | ⟨g', cap, cur, rfl, _, hg, _⟩
    · cases e
    · simp only [Value.ownBlock, Option.some.injEq] at e
      rw [e, h.blk] at hg
      simp only [Option.some.injEq, Obj.cells.injEq] at hg
      exact absurd hg.2.1 (by decide)
theorem Rf.step {w w' : World} {g f r base gd fd rd : Nat} {l ld : List UInt8} {v v' : Value} (h : Rf w g l f r) (hD : Dsk w base gd v ld fd rd) (hs : Step gd v v' w w') : Rf w' g l f r := by
  obtain ⟨h1, h2⟩ := h.apart hD
  exact h.same (hs.block g h.lt (fun e => h1 e.symm) h2)
theorem grown_set (w : World) (g j : Nat) (x : Value) : w.grownBy (w.setCell ⟨g, j, none⟩ x) (some g) :=
  ⟨rfl, rfl, rfl, Nat.le_of_eq (setCell_size _ _ _).symm, fun k _ hk => Below.heap_setCell w _ _ k (fun e => hk (by rw [e]))⟩
theorem grown_below {w w' : World} (h : Below w.heap.size w w') (row : Option Nat) : w.grownBy w' row := ⟨h.os, h.tape, h.output, h.size, fun k hk _ => h.block k hk⟩
theorem Dsk.grown {w w' : World} {base g f r k : Nat} {v : Value} {l : List UInt8} (h : Dsk w base g v l f r) (hg : w.grownBy w' (some k)) (h1 : g ≠ k) (h2 : v.ownBlock ≠ some k) : Dsk w' base g v l f r :=
  h.kept fun i hi hor => hg.block i hi (fun e => by
    rcases hor with rfl | hv
    · exact h1 (Option.some.inj e)
    · exact h2 (by rw [hv, e]))
theorem tx_add (a b : List UInt8) : tx a ++ tx b = tx (a ++ b) := by
  have := tx_app (tx a) (tx b)
  rw [tx_list, tx_list] at this
  exact this.symm

set_option maxHeartbeats 400000 in
theorem rnew_any (x : Int) (w : World) :
    Calls Try.prog 12 #[.int .i64 x] w fun e w' => e = .returned (.pointer (some ⟨w.heap.size, 0, none⟩)) ∧ Rf w' w.heap.size [] 0 (held x) ∧ Below w.heap.size w w' ∧ w'.heap.size = w.heap.size + 1 := by
  have H : Hid (∀ y : Int, y = (held x : Int) → Rf (w.alloc (.cells #[.string ByteArray.empty, .int .i64 0, .int .i64 y] 31)) w.heap.size [] 0 (held x)) := fun y hy => by rw [hy]; exact rf_new w _
  have hh : Hid _ := held_is x
  have HB : Hid (∀ o, Below w.heap.size w (w.alloc o)) := fun o => (Below.refl _ w).alloc (Nat.le_refl _) o
  go_enter Try.func12, Try.ntmps12
  go_wp2
  all_goals
    go_ret
    exact ⟨rfl, H.out _ (by rw [hh.out]; (repeat' split) <;> omega), HB.out _, by simp⟩

set_option maxHeartbeats 400000 in
theorem rest_any (x : Int) (m : Nat) (h0 : 0 < m) (h1 : m ≤ 1048576) (w : World) :
    Calls Try.prog 27 #[.int .i64 x, .int .i64 (m : Int)] w fun e w' => e = .returned (.int .i64 (x % (m : Int))) ∧ w' = w := by
  have b1 := Int.tmod_lt_of_pos x (show (0 : Int) < m by omega)
  have b0 := Int.lt_tmod_of_pos x (show (0 : Int) < m by omega)
  have hm : (m : Int) ≠ 0 := by omega
  have e1 : Hid (¬ x.tmod (m : Int) < 0 → x.tmod (m : Int) = x % (m : Int)) := fun h => by
    rw [← rem_twice x m (by omega), Int.tmod_eq_emod_of_nonneg (a := x.tmod m + m) (by omega), Int.add_emod_right, Int.emod_eq_of_lt (by omega) (by omega)]
  have e2 : Hid (x.tmod (m : Int) < 0 → x.tmod (m : Int) + (m : Int) = x % (m : Int)) := fun h => by
    rw [← rem_twice x m (by omega), Int.tmod_eq_emod_of_nonneg (a := x.tmod m + m) (by omega), Int.emod_eq_of_lt (by omega) (by omega)]
  generalize x % (m : Int) = z at *
  by_cases hn : x.tmod (m : Int) < 0
  · go_enter Try.func27, Try.ntmps27
    go_wp2
    go_ret
    exact ⟨by rw [← e2.out hn]; rfl, rfl⟩
  · go_enter Try.func27, Try.ntmps27
    go_wp2
    go_ret
    exact ⟨by rw [← e1.out hn]; rfl, rfl⟩

set_option maxHeartbeats 1000000 in
theorem rappend_full (g : Nat) (l : List UInt8) (f r : Nat) (b : ByteArray) (w : World) (h : Rf w g l f r) (hl : l.length ≤ r) (hb : b.size ≤ 70000) (hm : r < l.length + b.size) :
    Calls Try.prog 15 #[.pointer (some ⟨g, 0, none⟩), .string b] w fun e w' => e = .returned (.int .i64 9) ∧ Rf w' g l f r ∧ w.grownBy w' (some g) := by
  have c0 := h.c0
  have c2 := h.c2
  have hs := tx_size l
  have hlt : (r : Int) - ((tx l).size : Int) < (b.size : Int) := by rw [hs]; omega
  have H : Hid _ := h
  clear h
  generalize tx l = s at *
  go_enter Try.func15, Try.ntmps15
  go_wp2_with fail
  go_quiet (fail)
  go_wp2
  go_ret
  exact ⟨rfl, H.out.below (drawn _ _), grown_below (drawn _ _) _⟩

set_option maxHeartbeats 1000000 in
theorem rappend_ok (g : Nat) (l : List UInt8) (f r : Nat) (b : ByteArray) (w : World) (h : Rf w g l f r) (hl : l.length ≤ r) (hr : r ≤ 65536) (hm : l.length + b.size ≤ r) :
    Calls Try.prog 15 #[.pointer (some ⟨g, 0, none⟩), .string b] w fun e w' => e = .returned (.int .i64 0) ∧ Rf w' g (l ++ b.data.toList) f r ∧ w.grownBy w' (some g) := by
  have c0 := h.c0
  have c2 := h.c2
  have hf := h.fz 0
  have hs := tx_size l
  have hlt : ¬ (r : Int) - ((tx l).size : Int) < (b.size : Int) := by rw [hs]; omega
  have hx : tx l ++ b = tx (l ++ b.data.toList) := by
    have := tx_add l b.data.toList
    rw [tx_data] at this
    exact this
  have H : Hid (∀ n, Rf ((w.drewN n).setCell ⟨g, 0, none⟩ (.string (tx l ++ b))) g (l ++ b.data.toList) f r) := fun n => by
    rw [hx]
    exact (h.below (drawn w n)).set0
  clear h hx
  generalize tx l = s at *
  go_enter Try.func15, Try.ntmps15
  go_wp2_with fail
  go_quiet (fail)
  go_wp2
  go_ret
  exact ⟨rfl, H.out _, grown_trans (grown_below (drawn _ _) _) (grown_set _ _ _ _)⟩

set_option maxHeartbeats 1000000 in
theorem rreplace_full (g : Nat) (l : List UInt8) (f r : Nat) (b : ByteArray) (w : World) (h : Rf w g l f r) (hm : r < b.size) :
    Calls Try.prog 16 #[.pointer (some ⟨g, 0, none⟩), .string b] w fun e w' => e = .returned (.int .i64 9) ∧ w' = w := by
  have c2 := h.c2
  have hlt : (r : Int) < (b.size : Int) := by omega
  clear h
  go_enter Try.func16, Try.ntmps16
  go_wp2
  go_ret
  exact ⟨rfl, rfl⟩
set_option maxHeartbeats 1000000 in
theorem rreplace_ok (g : Nat) (l : List UInt8) (f r : Nat) (b : ByteArray) (w : World) (h : Rf w g l f r) (hm : b.size ≤ r) :
    Calls Try.prog 16 #[.pointer (some ⟨g, 0, none⟩), .string b] w fun e w' => e = .returned (.int .i64 0) ∧ Rf w' g b.data.toList b.size r ∧ w.grownBy w' (some g) := by
  have c2 := h.c2
  have hlt : ¬ (r : Int) < (b.size : Int) := by omega
  have h1 : Rf (w.setCell ⟨g, 0, none⟩ (.string b)) g b.data.toList f r := by
    have := h.set0 (l' := b.data.toList)
    rw [tx_data] at this
    exact this
  have c0 := h.c0
  have f0 := h.fz 0
  have c1 := h1.c1
  have f1 := h1.fz 1
  have H : Hid _ := h1.set1 b.size
  clear h h1
  go_enter Try.func16, Try.ntmps16
  go_wp2
  go_ret
  exact ⟨rfl, H.out, grown_trans (grown_set _ _ _ _) (grown_set _ _ _ _)⟩

set_option maxHeartbeats 1000000 in
theorem rcut_arg (g : Nat) (l : List UInt8) (f r : Nat) (x : Int) (w : World) (h : Rf w g l f r) (hl : l.length ≤ 65536) (hx : x < 0 ∨ (l.length : Int) < x) :
    Calls Try.prog 17 #[.pointer (some ⟨g, 0, none⟩), .int .i64 x] w fun e w' => e = .returned (.int .i64 1) ∧ w' = w := by
  have c0 := h.c0
  have hs := tx_size l
  clear h
  rw [← hs] at hx hl
  generalize tx l = s at *
  rcases hx with hx | hx
  · go_enter Try.func17, Try.ntmps17
    go_wp2
    go_ret
    exact ⟨rfl, rfl⟩
  · have hx' : ¬ x < 0 := by omega
    go_enter Try.func17, Try.ntmps17
    go_wp2
    go_ret
    exact ⟨rfl, rfl⟩
theorem slice_head (l : List UInt8) (k : Nat) (hk : k ≤ l.length) (W : World) :
    (Instr.slice 9 (.string (tx l)) none (some (.int .i64 (k : Int))) none).run Try.prog W = .ok (.string (tx (l.take k))) W := by
  have hs := tx_size l
  rw [run_slice_string_h W 9 (tx l) Try.underlying9 .i64 (k : Int) (by omega) (by omega)]
  rw [Int.toNat_natCast, ext_tx, tx_list, List.drop_zero, Nat.sub_zero]
set_option maxHeartbeats 1000000 in
theorem rcut_ok (g : Nat) (l : List UInt8) (f r k : Nat) (w : World) (h : Rf w g l f r) (hk : k ≤ l.length) :
    Calls Try.prog 17 #[.pointer (some ⟨g, 0, none⟩), .int .i64 (k : Int)] w fun e w' => e = .returned (.int .i64 0) ∧ Rf w' g (l.take k) k r ∧ w.grownBy w' (some g) := by
  have hs := tx_size l
  have hx1 : ¬ (k : Int) < 0 := by omega
  have hx2 : ¬ ((tx l).size : Int) < (k : Int) := by rw [hs]; omega
  have hsl := fun W => slice_head l k hk W
  have h1 : Rf (w.setCell ⟨g, 0, none⟩ (.string (tx (l.take k)))) g (l.take k) f r := h.set0
  have c0 := h.c0
  have f0 := h.fz 0
  have c1 := h1.c1
  have f1 := h1.fz 1
  have H : Hid _ := h1.set1 k
  clear h h1
  generalize tx l = s at *
  generalize tx (l.take k) = s2 at *
  go_enter Try.func17, Try.ntmps17
  go_wp2
  go_ret
  exact ⟨rfl, H.out, grown_trans (grown_set _ _ _ _) (grown_set _ _ _ _)⟩
end Go.Proofs.Ytcopjgincdbliaa
