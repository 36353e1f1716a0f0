/-
  DiskNil: a nil disk, and the zero one, keep nothing. For every input.
-/
import Derived.Test.YtcopjgincdbliaaDop
import Derived.Laws.Strings
namespace Go.Proofs.Ytcopjgincdbliaa
open Go.RowKit

theorem size_lsn (a : ByteArray) : a.data.toList.length = a.size := by rw [Array.length_toList]; rfl
/-- A nil disk, or one without bytes and room. -/
def Zr (w : World) (base : Nat) (p : Option Addr) : Prop := p = none ∨ ∃ g v, p = some ⟨g, 0, none⟩ ∧ Dsk w base g v [] 0 0
theorem Zr.below {w w' : World} {base : Nat} {p : Option Addr} (h : Zr w base p) (hb : Below w.heap.size w w') : Zr w' base p := by
  rcases h with h | ⟨g, v, h1, h2⟩
  · exact .inl h
  · exact .inr ⟨g, v, h1, h2.below hb (Nat.le_refl _)⟩
/-- The disk that it stands for. -/
theorem Zr.orz {w : World} {base : Nat} {p : Option Addr} (h : Zr w base p) (hb : base ≤ w.heap.size) :
    ∃ g v w1, Orz w p g w1 ∧ Dsk w1 base g v [] 0 0 ∧ Below base w w1 ∧ Below w.heap.size w w1 ∧ ∀ w' v', Dsk w' base g v' [] 0 0 → Zr w' base p := by
  rcases h with rfl | ⟨g, v, rfl, hD⟩
  · exact ⟨_, _, _, orz_nil w, dsk_new w base 0 hb (by omega), (Below.refl _ w).alloc hb _, (Below.refl _ w).alloc (Nat.le_refl _) _, fun _ _ _ => .inl rfl⟩
  · exact ⟨g, v, w, orz_some g w, hD, Below.refl _ _, Below.refl _ _, fun w' v' h' => .inr ⟨g, v', rfl, h'⟩⟩

section
variable {w : World} {base : Nat} {p : Option Addr}
theorem z_sync (h : Zr w base p) (hb : base ≤ w.heap.size) : Calls Try.prog 24 #[.pointer p] w fun e w' => e = .returned (.tuple #[]) ∧ Zr w' base p ∧ Below base w w' := by
  obtain ⟨g, v, w1, hz, hD, b1, -, hZ⟩ := h.orz hb
  refine (sync_any _ _ _ _ _ _ _ _ _ hz hD).mono ?_
  rintro e w2 ⟨rfl, hD2, s2⟩
  exact ⟨rfl, hZ _ _ hD2, b1.trans (hD.stepBelow s2 (Nat.le_trans hb b1.size))⟩
theorem crash_nil (x a t : Int) : Dk.crash [] 0 x a t = [] := by
  have hk : Dk.kept [] 0 x = 0 := by unfold Dk.kept; simp; omega
  rw [Dk.crash, hk]
  rfl
theorem z_crash (x a t : Int) (h : Zr w base p) (hb : base ≤ w.heap.size) : Calls Try.prog 22 #[.pointer p, .int .i64 x, .int .i64 a, .int .i64 t] w fun e w' => e = .returned (.tuple #[]) ∧ Zr w' base p ∧ Below base w w' := by
  obtain ⟨g, v, w1, hz, hD, b1, -, hZ⟩ := h.orz hb
  refine (crash_any _ x a t _ _ _ _ _ _ _ _ hz hD (Nat.le_refl _)).mono ?_
  rintro e w2 ⟨rfl, v', hD2, s2⟩
  rw [crash_nil] at hD2
  exact ⟨rfl, hZ _ _ hD2, b1.trans (hD.stepBelow s2 (Nat.le_trans hb b1.size))⟩
theorem z_append {ao : Option Addr} {m c : Nat} {l : List UInt8} (h : Zr w base p) (hb : base ≤ w.heap.size) (hB : Bytes w ao m c l) (hm : m ≤ 1000) :
    Calls Try.prog 21 #[.pointer p, .slice ao m c] w fun e w' => e = .returned (.int .i64 (if m = 0 then 0 else 9)) ∧ Zr w' base p ∧ Below base w w' := by
  obtain ⟨g, v, w1, hz, hD, b1, b0, hZ⟩ := h.orz hb
  by_cases h0 : m = 0
  · subst h0
    have hl : l = [] := List.eq_nil_of_length_eq_zero hB.len
    subst hl
    refine (append_ok _ _ _ _ _ _ _ _ _ _ _ _ _ hz hD (hB.below b0 (Nat.le_refl _)) (by decide) (Nat.le_trans hb b1.size)).mono ?_
    rintro e w2 ⟨rfl, v', hD2, s2⟩
    exact ⟨rfl, hZ _ _ hD2, b1.trans (hD.stepBelow s2 (Nat.le_trans hb b1.size))⟩
  · refine (append_full _ _ _ _ _ _ _ _ _ _ _ _ hz hD (by rw [List.length_nil]; omega) (by unfold maxLen; omega)).mono ?_
    rintro e w2 ⟨rfl, hD2, s2⟩
    exact ⟨by rw [if_neg h0], hZ _ _ hD2, b1.trans (hD.stepBelow s2 (Nat.le_trans hb b1.size))⟩
theorem z_replace {ao : Option Addr} {m c : Nat} {l : List UInt8} (h : Zr w base p) (hb : base ≤ w.heap.size) (hB : Bytes w ao m c l) :
    Calls Try.prog 23 #[.pointer p, .slice ao m c] w fun e w' => e = .returned (.int .i64 (if m = 0 then 0 else 9)) ∧ Zr w' base p ∧ Below base w w' := by
  obtain ⟨g, v, w1, hz, hD, b1, b0, hZ⟩ := h.orz hb
  by_cases h0 : m = 0
  · subst h0
    have hl : l = [] := List.eq_nil_of_length_eq_zero hB.len
    subst hl
    refine (replace_ok _ _ _ _ _ _ _ _ _ _ _ _ _ hz hD (hB.below b0 (Nat.le_refl _)) (by decide) (Nat.le_trans hb b1.size)).mono ?_
    rintro e w2 ⟨rfl, v', hD2, s2⟩
    exact ⟨rfl, hZ _ _ hD2, b1.trans (hD.stepBelow s2 (Nat.le_trans hb b1.size))⟩
  · refine (replace_full _ _ _ _ _ _ _ _ _ _ _ _ hz hD (by omega)).mono ?_
    rintro e w2 ⟨rfl, rfl⟩
    exact ⟨by rw [if_neg h0], hZ _ _ hD, b1⟩
theorem z_cut (x : Int) (h : Zr w base p) (hb : base ≤ w.heap.size) :
    Calls Try.prog 25 #[.pointer p, .int .i64 x] w fun e w' => e = .returned (.int .i64 (if x = 0 then 0 else 1)) ∧ Zr w' base p ∧ Below base w w' := by
  obtain ⟨g, v, w1, hz, hD, b1, b0, hZ⟩ := h.orz hb
  by_cases h0 : x = 0
  · subst h0
    refine (cut_ok _ 0 _ _ _ _ _ _ _ _ hz hD (Nat.le_refl _)).mono ?_
    rintro e w2 ⟨rfl, v', hD2, s2⟩
    exact ⟨rfl, hZ _ _ hD2, b1.trans (hD.stepBelow s2 (Nat.le_trans hb b1.size))⟩
  · refine (cut_arg _ x _ _ _ _ _ _ _ _ hz hD (by rw [List.length_nil]; omega)).mono ?_
    rintro e w2 ⟨rfl, rfl⟩
    exact ⟨by rw [if_neg h0], hZ _ _ hD, b1⟩
theorem z_room (h : Zr w base p) (hb : base ≤ w.heap.size) : Calls Try.prog 13 #[.pointer p] w fun e w' => e = .returned (.int .i64 0) ∧ Zr w' base p ∧ Below base w w' := by
  obtain ⟨g, v, w1, hz, hD, b1, -, hZ⟩ := h.orz hb
  refine (room_any _ _ _ _ _ _ _ _ _ hz hD).mono ?_
  rintro e w2 ⟨rfl, rfl⟩
  exact ⟨rfl, hZ _ _ hD, b1⟩
theorem z_fast (h : Zr w base p) (hb : base ≤ w.heap.size) : Calls Try.prog 20 #[.pointer p] w fun e w' => e = .returned (.int .i64 0) ∧ Zr w' base p ∧ Below base w w' := by
  obtain ⟨g, v, w1, hz, hD, b1, -, hZ⟩ := h.orz hb
  refine (fast_any _ _ _ _ _ _ _ _ _ hz hD).mono ?_
  rintro e w2 ⟨rfl, rfl⟩
  exact ⟨rfl, hZ _ _ hD, b1⟩
theorem z_bytes (h : Zr w base p) (hb : base ≤ w.heap.size) : Calls Try.prog 19 #[.pointer p] w fun e w' => (∃ ao c, e = .returned (.slice ao 0 c)) ∧ Below base w w' := by
  obtain ⟨g, v, w1, hz, hD, b1, -, hZ⟩ := h.orz hb
  refine (bytes_any _ _ _ _ _ _ _ _ _ hz hD).mono ?_
  rintro e w2 ⟨v2, rfl, h2, b2⟩
  obtain ⟨ao, c, rfl⟩ := own_slice h2
  exact ⟨⟨ao, c, rfl⟩, b1.trans (b2.mono (Nat.le_trans hb b1.size))⟩
end

/-- The cells of a call that was handed in. -/
theorem op_cells (w : World) (o : Cl) : (∀ (j : Nat) (u : Value), (opl o)[j]? = some u → (w.alloc (.cells (opc o) 33)).cell? ⟨w.heap.size, j, none⟩ = some u) := by
  intro j u hu
  rw [World.cell?_alloc_mark, ← hu]
  simp [opc, opl]

set_option maxHeartbeats 1000000 in
theorem nil_long (o : Cl) (z : Bool) (hb : o.b.size ≤ maxLen) (h : 1000 < o.b.size) (w : World) :
    Calls Try.prog 7 #[.agg (opc o), .bool z] w fun e w' => e = .returned (.bool true) ∧ Below w.heap.size w w' := by
  have H : Hid _ := (Below.refl _ w).alloc (Nat.le_refl _) (.cells (opc o) 33)
  have c4 := op_cells w o 4 _ rfl
  have hlt : w.heap.size < (w.alloc (.cells (opc o) 33)).heap.size := by simp
  unfold maxLen at hb
  have h' : (1000 : Int) < (o.b.size : Int) := by omega
  rw [opc] at *
  generalize o.b = b at *
  generalize o.kind = k at *
  generalize o.n = n at *
  generalize o.at0 = a at *
  generalize o.turn = t at *
  go_enter Try.func7, Try.ntmps7
  go_wp2_with fail
  refine (awake_any _).mono ?_
  rintro e w1 ⟨rfl, b1⟩
  have d4 := (b1.cell (p := ⟨w.heap.size, 4, none⟩) hlt).trans c4
  have s1 := H.out.trans (b1.mono (Nat.le_of_lt hlt))
  clear c4 b1 hlt
  go_wp2_with fail
  refine (awake_any _).mono ?_
  rintro e w2 ⟨rfl, b2⟩
  go_wp2
  go_ret
  exact ⟨rfl, s1.trans (b2.mono s1.size)⟩

set_option maxHeartbeats 2000000 in
theorem nil_f00 (k a t : Int) (w : World) :
    Calls Try.prog 7 #[.agg (opc ⟨k, 0, a, t, ⟨#[]⟩⟩), .bool false] w fun e w' => e = .returned (.bool true) ∧ Below w.heap.size w w' := by
  have H : Hid _ := (Below.refl _ w).alloc (Nat.le_refl _) (.cells (opc ⟨k, 0, a, t, ⟨#[]⟩⟩) 33)
  have c4 := op_cells w ⟨k, 0, a, t, ⟨#[]⟩⟩ 4 _ rfl
  have c3 := op_cells w ⟨k, 0, a, t, ⟨#[]⟩⟩ 3 _ rfl
  have c2 := op_cells w ⟨k, 0, a, t, ⟨#[]⟩⟩ 2 _ rfl
  have c1 := op_cells w ⟨k, 0, a, t, ⟨#[]⟩⟩ 1 _ rfl
  have hlt : w.heap.size < (w.alloc (.cells (opc ⟨k, 0, a, t, ⟨#[]⟩⟩) 33)).heap.size := by simp
  rw [opc] at *
  simp only at c1 c2 c3 c4
  go_enter Try.func7, Try.ntmps7
  go_wp2_with fail
  refine (awake_any _).mono ?_
  rintro e w1 ⟨rfl, b1⟩
  have B1 := H.out.trans (b1.mono (Nat.le_of_lt hlt))
  have e4 := (b1.cell (p := ⟨w.heap.size, 4, none⟩) hlt).trans c4
  have e3 := (b1.cell (p := ⟨w.heap.size, 3, none⟩) hlt).trans c3
  have e2 := (b1.cell (p := ⟨w.heap.size, 2, none⟩) hlt).trans c2
  have e1 := (b1.cell (p := ⟨w.heap.size, 1, none⟩) hlt).trans c1
  have s1 := b1.size
  have l1 : w.heap.size < w1.heap.size := Nat.lt_of_lt_of_le hlt s1
  clear c1 c2 c3 c4 H b1 hlt s1
  have hZ : Zr w1 w1.heap.size none := .inl rfl
  have hbase : w1.heap.size ≤ w1.heap.size := Nat.le_refl _
  have Bb : Below w1.heap.size w1 w1 := Below.refl _ _
  have f4 := e4
  have f3 := e3
  have f2 := e2
  have f1 := e1
  go_wp2_with fail
  refine (z_sync hZ hbase).mono ?_
  clear e1 e2 e3 e4
  rintro e wx ⟨rfl, hZx, bx⟩
  have Bx := Bb.trans bx
  clear Bb bx hZ hbase
  have Bb := Bx
  have hZ := hZx
  have hbase := Bb.size
  clear Bx hZx
  have e4 := (Bb.cell (p := ⟨w.heap.size, 4, none⟩) l1).trans f4
  have e3 := (Bb.cell (p := ⟨w.heap.size, 3, none⟩) l1).trans f3
  have e2 := (Bb.cell (p := ⟨w.heap.size, 2, none⟩) l1).trans f2
  have e1 := (Bb.cell (p := ⟨w.heap.size, 1, none⟩) l1).trans f1
  generalize hwx : wx = wa at *
  clear hwx
  go_wp2_with fail
  refine (z_crash 0 a t hZ hbase).mono ?_
  clear e1 e2 e3 e4
  rintro e wx ⟨rfl, hZx, bx⟩
  have Bx := Bb.trans bx
  clear Bb bx hZ hbase
  have Bb := Bx
  have hZ := hZx
  have hbase := Bb.size
  clear Bx hZx
  have e4 := (Bb.cell (p := ⟨w.heap.size, 4, none⟩) l1).trans f4
  have e3 := (Bb.cell (p := ⟨w.heap.size, 3, none⟩) l1).trans f3
  have e2 := (Bb.cell (p := ⟨w.heap.size, 2, none⟩) l1).trans f2
  have e1 := (Bb.cell (p := ⟨w.heap.size, 1, none⟩) l1).trans f1
  generalize hwx : wx = wb at *
  clear hwx
  obtain ⟨ci1, wi1, hcv1, hB1, -, b1, -⟩ := conv_bytes ⟨#[]⟩ wb (by decide)
  have hZi := hZ.below b1
  have Bi := Bb.trans (b1.mono hbase)
  clear hZ Bb b1
  have hZ := hZi
  have Bb := Bi
  clear hZi Bi hbase
  have hbase := Bb.size
  go_wp2_with fail
  refine (z_append hZ hbase hB1 (by decide)).mono ?_
  clear e1 e2 e3 e4 hcv1 hB1
  rintro e wx ⟨rfl, hZx, bx⟩
  have Bx := Bb.trans bx
  clear Bb bx hZ hbase
  have Bb := Bx
  have hZ := hZx
  have hbase := Bb.size
  clear Bx hZx
  have e4 := (Bb.cell (p := ⟨w.heap.size, 4, none⟩) l1).trans f4
  have e3 := (Bb.cell (p := ⟨w.heap.size, 3, none⟩) l1).trans f3
  have e2 := (Bb.cell (p := ⟨w.heap.size, 2, none⟩) l1).trans f2
  have e1 := (Bb.cell (p := ⟨w.heap.size, 1, none⟩) l1).trans f1
  generalize hwx : wx = wc at *
  clear hwx
  obtain ⟨ci2, wi2, hcv2, hB2, -, b2, -⟩ := conv_bytes ⟨#[]⟩ wc (by decide)
  have hZi := hZ.below b2
  have Bi := Bb.trans (b2.mono hbase)
  clear hZ Bb b2
  have hZ := hZi
  have Bb := Bi
  clear hZi Bi hbase
  have hbase := Bb.size
  go_wp2_with fail
  refine (z_replace hZ hbase hB2).mono ?_
  clear e1 e2 e3 e4 hcv2 hB2
  rintro e wx ⟨rfl, hZx, bx⟩
  have Bx := Bb.trans bx
  clear Bb bx hZ hbase
  have Bb := Bx
  have hZ := hZx
  have hbase := Bb.size
  clear Bx hZx
  have e4 := (Bb.cell (p := ⟨w.heap.size, 4, none⟩) l1).trans f4
  have e3 := (Bb.cell (p := ⟨w.heap.size, 3, none⟩) l1).trans f3
  have e2 := (Bb.cell (p := ⟨w.heap.size, 2, none⟩) l1).trans f2
  have e1 := (Bb.cell (p := ⟨w.heap.size, 1, none⟩) l1).trans f1
  generalize hwx : wx = wd at *
  clear hwx
  go_wp2_with fail
  refine (z_cut 0 hZ hbase).mono ?_
  clear e1 e2 e3 e4
  rintro e wx ⟨rfl, hZx, bx⟩
  have Bx := Bb.trans bx
  clear Bb bx hZ hbase
  have Bb := Bx
  have hZ := hZx
  have hbase := Bb.size
  clear Bx hZx
  have e4 := (Bb.cell (p := ⟨w.heap.size, 4, none⟩) l1).trans f4
  have e3 := (Bb.cell (p := ⟨w.heap.size, 3, none⟩) l1).trans f3
  have e2 := (Bb.cell (p := ⟨w.heap.size, 2, none⟩) l1).trans f2
  have e1 := (Bb.cell (p := ⟨w.heap.size, 1, none⟩) l1).trans f1
  generalize hwx : wx = we at *
  clear hwx
  go_wp2_with fail
  refine (z_room hZ hbase).mono ?_
  clear e1 e2 e3 e4
  rintro e wx ⟨rfl, hZx, bx⟩
  have Bx := Bb.trans bx
  clear Bb bx hZ hbase
  have Bb := Bx
  have hZ := hZx
  have hbase := Bb.size
  clear Bx hZx
  have e4 := (Bb.cell (p := ⟨w.heap.size, 4, none⟩) l1).trans f4
  have e3 := (Bb.cell (p := ⟨w.heap.size, 3, none⟩) l1).trans f3
  have e2 := (Bb.cell (p := ⟨w.heap.size, 2, none⟩) l1).trans f2
  have e1 := (Bb.cell (p := ⟨w.heap.size, 1, none⟩) l1).trans f1
  generalize hwx : wx = wf at *
  clear hwx
  go_wp2_with fail
  refine (z_fast hZ hbase).mono ?_
  clear e1 e2 e3 e4
  rintro e wx ⟨rfl, hZx, bx⟩
  have Bx := Bb.trans bx
  clear Bb bx hZ hbase
  have Bb := Bx
  have hZ := hZx
  have hbase := Bb.size
  clear Bx hZx
  have e4 := (Bb.cell (p := ⟨w.heap.size, 4, none⟩) l1).trans f4
  have e3 := (Bb.cell (p := ⟨w.heap.size, 3, none⟩) l1).trans f3
  have e2 := (Bb.cell (p := ⟨w.heap.size, 2, none⟩) l1).trans f2
  have e1 := (Bb.cell (p := ⟨w.heap.size, 1, none⟩) l1).trans f1
  go_wp2_with fail
  refine (z_bytes hZ hbase).mono ?_
  rintro e wy ⟨⟨ao, cy, rfl⟩, by0⟩
  clear e1 e2 e3 e4
  go_wp2
  go_ret
  exact ⟨rfl, B1.trans ((Bb.trans by0).mono (Nat.le_of_lt l1))⟩

set_option maxHeartbeats 2000000 in
theorem nil_f01 (k a t : Int) (n : Int) (hn : n ≠ 0) (w : World) :
    Calls Try.prog 7 #[.agg (opc ⟨k, n, a, t, ⟨#[]⟩⟩), .bool false] w fun e w' => e = .returned (.bool true) ∧ Below w.heap.size w w' := by
  have H : Hid _ := (Below.refl _ w).alloc (Nat.le_refl _) (.cells (opc ⟨k, n, a, t, ⟨#[]⟩⟩) 33)
  have c4 := op_cells w ⟨k, n, a, t, ⟨#[]⟩⟩ 4 _ rfl
  have c3 := op_cells w ⟨k, n, a, t, ⟨#[]⟩⟩ 3 _ rfl
  have c2 := op_cells w ⟨k, n, a, t, ⟨#[]⟩⟩ 2 _ rfl
  have c1 := op_cells w ⟨k, n, a, t, ⟨#[]⟩⟩ 1 _ rfl
  have hlt : w.heap.size < (w.alloc (.cells (opc ⟨k, n, a, t, ⟨#[]⟩⟩) 33)).heap.size := by simp
  rw [opc] at *
  simp only at c1 c2 c3 c4
  go_enter Try.func7, Try.ntmps7
  go_wp2_with fail
  refine (awake_any _).mono ?_
  rintro e w1 ⟨rfl, b1⟩
  have B1 := H.out.trans (b1.mono (Nat.le_of_lt hlt))
  have e4 := (b1.cell (p := ⟨w.heap.size, 4, none⟩) hlt).trans c4
  have e3 := (b1.cell (p := ⟨w.heap.size, 3, none⟩) hlt).trans c3
  have e2 := (b1.cell (p := ⟨w.heap.size, 2, none⟩) hlt).trans c2
  have e1 := (b1.cell (p := ⟨w.heap.size, 1, none⟩) hlt).trans c1
  have s1 := b1.size
  have l1 : w.heap.size < w1.heap.size := Nat.lt_of_lt_of_le hlt s1
  clear c1 c2 c3 c4 H b1 hlt s1
  have hZ : Zr w1 w1.heap.size none := .inl rfl
  have hbase : w1.heap.size ≤ w1.heap.size := Nat.le_refl _
  have Bb : Below w1.heap.size w1 w1 := Below.refl _ _
  have f4 := e4
  have f3 := e3
  have f2 := e2
  have f1 := e1
  go_wp2_with fail
  refine (z_sync hZ hbase).mono ?_
  clear e1 e2 e3 e4
  rintro e wx ⟨rfl, hZx, bx⟩
  have Bx := Bb.trans bx
  clear Bb bx hZ hbase
  have Bb := Bx
  have hZ := hZx
  have hbase := Bb.size
  clear Bx hZx
  have e4 := (Bb.cell (p := ⟨w.heap.size, 4, none⟩) l1).trans f4
  have e3 := (Bb.cell (p := ⟨w.heap.size, 3, none⟩) l1).trans f3
  have e2 := (Bb.cell (p := ⟨w.heap.size, 2, none⟩) l1).trans f2
  have e1 := (Bb.cell (p := ⟨w.heap.size, 1, none⟩) l1).trans f1
  generalize hwx : wx = wa at *
  clear hwx
  go_wp2_with fail
  refine (z_crash n a t hZ hbase).mono ?_
  clear e1 e2 e3 e4
  rintro e wx ⟨rfl, hZx, bx⟩
  have Bx := Bb.trans bx
  clear Bb bx hZ hbase
  have Bb := Bx
  have hZ := hZx
  have hbase := Bb.size
  clear Bx hZx
  have e4 := (Bb.cell (p := ⟨w.heap.size, 4, none⟩) l1).trans f4
  have e3 := (Bb.cell (p := ⟨w.heap.size, 3, none⟩) l1).trans f3
  have e2 := (Bb.cell (p := ⟨w.heap.size, 2, none⟩) l1).trans f2
  have e1 := (Bb.cell (p := ⟨w.heap.size, 1, none⟩) l1).trans f1
  generalize hwx : wx = wb at *
  clear hwx
  obtain ⟨ci1, wi1, hcv1, hB1, -, b1, -⟩ := conv_bytes ⟨#[]⟩ wb (by decide)
  have hZi := hZ.below b1
  have Bi := Bb.trans (b1.mono hbase)
  clear hZ Bb b1
  have hZ := hZi
  have Bb := Bi
  clear hZi Bi hbase
  have hbase := Bb.size
  go_wp2_with fail
  refine (z_append hZ hbase hB1 (by decide)).mono ?_
  clear e1 e2 e3 e4 hcv1 hB1
  rintro e wx ⟨rfl, hZx, bx⟩
  have Bx := Bb.trans bx
  clear Bb bx hZ hbase
  have Bb := Bx
  have hZ := hZx
  have hbase := Bb.size
  clear Bx hZx
  have e4 := (Bb.cell (p := ⟨w.heap.size, 4, none⟩) l1).trans f4
  have e3 := (Bb.cell (p := ⟨w.heap.size, 3, none⟩) l1).trans f3
  have e2 := (Bb.cell (p := ⟨w.heap.size, 2, none⟩) l1).trans f2
  have e1 := (Bb.cell (p := ⟨w.heap.size, 1, none⟩) l1).trans f1
  generalize hwx : wx = wc at *
  clear hwx
  obtain ⟨ci2, wi2, hcv2, hB2, -, b2, -⟩ := conv_bytes ⟨#[]⟩ wc (by decide)
  have hZi := hZ.below b2
  have Bi := Bb.trans (b2.mono hbase)
  clear hZ Bb b2
  have hZ := hZi
  have Bb := Bi
  clear hZi Bi hbase
  have hbase := Bb.size
  go_wp2_with fail
  refine (z_replace hZ hbase hB2).mono ?_
  clear e1 e2 e3 e4 hcv2 hB2
  rintro e wx ⟨rfl, hZx, bx⟩
  have Bx := Bb.trans bx
  clear Bb bx hZ hbase
  have Bb := Bx
  have hZ := hZx
  have hbase := Bb.size
  clear Bx hZx
  have e4 := (Bb.cell (p := ⟨w.heap.size, 4, none⟩) l1).trans f4
  have e3 := (Bb.cell (p := ⟨w.heap.size, 3, none⟩) l1).trans f3
  have e2 := (Bb.cell (p := ⟨w.heap.size, 2, none⟩) l1).trans f2
  have e1 := (Bb.cell (p := ⟨w.heap.size, 1, none⟩) l1).trans f1
  generalize hwx : wx = wd at *
  clear hwx
  go_wp2_with fail
  refine (z_cut n hZ hbase).mono ?_
  clear e1 e2 e3 e4
  rintro e wx ⟨rfl, hZx, bx⟩
  have Bx := Bb.trans bx
  clear Bb bx hZ hbase
  have Bb := Bx
  have hZ := hZx
  have hbase := Bb.size
  clear Bx hZx
  have e4 := (Bb.cell (p := ⟨w.heap.size, 4, none⟩) l1).trans f4
  have e3 := (Bb.cell (p := ⟨w.heap.size, 3, none⟩) l1).trans f3
  have e2 := (Bb.cell (p := ⟨w.heap.size, 2, none⟩) l1).trans f2
  have e1 := (Bb.cell (p := ⟨w.heap.size, 1, none⟩) l1).trans f1
  rw [if_neg hn]
  generalize hwx : wx = we at *
  clear hwx
  go_wp2_with fail
  refine (z_room hZ hbase).mono ?_
  clear e1 e2 e3 e4
  rintro e wx ⟨rfl, hZx, bx⟩
  have Bx := Bb.trans bx
  clear Bb bx hZ hbase
  have Bb := Bx
  have hZ := hZx
  have hbase := Bb.size
  clear Bx hZx
  have e4 := (Bb.cell (p := ⟨w.heap.size, 4, none⟩) l1).trans f4
  have e3 := (Bb.cell (p := ⟨w.heap.size, 3, none⟩) l1).trans f3
  have e2 := (Bb.cell (p := ⟨w.heap.size, 2, none⟩) l1).trans f2
  have e1 := (Bb.cell (p := ⟨w.heap.size, 1, none⟩) l1).trans f1
  generalize hwx : wx = wf at *
  clear hwx
  go_wp2_with fail
  refine (z_fast hZ hbase).mono ?_
  clear e1 e2 e3 e4
  rintro e wx ⟨rfl, hZx, bx⟩
  have Bx := Bb.trans bx
  clear Bb bx hZ hbase
  have Bb := Bx
  have hZ := hZx
  have hbase := Bb.size
  clear Bx hZx
  have e4 := (Bb.cell (p := ⟨w.heap.size, 4, none⟩) l1).trans f4
  have e3 := (Bb.cell (p := ⟨w.heap.size, 3, none⟩) l1).trans f3
  have e2 := (Bb.cell (p := ⟨w.heap.size, 2, none⟩) l1).trans f2
  have e1 := (Bb.cell (p := ⟨w.heap.size, 1, none⟩) l1).trans f1
  go_wp2_with fail
  refine (z_bytes hZ hbase).mono ?_
  rintro e wy ⟨⟨ao, cy, rfl⟩, by0⟩
  clear e1 e2 e3 e4
  go_wp2
  go_ret
  exact ⟨rfl, B1.trans ((Bb.trans by0).mono (Nat.le_of_lt l1))⟩

set_option maxHeartbeats 2000000 in
theorem nil_f10 (k a t : Int) (b : ByteArray) (hb : b.size ≤ 1000) (hb0 : b.size ≠ 0) (w : World) :
    Calls Try.prog 7 #[.agg (opc ⟨k, 0, a, t, b⟩), .bool false] w fun e w' => e = .returned (.bool true) ∧ Below w.heap.size w w' := by
  have H : Hid _ := (Below.refl _ w).alloc (Nat.le_refl _) (.cells (opc ⟨k, 0, a, t, b⟩) 33)
  have c4 := op_cells w ⟨k, 0, a, t, b⟩ 4 _ rfl
  have c3 := op_cells w ⟨k, 0, a, t, b⟩ 3 _ rfl
  have c2 := op_cells w ⟨k, 0, a, t, b⟩ 2 _ rfl
  have c1 := op_cells w ⟨k, 0, a, t, b⟩ 1 _ rfl
  have hlt : w.heap.size < (w.alloc (.cells (opc ⟨k, 0, a, t, b⟩) 33)).heap.size := by simp
  have h' : ¬ (1000 : Int) < (b.size : Int) := by omega
  have hbe : b.toList.isEmpty = false := by
    rw [ByteArray.toList_eq, List.isEmpty_eq_false_iff]
    exact fun e => hb0 (by rw [← size_lsn, e]; rfl)
  rw [opc] at *
  simp only at c1 c2 c3 c4
  go_enter Try.func7, Try.ntmps7
  go_wp2_with fail
  refine (awake_any _).mono ?_
  rintro e w1 ⟨rfl, b1⟩
  have B1 := H.out.trans (b1.mono (Nat.le_of_lt hlt))
  have e4 := (b1.cell (p := ⟨w.heap.size, 4, none⟩) hlt).trans c4
  have e3 := (b1.cell (p := ⟨w.heap.size, 3, none⟩) hlt).trans c3
  have e2 := (b1.cell (p := ⟨w.heap.size, 2, none⟩) hlt).trans c2
  have e1 := (b1.cell (p := ⟨w.heap.size, 1, none⟩) hlt).trans c1
  have s1 := b1.size
  have l1 : w.heap.size < w1.heap.size := Nat.lt_of_lt_of_le hlt s1
  clear c1 c2 c3 c4 H b1 hlt s1
  have hZ : Zr w1 w1.heap.size none := .inl rfl
  have hbase : w1.heap.size ≤ w1.heap.size := Nat.le_refl _
  have Bb : Below w1.heap.size w1 w1 := Below.refl _ _
  have f4 := e4
  have f3 := e3
  have f2 := e2
  have f1 := e1
  go_wp2_with fail
  refine (z_sync hZ hbase).mono ?_
  clear e1 e2 e3 e4
  rintro e wx ⟨rfl, hZx, bx⟩
  have Bx := Bb.trans bx
  clear Bb bx hZ hbase
  have Bb := Bx
  have hZ := hZx
  have hbase := Bb.size
  clear Bx hZx
  have e4 := (Bb.cell (p := ⟨w.heap.size, 4, none⟩) l1).trans f4
  have e3 := (Bb.cell (p := ⟨w.heap.size, 3, none⟩) l1).trans f3
  have e2 := (Bb.cell (p := ⟨w.heap.size, 2, none⟩) l1).trans f2
  have e1 := (Bb.cell (p := ⟨w.heap.size, 1, none⟩) l1).trans f1
  generalize hwx : wx = wa at *
  clear hwx
  go_wp2_with fail
  refine (z_crash 0 a t hZ hbase).mono ?_
  clear e1 e2 e3 e4
  rintro e wx ⟨rfl, hZx, bx⟩
  have Bx := Bb.trans bx
  clear Bb bx hZ hbase
  have Bb := Bx
  have hZ := hZx
  have hbase := Bb.size
  clear Bx hZx
  have e4 := (Bb.cell (p := ⟨w.heap.size, 4, none⟩) l1).trans f4
  have e3 := (Bb.cell (p := ⟨w.heap.size, 3, none⟩) l1).trans f3
  have e2 := (Bb.cell (p := ⟨w.heap.size, 2, none⟩) l1).trans f2
  have e1 := (Bb.cell (p := ⟨w.heap.size, 1, none⟩) l1).trans f1
  generalize hwx : wx = wb at *
  clear hwx
  obtain ⟨ci1, wi1, hcv1, hB1, -, b1, -⟩ := conv_bytes b wb (by unfold maxLen; omega)
  have hZi := hZ.below b1
  have Bi := Bb.trans (b1.mono hbase)
  clear hZ Bb b1
  have hZ := hZi
  have Bb := Bi
  clear hZi Bi hbase
  have hbase := Bb.size
  go_wp2_with fail
  refine (z_append hZ hbase hB1 (by omega)).mono ?_
  clear e1 e2 e3 e4 hcv1 hB1
  rintro e wx ⟨rfl, hZx, bx⟩
  have Bx := Bb.trans bx
  clear Bb bx hZ hbase
  have Bb := Bx
  have hZ := hZx
  have hbase := Bb.size
  clear Bx hZx
  have e4 := (Bb.cell (p := ⟨w.heap.size, 4, none⟩) l1).trans f4
  have e3 := (Bb.cell (p := ⟨w.heap.size, 3, none⟩) l1).trans f3
  have e2 := (Bb.cell (p := ⟨w.heap.size, 2, none⟩) l1).trans f2
  have e1 := (Bb.cell (p := ⟨w.heap.size, 1, none⟩) l1).trans f1
  rw [if_neg hb0]
  generalize hwx : wx = wc at *
  clear hwx
  obtain ⟨ci2, wi2, hcv2, hB2, -, b2, -⟩ := conv_bytes b wc (by unfold maxLen; omega)
  have hZi := hZ.below b2
  have Bi := Bb.trans (b2.mono hbase)
  clear hZ Bb b2
  have hZ := hZi
  have Bb := Bi
  clear hZi Bi hbase
  have hbase := Bb.size
  go_wp2_with fail
  refine (z_replace hZ hbase hB2).mono ?_
  clear e1 e2 e3 e4 hcv2 hB2
  rintro e wx ⟨rfl, hZx, bx⟩
  have Bx := Bb.trans bx
  clear Bb bx hZ hbase
  have Bb := Bx
  have hZ := hZx
  have hbase := Bb.size
  clear Bx hZx
  have e4 := (Bb.cell (p := ⟨w.heap.size, 4, none⟩) l1).trans f4
  have e3 := (Bb.cell (p := ⟨w.heap.size, 3, none⟩) l1).trans f3
  have e2 := (Bb.cell (p := ⟨w.heap.size, 2, none⟩) l1).trans f2
  have e1 := (Bb.cell (p := ⟨w.heap.size, 1, none⟩) l1).trans f1
  rw [if_neg hb0]
  generalize hwx : wx = wd at *
  clear hwx
  go_wp2_with fail
  refine (z_cut 0 hZ hbase).mono ?_
  clear e1 e2 e3 e4
  rintro e wx ⟨rfl, hZx, bx⟩
  have Bx := Bb.trans bx
  clear Bb bx hZ hbase
  have Bb := Bx
  have hZ := hZx
  have hbase := Bb.size
  clear Bx hZx
  have e4 := (Bb.cell (p := ⟨w.heap.size, 4, none⟩) l1).trans f4
  have e3 := (Bb.cell (p := ⟨w.heap.size, 3, none⟩) l1).trans f3
  have e2 := (Bb.cell (p := ⟨w.heap.size, 2, none⟩) l1).trans f2
  have e1 := (Bb.cell (p := ⟨w.heap.size, 1, none⟩) l1).trans f1
  generalize hwx : wx = we at *
  clear hwx
  go_wp2_with fail
  refine (z_room hZ hbase).mono ?_
  clear e1 e2 e3 e4
  rintro e wx ⟨rfl, hZx, bx⟩
  have Bx := Bb.trans bx
  clear Bb bx hZ hbase
  have Bb := Bx
  have hZ := hZx
  have hbase := Bb.size
  clear Bx hZx
  have e4 := (Bb.cell (p := ⟨w.heap.size, 4, none⟩) l1).trans f4
  have e3 := (Bb.cell (p := ⟨w.heap.size, 3, none⟩) l1).trans f3
  have e2 := (Bb.cell (p := ⟨w.heap.size, 2, none⟩) l1).trans f2
  have e1 := (Bb.cell (p := ⟨w.heap.size, 1, none⟩) l1).trans f1
  generalize hwx : wx = wf at *
  clear hwx
  go_wp2_with fail
  refine (z_fast hZ hbase).mono ?_
  clear e1 e2 e3 e4
  rintro e wx ⟨rfl, hZx, bx⟩
  have Bx := Bb.trans bx
  clear Bb bx hZ hbase
  have Bb := Bx
  have hZ := hZx
  have hbase := Bb.size
  clear Bx hZx
  have e4 := (Bb.cell (p := ⟨w.heap.size, 4, none⟩) l1).trans f4
  have e3 := (Bb.cell (p := ⟨w.heap.size, 3, none⟩) l1).trans f3
  have e2 := (Bb.cell (p := ⟨w.heap.size, 2, none⟩) l1).trans f2
  have e1 := (Bb.cell (p := ⟨w.heap.size, 1, none⟩) l1).trans f1
  go_wp2_with fail
  refine (z_bytes hZ hbase).mono ?_
  rintro e wy ⟨⟨ao, cy, rfl⟩, by0⟩
  clear e1 e2 e3 e4
  go_wp2
  go_ret
  exact ⟨rfl, B1.trans ((Bb.trans by0).mono (Nat.le_of_lt l1))⟩

set_option maxHeartbeats 2000000 in
theorem nil_f11 (k a t : Int) (b : ByteArray) (hb : b.size ≤ 1000) (hb0 : b.size ≠ 0) (n : Int) (hn : n ≠ 0) (w : World) :
    Calls Try.prog 7 #[.agg (opc ⟨k, n, a, t, b⟩), .bool false] w fun e w' => e = .returned (.bool true) ∧ Below w.heap.size w w' := by
  have H : Hid _ := (Below.refl _ w).alloc (Nat.le_refl _) (.cells (opc ⟨k, n, a, t, b⟩) 33)
  have c4 := op_cells w ⟨k, n, a, t, b⟩ 4 _ rfl
  have c3 := op_cells w ⟨k, n, a, t, b⟩ 3 _ rfl
  have c2 := op_cells w ⟨k, n, a, t, b⟩ 2 _ rfl
  have c1 := op_cells w ⟨k, n, a, t, b⟩ 1 _ rfl
  have hlt : w.heap.size < (w.alloc (.cells (opc ⟨k, n, a, t, b⟩) 33)).heap.size := by simp
  have h' : ¬ (1000 : Int) < (b.size : Int) := by omega
  have hbe : b.toList.isEmpty = false := by
    rw [ByteArray.toList_eq, List.isEmpty_eq_false_iff]
    exact fun e => hb0 (by rw [← size_lsn, e]; rfl)
  rw [opc] at *
  simp only at c1 c2 c3 c4
  go_enter Try.func7, Try.ntmps7
  go_wp2_with fail
  refine (awake_any _).mono ?_
  rintro e w1 ⟨rfl, b1⟩
  have B1 := H.out.trans (b1.mono (Nat.le_of_lt hlt))
  have e4 := (b1.cell (p := ⟨w.heap.size, 4, none⟩) hlt).trans c4
  have e3 := (b1.cell (p := ⟨w.heap.size, 3, none⟩) hlt).trans c3
  have e2 := (b1.cell (p := ⟨w.heap.size, 2, none⟩) hlt).trans c2
  have e1 := (b1.cell (p := ⟨w.heap.size, 1, none⟩) hlt).trans c1
  have s1 := b1.size
  have l1 : w.heap.size < w1.heap.size := Nat.lt_of_lt_of_le hlt s1
  clear c1 c2 c3 c4 H b1 hlt s1
  have hZ : Zr w1 w1.heap.size none := .inl rfl
  have hbase : w1.heap.size ≤ w1.heap.size := Nat.le_refl _
  have Bb : Below w1.heap.size w1 w1 := Below.refl _ _
  have f4 := e4
  have f3 := e3
  have f2 := e2
  have f1 := e1
  go_wp2_with fail
  refine (z_sync hZ hbase).mono ?_
  clear e1 e2 e3 e4
  rintro e wx ⟨rfl, hZx, bx⟩
  have Bx := Bb.trans bx
  clear Bb bx hZ hbase
  have Bb := Bx
  have hZ := hZx
  have hbase := Bb.size
  clear Bx hZx
  have e4 := (Bb.cell (p := ⟨w.heap.size, 4, none⟩) l1).trans f4
  have e3 := (Bb.cell (p := ⟨w.heap.size, 3, none⟩) l1).trans f3
  have e2 := (Bb.cell (p := ⟨w.heap.size, 2, none⟩) l1).trans f2
  have e1 := (Bb.cell (p := ⟨w.heap.size, 1, none⟩) l1).trans f1
  generalize hwx : wx = wa at *
  clear hwx
  go_wp2_with fail
  refine (z_crash n a t hZ hbase).mono ?_
  clear e1 e2 e3 e4
  rintro e wx ⟨rfl, hZx, bx⟩
  have Bx := Bb.trans bx
  clear Bb bx hZ hbase
  have Bb := Bx
  have hZ := hZx
  have hbase := Bb.size
  clear Bx hZx
  have e4 := (Bb.cell (p := ⟨w.heap.size, 4, none⟩) l1).trans f4
  have e3 := (Bb.cell (p := ⟨w.heap.size, 3, none⟩) l1).trans f3
  have e2 := (Bb.cell (p := ⟨w.heap.size, 2, none⟩) l1).trans f2
  have e1 := (Bb.cell (p := ⟨w.heap.size, 1, none⟩) l1).trans f1
  generalize hwx : wx = wb at *
  clear hwx
  obtain ⟨ci1, wi1, hcv1, hB1, -, b1, -⟩ := conv_bytes b wb (by unfold maxLen; omega)
  have hZi := hZ.below b1
  have Bi := Bb.trans (b1.mono hbase)
  clear hZ Bb b1
  have hZ := hZi
  have Bb := Bi
  clear hZi Bi hbase
  have hbase := Bb.size
  go_wp2_with fail
  refine (z_append hZ hbase hB1 (by omega)).mono ?_
  clear e1 e2 e3 e4 hcv1 hB1
  rintro e wx ⟨rfl, hZx, bx⟩
  have Bx := Bb.trans bx
  clear Bb bx hZ hbase
  have Bb := Bx
  have hZ := hZx
  have hbase := Bb.size
  clear Bx hZx
  have e4 := (Bb.cell (p := ⟨w.heap.size, 4, none⟩) l1).trans f4
  have e3 := (Bb.cell (p := ⟨w.heap.size, 3, none⟩) l1).trans f3
  have e2 := (Bb.cell (p := ⟨w.heap.size, 2, none⟩) l1).trans f2
  have e1 := (Bb.cell (p := ⟨w.heap.size, 1, none⟩) l1).trans f1
  rw [if_neg hb0]
  generalize hwx : wx = wc at *
  clear hwx
  obtain ⟨ci2, wi2, hcv2, hB2, -, b2, -⟩ := conv_bytes b wc (by unfold maxLen; omega)
  have hZi := hZ.below b2
  have Bi := Bb.trans (b2.mono hbase)
  clear hZ Bb b2
  have hZ := hZi
  have Bb := Bi
  clear hZi Bi hbase
  have hbase := Bb.size
  go_wp2_with fail
  refine (z_replace hZ hbase hB2).mono ?_
  clear e1 e2 e3 e4 hcv2 hB2
  rintro e wx ⟨rfl, hZx, bx⟩
  have Bx := Bb.trans bx
  clear Bb bx hZ hbase
  have Bb := Bx
  have hZ := hZx
  have hbase := Bb.size
  clear Bx hZx
  have e4 := (Bb.cell (p := ⟨w.heap.size, 4, none⟩) l1).trans f4
  have e3 := (Bb.cell (p := ⟨w.heap.size, 3, none⟩) l1).trans f3
  have e2 := (Bb.cell (p := ⟨w.heap.size, 2, none⟩) l1).trans f2
  have e1 := (Bb.cell (p := ⟨w.heap.size, 1, none⟩) l1).trans f1
  rw [if_neg hb0]
  generalize hwx : wx = wd at *
  clear hwx
  go_wp2_with fail
  refine (z_cut n hZ hbase).mono ?_
  clear e1 e2 e3 e4
  rintro e wx ⟨rfl, hZx, bx⟩
  have Bx := Bb.trans bx
  clear Bb bx hZ hbase
  have Bb := Bx
  have hZ := hZx
  have hbase := Bb.size
  clear Bx hZx
  have e4 := (Bb.cell (p := ⟨w.heap.size, 4, none⟩) l1).trans f4
  have e3 := (Bb.cell (p := ⟨w.heap.size, 3, none⟩) l1).trans f3
  have e2 := (Bb.cell (p := ⟨w.heap.size, 2, none⟩) l1).trans f2
  have e1 := (Bb.cell (p := ⟨w.heap.size, 1, none⟩) l1).trans f1
  rw [if_neg hn]
  generalize hwx : wx = we at *
  clear hwx
  go_wp2_with fail
  refine (z_room hZ hbase).mono ?_
  clear e1 e2 e3 e4
  rintro e wx ⟨rfl, hZx, bx⟩
  have Bx := Bb.trans bx
  clear Bb bx hZ hbase
  have Bb := Bx
  have hZ := hZx
  have hbase := Bb.size
  clear Bx hZx
  have e4 := (Bb.cell (p := ⟨w.heap.size, 4, none⟩) l1).trans f4
  have e3 := (Bb.cell (p := ⟨w.heap.size, 3, none⟩) l1).trans f3
  have e2 := (Bb.cell (p := ⟨w.heap.size, 2, none⟩) l1).trans f2
  have e1 := (Bb.cell (p := ⟨w.heap.size, 1, none⟩) l1).trans f1
  generalize hwx : wx = wf at *
  clear hwx
  go_wp2_with fail
  refine (z_fast hZ hbase).mono ?_
  clear e1 e2 e3 e4
  rintro e wx ⟨rfl, hZx, bx⟩
  have Bx := Bb.trans bx
  clear Bb bx hZ hbase
  have Bb := Bx
  have hZ := hZx
  have hbase := Bb.size
  clear Bx hZx
  have e4 := (Bb.cell (p := ⟨w.heap.size, 4, none⟩) l1).trans f4
  have e3 := (Bb.cell (p := ⟨w.heap.size, 3, none⟩) l1).trans f3
  have e2 := (Bb.cell (p := ⟨w.heap.size, 2, none⟩) l1).trans f2
  have e1 := (Bb.cell (p := ⟨w.heap.size, 1, none⟩) l1).trans f1
  go_wp2_with fail
  refine (z_bytes hZ hbase).mono ?_
  rintro e wy ⟨⟨ao, cy, rfl⟩, by0⟩
  clear e1 e2 e3 e4
  go_wp2
  go_ret
  exact ⟨rfl, B1.trans ((Bb.trans by0).mono (Nat.le_of_lt l1))⟩

set_option maxHeartbeats 2000000 in
theorem nil_t00 (k a t : Int) (w : World) :
    Calls Try.prog 7 #[.agg (opc ⟨k, 0, a, t, ⟨#[]⟩⟩), .bool true] w fun e w' => e = .returned (.bool true) ∧ Below w.heap.size w w' := by
  have H : Hid _ := (Below.refl _ w).alloc (Nat.le_refl _) (.cells (opc ⟨k, 0, a, t, ⟨#[]⟩⟩) 33)
  have c4 := op_cells w ⟨k, 0, a, t, ⟨#[]⟩⟩ 4 _ rfl
  have c3 := op_cells w ⟨k, 0, a, t, ⟨#[]⟩⟩ 3 _ rfl
  have c2 := op_cells w ⟨k, 0, a, t, ⟨#[]⟩⟩ 2 _ rfl
  have c1 := op_cells w ⟨k, 0, a, t, ⟨#[]⟩⟩ 1 _ rfl
  have hlt : w.heap.size < (w.alloc (.cells (opc ⟨k, 0, a, t, ⟨#[]⟩⟩) 33)).heap.size := by simp
  rw [opc] at *
  simp only at c1 c2 c3 c4
  go_enter Try.func7, Try.ntmps7
  go_wp2_with fail
  refine (awake_any _).mono ?_
  rintro e w1 ⟨rfl, b1⟩
  have B1 := H.out.trans (b1.mono (Nat.le_of_lt hlt))
  have e4 := (b1.cell (p := ⟨w.heap.size, 4, none⟩) hlt).trans c4
  have e3 := (b1.cell (p := ⟨w.heap.size, 3, none⟩) hlt).trans c3
  have e2 := (b1.cell (p := ⟨w.heap.size, 2, none⟩) hlt).trans c2
  have e1 := (b1.cell (p := ⟨w.heap.size, 1, none⟩) hlt).trans c1
  have s1 := b1.size
  have l1 : w.heap.size < w1.heap.size := Nat.lt_of_lt_of_le hlt s1
  clear c1 c2 c3 c4 H b1 hlt s1
  have hZ : Zr (w1.alloc (.cells #[.slice none 0 0, .int .i64 0, .int .i64 0] 47)) w1.heap.size (some ⟨w1.heap.size, 0, none⟩) := .inr ⟨_, _, rfl, dsk_new w1 w1.heap.size 0 (Nat.le_refl _) (by omega)⟩
  have Bb : Below w1.heap.size w1 (w1.alloc (.cells #[.slice none 0 0, .int .i64 0, .int .i64 0] 47)) := (Below.refl _ w1).alloc (Nat.le_refl _) _
  have hbase := Bb.size
  have f4 := e4
  have f3 := e3
  have f2 := e2
  have f1 := e1
  go_wp2_with fail
  refine (z_sync hZ hbase).mono ?_
  clear e1 e2 e3 e4
  rintro e wx ⟨rfl, hZx, bx⟩
  have Bx := Bb.trans bx
  clear Bb bx hZ hbase
  have Bb := Bx
  have hZ := hZx
  have hbase := Bb.size
  clear Bx hZx
  have e4 := (Bb.cell (p := ⟨w.heap.size, 4, none⟩) l1).trans f4
  have e3 := (Bb.cell (p := ⟨w.heap.size, 3, none⟩) l1).trans f3
  have e2 := (Bb.cell (p := ⟨w.heap.size, 2, none⟩) l1).trans f2
  have e1 := (Bb.cell (p := ⟨w.heap.size, 1, none⟩) l1).trans f1
  generalize hwx : wx = wa at *
  clear hwx
  go_wp2_with fail
  refine (z_crash 0 a t hZ hbase).mono ?_
  clear e1 e2 e3 e4
  rintro e wx ⟨rfl, hZx, bx⟩
  have Bx := Bb.trans bx
  clear Bb bx hZ hbase
  have Bb := Bx
  have hZ := hZx
  have hbase := Bb.size
  clear Bx hZx
  have e4 := (Bb.cell (p := ⟨w.heap.size, 4, none⟩) l1).trans f4
  have e3 := (Bb.cell (p := ⟨w.heap.size, 3, none⟩) l1).trans f3
  have e2 := (Bb.cell (p := ⟨w.heap.size, 2, none⟩) l1).trans f2
  have e1 := (Bb.cell (p := ⟨w.heap.size, 1, none⟩) l1).trans f1
  generalize hwx : wx = wb at *
  clear hwx
  obtain ⟨ci1, wi1, hcv1, hB1, -, b1, -⟩ := conv_bytes ⟨#[]⟩ wb (by decide)
  have hZi := hZ.below b1
  have Bi := Bb.trans (b1.mono hbase)
  clear hZ Bb b1
  have hZ := hZi
  have Bb := Bi
  clear hZi Bi hbase
  have hbase := Bb.size
  go_wp2_with fail
  refine (z_append hZ hbase hB1 (by decide)).mono ?_
  clear e1 e2 e3 e4 hcv1 hB1
  rintro e wx ⟨rfl, hZx, bx⟩
  have Bx := Bb.trans bx
  clear Bb bx hZ hbase
  have Bb := Bx
  have hZ := hZx
  have hbase := Bb.size
  clear Bx hZx
  have e4 := (Bb.cell (p := ⟨w.heap.size, 4, none⟩) l1).trans f4
  have e3 := (Bb.cell (p := ⟨w.heap.size, 3, none⟩) l1).trans f3
  have e2 := (Bb.cell (p := ⟨w.heap.size, 2, none⟩) l1).trans f2
  have e1 := (Bb.cell (p := ⟨w.heap.size, 1, none⟩) l1).trans f1
  generalize hwx : wx = wc at *
  clear hwx
  obtain ⟨ci2, wi2, hcv2, hB2, -, b2, -⟩ := conv_bytes ⟨#[]⟩ wc (by decide)
  have hZi := hZ.below b2
  have Bi := Bb.trans (b2.mono hbase)
  clear hZ Bb b2
  have hZ := hZi
  have Bb := Bi
  clear hZi Bi hbase
  have hbase := Bb.size
  go_wp2_with fail
  refine (z_replace hZ hbase hB2).mono ?_
  clear e1 e2 e3 e4 hcv2 hB2
  rintro e wx ⟨rfl, hZx, bx⟩
  have Bx := Bb.trans bx
  clear Bb bx hZ hbase
  have Bb := Bx
  have hZ := hZx
  have hbase := Bb.size
  clear Bx hZx
  have e4 := (Bb.cell (p := ⟨w.heap.size, 4, none⟩) l1).trans f4
  have e3 := (Bb.cell (p := ⟨w.heap.size, 3, none⟩) l1).trans f3
  have e2 := (Bb.cell (p := ⟨w.heap.size, 2, none⟩) l1).trans f2
  have e1 := (Bb.cell (p := ⟨w.heap.size, 1, none⟩) l1).trans f1
  generalize hwx : wx = wd at *
  clear hwx
  go_wp2_with fail
  refine (z_cut 0 hZ hbase).mono ?_
  clear e1 e2 e3 e4
  rintro e wx ⟨rfl, hZx, bx⟩
  have Bx := Bb.trans bx
  clear Bb bx hZ hbase
  have Bb := Bx
  have hZ := hZx
  have hbase := Bb.size
  clear Bx hZx
  have e4 := (Bb.cell (p := ⟨w.heap.size, 4, none⟩) l1).trans f4
  have e3 := (Bb.cell (p := ⟨w.heap.size, 3, none⟩) l1).trans f3
  have e2 := (Bb.cell (p := ⟨w.heap.size, 2, none⟩) l1).trans f2
  have e1 := (Bb.cell (p := ⟨w.heap.size, 1, none⟩) l1).trans f1
  generalize hwx : wx = we at *
  clear hwx
  go_wp2_with fail
  refine (z_room hZ hbase).mono ?_
  clear e1 e2 e3 e4
  rintro e wx ⟨rfl, hZx, bx⟩
  have Bx := Bb.trans bx
  clear Bb bx hZ hbase
  have Bb := Bx
  have hZ := hZx
  have hbase := Bb.size
  clear Bx hZx
  have e4 := (Bb.cell (p := ⟨w.heap.size, 4, none⟩) l1).trans f4
  have e3 := (Bb.cell (p := ⟨w.heap.size, 3, none⟩) l1).trans f3
  have e2 := (Bb.cell (p := ⟨w.heap.size, 2, none⟩) l1).trans f2
  have e1 := (Bb.cell (p := ⟨w.heap.size, 1, none⟩) l1).trans f1
  generalize hwx : wx = wf at *
  clear hwx
  go_wp2_with fail
  refine (z_fast hZ hbase).mono ?_
  clear e1 e2 e3 e4
  rintro e wx ⟨rfl, hZx, bx⟩
  have Bx := Bb.trans bx
  clear Bb bx hZ hbase
  have Bb := Bx
  have hZ := hZx
  have hbase := Bb.size
  clear Bx hZx
  have e4 := (Bb.cell (p := ⟨w.heap.size, 4, none⟩) l1).trans f4
  have e3 := (Bb.cell (p := ⟨w.heap.size, 3, none⟩) l1).trans f3
  have e2 := (Bb.cell (p := ⟨w.heap.size, 2, none⟩) l1).trans f2
  have e1 := (Bb.cell (p := ⟨w.heap.size, 1, none⟩) l1).trans f1
  go_wp2_with fail
  refine (z_bytes hZ hbase).mono ?_
  rintro e wy ⟨⟨ao, cy, rfl⟩, by0⟩
  clear e1 e2 e3 e4
  go_wp2
  go_ret
  exact ⟨rfl, B1.trans ((Bb.trans by0).mono (Nat.le_of_lt l1))⟩

set_option maxHeartbeats 2000000 in
theorem nil_t01 (k a t : Int) (n : Int) (hn : n ≠ 0) (w : World) :
    Calls Try.prog 7 #[.agg (opc ⟨k, n, a, t, ⟨#[]⟩⟩), .bool true] w fun e w' => e = .returned (.bool true) ∧ Below w.heap.size w w' := by
  have H : Hid _ := (Below.refl _ w).alloc (Nat.le_refl _) (.cells (opc ⟨k, n, a, t, ⟨#[]⟩⟩) 33)
  have c4 := op_cells w ⟨k, n, a, t, ⟨#[]⟩⟩ 4 _ rfl
  have c3 := op_cells w ⟨k, n, a, t, ⟨#[]⟩⟩ 3 _ rfl
  have c2 := op_cells w ⟨k, n, a, t, ⟨#[]⟩⟩ 2 _ rfl
  have c1 := op_cells w ⟨k, n, a, t, ⟨#[]⟩⟩ 1 _ rfl
  have hlt : w.heap.size < (w.alloc (.cells (opc ⟨k, n, a, t, ⟨#[]⟩⟩) 33)).heap.size := by simp
  rw [opc] at *
  simp only at c1 c2 c3 c4
  go_enter Try.func7, Try.ntmps7
  go_wp2_with fail
  refine (awake_any _).mono ?_
  rintro e w1 ⟨rfl, b1⟩
  have B1 := H.out.trans (b1.mono (Nat.le_of_lt hlt))
  have e4 := (b1.cell (p := ⟨w.heap.size, 4, none⟩) hlt).trans c4
  have e3 := (b1.cell (p := ⟨w.heap.size, 3, none⟩) hlt).trans c3
  have e2 := (b1.cell (p := ⟨w.heap.size, 2, none⟩) hlt).trans c2
  have e1 := (b1.cell (p := ⟨w.heap.size, 1, none⟩) hlt).trans c1
  have s1 := b1.size
  have l1 : w.heap.size < w1.heap.size := Nat.lt_of_lt_of_le hlt s1
  clear c1 c2 c3 c4 H b1 hlt s1
  have hZ : Zr (w1.alloc (.cells #[.slice none 0 0, .int .i64 0, .int .i64 0] 47)) w1.heap.size (some ⟨w1.heap.size, 0, none⟩) := .inr ⟨_, _, rfl, dsk_new w1 w1.heap.size 0 (Nat.le_refl _) (by omega)⟩
  have Bb : Below w1.heap.size w1 (w1.alloc (.cells #[.slice none 0 0, .int .i64 0, .int .i64 0] 47)) := (Below.refl _ w1).alloc (Nat.le_refl _) _
  have hbase := Bb.size
  have f4 := e4
  have f3 := e3
  have f2 := e2
  have f1 := e1
  go_wp2_with fail
  refine (z_sync hZ hbase).mono ?_
  clear e1 e2 e3 e4
  rintro e wx ⟨rfl, hZx, bx⟩
  have Bx := Bb.trans bx
  clear Bb bx hZ hbase
  have Bb := Bx
  have hZ := hZx
  have hbase := Bb.size
  clear Bx hZx
  have e4 := (Bb.cell (p := ⟨w.heap.size, 4, none⟩) l1).trans f4
  have e3 := (Bb.cell (p := ⟨w.heap.size, 3, none⟩) l1).trans f3
  have e2 := (Bb.cell (p := ⟨w.heap.size, 2, none⟩) l1).trans f2
  have e1 := (Bb.cell (p := ⟨w.heap.size, 1, none⟩) l1).trans f1
  generalize hwx : wx = wa at *
  clear hwx
  go_wp2_with fail
  refine (z_crash n a t hZ hbase).mono ?_
  clear e1 e2 e3 e4
  rintro e wx ⟨rfl, hZx, bx⟩
  have Bx := Bb.trans bx
  clear Bb bx hZ hbase
  have Bb := Bx
  have hZ := hZx
  have hbase := Bb.size
  clear Bx hZx
  have e4 := (Bb.cell (p := ⟨w.heap.size, 4, none⟩) l1).trans f4
  have e3 := (Bb.cell (p := ⟨w.heap.size, 3, none⟩) l1).trans f3
  have e2 := (Bb.cell (p := ⟨w.heap.size, 2, none⟩) l1).trans f2
  have e1 := (Bb.cell (p := ⟨w.heap.size, 1, none⟩) l1).trans f1
  generalize hwx : wx = wb at *
  clear hwx
  obtain ⟨ci1, wi1, hcv1, hB1, -, b1, -⟩ := conv_bytes ⟨#[]⟩ wb (by decide)
  have hZi := hZ.below b1
  have Bi := Bb.trans (b1.mono hbase)
  clear hZ Bb b1
  have hZ := hZi
  have Bb := Bi
  clear hZi Bi hbase
  have hbase := Bb.size
  go_wp2_with fail
  refine (z_append hZ hbase hB1 (by decide)).mono ?_
  clear e1 e2 e3 e4 hcv1 hB1
  rintro e wx ⟨rfl, hZx, bx⟩
  have Bx := Bb.trans bx
  clear Bb bx hZ hbase
  have Bb := Bx
  have hZ := hZx
  have hbase := Bb.size
  clear Bx hZx
  have e4 := (Bb.cell (p := ⟨w.heap.size, 4, none⟩) l1).trans f4
  have e3 := (Bb.cell (p := ⟨w.heap.size, 3, none⟩) l1).trans f3
  have e2 := (Bb.cell (p := ⟨w.heap.size, 2, none⟩) l1).trans f2
  have e1 := (Bb.cell (p := ⟨w.heap.size, 1, none⟩) l1).trans f1
  generalize hwx : wx = wc at *
  clear hwx
  obtain ⟨ci2, wi2, hcv2, hB2, -, b2, -⟩ := conv_bytes ⟨#[]⟩ wc (by decide)
  have hZi := hZ.below b2
  have Bi := Bb.trans (b2.mono hbase)
  clear hZ Bb b2
  have hZ := hZi
  have Bb := Bi
  clear hZi Bi hbase
  have hbase := Bb.size
  go_wp2_with fail
  refine (z_replace hZ hbase hB2).mono ?_
  clear e1 e2 e3 e4 hcv2 hB2
  rintro e wx ⟨rfl, hZx, bx⟩
  have Bx := Bb.trans bx
  clear Bb bx hZ hbase
  have Bb := Bx
  have hZ := hZx
  have hbase := Bb.size
  clear Bx hZx
  have e4 := (Bb.cell (p := ⟨w.heap.size, 4, none⟩) l1).trans f4
  have e3 := (Bb.cell (p := ⟨w.heap.size, 3, none⟩) l1).trans f3
  have e2 := (Bb.cell (p := ⟨w.heap.size, 2, none⟩) l1).trans f2
  have e1 := (Bb.cell (p := ⟨w.heap.size, 1, none⟩) l1).trans f1
  generalize hwx : wx = wd at *
  clear hwx
  go_wp2_with fail
  refine (z_cut n hZ hbase).mono ?_
  clear e1 e2 e3 e4
  rintro e wx ⟨rfl, hZx, bx⟩
  have Bx := Bb.trans bx
  clear Bb bx hZ hbase
  have Bb := Bx
  have hZ := hZx
  have hbase := Bb.size
  clear Bx hZx
  have e4 := (Bb.cell (p := ⟨w.heap.size, 4, none⟩) l1).trans f4
  have e3 := (Bb.cell (p := ⟨w.heap.size, 3, none⟩) l1).trans f3
  have e2 := (Bb.cell (p := ⟨w.heap.size, 2, none⟩) l1).trans f2
  have e1 := (Bb.cell (p := ⟨w.heap.size, 1, none⟩) l1).trans f1
  rw [if_neg hn]
  generalize hwx : wx = we at *
  clear hwx
  go_wp2_with fail
  refine (z_room hZ hbase).mono ?_
  clear e1 e2 e3 e4
  rintro e wx ⟨rfl, hZx, bx⟩
  have Bx := Bb.trans bx
  clear Bb bx hZ hbase
  have Bb := Bx
  have hZ := hZx
  have hbase := Bb.size
  clear Bx hZx
  have e4 := (Bb.cell (p := ⟨w.heap.size, 4, none⟩) l1).trans f4
  have e3 := (Bb.cell (p := ⟨w.heap.size, 3, none⟩) l1).trans f3
  have e2 := (Bb.cell (p := ⟨w.heap.size, 2, none⟩) l1).trans f2
  have e1 := (Bb.cell (p := ⟨w.heap.size, 1, none⟩) l1).trans f1
  generalize hwx : wx = wf at *
  clear hwx
  go_wp2_with fail
  refine (z_fast hZ hbase).mono ?_
  clear e1 e2 e3 e4
  rintro e wx ⟨rfl, hZx, bx⟩
  have Bx := Bb.trans bx
  clear Bb bx hZ hbase
  have Bb := Bx
  have hZ := hZx
  have hbase := Bb.size
  clear Bx hZx
  have e4 := (Bb.cell (p := ⟨w.heap.size, 4, none⟩) l1).trans f4
  have e3 := (Bb.cell (p := ⟨w.heap.size, 3, none⟩) l1).trans f3
  have e2 := (Bb.cell (p := ⟨w.heap.size, 2, none⟩) l1).trans f2
  have e1 := (Bb.cell (p := ⟨w.heap.size, 1, none⟩) l1).trans f1
  go_wp2_with fail
  refine (z_bytes hZ hbase).mono ?_
  rintro e wy ⟨⟨ao, cy, rfl⟩, by0⟩
  clear e1 e2 e3 e4
  go_wp2
  go_ret
  exact ⟨rfl, B1.trans ((Bb.trans by0).mono (Nat.le_of_lt l1))⟩

set_option maxHeartbeats 2000000 in
theorem nil_t10 (k a t : Int) (b : ByteArray) (hb : b.size ≤ 1000) (hb0 : b.size ≠ 0) (w : World) :
    Calls Try.prog 7 #[.agg (opc ⟨k, 0, a, t, b⟩), .bool true] w fun e w' => e = .returned (.bool true) ∧ Below w.heap.size w w' := by
  have H : Hid _ := (Below.refl _ w).alloc (Nat.le_refl _) (.cells (opc ⟨k, 0, a, t, b⟩) 33)
  have c4 := op_cells w ⟨k, 0, a, t, b⟩ 4 _ rfl
  have c3 := op_cells w ⟨k, 0, a, t, b⟩ 3 _ rfl
  have c2 := op_cells w ⟨k, 0, a, t, b⟩ 2 _ rfl
  have c1 := op_cells w ⟨k, 0, a, t, b⟩ 1 _ rfl
  have hlt : w.heap.size < (w.alloc (.cells (opc ⟨k, 0, a, t, b⟩) 33)).heap.size := by simp
  have h' : ¬ (1000 : Int) < (b.size : Int) := by omega
  have hbe : b.toList.isEmpty = false := by
    rw [ByteArray.toList_eq, List.isEmpty_eq_false_iff]
    exact fun e => hb0 (by rw [← size_lsn, e]; rfl)
  rw [opc] at *
  simp only at c1 c2 c3 c4
  go_enter Try.func7, Try.ntmps7
  go_wp2_with fail
  refine (awake_any _).mono ?_
  rintro e w1 ⟨rfl, b1⟩
  have B1 := H.out.trans (b1.mono (Nat.le_of_lt hlt))
  have e4 := (b1.cell (p := ⟨w.heap.size, 4, none⟩) hlt).trans c4
  have e3 := (b1.cell (p := ⟨w.heap.size, 3, none⟩) hlt).trans c3
  have e2 := (b1.cell (p := ⟨w.heap.size, 2, none⟩) hlt).trans c2
  have e1 := (b1.cell (p := ⟨w.heap.size, 1, none⟩) hlt).trans c1
  have s1 := b1.size
  have l1 : w.heap.size < w1.heap.size := Nat.lt_of_lt_of_le hlt s1
  clear c1 c2 c3 c4 H b1 hlt s1
  have hZ : Zr (w1.alloc (.cells #[.slice none 0 0, .int .i64 0, .int .i64 0] 47)) w1.heap.size (some ⟨w1.heap.size, 0, none⟩) := .inr ⟨_, _, rfl, dsk_new w1 w1.heap.size 0 (Nat.le_refl _) (by omega)⟩
  have Bb : Below w1.heap.size w1 (w1.alloc (.cells #[.slice none 0 0, .int .i64 0, .int .i64 0] 47)) := (Below.refl _ w1).alloc (Nat.le_refl _) _
  have hbase := Bb.size
  have f4 := e4
  have f3 := e3
  have f2 := e2
  have f1 := e1
  go_wp2_with fail
  refine (z_sync hZ hbase).mono ?_
  clear e1 e2 e3 e4
  rintro e wx ⟨rfl, hZx, bx⟩
  have Bx := Bb.trans bx
  clear Bb bx hZ hbase
  have Bb := Bx
  have hZ := hZx
  have hbase := Bb.size
  clear Bx hZx
  have e4 := (Bb.cell (p := ⟨w.heap.size, 4, none⟩) l1).trans f4
  have e3 := (Bb.cell (p := ⟨w.heap.size, 3, none⟩) l1).trans f3
  have e2 := (Bb.cell (p := ⟨w.heap.size, 2, none⟩) l1).trans f2
  have e1 := (Bb.cell (p := ⟨w.heap.size, 1, none⟩) l1).trans f1
  generalize hwx : wx = wa at *
  clear hwx
  go_wp2_with fail
  refine (z_crash 0 a t hZ hbase).mono ?_
  clear e1 e2 e3 e4
  rintro e wx ⟨rfl, hZx, bx⟩
  have Bx := Bb.trans bx
  clear Bb bx hZ hbase
  have Bb := Bx
  have hZ := hZx
  have hbase := Bb.size
  clear Bx hZx
  have e4 := (Bb.cell (p := ⟨w.heap.size, 4, none⟩) l1).trans f4
  have e3 := (Bb.cell (p := ⟨w.heap.size, 3, none⟩) l1).trans f3
  have e2 := (Bb.cell (p := ⟨w.heap.size, 2, none⟩) l1).trans f2
  have e1 := (Bb.cell (p := ⟨w.heap.size, 1, none⟩) l1).trans f1
  generalize hwx : wx = wb at *
  clear hwx
  obtain ⟨ci1, wi1, hcv1, hB1, -, b1, -⟩ := conv_bytes b wb (by unfold maxLen; omega)
  have hZi := hZ.below b1
  have Bi := Bb.trans (b1.mono hbase)
  clear hZ Bb b1
  have hZ := hZi
  have Bb := Bi
  clear hZi Bi hbase
  have hbase := Bb.size
  go_wp2_with fail
  refine (z_append hZ hbase hB1 (by omega)).mono ?_
  clear e1 e2 e3 e4 hcv1 hB1
  rintro e wx ⟨rfl, hZx, bx⟩
  have Bx := Bb.trans bx
  clear Bb bx hZ hbase
  have Bb := Bx
  have hZ := hZx
  have hbase := Bb.size
  clear Bx hZx
  have e4 := (Bb.cell (p := ⟨w.heap.size, 4, none⟩) l1).trans f4
  have e3 := (Bb.cell (p := ⟨w.heap.size, 3, none⟩) l1).trans f3
  have e2 := (Bb.cell (p := ⟨w.heap.size, 2, none⟩) l1).trans f2
  have e1 := (Bb.cell (p := ⟨w.heap.size, 1, none⟩) l1).trans f1
  rw [if_neg hb0]
  generalize hwx : wx = wc at *
  clear hwx
  obtain ⟨ci2, wi2, hcv2, hB2, -, b2, -⟩ := conv_bytes b wc (by unfold maxLen; omega)
  have hZi := hZ.below b2
  have Bi := Bb.trans (b2.mono hbase)
  clear hZ Bb b2
  have hZ := hZi
  have Bb := Bi
  clear hZi Bi hbase
  have hbase := Bb.size
  go_wp2_with fail
  refine (z_replace hZ hbase hB2).mono ?_
  clear e1 e2 e3 e4 hcv2 hB2
  rintro e wx ⟨rfl, hZx, bx⟩
  have Bx := Bb.trans bx
  clear Bb bx hZ hbase
  have Bb := Bx
  have hZ := hZx
  have hbase := Bb.size
  clear Bx hZx
  have e4 := (Bb.cell (p := ⟨w.heap.size, 4, none⟩) l1).trans f4
  have e3 := (Bb.cell (p := ⟨w.heap.size, 3, none⟩) l1).trans f3
  have e2 := (Bb.cell (p := ⟨w.heap.size, 2, none⟩) l1).trans f2
  have e1 := (Bb.cell (p := ⟨w.heap.size, 1, none⟩) l1).trans f1
  rw [if_neg hb0]
  generalize hwx : wx = wd at *
  clear hwx
  go_wp2_with fail
  refine (z_cut 0 hZ hbase).mono ?_
  clear e1 e2 e3 e4
  rintro e wx ⟨rfl, hZx, bx⟩
  have Bx := Bb.trans bx
  clear Bb bx hZ hbase
  have Bb := Bx
  have hZ := hZx
  have hbase := Bb.size
  clear Bx hZx
  have e4 := (Bb.cell (p := ⟨w.heap.size, 4, none⟩) l1).trans f4
  have e3 := (Bb.cell (p := ⟨w.heap.size, 3, none⟩) l1).trans f3
  have e2 := (Bb.cell (p := ⟨w.heap.size, 2, none⟩) l1).trans f2
  have e1 := (Bb.cell (p := ⟨w.heap.size, 1, none⟩) l1).trans f1
  generalize hwx : wx = we at *
  clear hwx
  go_wp2_with fail
  refine (z_room hZ hbase).mono ?_
  clear e1 e2 e3 e4
  rintro e wx ⟨rfl, hZx, bx⟩
  have Bx := Bb.trans bx
  clear Bb bx hZ hbase
  have Bb := Bx
  have hZ := hZx
  have hbase := Bb.size
  clear Bx hZx
  have e4 := (Bb.cell (p := ⟨w.heap.size, 4, none⟩) l1).trans f4
  have e3 := (Bb.cell (p := ⟨w.heap.size, 3, none⟩) l1).trans f3
  have e2 := (Bb.cell (p := ⟨w.heap.size, 2, none⟩) l1).trans f2
  have e1 := (Bb.cell (p := ⟨w.heap.size, 1, none⟩) l1).trans f1
  generalize hwx : wx = wf at *
  clear hwx
  go_wp2_with fail
  refine (z_fast hZ hbase).mono ?_
  clear e1 e2 e3 e4
  rintro e wx ⟨rfl, hZx, bx⟩
  have Bx := Bb.trans bx
  clear Bb bx hZ hbase
  have Bb := Bx
  have hZ := hZx
  have hbase := Bb.size
  clear Bx hZx
  have e4 := (Bb.cell (p := ⟨w.heap.size, 4, none⟩) l1).trans f4
  have e3 := (Bb.cell (p := ⟨w.heap.size, 3, none⟩) l1).trans f3
  have e2 := (Bb.cell (p := ⟨w.heap.size, 2, none⟩) l1).trans f2
  have e1 := (Bb.cell (p := ⟨w.heap.size, 1, none⟩) l1).trans f1
  go_wp2_with fail
  refine (z_bytes hZ hbase).mono ?_
  rintro e wy ⟨⟨ao, cy, rfl⟩, by0⟩
  clear e1 e2 e3 e4
  go_wp2
  go_ret
  exact ⟨rfl, B1.trans ((Bb.trans by0).mono (Nat.le_of_lt l1))⟩

set_option maxHeartbeats 2000000 in
theorem nil_t11 (k a t : Int) (b : ByteArray) (hb : b.size ≤ 1000) (hb0 : b.size ≠ 0) (n : Int) (hn : n ≠ 0) (w : World) :
    Calls Try.prog 7 #[.agg (opc ⟨k, n, a, t, b⟩), .bool true] w fun e w' => e = .returned (.bool true) ∧ Below w.heap.size w w' := by
  have H : Hid _ := (Below.refl _ w).alloc (Nat.le_refl _) (.cells (opc ⟨k, n, a, t, b⟩) 33)
  have c4 := op_cells w ⟨k, n, a, t, b⟩ 4 _ rfl
  have c3 := op_cells w ⟨k, n, a, t, b⟩ 3 _ rfl
  have c2 := op_cells w ⟨k, n, a, t, b⟩ 2 _ rfl
  have c1 := op_cells w ⟨k, n, a, t, b⟩ 1 _ rfl
  have hlt : w.heap.size < (w.alloc (.cells (opc ⟨k, n, a, t, b⟩) 33)).heap.size := by simp
  have h' : ¬ (1000 : Int) < (b.size : Int) := by omega
  have hbe : b.toList.isEmpty = false := by
    rw [ByteArray.toList_eq, List.isEmpty_eq_false_iff]
    exact fun e => hb0 (by rw [← size_lsn, e]; rfl)
  rw [opc] at *
  simp only at c1 c2 c3 c4
  go_enter Try.func7, Try.ntmps7
  go_wp2_with fail
  refine (awake_any _).mono ?_
  rintro e w1 ⟨rfl, b1⟩
  have B1 := H.out.trans (b1.mono (Nat.le_of_lt hlt))
  have e4 := (b1.cell (p := ⟨w.heap.size, 4, none⟩) hlt).trans c4
  have e3 := (b1.cell (p := ⟨w.heap.size, 3, none⟩) hlt).trans c3
  have e2 := (b1.cell (p := ⟨w.heap.size, 2, none⟩) hlt).trans c2
  have e1 := (b1.cell (p := ⟨w.heap.size, 1, none⟩) hlt).trans c1
  have s1 := b1.size
  have l1 : w.heap.size < w1.heap.size := Nat.lt_of_lt_of_le hlt s1
  clear c1 c2 c3 c4 H b1 hlt s1
  have hZ : Zr (w1.alloc (.cells #[.slice none 0 0, .int .i64 0, .int .i64 0] 47)) w1.heap.size (some ⟨w1.heap.size, 0, none⟩) := .inr ⟨_, _, rfl, dsk_new w1 w1.heap.size 0 (Nat.le_refl _) (by omega)⟩
  have Bb : Below w1.heap.size w1 (w1.alloc (.cells #[.slice none 0 0, .int .i64 0, .int .i64 0] 47)) := (Below.refl _ w1).alloc (Nat.le_refl _) _
  have hbase := Bb.size
  have f4 := e4
  have f3 := e3
  have f2 := e2
  have f1 := e1
  go_wp2_with fail
  refine (z_sync hZ hbase).mono ?_
  clear e1 e2 e3 e4
  rintro e wx ⟨rfl, hZx, bx⟩
  have Bx := Bb.trans bx
  clear Bb bx hZ hbase
  have Bb := Bx
  have hZ := hZx
  have hbase := Bb.size
  clear Bx hZx
  have e4 := (Bb.cell (p := ⟨w.heap.size, 4, none⟩) l1).trans f4
  have e3 := (Bb.cell (p := ⟨w.heap.size, 3, none⟩) l1).trans f3
  have e2 := (Bb.cell (p := ⟨w.heap.size, 2, none⟩) l1).trans f2
  have e1 := (Bb.cell (p := ⟨w.heap.size, 1, none⟩) l1).trans f1
  generalize hwx : wx = wa at *
  clear hwx
  go_wp2_with fail
  refine (z_crash n a t hZ hbase).mono ?_
  clear e1 e2 e3 e4
  rintro e wx ⟨rfl, hZx, bx⟩
  have Bx := Bb.trans bx
  clear Bb bx hZ hbase
  have Bb := Bx
  have hZ := hZx
  have hbase := Bb.size
  clear Bx hZx
  have e4 := (Bb.cell (p := ⟨w.heap.size, 4, none⟩) l1).trans f4
  have e3 := (Bb.cell (p := ⟨w.heap.size, 3, none⟩) l1).trans f3
  have e2 := (Bb.cell (p := ⟨w.heap.size, 2, none⟩) l1).trans f2
  have e1 := (Bb.cell (p := ⟨w.heap.size, 1, none⟩) l1).trans f1
  generalize hwx : wx = wb at *
  clear hwx
  obtain ⟨ci1, wi1, hcv1, hB1, -, b1, -⟩ := conv_bytes b wb (by unfold maxLen; omega)
  have hZi := hZ.below b1
  have Bi := Bb.trans (b1.mono hbase)
  clear hZ Bb b1
  have hZ := hZi
  have Bb := Bi
  clear hZi Bi hbase
  have hbase := Bb.size
  go_wp2_with fail
  refine (z_append hZ hbase hB1 (by omega)).mono ?_
  clear e1 e2 e3 e4 hcv1 hB1
  rintro e wx ⟨rfl, hZx, bx⟩
  have Bx := Bb.trans bx
  clear Bb bx hZ hbase
  have Bb := Bx
  have hZ := hZx
  have hbase := Bb.size
  clear Bx hZx
  have e4 := (Bb.cell (p := ⟨w.heap.size, 4, none⟩) l1).trans f4
  have e3 := (Bb.cell (p := ⟨w.heap.size, 3, none⟩) l1).trans f3
  have e2 := (Bb.cell (p := ⟨w.heap.size, 2, none⟩) l1).trans f2
  have e1 := (Bb.cell (p := ⟨w.heap.size, 1, none⟩) l1).trans f1
  rw [if_neg hb0]
  generalize hwx : wx = wc at *
  clear hwx
  obtain ⟨ci2, wi2, hcv2, hB2, -, b2, -⟩ := conv_bytes b wc (by unfold maxLen; omega)
  have hZi := hZ.below b2
  have Bi := Bb.trans (b2.mono hbase)
  clear hZ Bb b2
  have hZ := hZi
  have Bb := Bi
  clear hZi Bi hbase
  have hbase := Bb.size
  go_wp2_with fail
  refine (z_replace hZ hbase hB2).mono ?_
  clear e1 e2 e3 e4 hcv2 hB2
  rintro e wx ⟨rfl, hZx, bx⟩
  have Bx := Bb.trans bx
  clear Bb bx hZ hbase
  have Bb := Bx
  have hZ := hZx
  have hbase := Bb.size
  clear Bx hZx
  have e4 := (Bb.cell (p := ⟨w.heap.size, 4, none⟩) l1).trans f4
  have e3 := (Bb.cell (p := ⟨w.heap.size, 3, none⟩) l1).trans f3
  have e2 := (Bb.cell (p := ⟨w.heap.size, 2, none⟩) l1).trans f2
  have e1 := (Bb.cell (p := ⟨w.heap.size, 1, none⟩) l1).trans f1
  rw [if_neg hb0]
  generalize hwx : wx = wd at *
  clear hwx
  go_wp2_with fail
  refine (z_cut n hZ hbase).mono ?_
  clear e1 e2 e3 e4
  rintro e wx ⟨rfl, hZx, bx⟩
  have Bx := Bb.trans bx
  clear Bb bx hZ hbase
  have Bb := Bx
  have hZ := hZx
  have hbase := Bb.size
  clear Bx hZx
  have e4 := (Bb.cell (p := ⟨w.heap.size, 4, none⟩) l1).trans f4
  have e3 := (Bb.cell (p := ⟨w.heap.size, 3, none⟩) l1).trans f3
  have e2 := (Bb.cell (p := ⟨w.heap.size, 2, none⟩) l1).trans f2
  have e1 := (Bb.cell (p := ⟨w.heap.size, 1, none⟩) l1).trans f1
  rw [if_neg hn]
  generalize hwx : wx = we at *
  clear hwx
  go_wp2_with fail
  refine (z_room hZ hbase).mono ?_
  clear e1 e2 e3 e4
  rintro e wx ⟨rfl, hZx, bx⟩
  have Bx := Bb.trans bx
  clear Bb bx hZ hbase
  have Bb := Bx
  have hZ := hZx
  have hbase := Bb.size
  clear Bx hZx
  have e4 := (Bb.cell (p := ⟨w.heap.size, 4, none⟩) l1).trans f4
  have e3 := (Bb.cell (p := ⟨w.heap.size, 3, none⟩) l1).trans f3
  have e2 := (Bb.cell (p := ⟨w.heap.size, 2, none⟩) l1).trans f2
  have e1 := (Bb.cell (p := ⟨w.heap.size, 1, none⟩) l1).trans f1
  generalize hwx : wx = wf at *
  clear hwx
  go_wp2_with fail
  refine (z_fast hZ hbase).mono ?_
  clear e1 e2 e3 e4
  rintro e wx ⟨rfl, hZx, bx⟩
  have Bx := Bb.trans bx
  clear Bb bx hZ hbase
  have Bb := Bx
  have hZ := hZx
  have hbase := Bb.size
  clear Bx hZx
  have e4 := (Bb.cell (p := ⟨w.heap.size, 4, none⟩) l1).trans f4
  have e3 := (Bb.cell (p := ⟨w.heap.size, 3, none⟩) l1).trans f3
  have e2 := (Bb.cell (p := ⟨w.heap.size, 2, none⟩) l1).trans f2
  have e1 := (Bb.cell (p := ⟨w.heap.size, 1, none⟩) l1).trans f1
  go_wp2_with fail
  refine (z_bytes hZ hbase).mono ?_
  rintro e wy ⟨⟨ao, cy, rfl⟩, by0⟩
  clear e1 e2 e3 e4
  go_wp2
  go_ret
  exact ⟨rfl, B1.trans ((Bb.trans by0).mono (Nat.le_of_lt l1))⟩

theorem nil_walk (o : Cl) (z : Bool) (hb : o.b.size ≤ maxLen) (w : World) :
    Calls Try.prog 7 #[.agg (opc o), .bool z] w fun e w' => e = .returned (.bool true) ∧ Below w.heap.size w w' := by
  by_cases h : 1000 < o.b.size
  · exact nil_long o z hb h w
  · obtain ⟨k, n, a, t, b⟩ := o
    simp only at h hb
    by_cases hb0 : b.size = 0
    · obtain rfl : b = ⟨#[]⟩ := by
        obtain ⟨d⟩ := b
        congr
        exact Array.eq_empty_of_size_eq_zero hb0
      by_cases hn : n = 0
      · subst hn
        cases z
        · exact nil_f00 k a t w
        · exact nil_t00 k a t w
      · cases z
        · exact nil_f01 k a t n hn w
        · exact nil_t01 k a t n hn w
    · by_cases hn : n = 0
      · subst hn
        cases z
        · exact nil_f10 k a t b (by omega) hb0 w
        · exact nil_t10 k a t b (by omega) hb0 w
      · cases z
        · exact nil_f11 k a t b (by omega) hb0 n hn w
        · exact nil_t11 k a t b (by omega) hb0 n hn w
end Go.Proofs.Ytcopjgincdbliaa
