/-
  DiskStands: whatever is done but Replace and Cut, what is fast stays as it is, and nothing but bytes that were appended comes behind it, but for what a crash turns. For every input.
-/
import Derived.Test.YtcopjgincdbliaaDsp
import Derived.Test.YtcopjgincdbliaaDfe
import Derived.Deep.CutRange
import Derived.Deep.Cut
import Derived.Test.YtcopjgincdbliaaRlw
namespace Go.Proofs.Ytcopjgincdbliaa
open Go.RowKit

/-- A call lies in a block. -/
def LiesO (w : World) (g : Nat) (o : Cl) : Prop := w.heap[g]? = some (.cells (opc o) 33 (0, 0))
theorem LiesO.lt {w : World} {g : Nat} {o : Cl} (h : LiesO w g o) : g < w.heap.size := by
  rw [LiesO] at h
  exact (Array.getElem?_eq_some_iff.1 h).1
theorem LiesO.cell {w : World} {g : Nat} {o : Cl} (h : LiesO w g o) (j : Nat) (u : Value) (hu : (opl o)[j]? = some u) : w.cell? ⟨g, j, none⟩ = some u := by
  rw [cell_of_row w g j _ _ _ h, ← hu]
  simp [opc, opl]
theorem LiesO.same {w w' : World} {g : Nat} {o : Cl} (h : LiesO w g o) (hb : w'.heap[g]? = w.heap[g]?) : LiesO w' g o := by
  rw [LiesO, hb]; exact h
theorem liesO_new (w : World) (o : Cl) : LiesO (w.alloc (.cells (opc o) 33)) w.heap.size o := heap_alloc_new w _
theorem LiesO.row {w : World} {g : Nat} {o' : Cl} (h : LiesO w g o') (o : Cl) : LiesO (w.setRow g (opc o)) g o := setRow_heap w g _ _ _ _ h
theorem sizeO (o : Cl) : (Try.prog.info? 33).map (·.size) = some (opc o).size := by
  show _ = some 5
  kernel_rfl
theorem store_op {ops : Array Oper} {rest : List Oper} {o : Oper} {a : Act} {w : World} {Q : Exit → Act → World → Prop} {x y : Operand} {g : Nat} {c c' : Cl} (hgd : o.guard = none) (ho : o.op = .store 33 x y)
    (hx : a.eval x = .pointer (some ⟨g, 0, none⟩)) (hy : a.eval y = .agg (opc c)) (hg : LiesO w g c')
    (h : wpList Try.prog ops Q rest (a.put o.dst undef) (w.setRow g (opc c))) : wpList Try.prog ops Q (o :: rest) a w :=
  wpList_store_row hgd 33 x y ho g (opc c) hx hy 33 _ hg (sizeO c) rfl (by simp [opc, Value.oneCell']) h
/-- One call of the list is read. -/
theorem load_op {ops : Array Oper} {rest : List Oper} {o : Oper} {a : Act} {w : World} {Q : Exit → Act → World → Prop} {x : Operand} {b i : Nat} {c : Cl} (hgd : o.guard = none) (ho : o.op = .load 33 x)
    (hx : a.eval x = .pointer (some ⟨b, i, none⟩)) (hc : ∀ (j : Nat) (u : Value), (opl c)[j]? = some u → w.cell? ⟨b, i + j, none⟩ = some u)
    (h : wpList Try.prog ops Q rest (a.put o.dst (.agg (opc c))) w) : wpList Try.prog ops Q (o :: rest) a w :=
  wpList_load_mid hgd 33 x ho b i hx (opl c) _ (fun j v hv => hc j v hv) Try.underlying33 rfl (sizeO c) h
theorem setRow_below {B g : Nat} {a w : World} (h : Below B a w) (hg : B ≤ g) (cs : Array Value) : Below B a (w.setRow g cs) :=
  h.trans ⟨rfl, rfl, rfl, by simp [World.setRow], fun k hk => setRow_other _ _ k _ (by omega)⟩
theorem setRow_size (w : World) (g : Nat) (cs : Array Value) : (w.setRow g cs).heap.size = w.heap.size := by simp [World.setRow]

set_option maxHeartbeats 1000000 in
theorem stands_many (a : Option Addr) (m c : Nat) (O : Nat → Cl) (w : World) (hS : IsOps w a m O) (hF : ¬ Few m O) :
    Calls Try.prog 4 #[.slice a m c] w fun e w' => e = .returned (.bool true) ∧ Below w.heap.size w w' := by
  go_enter Try.func4, Try.ntmps4
  go_wp2_with fail
  refine (awake_any _).mono ?_
  rintro e w1 ⟨rfl, b1⟩
  have hS1 : IsOps w1 a m O := ⟨hS.1, hS.2.imp id fun ⟨b, off, h1, h2, h3⟩ => ⟨b, off, h1, Nat.lt_of_lt_of_le h2 b1.size, fun i hi => ⟨fun j u hu => (b1.cell (p := ⟨b, off + i * 5 + j, none⟩) h2).trans ((h3 i hi).1 j u hu), (h3 i hi).2⟩⟩⟩
  go_wp2_with fail
  refine (few_no a m c O _ hS1 hF).mono ?_
  rintro e w2 ⟨rfl, hw⟩
  obtain rfl := hw.symm
  go_wp2_with fail
  refine (awake_any _).mono ?_
  rintro e w3 ⟨rfl, b2⟩
  go_wp2
  go_ret
  exact ⟨rfl, b1.trans (b2.mono b1.size)⟩

set_option maxHeartbeats 4000000 in
set_option maxRecDepth 100000 in
theorem stands_few (a : Option Addr) (m c : Nat) (O : Nat → Cl) (w : World) (hS : IsOps w a m O) (hF : Few m O) :
    Calls Try.prog 4 #[.slice a m c] w fun e w' => e = .returned (.bool true) ∧ Below w.heap.size w w' := by
  have hm2 : m ≤ 200 := hF.1
  go_enter Try.func4, Try.ntmps4
  go_wp2_with fail
  refine (awake_any _).mono ?_
  rintro e w1 ⟨rfl, b1⟩
  have hS1 : IsOps w1 a m O := ⟨hS.1, hS.2.imp id fun ⟨b, off, h1, h2, h3⟩ => ⟨b, off, h1, Nat.lt_of_lt_of_le h2 b1.size, fun i hi => ⟨fun j u hu => (b1.cell (p := ⟨b, off + i * 5 + j, none⟩) h2).trans ((h3 i hi).1 j u hu), (h3 i hi).2⟩⟩⟩
  go_wp2_with fail
  refine (few_yes a m c O _ hS1 hF).mono ?_
  rintro e w2 ⟨rfl, hw⟩
  obtain rfl := hw.symm
  have s1 := b1.size
  go_wp2_with fail
  refine (new_ok 65536 w.heap.size _ s1).mono ?_
  rintro e w3 ⟨rfl, hD3, b3, -⟩
  have B3 := b1.trans (b3.mono s1)
  rw [show held 65536 = 65536 by decide] at hD3
  clear hS1 b1 b3
  generalize w1.heap.size = g at *
  go_wp2_with fail
  go_loopw [22] (fun i wr => ∃ (k : Nat) (v : Value) (l : List UInt8) (f : Nat), k ≤ m ∧ i = .int .i64 (k : Int) ∧ Dsk wr w.heap.size g v l f 65536 ∧ f ≤ l.length ∧ Below w.heap.size w wr) (fun i _ => m - (intOf i).toNat)
  case atStart => exact ⟨0, _, [], 0, Nat.zero_le _, rfl, hD3, Nat.le_refl _, B3⟩
  case round =>
    clear hD3 B3
    obtain ⟨k, v, L, F, hk, rfl, hD, hf, hB⟩ := hrel
    by_cases hkm : k < m
    · rcases hS.2 with h0 | ⟨b, off, rfl, hb, hS⟩
      · omega
      have hc : ∀ (j : Nat) (u : Value), (opl (O k))[j]? = some u → wr.cell? ⟨b, off + k * 5 + j, none⟩ = some u := fun j u hu => (hB.cell (p := ⟨b, off + k * 5 + j, none⟩) hb).trans ((hS k hkm).1 j u hu)
      have hbs : (O k).b.size ≤ 70000 := hF.2 k hkm
      generalize O k = o at *
      have hO1 := (liesO_new wr Cl.none).row o
      have ba : Below wr.heap.size wr ((wr.alloc (.cells (opc Cl.none) 33)).setRow wr.heap.size (opc o)) := setRow_below ((Below.refl _ wr).alloc (Nat.le_refl _) _) (Nat.le_refl _) _
      have hDc := hD.below ba (Nat.le_refl _)
      have B1 := hB.trans (ba.mono hB.size)
      have hgo1 : g < wr.heap.size := hD.lt
      have hvo : ∀ k, v.ownBlock = some k → k < wr.heap.size := fun k hk => (hD.own k hk).2.1
      clear hS hD hB ba hF
      go_upto_region 10 with (first | refine load_op rfl rfl rfl hc ?_ | refine store_op (c' := Cl.none) rfl rfl rfl rfl (liesO_new _ Cl.none) ?_)
      change LiesO _ wr.heap.size o at hO1
      have e6 : ∃ w6, w6 = (wr.alloc (.cells (opc Cl.none) 33)).setRow wr.heap.size (opc o) := ⟨_, rfl⟩
      obtain ⟨w6, h6⟩ := e6
      rw [← h6] at hO1 hDc B1
      have h6' : (wr.alloc (.cells #[.int .i64 0, .int .i64 0, .int .i64 0, .int .i64 0, .string ⟨#[]⟩] 33)).setRow wr.heap.size (opc o) = w6 := h6.symm
      rw [h6']
      clear h6 h6' hc
      generalize wr.heap.size = go at *
      simp only [Act.put]
      refine region_at [29, 30, 31, 32, 33, 6, 7] [.pointer (some ⟨g, 0, none⟩), undef, .string (tx L), .pointer (some ⟨g, 0, none⟩), .int .i64 (F : Int), .string (tx L), .int .i64 (F : Int)] 1 (Mb L) _ (by kernel_rfl) (by kernel_rfl) (by rfl) (by decide) (by kernel_rfl) (by decide) (by simp) (fun v0 => by simp only [lay, Act.put, List.setIfInBounds_toArray, List.set_cons_zero, List.set_cons_succ, List.getD_cons_zero, List.getD_cons_succ, Nat.reduceAdd]; rfl) Mb.stable ⟨?_, ?_, ?_, ?_, ?_, ?_, ?_, trivial⟩ ?_
      · exact OkOne.at (by decide) (fun v0 => rfl) (fun v0 W hb hq => yields_move rfl rfl)
      · exact OkOne.it (fun v0 => rfl) (fun v0 W hb => yieldsR_call (vs := [.pointer (some ⟨g, 0, none⟩)]) rfl rfl (enters_bytes _ _) (bytes_mb (hDc.below hb (Nat.le_refl _))))
      · exact OkOne.at (by decide) (fun v0 => rfl) (fun v0 W hb hq => yields_convert (vx := v0) rfl rfl (conv_mb (hq (by kernel_rfl))))
      · exact OkOne.at (by decide) (fun v0 => rfl) (fun v0 W hb hq => yields_move rfl rfl)
      · exact OkOne.at (by decide) (fun v0 => rfl) (fun v0 W hb hq => yields_call (vs := [.pointer (some ⟨g, 0, none⟩)]) (v := .int .i64 (F : Int)) rfl rfl (enters_fast _ _) (fast_mb (hDc.below hb (Nat.le_refl _))))
      · exact OkOne.at (by decide) (fun v0 => rfl) (fun v0 W hb hq => yields_assign rfl rfl)
      · exact OkOne.at (by decide) (fun v0 => rfl) (fun v0 W hb hq => yields_assign rfl rfl)
      intro v0 W hb hMb
      have hD2 := hDc.below hb (Nat.le_refl _)
      have B2 := B1.trans (hb.mono B1.size)
      have hO2 : LiesO W go o := hO1.same (hb.block go hO1.lt)
      clear hDc B1 hO1 hb hMb
      have hs1 := tx_size L
      have hlr := hD2.len
      have hn1 : ¬ ((tx L).size : Int) < (F : Int) := by rw [hs1]; omega
      have hcO : ∀ (j : Nat) (u : Value), (opl o)[j]? = some u → W.cell? ⟨go, 0 + j, none⟩ = some u := fun j u hu => by rw [Nat.zero_add]; exact hO2.cell j u hu
      go_wp2_with (refine load_op rfl rfl rfl hcO ?_)
      refine (does_any o _ _ _ _ _ _ _ hD2 hf hbs B2.size).mono ?_
      rintro e w7 ⟨rfl, v', hD7, s7⟩
      have hO7 := hO2.same (s7.block go hO2.lt (by omega) (fun e => by have := hvo go e; omega))
      have B7 := B2.trans (hD2.stepBelow s7 B2.size)
      have hf7 := stF_le o L F 65536 hf
      clear hcO hO2 s7 hD2 B2
      have hkeep : Hid (o.kind ≠ 3 → o.kind ≠ 4 → _) := fun h3 h4 => st_keep o L F 65536 hf h3 h4
      generalize stL o L F 65536 = L2 at *
      generalize stF o L F 65536 = F2 at *
      go_wp2_with fail
      refine (bytes_any _ _ _ _ _ _ _ _ _ (orz_some _ _) hD7).mono ?_
      rintro e w8 ⟨v8, rfl, h8, b8⟩
      have hcv := own_text h8
      obtain ⟨a8, c8, rfl⟩ := own_slice h8
      have hD8 := hD7.below b8 (Nat.le_refl _)
      have B8 := B7.trans (b8.mono B7.size)
      have hO8 : LiesO w8 go o := hO7.same (b8.block go hO7.lt)
      clear hD7 B7 hO7 b8 h8
      have k0 := hO8.cell 0 _ rfl
      have k3 := hO8.cell 3 _ rfl
      by_cases h3 : o.kind = 3
      · rw [h3] at k0
        go_wp2
        go_roundw
        case rel => exact ⟨k + 1, v', L2, F2, by omega, by go_num, hD8, hf7, B8⟩
        case measure => simp [intOf]; omega
      by_cases h4 : o.kind = 4
      · rw [h4] at k0
        go_wp2
        go_roundw
        case rel => exact ⟨k + 1, v', L2, F2, by omega, by go_num, hD8, hf7, B8⟩
        case measure => simp [intOf]; omega
      obtain ⟨q1, q2, q3, q4, q5⟩ := hkeep.out h3 h4
      clear hkeep
      have n3 : (o.kind == 3) = false := by simp [h3]
      have n4 : (o.kind == 4) = false := by simp [h4]
      have hs2 := tx_size L2
      have hlr2 := hD8.len
      have hslA := fun W => slice_head L2 F q1 W
      have hslB := fun W => slice_head L F hf W
      rw [q2] at hslA
      have p1 : ¬ (L2.length : Int) < (F : Int) := by omega
      have p1' : decide ((L2.length : Int) < (F : Int)) = false := decide_eq_false p1
      have p2 : ¬ (F2 : Int) < (F : Int) := by omega
      have p2' : decide ((F2 : Int) < (F : Int)) = false := decide_eq_false p2
      have p4' : decide (L2.length < F) = false := decide_eq_false (by omega)
      have p5' : decide (F2 < F) = false := decide_eq_false (by omega)
      have p3' : decide (((tx L2).size : Int) < (F : Int)) = false := by rw [hs2]; exact p1'
      by_cases hg : L.length < L2.length
      · have h1 := q4 hg
        have hg1 : (L.length : Int) < (L2.length : Int) := by omega
        have hg1' : decide ((L.length : Int) < (L2.length : Int)) = true := decide_eq_true hg1
        have hg3' : decide (L.length < L2.length) = true := decide_eq_true hg
        have hg2' : decide (((tx L).size : Int) < ((tx L2).size : Int)) = true := by rw [hs1, hs2]; exact hg1'
        rw [h1] at k0
        clear q1 q2 q4 q5
        go_upto_region 16 with (fail)
        go_quiet (first | (go_at_call 20; exact Calls.quiet_of_same (fast_any _ w.heap.size g v' L2 F2 65536 _ _ (orz_some _ _) (hD8.below (drawn _ _) (Nat.le_refl _)))))
        have hd := drawn w8 nq
        have hDq := hD8.below hd (Nat.le_refl _)
        have Bq := B8.trans (hd.mono B8.size)
        go_wp2
        go_roundw
        case rel => exact ⟨k + 1, v', L2, F2, by omega, by go_num, hDq, hf7, Bq⟩
        case measure => simp [intOf]; omega
      · have hg1 : ¬ (L.length : Int) < (L2.length : Int) := by omega
        have hg1' : decide ((L.length : Int) < (L2.length : Int)) = false := decide_eq_false hg1
        have hg3' : decide (L.length < L2.length) = false := decide_eq_false hg
        have hg2' : decide (((tx L).size : Int) < ((tx L2).size : Int)) = false := by rw [hs1, hs2]; exact hg1'
        by_cases h5 : o.kind = 5
        · obtain ⟨r1, r2⟩ := q5 h5
          rw [h5] at k0
          have hslC := fun W => slice_head L L2.length (by omega) W
          clear q1 q2 q4 q5
          go_upto_region 16 with (fail)
          go_quiet (first | (go_at_call 20; exact Calls.quiet_of_same (fast_any _ w.heap.size g v' L2 F2 65536 _ _ (orz_some _ _) (hD8.below (drawn _ _) (Nat.le_refl _)))))
          have hd := drawn w8 nq
          have hDq := hD8.below hd (Nat.le_refl _)
          have Bq := B8.trans (hd.mono B8.size)
          have k0q : (w8.drewN nq).cell? ⟨go, 0, none⟩ = some (.int .i64 5) := k0
          have k3q : (w8.drewN nq).cell? ⟨go, 3, none⟩ = some (.int .i64 o.turn) := k3
          clear hD8 B8 hd
          generalize w8.drewN nq = w9 at *
          go_wp2_with fail
          refine (fast_any _ _ _ _ _ _ _ _ _ (orz_some _ _) hDq).mono ?_
          rintro e w10 ⟨rfl, hw10⟩
          subst hw10
          rw [r1]
          by_cases ht : o.turn = 0
          · have hC := r2 ht
            rw [← hC] at hslC
            clear hC r2
            rw [ht] at k3q
            go_wp2
            go_roundw
            case rel => exact ⟨k + 1, v', L2, F2, by omega, by go_num, hDq, hf7, Bq⟩
            case measure => simp [intOf]; omega
          · have ht' : (o.turn == 0) = false := by simp [ht]
            clear r2
            go_wp2
            go_roundw
            case rel => exact ⟨k + 1, v', L2, F2, by omega, by go_num, hDq, hf7, Bq⟩
            case measure => simp [intOf]; omega
        · have n5 : (o.kind == 5) = false := by simp [h5]
          clear q1 q2 q4 q5
          go_upto_region 16 with (fail)
          go_quiet (first | (go_at_call 20; exact Calls.quiet_of_same (fast_any _ w.heap.size g v' L2 F2 65536 _ _ (orz_some _ _) (hD8.below (drawn _ _) (Nat.le_refl _)))))
          have hd := drawn w8 nq
          have hDq := hD8.below hd (Nat.le_refl _)
          have Bq := B8.trans (hd.mono B8.size)
          go_wp2
          go_roundw
          case rel => exact ⟨k + 1, v', L2, F2, by omega, by go_num, hDq, hf7, Bq⟩
          case measure => simp [intOf]; omega
    · obtain rfl : k = m := by omega
      go_wp2
      go_ret
      exact ⟨rfl, hB⟩
theorem stands_walk (a : Option Addr) (m c : Nat) (O : Nat → Cl) (w : World) (hS : IsOps w a m O) :
    Calls Try.prog 4 #[.slice a m c] w fun e w' => e = .returned (.bool true) ∧ Below w.heap.size w w' := by
  by_cases hF : Few m O
  · exact stands_few a m c O w hS hF
  · exact stands_many a m c O w hS hF
end Go.Proofs.Ytcopjgincdbliaa
