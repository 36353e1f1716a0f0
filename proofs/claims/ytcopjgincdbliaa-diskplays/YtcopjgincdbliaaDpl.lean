/-
  DiskPlays: whatever is appended, synced, replaced, cut and crashed, each answer is the document's, and so are all bytes. For every input.
-/
import Derived.Test.YtcopjgincdbliaaDdo
import Derived.Test.YtcopjgincdbliaaDfe
import Derived.Deep.CutRange
import Derived.Deep.RegionWith
import Derived.Deep.Cut
import Derived.Deep.CutBlock
import Derived.Test.YtcopjgincdbliaaRlw
namespace Go.Proofs.Ytcopjgincdbliaa
open Go.RowKit

/-- A call lies in a block. -/
def LiesO (w : World) (g : Nat) (o : Cl) : Prop := w.heap[g]? = some (.cells (opc o) 33 (0, 0))
theorem LiesO.lt {w : World} {g : Nat} {o : Cl} (h : LiesO w g o) : g < w.heap.size := by
  rw [LiesO] at h
  exact (Array.getElem?_eq_some_iff.1 h).1
theorem LiesO.cell {w : World} {g : Nat} {o : Cl} (h : LiesO w g o) (j : Nat) (u : Value) (hu : (opl o)[j]? = some u) : w.cell? ⟨g, j, none⟩ = some u := by
  rw [cell_of_row w g j _ _ _ h, ← hu]
  simp [opc, opl]
theorem LiesO.same {w w' : World} {g : Nat} {o : Cl} (h : LiesO w g o) (hb : w'.heap[g]? = w.heap[g]?) : LiesO w' g o := by
  rw [LiesO, hb]; exact h
theorem liesO_new (w : World) (o : Cl) : LiesO (w.alloc (.cells (opc o) 33)) w.heap.size o := heap_alloc_new w _
theorem LiesO.row {w : World} {g : Nat} {o' : Cl} (h : LiesO w g o') (o : Cl) : LiesO (w.setRow g (opc o)) g o := setRow_heap w g _ _ _ _ h
theorem sizeO (o : Cl) : (Try.prog.info? 33).map (·.size) = some (opc o).size := by
  show _ = some 5
  kernel_rfl
theorem store_op {ops : Array Oper} {rest : List Oper} {o : Oper} {a : Act} {w : World} {Q : Exit → Act → World → Prop} {x y : Operand} {g : Nat} {c c' : Cl} (hgd : o.guard = none) (ho : o.op = .store 33 x y)
    (hx : a.eval x = .pointer (some ⟨g, 0, none⟩)) (hy : a.eval y = .agg (opc c)) (hg : LiesO w g c')
    (h : wpList Try.prog ops Q rest (a.put o.dst undef) (w.setRow g (opc c))) : wpList Try.prog ops Q (o :: rest) a w :=
  wpList_store_row hgd 33 x y ho g (opc c) hx hy 33 _ hg (sizeO c) rfl (by simp [opc, Value.oneCell']) h
/-- One call of the list is read. -/
theorem load_op {ops : Array Oper} {rest : List Oper} {o : Oper} {a : Act} {w : World} {Q : Exit → Act → World → Prop} {x : Operand} {b i : Nat} {c : Cl} (hgd : o.guard = none) (ho : o.op = .load 33 x)
    (hx : a.eval x = .pointer (some ⟨b, i, none⟩)) (hc : ∀ (j : Nat) (u : Value), (opl c)[j]? = some u → w.cell? ⟨b, i + j, none⟩ = some u)
    (h : wpList Try.prog ops Q rest (a.put o.dst (.agg (opc c))) w) : wpList Try.prog ops Q (o :: rest) a w :=
  wpList_load_mid hgd 33 x ho b i hx (opl c) _ (fun j v hv => hc j v hv) Try.underlying33 rfl (sizeO c) h
theorem setRow_below {B g : Nat} {a w : World} (h : Below B a w) (hg : B ≤ g) (cs : Array Value) : Below B a (w.setRow g cs) :=
  h.trans ⟨rfl, rfl, rfl, by simp [World.setRow], fun k hk => setRow_other _ _ k _ (by omega)⟩
theorem setRow_size (w : World) (g : Nat) (cs : Array Value) : (w.setRow g cs).heap.size = w.heap.size := by simp [World.setRow]

set_option maxHeartbeats 1000000 in
theorem plays_many (x : Int) (a : Option Addr) (m c : Nat) (O : Nat → Cl) (w : World) (hS : IsOps w a m O) (hF : ¬ Few m O) :
    Calls Try.prog 3 #[.int .i64 x, .slice a m c] w fun e w' => e = .returned (.bool true) ∧ Below w.heap.size w w' := by
  go_enter Try.func3, Try.ntmps3
  go_wp2_with fail
  refine (awake_any _).mono ?_
  rintro e w1 ⟨rfl, b1⟩
  have hS1 : IsOps w1 a m O := ⟨hS.1, hS.2.imp id fun ⟨b, off, h1, h2, h3⟩ => ⟨b, off, h1, Nat.lt_of_lt_of_le h2 b1.size, fun i hi => ⟨fun j u hu => (b1.cell (p := ⟨b, off + i * 5 + j, none⟩) h2).trans ((h3 i hi).1 j u hu), (h3 i hi).2⟩⟩⟩
  go_wp2_with fail
  refine (few_no a m c O _ hS1 hF).mono ?_
  rintro e w2 ⟨rfl, hw⟩
  obtain rfl := hw.symm
  go_wp2_with fail
  refine (awake_any _).mono ?_
  rintro e w3 ⟨rfl, b2⟩
  go_wp2
  go_ret
  exact ⟨rfl, b1.trans (b2.mono b1.size)⟩

set_option maxHeartbeats 4000000 in
set_option maxRecDepth 100000 in
theorem plays_few (x : Int) (a : Option Addr) (m c : Nat) (O : Nat → Cl) (w : World) (hS : IsOps w a m O) (hF : Few m O) :
    Calls Try.prog 3 #[.int .i64 x, .slice a m c] w fun e w' => e = .returned (.bool true) ∧ Below w.heap.size w w' := by
  have hm2 : m ≤ 200 := hF.1
  go_enter Try.func3, Try.ntmps3
  go_wp2_with fail
  refine (awake_any _).mono ?_
  rintro e w1 ⟨rfl, b1⟩
  have hS1 : IsOps w1 a m O := ⟨hS.1, hS.2.imp id fun ⟨b, off, h1, h2, h3⟩ => ⟨b, off, h1, Nat.lt_of_lt_of_le h2 b1.size, fun i hi => ⟨fun j u hu => (b1.cell (p := ⟨b, off + i * 5 + j, none⟩) h2).trans ((h3 i hi).1 j u hu), (h3 i hi).2⟩⟩⟩
  go_wp2_with fail
  refine (few_yes a m c O _ hS1 hF).mono ?_
  rintro e w2 ⟨rfl, hw⟩
  obtain rfl := hw.symm
  have s1 := b1.size
  go_wp2_with fail
  refine (new_ok x w.heap.size _ s1).mono ?_
  rintro e w3 ⟨rfl, hD, b3, -⟩
  have B3 := b1.trans (b3.mono s1)
  have s3 := B3.size
  clear hS1 b1 b3
  generalize w1.heap.size = g at *
  go_wp2_with fail
  refine (rnew_any x _).mono ?_
  rintro e w4 ⟨rfl, hR, b4, -⟩
  have hD4 := hD.below b4 (Nat.le_refl _)
  have B4 := B3.trans (b4.mono s3)
  have hgr : w.heap.size ≤ w3.heap.size := s3
  clear hD b4 B3 s3
  generalize w3.heap.size = gr at *
  have hrm := held_le x
  generalize held x = r at *
  have c2 := hR.c2
  go_wp2_with fail
  go_quiet (first | (go_at_call 13; exact Calls.quiet_of_same (room_any _ w.heap.size g (.slice none 0 0) [] 0 r _ _ (orz_some _ _) (hD4.below (drawn _ _) (Nat.le_refl _)))))
  have hd := drawn w4 nq
  have hD5 := hD4.below hd (Nat.le_refl _)
  have hR5 := hR.below hd
  have B5 := B4.trans (hd.mono B4.size)
  clear hD4 hR B4 c2 hd
  generalize w4.drewN nq = w5 at *
  go_wp2_with fail
  go_loopw [36] (fun i wr => ∃ (k : Nat) (v : Value) (l : List UInt8) (f : Nat), k ≤ m ∧ i = .int .i64 (k : Int) ∧ Dsk wr w.heap.size g v l f r ∧ Rf wr gr l f r ∧ f ≤ l.length ∧ Below w.heap.size w wr) (fun i _ => m - (intOf i).toNat)
  case atStart => exact ⟨0, _, [], 0, Nat.zero_le _, rfl, hD5, hR5, Nat.le_refl _, B5⟩
  case round =>
    clear hD5 hR5 B5
    obtain ⟨k, v, l, f, hk, rfl, hD, hR, hf, hB⟩ := hrel
    by_cases hkm : k < m
    · rcases hS.2 with h0 | ⟨b, off, rfl, hb, hS⟩
      · omega
      have hc : ∀ (j : Nat) (u : Value), (opl (O k))[j]? = some u → wr.cell? ⟨b, off + k * 5 + j, none⟩ = some u := fun j u hu => (hB.cell (p := ⟨b, off + k * 5 + j, none⟩) hb).trans ((hS k hkm).1 j u hu)
      have hbs : (O k).b.size ≤ 70000 := hF.2 k hkm
      generalize O k = o at *
      have hO1 := (liesO_new wr Cl.none).row o
      have ba : Below wr.heap.size wr ((wr.alloc (.cells (opc Cl.none) 33)).setRow wr.heap.size (opc o)) := setRow_below ((Below.refl _ wr).alloc (Nat.le_refl _) _) (Nat.le_refl _) _
      have hD1 := hD.below ba (Nat.le_refl _)
      have hR1 := hR.below ba
      have B1 := hB.trans (ba.mono hB.size)
      have hgo1 : g < wr.heap.size := hD.lt
      have hgo2 : gr < wr.heap.size := hR.lt
      have hvo : ∀ k, v.ownBlock = some k → k < wr.heap.size := fun k hk => (hD.own k hk).2.1
      have hbo : w.heap.size ≤ wr.heap.size := hB.size
      clear hS hD hR hB ba hF
      go_upto_region 10 with (first | refine load_op rfl rfl rfl hc ?_ | refine store_op (c' := Cl.none) rfl rfl rfl rfl (liesO_new _ Cl.none) ?_)
      change LiesO _ wr.heap.size o at hO1
      have e6 : ∃ w6, w6 = (wr.alloc (.cells (opc Cl.none) 33)).setRow wr.heap.size (opc o) := ⟨_, rfl⟩
      obtain ⟨w6, h6⟩ := e6
      rw [← h6] at hO1 hD1 hR1 B1
      have hsz6 : w6.heap.size = wr.heap.size + 1 := by rw [h6, setRow_size]; simp
      have h6' : (wr.alloc (.cells #[.int .i64 0, .int .i64 0, .int .i64 0, .int .i64 0, .string ⟨#[]⟩] 33)).setRow wr.heap.size (opc o) = w6 := h6.symm
      rw [h6']
      clear h6 h6' hc
      generalize wr.heap.size = go at *
      have hcO : ∀ (j : Nat) (u : Value), (opl o)[j]? = some u → w6.cell? ⟨go, 0 + j, none⟩ = some u := fun j u hu => by rw [Nat.zero_add]; exact hO1.cell j u hu
      go_wp2_with (refine load_op rfl rfl rfl hcO ?_)
      refine (does_any o _ _ _ _ _ _ _ hD1 hf hbs B1.size).mono ?_
      rintro e w7 ⟨rfl, v', hD7, s7⟩
      have hO7 := hO1.same (s7.block go hO1.lt (by omega) (fun e => by have := hvo go e; omega))
      have hR7 := hR1.step hD1 s7
      have B7 := B1.trans (hD1.stepBelow s7 B1.size)
      have hf7 := stF_le o l f r hf
      have k0 := hO7.cell 0 _ rfl
      have k1 := hO7.cell 1 _ rfl
      have k2 := hO7.cell 2 _ rfl
      have k3 := hO7.cell 3 _ rfl
      have k4 := hO7.cell 4 _ rfl
      clear hcO hO1 s7
      have hlr := hD1.len
      clear hD1
      generalize hEe : stE o l r = E at *
      generalize hLe : stL o l f r = L at *
      generalize hFe : stF o l f r = F at *
      go_upto_block 2 with (fail)
      have hap := hR7.apart hD7
      go_cut [10, 36] from 36 to 108 (fun fv iv wc => fv = .int .i64 E ∧ iv = .int .i64 (k : Int) ∧ Rf wc gr L F r ∧ Dsk wc w.heap.size g v' L F r ∧ Below w.heap.size w wc)
      case first =>
        have HB : Hid (∀ w', w7.grownBy w' (some gr) → Dsk w' w.heap.size g v' L F r ∧ Below w.heap.size w w') := fun w' hg => ⟨hD7.grown hg hap.1 hap.2, B7.grown hg B7.size (fun j hj => by cases hj; exact hgr)⟩
        have hD8 : Hid _ := hD7
        have hB8 : Hid _ := B7
        clear hD7 B7 hap
        by_cases h1 : o.kind = 1
        · obtain ⟨q1, q2, q3⟩ := st_1 l f r h1
          rw [q1] at hEe
          rw [q2] at hLe
          rw [q3] at hFe
          subst hFe
          rw [h1] at k0
          go_wp2_with fail
          by_cases hfit : l.length + o.b.size ≤ r
          · rw [if_pos hfit] at hEe hLe
            subst hEe hLe
            refine (rappend_ok _ _ _ _ _ _ hR7 hlr hrm hfit).mono ?_
            rintro e w8 ⟨rfl, hR8, g8⟩
            go_wp2
            go_meet
            case rel => exact ⟨rfl, rfl, hR8, HB.out _ g8⟩
          · rw [if_neg hfit] at hEe hLe
            subst hEe hLe
            refine (rappend_full _ _ _ _ _ _ hR7 hlr hbs (by omega)).mono ?_
            rintro e w8 ⟨rfl, hR8, g8⟩
            go_wp2
            go_meet
            case rel => exact ⟨rfl, rfl, hR8, HB.out _ g8⟩
        · have n1 : (o.kind == 1) = false := by simp [h1]
          by_cases h2 : o.kind = 2
          · obtain ⟨q1, q2, q3⟩ := st_2 l f r h2
            rw [q1] at hEe
            rw [q2] at hLe
            rw [q3] at hFe
            subst hEe hLe hFe
            rw [h2] at k0
            have c0 := hR7.c0
            have c1 := hR7.c1
            have f1 := hR7.fz 1
            have hs := tx_size l
            have hl64 : l.length ≤ 65536 := by omega
            have H : Hid (∀ z : Int, z = (l.length : Int) → Rf (w7.setCell ⟨gr, 1, none⟩ (.int .i64 z)) gr l l.length r) := fun z hz => by rw [hz]; exact hR7.set1 _
            go_wp2
            go_meet
            case rel => exact ⟨rfl, rfl, H.out _ (by omega), HB.out _ (grown_set _ _ _ _)⟩
          · have n2 : (o.kind == 2) = false := by simp [h2]
            by_cases h3 : o.kind = 3
            · obtain ⟨q1, q2, q3⟩ := st_3 l f r h3
              rw [q1] at hEe
              rw [q2] at hLe
              rw [q3] at hFe
              rw [h3] at k0
              go_wp2_with fail
              by_cases hfit : o.b.size ≤ r
              · rw [if_pos hfit] at hEe hLe hFe
                subst hEe hLe hFe
                refine (rreplace_ok _ _ _ _ _ _ hR7 hfit).mono ?_
                rintro e w8 ⟨rfl, hR8, g8⟩
                go_wp2
                go_meet
                case rel => exact ⟨rfl, rfl, hR8, HB.out _ g8⟩
              · rw [if_neg hfit] at hEe hLe hFe
                subst hEe hLe hFe
                refine (rreplace_full _ _ _ _ _ _ hR7 (by omega)).mono ?_
                rintro e w8 ⟨rfl, hw8⟩
                obtain rfl := hw8.symm
                go_wp2
                go_meet
                case rel => exact ⟨rfl, rfl, hR7, hD8.out, hB8.out⟩
            · have n3 : (o.kind == 3) = false := by simp [h3]
              by_cases h4 : o.kind = 4
              · obtain ⟨q1, q2, q3⟩ := st_4 l f r h4
                rw [q1] at hEe
                rw [q2] at hLe
                rw [q3] at hFe
                rw [h4] at k0
                go_wp2_with fail
                by_cases hx : 0 ≤ o.n ∧ o.n ≤ (l.length : Int)
                · rw [if_pos hx] at hEe hLe hFe
                  subst hEe hLe hFe
                  have Hc : Hid _ := rcut_ok _ _ _ _ o.n.toNat _ hR7 (by omega)
                  rw [Int.toNat_of_nonneg hx.1] at Hc
                  refine Calls.mono Hc.out ?_
                  rintro e w8 ⟨rfl, hR8, g8⟩
                  go_wp2
                  go_meet
                  case rel => exact ⟨rfl, rfl, hR8, HB.out _ g8⟩
                · rw [if_neg hx] at hEe hLe hFe
                  subst hEe hLe hFe
                  refine (rcut_arg _ _ _ _ o.n _ hR7 (by omega) (by omega)).mono ?_
                  rintro e w8 ⟨rfl, hw8⟩
                  obtain rfl := hw8.symm
                  go_wp2
                  go_meet
                  case rel => exact ⟨rfl, rfl, hR7, hD8.out, hB8.out⟩
              · have n4 : (o.kind == 4) = false := by simp [h4]
                by_cases h5 : o.kind = 5
                · obtain ⟨q1, q2, q3⟩ := st_5 l f r h5
                  rw [q1] at hEe
                  rw [q2] at hLe
                  rw [q3] at hFe
                  subst hEe hLe hFe
                  rw [h5] at k0
                  go_wp2_with fail
                  refine (rcrash_any _ _ _ _ o.n o.at0 o.turn _ hR7 hf (by omega)).mono ?_
                  rintro e w8 ⟨rfl, hR8, g8⟩
                  go_wp2
                  go_meet
                  case rel => exact ⟨rfl, rfl, hR8, HB.out _ g8⟩
                · have n5 : (o.kind == 5) = false := by simp [h5]
                  obtain ⟨q1, q2, q3⟩ := st_0 l f r h1 h2 h3 h4 h5
                  rw [q1] at hEe
                  rw [q2] at hLe
                  rw [q3] at hFe
                  subst hEe hLe hFe
                  go_wp2
                  go_meet
                  case rel => exact ⟨rfl, rfl, hR7, hD8.out, hB8.out⟩
      case rest =>
        rename World => wc
        obtain ⟨rfl, rfl, hRc, hDc, hBc⟩ := hcut
        clear hR7 hD7 B7 hO7 k0 k1 k2 k3 k4 hap hEe hLe hFe
        have c0 := hRc.c0
        have c1 := hRc.c1
        have c0' : ∀ w', Below wc.heap.size wc w' → w'.cell? ⟨gr, 0, none⟩ = some (.string (tx L)) := fun w' h => (hRc.below h).c0
        have c1' : ∀ w', Below wc.heap.size wc w' → w'.cell? ⟨gr, 1, none⟩ = some (.int .i64 (F : Int)) := fun w' h => (hRc.below h).c1
        go_wp2_with fail
        refine region_at [86, 87, 88, 89, 90, 91, 92, 93, 94, 95, 96, 97, 98, 99, 100, 101, 102, 103, 104, 105, 106, 107] [.int .i64 E, .int .i64 E, .bool false, .bool false, .pointer (some ⟨g, 0, none⟩), undef, .string (tx L), .pointer (some ⟨gr, 0, none⟩), .pointer (some ⟨gr, 0, none⟩), .pointer (some ⟨gr, 0, none⟩), .string (tx L), .bool false, .bool false, .bool false, .pointer (some ⟨g, 0, none⟩), .int .i64 (F : Int), .pointer (some ⟨gr, 0, none⟩), .pointer (some ⟨gr, 0, none⟩), .pointer (some ⟨gr, 1, none⟩), .int .i64 (F : Int), .bool false, .bool false] 5 (Mb L) _ (by kernel_rfl) (by kernel_rfl) (by rfl) (by decide) (by kernel_rfl) (by decide) (by simp) (fun v0 => by simp only [lay, Act.put, List.setIfInBounds_toArray, List.set_cons_zero, List.set_cons_succ, List.getD_cons_zero, List.getD_cons_succ, Nat.reduceAdd]; rfl) Mb.stable ⟨?_, ?_, ?_, ?_, ?_, ?_, ?_, ?_, ?_, ?_, ?_, ?_, ?_, ?_, ?_, ?_, ?_, ?_, ?_, ?_, ?_, ?_, trivial⟩ ?_
        · exact OkOne.at (by decide) (fun v0 => rfl) (fun v0 W hb hq => yields_move rfl rfl)
        · exact OkOne.at (by decide) (fun v0 => rfl) (fun v0 W hb hq => yields_move rfl rfl)
        · exact OkOne.at (by decide) (fun v0 => rfl) (fun v0 W hb hq => yields_bin rfl rfl rfl (eqGuard_int W) (neq_int_same W _))
        · exact OkOne.at (by decide) (fun v0 => rfl) (fun v0 W hb hq => yields_move rfl rfl)
        · exact OkOne.at (by decide) (fun v0 => rfl) (fun v0 W hb hq => yields_move rfl rfl)
        · exact OkOne.it (fun v0 => rfl) (fun v0 W hb => yieldsR_call (vs := [.pointer (some ⟨g, 0, none⟩)]) rfl rfl (enters_bytes _ _) (bytes_mb (hDc.below hb (Nat.le_refl _))))
        · exact OkOne.at (by decide) (fun v0 => rfl) (fun v0 W hb hq => yields_convert (vx := v0) rfl rfl (conv_mb (hq (by kernel_rfl))))
        · exact OkOne.at (by decide) (fun v0 => rfl) (fun v0 W hb hq => yields_move rfl rfl)
        · exact OkOne.at (by decide) (fun v0 => rfl) (fun v0 W hb hq => yields_nil rfl rfl)
        · exact OkOne.at (by decide) (fun v0 => rfl) (fun v0 W hb hq => yields_field rfl rfl (field0_run W _))
        · exact OkOne.at (by decide) (fun v0 => rfl) (fun v0 W hb hq => yields_load rfl rfl (load_str_run (c0' W hb)))
        · exact OkOne.at (by decide) (fun v0 => rfl) (fun v0 W hb hq => yields_bin rfl rfl rfl (eqGuard_str W) (neq_str_same W _))
        · exact OkOne.at (by decide) (fun v0 => rfl) (fun v0 W hb hq => yields_pick (b := false) rfl rfl rfl)
        · exact OkOne.at (by decide) (fun v0 => rfl) (fun v0 W hb hq => yields_move rfl rfl)
        · exact OkOne.at (by decide) (fun v0 => rfl) (fun v0 W hb hq => yields_move rfl rfl)
        · exact OkOne.at (by decide) (fun v0 => rfl) (fun v0 W hb hq => yields_call (vs := [.pointer (some ⟨g, 0, none⟩)]) (v := .int .i64 (F : Int)) rfl rfl (enters_fast _ _) (fast_mb (hDc.below hb (Nat.le_refl _))))
        · exact OkOne.at (by decide) (fun v0 => rfl) (fun v0 W hb hq => yields_move rfl rfl)
        · exact OkOne.at (by decide) (fun v0 => rfl) (fun v0 W hb hq => yields_nil rfl rfl)
        · exact OkOne.at (by decide) (fun v0 => rfl) (fun v0 W hb hq => yields_field rfl rfl (field1_run W _))
        · exact OkOne.at (by decide) (fun v0 => rfl) (fun v0 W hb hq => yields_load rfl rfl (load_int_run (c1' W hb)))
        · exact OkOne.at (by decide) (fun v0 => rfl) (fun v0 W hb hq => yields_bin rfl rfl rfl (eqGuard_int W) (neq_int_same W _))
        · exact OkOne.at (by decide) (fun v0 => rfl) (fun v0 W hb hq => yields_pick (b := false) rfl rfl rfl)
        intro v0 W hb hMb
        have hBW := hBc.trans (hb.mono hBc.size)
        have hDW := hDc.below hb (Nat.le_refl _)
        have hRW := hRc.below hb
        clear c0 c1 c0' c1' hRc hDc hBc hMb
        go_wp2
        go_roundw
        case rel => exact ⟨k + 1, v', L, F, by omega, by go_num, hDW, hRW, hf7, hBW⟩
        case measure => simp [intOf]; omega
    · obtain rfl : k = m := by omega
      have hRc := hR
      have hDc := hD
      have hBc := hB
      clear hR hD hB
      generalize hLe : l = L at *
      generalize hFe : f = F at *
      have c0' : ∀ w', Below wr.heap.size wr w' → w'.cell? ⟨gr, 0, none⟩ = some (.string (tx L)) := fun w' h => (hRc.below h).c0
      go_wp2_with fail
      refine region_at [109, 110, 111, 112, 113, 114, 115, 116, 4] [.pointer (some ⟨g, 0, none⟩), undef, .string (tx L), .pointer (some ⟨gr, 0, none⟩), .pointer (some ⟨gr, 0, none⟩), .pointer (some ⟨gr, 0, none⟩), .string (tx L), .bool true, .bool true] 1 (Mb L) _ (by kernel_rfl) (by kernel_rfl) (by rfl) (by decide) (by kernel_rfl) (by decide) (by simp) (fun v0 => by simp only [lay, Act.put, List.setIfInBounds_toArray, List.set_cons_zero, List.set_cons_succ, List.getD_cons_zero, List.getD_cons_succ, Nat.reduceAdd]; rfl) Mb.stable ⟨?_, ?_, ?_, ?_, ?_, ?_, ?_, ?_, ?_, trivial⟩ ?_
      · exact OkOne.at (by decide) (fun v0 => rfl) (fun v0 W hb hq => yields_move rfl rfl)
      · exact OkOne.it (fun v0 => rfl) (fun v0 W hb => yieldsR_call (vs := [.pointer (some ⟨g, 0, none⟩)]) rfl rfl (enters_bytes _ _) (bytes_mb (hDc.below hb (Nat.le_refl _))))
      · exact OkOne.at (by decide) (fun v0 => rfl) (fun v0 W hb hq => yields_convert (vx := v0) rfl rfl (conv_mb (hq (by kernel_rfl))))
      · exact OkOne.at (by decide) (fun v0 => rfl) (fun v0 W hb hq => yields_move rfl rfl)
      · exact OkOne.at (by decide) (fun v0 => rfl) (fun v0 W hb hq => yields_nil rfl rfl)
      · exact OkOne.at (by decide) (fun v0 => rfl) (fun v0 W hb hq => yields_field rfl rfl (field0_run W _))
      · exact OkOne.at (by decide) (fun v0 => rfl) (fun v0 W hb hq => yields_load rfl rfl (load_str_run (c0' W hb)))
      · exact OkOne.at (by decide) (fun v0 => rfl) (fun v0 W hb hq => yields_bin rfl rfl rfl (eqGuard_str W) (eql_str_same W _))
      · exact OkOne.at (by decide) (fun v0 => rfl) (fun v0 W hb hq => yields_assign rfl rfl)
      intro v0 W hb hMb
      have hBW := hBc.trans (hb.mono hBc.size)
      clear c0' hRc hDc hBc hMb
      go_wp2
      go_ret
      exact ⟨rfl, hBW⟩

theorem plays_walk (x : Int) (a : Option Addr) (m c : Nat) (O : Nat → Cl) (w : World) (hS : IsOps w a m O) :
    Calls Try.prog 3 #[.int .i64 x, .slice a m c] w fun e w' => e = .returned (.bool true) ∧ Below w.heap.size w w' := by
  by_cases hF : Few m O
  · exact plays_few x a m c O w hS hF
  · exact plays_many x a m c O w hS hF
end Go.Proofs.Ytcopjgincdbliaa
