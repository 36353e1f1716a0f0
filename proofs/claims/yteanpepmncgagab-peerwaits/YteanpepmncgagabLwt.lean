/-
  PeerWaits, the walk.
-/
import Derived.Test.YteanpepmncgagabPaw
import Derived.Test.YteanpepmncgagabBxe
namespace Go.Proofs.Yteanpepmncgagab
set_option maxRecDepth 100000
open Go.RowKit

theorem wpList_valW {P : Program} {ops : Array Oper} {rest : List Oper} {o : Oper} {a : Act} {w w' : World} {Q : Exit → Act → World → Prop} {v : Value} (hw : Region.wanted o (yielded ops a.tmps) = true) (hr : (execOp a.eval o).run P w = .ok (.value v) w') (hK : wpList P ops Q rest (a.put o.dst v) w') : wpList P ops Q (o :: rest) a w := by
  refine wpList_step fun K hK' => ?_
  rw [if_pos hw]
  unfold Oper.wp
  rw [hr]
  exact hK' _ _ hK
theorem wpList_skipW {P : Program} {ops : Array Oper} {rest : List Oper} {o : Oper} {a : Act} {w w' : World} {Q : Exit → Act → World → Prop} (hw : Region.wanted o (yielded ops a.tmps) = true) (hr : (execOp a.eval o).run P w = .ok .skip w') (hK : wpList P ops Q rest (a.put o.dst undef) w') : wpList P ops Q (o :: rest) a w := by
  refine wpList_step fun K hK' => ?_
  rw [if_pos hw]
  unfold Oper.wp
  rw [hr]
  exact hK' _ _ hK
theorem neq_evd (w : World) {e f : Ev} {t : Bool} (he : e.deps.length = 16) (hf : f.deps.length = 16) (h : decide (e = f) = !t) : (binOp .neq 33 (.agg (evc e)) (.agg (evc f))).run Try.prog w = .ok (.bool t) w := by
  have h1 := run_equalIn_ev w 9996 e f he hf
  rw [same_dec, h] at h1
  simp only [binOp]
  simp [Op.equal, Op.maxDepth, h1]
theorem evs_range {w : World} {b off len cap i : Nat} {E : List Ev} {u : Ev} (h : Evs w (some ⟨b, off, none⟩) len cap E) (hu : E[i]? = some u) (hi : i < len) : w.rangeAt b (off + i * 26) (evl u) ∧ b < w.heap.size := by
  obtain ⟨b', off', u', hb', h2, -, h4, h5⟩ := h.at hi
  simp only [Option.some.injEq, Addr.mk.injEq, and_true] at hb'
  obtain ⟨rfl, rfl⟩ := hb'
  obtain rfl : u = u' := by rw [hu] at h2; exact Option.some.inj h2
  exact ⟨h4, h5⟩
theorem eql_bx (w : World) (ad : Addr) : (binOp .eql 24 (.pointer (some ad)) (.pointer none)).run Try.prog w = .ok (.bool false) w := by kernel_rfl
theorem build_evz (w : World) : (Instr.build 33 #[]).run Try.prog w = .ok (.agg (evc zv)) w := by kernel_rfl
theorem build_bx (w : World) : (Instr.build 39 #[]).run Try.prog w = .ok (.agg #[.chan none]) w := by kernel_rfl
theorem box_zero (w : World) : (Instr.box 39 (.agg #[.chan none])).run Try.prog w = .ok (pt w.heap.size) (w.alloc (.cells #[.chan none] 39)) := by
  simp [Instr.box, newVar, newRow, Value.cells, pt]
set_option maxHeartbeats 1000000 in
theorem lwaits_far (ao : Option Addr) (len cap : Nat) (z : Bool) (w : World) (hl : 200 < len) : Calls Try.prog 3 #[.slice ao len cap, .bool z] w fun e w' => e = .returned (.bool true) ∧ Below w.heap.size w w' := by
  have hA := pawake_any w
  go_enter Try.func3, Try.ntmps3
  go_wp2_with fail
  refine Calls.mono hA ?_
  rintro e w1 ⟨rfl, hb1⟩
  have hA2 := pawake_any w1
  have HB1 : Hid (Below w.heap.size w w1) := hb1
  clear hb1 hA
  go_wp2_with fail
  refine Calls.mono hA2 ?_
  rintro e w3 ⟨rfl, hb3⟩
  have HB3 : Hid (Below w.heap.size w w3) := HB1.out.trans (hb3.mono HB1.out.size)
  clear hb3 hA2
  go_wp2
  go_ret
  exact ⟨rfl, HB3.out⟩
set_option maxHeartbeats 16000000 in
theorem lwaits_go (ao : Option Addr) (len cap : Nat) (E : List Ev) (z : Bool) (w : World) (hE : Evs w ao len cap E) (hl : ¬ 200 < len) : Calls Try.prog 3 #[.slice ao len cap, .bool z] w fun e w' => e = .returned (.bool true) ∧ Below w.heap.size w w' := by
  have hd : decide ((200 : Int) < (len : Int)) = false := decide_eq_false (by omega)
  have hAw := pawake_any w
  have hlen := hE.len
  go_enter Try.func3, Try.ntmps3
  go_wp2_with fail
  refine Calls.mono hAw ?_
  rintro e w1 ⟨rfl, hb1⟩
  have hNw := bnew_any w1 (n := len) (by omega)
  clear hAw
  go_wp2_with fail
  refine Calls.mono hNw ?_
  rintro e w2 ⟨b, c, rfl, hX, hbF, hcF, hb2⟩
  have hB2 : Below w.heap.size w w2 := hb1.trans (hb2.mono hb1.size)
  replace hcF : w.heap.size ≤ c := Nat.le_trans hb1.size hcF
  have he := eql_bx
  clear hNw hbF hb1 hb2
  simp only [pt]
  go_wp2_with fail
  clear he
  go_loopw [30] (fun i wz => ∃ (k : Nat) (Q : List (Nat × Ev)), k ≤ len ∧ i = .int .i64 (k : Int) ∧ Q.map Prod.snd = E.take k ∧ Bx wz b c len Q ∧ Below w.heap.size w wz) (fun i _ => len - (intOf i).toNat)
  case atStart => exact ⟨0, [], Nat.zero_le _, rfl, rfl, hX, hB2⟩
  case round =>
    clear hX hB2
    rename World => wz
    obtain ⟨k, Q, hk, rfl, hQ, hX, hB⟩ := hrel
    by_cases hkl : k < len
    · obtain ⟨b0, off, u, rfl, hui, hu, hr, hbl⟩ := (hE.below hB (Nat.le_refl _)).at hkl
      have hix := fun W : World => index_ev W (b := b0) (off := off) (k := k) (m := len) (c := cap) hkl
      have hQl : Q.length < len := by
        have := congrArg List.length hQ
        rw [List.length_map, List.length_take] at this
        omega
      have hP := put_room hX u hu.1 hQl
      have HSN : Hid (E.take (k + 1) = E.take k ++ [u]) := take_snoc hui
      go_wp2_with (first | refine load_ev_mid rfl rfl rfl hr hu.1 ?_)
      refine Calls.mono hP ?_
      rintro e w4 ⟨rfl, hX4, hB4⟩
      have HALL : Hid ((Q ++ [(wz.heap.size, u)]).map Prod.snd = E.take (k + 1) ∧ Bx w4 b c len (Q ++ [(wz.heap.size, u)]) ∧ Below w.heap.size w w4) := ⟨by rw [HSN.out, List.map_append, hQ]; rfl, hX4, hB.trans (hB4.mono hcF)⟩
      obtain ⟨Q2, hQ2⟩ : ∃ Q2, Q ++ [(wz.heap.size, u)] = Q2 := ⟨_, rfl⟩
      rw [hQ2] at HALL
      clear hP hX4 hB4 hX hB hQ hr hbl hix HSN hQ2 hQl
      go_wp2
      go_roundw
      case rel => exact ⟨k + 1, Q2, by omega, by go_num, HALL.out⟩
      case measure => simp [intOf]; omega
    · obtain rfl : k = len := by omega
      rw [List.take_of_length_le (by omega)] at hQ
      have hQl : Q.length = k := by rw [← hlen, ← hQ, List.length_map]
      have hPf := put_full hX zv rfl (by omega)
      have hbz := build_evz
      go_wp2_with (refine wpList_b0 (ty := 33) (v := .agg (evc zv)) rfl rfl (hbz _) ?_)
      refine Calls.mono hPf ?_
      rintro e w4 ⟨rfl, hb4⟩
      have hX4 := hX.below hb4
      have hB4 := hB.trans (hb4.mono hB.size)
      have HQ : Hid (Q.map Prod.snd = E) := hQ
      clear hX hB hQ hPf hb4 hQl
      go_wp2_with fail
      go_loopw [46] (fun i wz => ∃ (i' : Nat) (Q' : List (Nat × Ev)), i' ≤ k ∧ i = .int .i64 (i' : Int) ∧ Q'.map Prod.snd = E.drop i' ∧ Bx wz b c k Q' ∧ Below w.heap.size w wz) (fun i _ => k - (intOf i).toNat)
      case atStart => exact ⟨0, Q, Nat.zero_le _, rfl, HQ.out, hX4, hB4⟩
      case round =>
        clear hX4 hB4 HQ
        rename World => wz
        obtain ⟨i, Q', hi, rfl, hQ, hX, hB⟩ := hrel
        by_cases hin : i < k
        · obtain ⟨b0, off, u, rfl, hui, hu, -, -⟩ := (hE.below hB (Nat.le_refl _)).at hin
          have hdr : E.drop i = u :: E.drop (i + 1) := by
            rw [List.drop_eq_getElem_cons (by omega), (List.getElem?_eq_some_iff.1 hui).2]
          obtain ⟨p, Q2, rfl, hQ2⟩ : ∃ p Q2, Q' = (p, u) :: Q2 ∧ Q2.map Prod.snd = E.drop (i + 1) := by
            rw [hdr] at hQ
            cases Q' with
            | nil => cases hQ
            | cons q Q2 =>
              obtain ⟨p, u'⟩ := q
              simp only [List.map_cons, List.cons.injEq] at hQ
              obtain ⟨rfl, h⟩ := hQ
              exact ⟨p, Q2, rfl, h⟩
          have HQ2 : Hid (Q2.map Prod.snd = E.drop (i + 1)) := hQ2
          have hT := take_some hX
          clear hQ hdr hQ2
          go_wp2_with fail
          refine Calls.mono hT ?_
          rintro e w4 ⟨rfl, hX4, hb4⟩
          have hB4 := hB.trans (hb4.mono hcF)
          clear hT hX hB hb4
          have hal := alloc_ev w4
          have hLn := liesE_new w4 zv
          have hbn : Below w4.heap.size w4 (w4.alloc (.cells (evc zv) 33)) := (Below.refl _ w4).alloc (Nat.le_refl _) _
          generalize w4.alloc (.cells (evc zv) 33) = w5 at *
          have hst := store_ev_run (e := u) hLn hu.1 rfl
          have hL6 := hLn.row u
          have hb6 : Below w4.heap.size w4 (w5.setRow w4.heap.size (evc u)) := below_setRow hbn (Nat.le_refl _) _
          generalize w5.setRow w4.heap.size (evc u) = w6 at *
          have hB4n := hB4.trans (hb6.mono hB4.size)
          obtain ⟨g5, hgn⟩ : ∃ g5, w4.heap.size = g5 := ⟨_, rfl⟩
          have hX6 := hX4.below hb6
          obtain ⟨hr6, hl6⟩ := evs_range (hE.below hB4n (Nat.le_refl _)) hui hin
          clear hX4 hB4 hb6
          rw [hgn] at hal hst hL6
          clear hgn hLn hbn
          go_wp2_with (first
            | (refine wpList_valW (v := pt g5) (w' := w5) rfl (exec_alloc rfl hal) ?_)
            | (refine wpList_skipW (w' := w6) rfl (exec_store (t := 33) (ad := ⟨g5, 0, none⟩) (v := .agg (evc u)) rfl rfl rfl hst) ?_))
          clear hal hst
          refine region_vals [54, 55, 56, 57, 58, 59, 60, 61, 62, 63] [.bool true, .bool false, .bool false, .agg (evc u), .slice (some ⟨b0, off, none⟩) k cap, .int .i64 (i : Int), .pointer (some ⟨b0, off + i * 26, none⟩), .agg (evc u), .bool false, .bool false] _ (by kernel_rfl) (by kernel_rfl) (by rfl) (by decide) (by kernel_rfl) (by simp only [lay, Act.put, List.setIfInBounds_toArray, List.set_cons_zero, List.set_cons_succ, List.getD_cons_zero, List.getD_cons_succ, Nat.reduceAdd]; rfl) ⟨?_, ?_, ?_, ?_, ?_, ?_, ?_, ?_, ?_, ?_, trivial⟩ ?_
          · exact .inl ⟨rfl, fun W hb => yields_move rfl rfl⟩
          · exact .inl ⟨rfl, fun W hb => yields_un rfl rfl rfl⟩
          · exact .inl ⟨rfl, fun W hb => yields_move rfl rfl⟩
          · exact .inl ⟨rfl, fun W hb => yields_load rfl rfl (load_ev_run (hL6.below hb (lt_of_heap hL6)) hu.1)⟩
          · exact .inl ⟨rfl, fun W hb => yields_move rfl rfl⟩
          · exact .inl ⟨rfl, fun W hb => yields_move rfl rfl⟩
          · exact .inl ⟨rfl, fun W hb => yields_indexAddr rfl rfl rfl (index_ev _ hin)⟩
          · exact .inl ⟨rfl, fun W hb => yields_load rfl rfl (load_part (range_below hr6 hb hl6) hu.1)⟩
          · exact .inl ⟨rfl, fun W hb => yields_bin rfl rfl rfl (eqGuard_ev _ _ _) (neq_evd _ hu.1 hu.1 (by rw [decide_eq_true rfl]; rfl))⟩
          · exact .inl ⟨rfl, fun W hb => yields_pick (b := false) rfl rfl rfl⟩
          intro w9 hb9
          have HALL : Hid (Bx w9 b c k Q2 ∧ Below w.heap.size w w9) := ⟨hX6.below hb9, hB4n.trans (hb9.mono hB4n.size)⟩
          clear hX6 hB4n hb9 hr6 hl6 hL6 hui
          go_wp2
          go_roundw
          case rel => exact ⟨i + 1, Q2, by omega, by go_num, HQ2.out, HALL.out⟩
          case measure => simp [intOf]; omega
        · obtain rfl : i = k := by omega
          rw [List.drop_of_length_le (by omega)] at hQ
          obtain rfl : Q' = [] := List.map_eq_nil_iff.1 hQ
          have hT := take_none hX
          clear hQ
          go_wp2_with fail
          refine Calls.mono hT ?_
          rintro e w4 ⟨rfl, hb4⟩
          have hB4 := hB.trans (hb4.mono hB.size)
          clear hT hX hB hb4
          have hal := alloc_ev w4
          have hLn := liesE_new w4 zv
          have hbn : Below w4.heap.size w4 (w4.alloc (.cells (evc zv) 33)) := (Below.refl _ w4).alloc (Nat.le_refl _) _
          generalize w4.alloc (.cells (evc zv) 33) = w5 at *
          have hst := store_ev_run (e := zv) hLn rfl rfl
          have hL6 := hLn.row zv
          have hb6 : Below w4.heap.size w4 (w5.setRow w4.heap.size (evc zv)) := below_setRow hbn (Nat.le_refl _) _
          generalize w5.setRow w4.heap.size (evc zv) = w6 at *
          have hB4n := hB4.trans (hb6.mono hB4.size)
          obtain ⟨g5, hgn⟩ : ∃ g5, w4.heap.size = g5 := ⟨_, rfl⟩
          clear hB4
          rw [hgn] at hal hst hL6
          clear hgn hLn hbn
          have hbz := build_evz
          cases z
          · skip
            go_wp2_with (first
              | (refine wpList_valW (v := pt g5) (w' := w5) rfl (exec_alloc rfl hal) ?_)
              | (refine wpList_skipW (w' := w6) rfl (exec_store (t := 33) (ad := ⟨g5, 0, none⟩) (v := .agg (evc zv)) rfl rfl rfl hst) ?_))
            have hTn := take_nil w6
            refine Calls.mono hTn ?_
            rintro e w7 ⟨rfl, hb7⟩
            have hB7 := hB4n.trans (hb7.mono hB4n.size)
            clear hTn hb7 hB4n hb6 hL6 hal hst
            have hal := alloc_ev w7
            have hLn := liesE_new w7 zv
            have hbn : Below w7.heap.size w7 (w7.alloc (.cells (evc zv) 33)) := (Below.refl _ w7).alloc (Nat.le_refl _) _
            generalize w7.alloc (.cells (evc zv) 33) = w8 at *
            have hst := store_ev_run (e := zv) hLn rfl rfl
            have hL6 := hLn.row zv
            have hb6 : Below w7.heap.size w7 (w8.setRow w7.heap.size (evc zv)) := below_setRow hbn (Nat.le_refl _) _
            generalize w8.setRow w7.heap.size (evc zv) = w9 at *
            have hB7n := hB7.trans (hb6.mono hB7.size)
            obtain ⟨g8, hgn⟩ : ∃ g8, w7.heap.size = g8 := ⟨_, rfl⟩
            rw [hgn] at hal hst hL6
            clear hgn hLn hbn
            go_wp2_with (first
              | (refine wpList_valW (v := pt g8) (w' := w8) rfl (exec_alloc rfl hal) ?_)
              | (refine wpList_skipW (w' := w9) rfl (exec_store (t := 33) (ad := ⟨g8, 0, none⟩) (v := .agg (evc zv)) rfl rfl rfl hst) ?_)
              | (refine wpList_b0 (ty := 33) (v := .agg (evc zv)) rfl rfl (hbz _) ?_))
            have hPn := put_nil w9 zv rfl
            refine Calls.mono hPn ?_
            rintro e w10 ⟨rfl, hb10⟩
            have hB10 := hB7n.trans (hb10.mono hB7n.size)
            have hLn := blen_nil w10
            have HB : Hid (Below w.heap.size w w10) := hB10
            clear hB10 hb10 hPn hB7n hB7 hb6 hL6 hal hst
            go_wp2_with fail
            refine Calls.mono hLn ?_
            rintro e w11 ⟨rfl, hw⟩
            obtain rfl := hw.symm
            clear hLn hw
            go_wp2
            go_ret
            exact ⟨rfl, HB.out⟩
          · skip
            have hbx := fun W : World => box_zero W
            have hZ := heap_alloc_new w6 (.cells #[.chan none] 39)
            have hbZ : Below w6.heap.size w6 (w6.alloc (.cells #[.chan none] 39)) := (Below.refl _ w6).alloc (Nat.le_refl _) _
            have hbx6 := box_zero w6
            generalize w6.alloc (.cells #[.chan none] 39) = w6z at *
            obtain ⟨zb, hzb⟩ : ∃ zb, w6.heap.size = zb := ⟨_, rfl⟩
            have hBz := hB4n.trans (hbZ.mono hB4n.size)
            rw [hzb] at hbx6 hZ
            clear hbx hbZ hzb hB4n
            have hbb := build_bx
            go_wp2_with (first
              | (refine wpList_valW (v := pt g5) (w' := w5) rfl (exec_alloc rfl hal) ?_)
              | (refine wpList_skipW (w' := w6) rfl (exec_store (t := 33) (ad := ⟨g5, 0, none⟩) (v := .agg (evc zv)) rfl rfl rfl hst) ?_)
              | (refine wpList_b0 (ty := 39) (v := .agg #[.chan none]) rfl rfl (hbb _) ?_)
              | (refine wpList_valW (v := pt zb) (w' := w6z) rfl (exec_box rfl rfl hbx6) ?_))
            have hTn := take_zero hZ
            refine Calls.mono hTn ?_
            rintro e w7 ⟨rfl, hb7⟩
            have hB7 := hBz.trans (hb7.mono hBz.size)
            have hZ7 : w7.heap[zb]? = _ := (hb7.block zb (lt_of_heap hZ)).trans hZ
            clear hTn hb7 hBz hb6 hL6 hal hst hZ hbx6 hbb
            have hal := alloc_ev w7
            have hLn := liesE_new w7 zv
            have hbn : Below w7.heap.size w7 (w7.alloc (.cells (evc zv) 33)) := (Below.refl _ w7).alloc (Nat.le_refl _) _
            generalize w7.alloc (.cells (evc zv) 33) = w8 at *
            have hst := store_ev_run (e := zv) hLn rfl rfl
            have hL6 := hLn.row zv
            have hb6 : Below w7.heap.size w7 (w8.setRow w7.heap.size (evc zv)) := below_setRow hbn (Nat.le_refl _) _
            generalize w8.setRow w7.heap.size (evc zv) = w9 at *
            have hB7n := hB7.trans (hb6.mono hB7.size)
            obtain ⟨g8, hgn⟩ : ∃ g8, w7.heap.size = g8 := ⟨_, rfl⟩
            have hZ9 : w9.heap[zb]? = _ := (hb6.block zb (lt_of_heap hZ7)).trans hZ7
            rw [hgn] at hal hst hL6
            clear hgn hLn hbn
            go_wp2_with (first
              | (refine wpList_valW (v := pt g8) (w' := w8) rfl (exec_alloc rfl hal) ?_)
              | (refine wpList_skipW (w' := w9) rfl (exec_store (t := 33) (ad := ⟨g8, 0, none⟩) (v := .agg (evc zv)) rfl rfl rfl hst) ?_)
              | (refine wpList_b0 (ty := 33) (v := .agg (evc zv)) rfl rfl (hbz _) ?_))
            have hPn := put_zero hZ9 zv rfl
            refine Calls.mono hPn ?_
            rintro e w10 ⟨rfl, hb10⟩
            have hB10 := hB7n.trans (hb10.mono hB7n.size)
            have hLn := blen_zero ((hb10.block zb (lt_of_heap hZ9)).trans hZ9)
            have HB : Hid (Below w.heap.size w w10) := hB10
            clear hB10 hb10 hPn hB7n hB7 hb6 hL6 hal hst
            go_wp2_with fail
            refine Calls.mono hLn ?_
            rintro e w11 ⟨rfl, hw⟩
            obtain rfl := hw.symm
            clear hLn hw
            go_wp2
            go_ret
            exact ⟨rfl, HB.out⟩
theorem lwaits_walk (ao : Option Addr) (len cap : Nat) (E : List Ev) (z : Bool) (w : World) (hE : Evs w ao len cap E) : Calls Try.prog 3 #[.slice ao len cap, .bool z] w fun e w' => e = .returned (.bool true) ∧ Below w.heap.size w w' := by
  by_cases hl : 200 < len
  · exact lwaits_far ao len cap z w hl
  · exact lwaits_go ao len cap E z w hE hl
end Go.Proofs.Yteanpepmncgagab
