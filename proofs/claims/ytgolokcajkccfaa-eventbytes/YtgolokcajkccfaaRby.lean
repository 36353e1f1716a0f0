/-
  What the reference's Bytes and Encode come to.
-/
import Derived.Test.YtgolokcajkccfaaRri
import Derived.Test.YtgolokcajkccfaaRin
import Derived.Deep.Cut
import Derived.Deep.RegionWith
namespace Go.Proofs.Ytgolokcajkccfaa
open Go.RowKit

theorem sb_append (a b : List UInt8) : sb a ++ sb b = sb (a ++ b) := by
  apply ByteArray.ext
  rw [ByteArray.data_append]
  simp [sb]
theorem number_is (w : World) {x : Int} (h : Nn x) : Calls Try.prog 55 #[.int .u64 x] w fun e w' => e = .returned (.string (sb (nm x))) ∧ Below w.heap.size w w' := by
  obtain ⟨h0, h1⟩ := h
  obtain ⟨k, rfl⟩ : ∃ k : Nat, x = (k : Int) := ⟨x.toNat, by omega⟩
  exact number_any k w (by omega)
theorem text_is (w : World) {s : List UInt8} (h : s.length ≤ 64) : Calls Try.prog 56 #[.string (sb s)] w fun e w' => e = .returned (.string (sb (tm s))) ∧ Below w.heap.size w w' := by
  have hs := sb_size s
  refine (text_any (sb s) w (by omega)).mono ?_
  rintro e w' ⟨rfl, hb⟩
  refine ⟨?_, hb⟩
  rw [ttx, hs, tm, ← sb_append]
  rfl
theorem int_is (w : World) {n : Int} (h : I64 n) : Calls Try.prog 57 #[.int .i64 n] w fun e w' => e = .returned (.string (sb (im n))) ∧ Below w.heap.size w w' := rint_any n w h
theorem enters_number (xs : Array Value) (w : World) : (callFunc 55 xs).run Try.prog w = .ok (.enter 55 xs) w := enters Try.func55 (by kernel_rfl) (by kernel_rfl) xs w
theorem enters_text (xs : Array Value) (w : World) : (callFunc 56 xs).run Try.prog w = .ok (.enter 56 xs) w := enters Try.func56 (by kernel_rfl) (by kernel_rfl) xs w
theorem fieldO5_run (w : World) (g : Nat) : (Instr.fieldAt 27 (.pointer (some ⟨g, 0, none⟩)) 5).run Try.prog w = .ok (.pointer (some ⟨g, 5, none⟩)) w := by kernel_rfl
theorem fieldR0_run (w : World) (g : Nat) : (Instr.fieldAt 23 (.pointer (some ⟨g, 5, none⟩)) 0).run Try.prog w = .ok (.pointer (some ⟨g, 5, none⟩)) w := by kernel_rfl
theorem fieldR1_run (w : World) (g : Nat) : (Instr.fieldAt 23 (.pointer (some ⟨g, 5, none⟩)) 1).run Try.prog w = .ok (.pointer (some ⟨g, 6, none⟩)) w := by kernel_rfl
theorem conv_u64_run (w : World) {x : Int} (h : Nn x) : (convert 3 69 (.int .i64 x)).run Try.prog w = .ok (.int .u64 x) w := by
  obtain ⟨h0, h1⟩ := h
  go_simp
  rw [IntKind.wrap_u64]
  omega
theorem add_is (w : World) {a b q : List UInt8} (h : a ++ b = q) (hq : q.length ≤ 1048576) : (binOp .add 9 (.string (sb a)) (.string (sb b))).run Try.prog w = .ok (.string (sb q)) w := by
  have h1 := sb_size a
  have h2 := sb_size b
  subst h
  rw [List.length_append] at hq
  rw [← sb_append]
  rw [binOp_string_add]
  exact run_string_add_sum w _ _ (by omega)

set_option maxHeartbeats 4000000 in
set_option maxRecDepth 100000 in
theorem rbytes_any (e : Ev) (hfit : Fits e) (w : World) : Calls Try.prog 33 #[.agg (evc e)] w fun e' w' => e' = .returned (.string (sb (evb e))) ∧ Below w.heap.size w w' := by
  have hl := hfit.len
  obtain ⟨hE, hB⟩ := boxedE w e
  have H0 : Hid (Below w.heap.size w (w.alloc (.cells (evc e) 29))) := hB
  clear hB
  have c0 := hE.c0
  have c1 := hE.c1
  have c2 := hE.c2
  have hf : Hid (Fits e) := hfit
  have nk : Hid (Nn e.kind) := ⟨by have := hfit.kind; omega, by have := hfit.kind; omega⟩
  obtain ⟨q2, Q2⟩ : ∃ q, Hid (nm e.r ++ nm e.n = q) := ⟨_, rfl⟩
  obtain ⟨q3, Q3⟩ : ∃ q, Hid (q2 ++ nm e.t = q) := ⟨_, rfl⟩
  obtain ⟨q4, Q4⟩ : ∃ q, Hid (q3 ++ ns e.deps = q) := ⟨_, rfl⟩
  obtain ⟨q5, Q5⟩ : ∃ q, Hid (q4 ++ nm e.kind = q) := ⟨_, rfl⟩
  obtain ⟨q6, Q6⟩ : ∃ q, Hid (q5 ++ tm e.key = q) := ⟨_, rfl⟩
  obtain ⟨q7, Q7⟩ : ∃ q, Hid (q6 ++ opt (usesF e.kind) (tm e.field) = q) := ⟨_, rfl⟩
  obtain ⟨q8, Q8⟩ : ∃ q, Hid (q7 ++ opt (usesV e.kind) (tm e.value) = q) := ⟨_, rfl⟩
  obtain ⟨q9, Q9⟩ : ∃ q, Hid (q8 ++ opt (usesN e.kind) (im e.num) = q) := ⟨_, rfl⟩
  obtain ⟨q10, Q10⟩ : ∃ q, Hid (q9 ++ nm e.rr = q) := ⟨_, rfl⟩
  obtain ⟨q11, Q11⟩ : ∃ q, Hid (q10 ++ nm e.rn = q) := ⟨_, rfl⟩
  obtain ⟨q12, Q12⟩ : ∃ q, Hid (q9 ++ opt (usesR e.kind) (nm e.rr ++ nm e.rn) = q) := ⟨_, rfl⟩
  have QE : Hid (evb e = q12) := by
    show _ = _
    rw [evb_parts, opb, ← Q12.out, ← Q9.out, ← Q8.out, ← Q7.out, ← Q6.out, ← Q5.out, ← Q4.out, ← Q3.out, ← Q2.out]
    simp only [List.append_assoc, List.nil_append]
  have l2 : q2.length ≤ 20 := by rw [← Q2.out, List.length_append]; have := nm_le e.r; have := nm_le e.n; omega
  have l3 : q3.length ≤ 30 := by rw [← Q3.out, List.length_append]; have := nm_le e.t; omega
  have l4 : q4.length ≤ 190 := by rw [← Q4.out, List.length_append]; have := ns_len e.deps; omega
  have l5 : q5.length ≤ 200 := by rw [← Q5.out, List.length_append]; have := nm_le e.kind; omega
  have l6 : q6.length ≤ 280 := by rw [← Q6.out, List.length_append]; have := tm_le hfit.key; omega
  have l7 : q7.length ≤ 360 := by rw [← Q7.out, List.length_append]; have := opt_le (c := usesF e.kind) (tm_le hfit.field.1); omega
  have l8 : q8.length ≤ 440 := by rw [← Q8.out, List.length_append]; have := opt_le (c := usesV e.kind) (tm_le hfit.value.1); omega
  have l9 : q9.length ≤ 450 := by rw [← Q9.out, List.length_append]; have := opt_le (c := usesN e.kind) (im_le e.num); omega
  have l10 : q10.length ≤ 460 := by rw [← Q10.out, List.length_append]; have := nm_le e.rr; omega
  have l11 : q11.length ≤ 470 := by rw [← Q11.out, List.length_append]; have := nm_le e.rn; omega
  have L2 : Hid (q2.length ≤ 1048576) := Nat.le_trans l2 (by omega)
  have L3 : Hid (q3.length ≤ 1048576) := Nat.le_trans l3 (by omega)
  have L5 : Hid (q5.length ≤ 1048576) := Nat.le_trans l5 (by omega)
  have L6 : Hid (q6.length ≤ 1048576) := Nat.le_trans l6 (by omega)
  have L10 : Hid (q10.length ≤ 1048576) := Nat.le_trans l10 (by omega)
  have L11 : Hid (q11.length ≤ 1048576) := Nat.le_trans l11 (by omega)
  have S4 : Hid ((sb q4).size ≤ 190) := by show _ ≤ _; rw [sb_size]; exact l4
  have S5 : Hid ((sb q5).size ≤ 200) := by show _ ≤ _; rw [sb_size]; exact l5
  have s9 : Hid ((sb q9).size ≤ 450) := by show _ ≤ _; rw [sb_size]; exact l9
  have s10 : Hid ((sb q10).size ≤ 460) := by show _ ≤ _; rw [sb_size]; exact l10
  have s6 : Hid ((sb q6).size ≤ 280) := by show _ ≤ _; rw [sb_size]; exact l6
  have s7 : Hid ((sb q7).size ≤ 360) := by show _ ≤ _; rw [sb_size]; exact l7
  have s8 : Hid ((sb q8).size ≤ 440) := by show _ ≤ _; rw [sb_size]; exact l8
  have t7 : Hid ((sb (tm e.field)).size ≤ 74) := by show _ ≤ _; rw [sb_size]; exact tm_le hfit.field.1
  have t8 : Hid ((sb (tm e.value)).size ≤ 74) := by show _ ≤ _; rw [sb_size]; exact tm_le hfit.value.1
  have t9 : Hid ((sb (im e.num)).size ≤ 10) := by show _ ≤ _; rw [sb_size]; exact im_le _
  have LN : Hid (∀ k, k ≤ 16 → (sb (q3 ++ ns (e.deps.take k))).size ≤ 190) := fun k hk => by
    have := ns_len (e.deps.take k)
    rw [List.length_take] at this
    rw [sb_size, List.length_append]; omega
  have DN : Hid (∀ k, k < 16 → Nn (e.deps.getD k 0)) := fun k hk => hfit.deps _ (by
    have hkl : k < e.deps.length := by omega
    simp [List.getD, hkl])
  have SN : Hid (∀ k, k < 16 → sb (q3 ++ ns (e.deps.take k)) ++ sb (nm (e.deps.getD k 0)) = sb (q3 ++ ns (e.deps.take (k + 1)))) := fun k hk => by
    rw [sb_append, ns_succ _ _ (by omega), List.append_assoc]
  have Z0 : Hid (q3 = q3 ++ ns (e.deps.take 0)) := by show _ = _; simp [ns]
  have Z16 : Hid (q3 ++ ns (e.deps.take 16) = q4) := by
    show _ = _
    rw [List.take_of_length_le (by omega)]; exact Q4.out
  rw [QE.out]
  clear hfit l2 l3 l4 l5 l6 l7 l8 l9 l10 l11
  go_enter Try.func33, Try.ntmps33
  go_wp2_with fail
  refine region_vals [6, 7, 8, 9, 10, 11, 12, 13, 14, 15, 16, 17, 18, 19, 20, 21, 3] [.pointer (some ⟨w.heap.size, 0, none⟩), .pointer (some ⟨w.heap.size, 0, none⟩), .int .i64 (e.r), .int .u64 (e.r), .string (sb (nm e.r)), .pointer (some ⟨w.heap.size, 0, none⟩), .pointer (some ⟨w.heap.size, 1, none⟩), .int .i64 (e.n), .int .u64 (e.n), .string (sb (nm e.n)), .string (sb (q2)), .pointer (some ⟨w.heap.size, 2, none⟩), .int .i64 (e.t), .int .u64 (e.t), .string (sb (nm e.t)), .string (sb (q3)), .string (sb (q3))] _ (by kernel_rfl) (by kernel_rfl) (by rfl) (by decide) (by kernel_rfl) (by simp only [lay, Act.put, List.setIfInBounds_toArray, List.set_cons_zero, List.set_cons_succ, List.getD_cons_zero, List.getD_cons_succ, Nat.reduceAdd]; rfl) ⟨?_, ?_, ?_, ?_, ?_, ?_, ?_, ?_, ?_, ?_, ?_, ?_, ?_, ?_, ?_, ?_, ?_, trivial⟩ ?_
  · exact .inl ⟨rfl, fun W hb => yields_field rfl rfl (fieldE0_run W _)⟩
  · exact .inl ⟨rfl, fun W hb => yields_field rfl rfl (field0_run W _)⟩
  · exact .inl ⟨rfl, fun W hb => yields_load rfl rfl (load_int_run ((hb.cell (block_lt_of_cell c0)).trans c0))⟩
  · exact .inl ⟨rfl, fun W hb => yields_convert rfl rfl (conv_u64_run W hf.out.r)⟩
  · exact .inl ⟨rfl, fun W hb => yields_call (vs := [.int .u64 (e.r)]) (v := .string (sb (nm e.r))) rfl rfl (enters_number _ _) (number_is W hf.out.r)⟩
  · exact .inl ⟨rfl, fun W hb => yields_field rfl rfl (fieldE0_run W _)⟩
  · exact .inl ⟨rfl, fun W hb => yields_field rfl rfl (field1_run W _)⟩
  · exact .inl ⟨rfl, fun W hb => yields_load rfl rfl (load_int_run ((hb.cell (block_lt_of_cell c1)).trans c1))⟩
  · exact .inl ⟨rfl, fun W hb => yields_convert rfl rfl (conv_u64_run W hf.out.n)⟩
  · exact .inl ⟨rfl, fun W hb => yields_call (vs := [.int .u64 (e.n)]) (v := .string (sb (nm e.n))) rfl rfl (enters_number _ _) (number_is W hf.out.n)⟩
  · exact .inl ⟨rfl, fun W hb => yields_bin rfl rfl rfl (eqGuard_str W) (add_is W Q2.out L2.out)⟩
  · exact .inl ⟨rfl, fun W hb => yields_field rfl rfl (fieldE1_run W _)⟩
  · exact .inl ⟨rfl, fun W hb => yields_load rfl rfl (load_int_run ((hb.cell (block_lt_of_cell c2)).trans c2))⟩
  · exact .inl ⟨rfl, fun W hb => yields_convert rfl rfl (conv_u64_run W hf.out.t)⟩
  · exact .inl ⟨rfl, fun W hb => yields_call (vs := [.int .u64 (e.t)]) (v := .string (sb (nm e.t))) rfl rfl (enters_number _ _) (number_is W hf.out.t)⟩
  · exact .inl ⟨rfl, fun W hb => yields_bin rfl rfl rfl (eqGuard_str W) (add_is W Q3.out L3.out)⟩
  · exact .inl ⟨rfl, fun W hb => yields_assign rfl rfl⟩
  intro w1 hb1
  have hE1 := hE.below hb1 hE.lt
  have H1 : Hid (Below w.heap.size w w1) := H0.out.trans (hb1.mono H0.out.size)
  clear hE hb1 H0 c0 c1 c2
  go_wp2_with fail
  go_loopw [3, 4] (fun s i wr => ∃ k : Nat, k ≤ 16 ∧ i = .int .i64 (k : Int) ∧ s = .string (sb (q3 ++ ns (e.deps.take k))) ∧ LiesE wr w.heap.size e ∧ Below w.heap.size w wr) (fun _ i _ => 16 - (intOf i).toNat)
  case atStart => exact ⟨0, by omega, rfl, by rw [← Z0.out], hE1, H1.out⟩
  case round =>
    obtain ⟨k, hk, rfl, rfl, hE, hB⟩ := hrel
    have HB : Hid (Below w.heap.size w wr) := hB
    have HE : Hid (LiesE wr w.heap.size e) := hE
    clear hE1 H1 hB
    by_cases h : k < 16
    · have cd := hE.cd hl h
      have hi := fun W : World => run_indexAt_at W w.heap.size 3 k h
      have hz1 := LN.out k hk
      have hz2 : (sb (nm (e.deps.getD k 0))).size ≤ 10 := by rw [sb_size]; exact nm_le _
      have hsn := SN.out k h
      have HN : Hid _ := DN.out k h
      have HS : Hid _ := hsn
      clear hE hsn
      generalize sb (q3 ++ ns (e.deps.take k)) = p at *
      obtain ⟨X, hX⟩ : ∃ X : Nat, e.deps.getD k 0 = (X : Int) := ⟨(e.deps.getD k 0).toNat, by have := HN.out.1; omega⟩
      have hX2 : X ≤ 4611686018427387904 := by have := HN.out.2; omega
      rw [hX] at cd hz2 HS HN
      have HX : Hid _ := hX
      clear hX
      go_wp2_with fail
      refine (number_is _ HN.out).mono ?_
      rintro e4 w4 ⟨rfl, hb4⟩
      have hE4 : Hid (LiesE w4 w.heap.size e) := HE.out.below hb4 HE.out.lt
      have H4 : Hid (Below w.heap.size w w4) := HB.out.trans (hb4.mono HB.out.size)
      clear hb4 HE HB hi cd
      go_wp2
      go_roundw
      case rel => exact ⟨k + 1, by omega, by go_num, congrArg Value.string HS.out, hE4.out, H4.out⟩
      case measure => simp [intOf]; omega
    · obtain rfl : k = 16 := by omega
      rw [Z16.out]
      have ho := hE.op hl
      have hn := liesO_new wr zop
      have O4 : LiesO ((wr.alloc (.cells (opc zop) 27)).setRow wr.heap.size (opc e)) wr.heap.size e := hn.row e
      have B4 : Hid (Below w.heap.size w ((wr.alloc (.cells (opc zop) 27)).setRow wr.heap.size (opc e))) := below_setRow (HB.out.alloc HB.out.size _) HB.out.size _
      rw [zop_cells] at O4 B4
      go_upto_region 7 with (first | refine load_op_at rfl rfl rfl ho ?_ | refine store_op (e := e) rfl rfl rfl rfl hn ?_)
      clear ho hn hE HE HB
      generalize ((wr.alloc (.cells #[.int .i64 0, .string ⟨#[]⟩, .string ⟨#[]⟩, .string ⟨#[]⟩, .int .i64 0, .int .i64 0, .int .i64 0] 27)).setRow wr.heap.size (opc e)) = w4 at *
      generalize wr.heap.size = k at *
      have d0 := O4.c0
      have d1 := O4.c1
      dsimp only [Act.put]
      go_cut [3] from 6 (fun s3 w' => s3 = .string (sb q6) ∧ LiesO w' k e ∧ Below w.heap.size w w')
      case first =>
        have hwk : IntKind.u64.wrap e.kind = e.kind := by
          have := nk.out.1
          have := nk.out.2
          rw [IntKind.wrap_u64]; omega
        have R4 : Hid (LiesO w4.drew k e ∧ Below w.heap.size w w4.drew) := ⟨O4, B4.out.drew⟩
        have z4 : (sb q4).size ≤ 190 := S4.out
        have z5 : (sb (nm e.kind)).size ≤ 10 := by rw [sb_size]; exact nm_le _
        have z6 : (sb (tm e.key)).size ≤ 74 := by rw [sb_size]; exact tm_le hf.out.key
        have z7 : (sb q5).size ≤ 200 := S5.out
        have a1 : sb q4 ++ sb (nm e.kind) = sb q5 := by rw [sb_append, Q5.out]
        have a2 : sb q5 ++ sb (tm e.key) = sb q6 := by rw [sb_append, Q6.out]
        clear O4 B4
        go_region_with (first
          | (go_at_call 55; refine (number_is _ nk.out).mono ?_; rintro e' w6 ⟨rfl, hb6⟩
             first
             | (have R6 : Hid (LiesO w6 k e ∧ Below w.heap.size w w6) := ⟨R7.out.1.below hb6 R7.out.1.lt, R7.out.2.trans (hb6.mono R7.out.2.size)⟩; have d1' := R6.out.1.c1)
             | (have R6 : Hid (LiesO w6 k e ∧ Below w.heap.size w w6) := ⟨R4.out.1.below hb6 R4.out.1.lt, R4.out.2.trans (hb6.mono R4.out.2.size)⟩; have d1' := R6.out.1.c1))
          | (go_at_call 56; refine (text_is _ hf.out.key).mono ?_; rintro e' w7 ⟨rfl, hb7⟩
             first
             | (have R7 : Hid (LiesO w7 k e ∧ Below w.heap.size w w7) := ⟨R6.out.1.below hb7 R6.out.1.lt, R6.out.2.trans (hb7.mono R6.out.2.size)⟩; have d0' := R7.out.1.c0)
             | (have R7 : Hid (LiesO w7 k e ∧ Below w.heap.size w w7) := ⟨R4.out.1.below hb7 R4.out.1.lt, R4.out.2.trans (hb7.mono R4.out.2.size)⟩; have d0' := R7.out.1.c0)))
        all_goals
          go_wp2
          go_meet
          case rel => first | exact ⟨rfl, R7.out⟩ | exact ⟨rfl, R6.out⟩
      case rest =>
      rename World => w5
      obtain ⟨rfl, O5, b5⟩ := hcut
      have B5 : Hid (Below w.heap.size w w5) := b5
      clear b5 O4 B4 d0 d1
      have c0 := O5.c0
      go_wp2_with fail
      refine (rfield_any _ _).mono ?_
      rintro e' w' ⟨rfl, hw⟩
      obtain rfl := hw.symm
      clear c0
      go_upto_if 48 with (fail)
      go_cut [3] from 6 (fun s3 w' => s3 = .string (sb q7) ∧ LiesO w' k e ∧ Below w.heap.size w w')
      case first =>
        rcases Bool.eq_false_or_eq_true (usesF e.kind) with hu | hu
        · have d1 := O5.c2
          have HQ : Hid (sb q6 ++ sb (tm e.field) = sb q7) := by
            show _ = _
            rw [sb_append, ← Q7.out, hu]; rfl
          rw [hu]
          clear hu
          go_wp2_with fail
          refine (text_is _ hf.out.field.1).mono ?_
          rintro e' w6 ⟨rfl, hb6⟩
          have HR : Hid (LiesO w6 k e ∧ Below w.heap.size w w6) := ⟨O5.below hb6 O5.lt, B5.out.trans (hb6.mono B5.out.size)⟩
          have z1 := s6.out
          have z2 := t7.out
          clear d1 hb6 O5
          go_wp2
          go_meet
          case rel => exact ⟨congrArg Value.string HQ.out, HR.out⟩
        · have HQ : Hid (sb q6 = sb q7) := by
            show _ = _
            rw [← Q7.out, hu]; simp [opt]
          have HR : Hid (LiesO w5 k e ∧ Below w.heap.size w w5) := ⟨O5, B5.out⟩
          rw [hu]
          clear hu O5
          go_wp2
          go_meet
          case rel => exact ⟨congrArg Value.string HQ.out, HR.out⟩
      case rest =>
      rename World => w6
      obtain ⟨rfl, O6, b6⟩ := hcut
      have B6 : Hid (Below w.heap.size w w6) := b6
      clear b6 O5 B5
      have c0 := O6.c0
      go_wp2_with fail
      refine (rvalue_any _ _).mono ?_
      rintro e' w' ⟨rfl, hw⟩
      obtain rfl := hw.symm
      clear c0
      go_upto_if 56 with (fail)
      go_cut [3] from 6 (fun s3 w' => s3 = .string (sb q8) ∧ LiesO w' k e ∧ Below w.heap.size w w')
      case first =>
        rcases Bool.eq_false_or_eq_true (usesV e.kind) with hu | hu
        · have d1 := O6.c3
          have HQ : Hid (sb q7 ++ sb (tm e.value) = sb q8) := by
            show _ = _
            rw [sb_append, ← Q8.out, hu]; rfl
          rw [hu]
          clear hu
          go_wp2_with fail
          refine (text_is _ hf.out.value.1).mono ?_
          rintro e' w6 ⟨rfl, hb6⟩
          have HR : Hid (LiesO w6 k e ∧ Below w.heap.size w w6) := ⟨O6.below hb6 O6.lt, B6.out.trans (hb6.mono B6.out.size)⟩
          have z1 := s7.out
          have z2 := t8.out
          clear d1 hb6 O6
          go_wp2
          go_meet
          case rel => exact ⟨congrArg Value.string HQ.out, HR.out⟩
        · have HQ : Hid (sb q7 = sb q8) := by
            show _ = _
            rw [← Q8.out, hu]; simp [opt]
          have HR : Hid (LiesO w6 k e ∧ Below w.heap.size w w6) := ⟨O6, B6.out⟩
          rw [hu]
          clear hu O6
          go_wp2
          go_meet
          case rel => exact ⟨congrArg Value.string HQ.out, HR.out⟩
      case rest =>
      rename World => w7
      obtain ⟨rfl, O7, b7⟩ := hcut
      have B7 : Hid (Below w.heap.size w w7) := b7
      clear b7 O6 B6
      have c0 := O7.c0
      go_wp2_with fail
      refine (rnum_any _ _).mono ?_
      rintro e' w' ⟨rfl, hw⟩
      obtain rfl := hw.symm
      clear c0
      go_upto_if 64 with (fail)
      go_cut [3] from 6 (fun s3 w' => s3 = .string (sb q9) ∧ LiesO w' k e ∧ Below w.heap.size w w')
      case first =>
        rcases Bool.eq_false_or_eq_true (usesN e.kind) with hu | hu
        · have d1 := O7.c4
          have HQ : Hid (sb q8 ++ sb (im e.num) = sb q9) := by
            show _ = _
            rw [sb_append, ← Q9.out, hu]; rfl
          rw [hu]
          clear hu
          go_wp2_with fail
          refine (int_is _ hf.out.num.1).mono ?_
          rintro e' w6 ⟨rfl, hb6⟩
          have HR : Hid (LiesO w6 k e ∧ Below w.heap.size w w6) := ⟨O7.below hb6 O7.lt, B7.out.trans (hb6.mono B7.out.size)⟩
          have z1 := s8.out
          have z2 := t9.out
          clear d1 hb6 O7
          go_wp2
          go_meet
          case rel => exact ⟨congrArg Value.string HQ.out, HR.out⟩
        · have HQ : Hid (sb q8 = sb q9) := by
            show _ = _
            rw [← Q9.out, hu]; simp [opt]
          have HR : Hid (LiesO w7 k e ∧ Below w.heap.size w w7) := ⟨O7, B7.out⟩
          rw [hu]
          clear hu O7
          go_wp2
          go_meet
          case rel => exact ⟨congrArg Value.string HQ.out, HR.out⟩
      case rest =>
      rename World => w8
      obtain ⟨rfl, O8, b8⟩ := hcut
      have B8 : Hid (Below w.heap.size w w8) := b8
      clear b8 O7 B7
      have c0 := O8.c0
      go_wp2_with fail
      refine (rref_any _ _).mono ?_
      rintro e' w' ⟨rfl, hw⟩
      obtain rfl := hw.symm
      clear c0
      go_upto_if 72 with (fail)
      go_cut [3] from 6 (fun s3 w' => s3 = .string (sb q12) ∧ Below w.heap.size w w')
      case first =>
        rcases Bool.eq_false_or_eq_true (usesR e.kind) with hu | hu
        · have d5 := O8.co 5
          have d6 := O8.co 6
          have HQ : Hid (sb q11 = sb q12) := by
            show _ = _
            rw [← Q11.out, ← Q10.out, ← Q12.out, hu, List.append_assoc]; rfl
          rw [hu]
          clear hu
          have hw5 : IntKind.u64.wrap e.rr = e.rr := by
            have := hf.out.ref.1.1
            have := hf.out.ref.1.2
            rw [IntKind.wrap_u64]; omega
          have hw6 : IntKind.u64.wrap e.rn = e.rn := by
            have := hf.out.ref.2.1.1
            have := hf.out.ref.2.1.2
            rw [IntKind.wrap_u64]; omega
          have e5 : w8.cell? ⟨k, 5, none⟩ = some (.int .i64 e.rr) := d5
          have e6 : w8.cell? ⟨k, 6, none⟩ = some (.int .i64 e.rn) := d6
          have R4 : Hid (LiesO w8.drew k e ∧ Below w.heap.size w w8.drew) := ⟨O8, B8.out.drew⟩
          have z4 : (sb q9).size ≤ 450 := s9.out
          have z5 : (sb (nm e.rr)).size ≤ 10 := by rw [sb_size]; exact nm_le _
          have z6 : (sb (nm e.rn)).size ≤ 10 := by rw [sb_size]; exact nm_le _
          have z7 : (sb q10).size ≤ 460 := s10.out
          have a1 : sb q9 ++ sb (nm e.rr) = sb q10 := by rw [sb_append, Q10.out]
          have a2 : sb q10 ++ sb (nm e.rn) = sb q11 := by rw [sb_append, Q11.out]
          have h5 : Hid (∀ W, _) := fun W => number_is W hf.out.ref.1
          have h6 : Hid (∀ W, _) := fun W => number_is W hf.out.ref.2.1
          clear d5 d6 O8 B8
          go_wp2_with fail
          go_region_with (first
            | (go_at_call_of 55 (Value.int .u64 e.rr); refine Calls.mono (h5.out _) ?_; rintro e' wa ⟨rfl, hba⟩
               first
               | (have RA : Hid (LiesO wa k e ∧ Below w.heap.size w wa) := ⟨RB.out.1.below hba RB.out.1.lt, RB.out.2.trans (hba.mono RB.out.2.size)⟩)
               | (have RA : Hid (LiesO wa k e ∧ Below w.heap.size w wa) := ⟨R4.out.1.below hba R4.out.1.lt, R4.out.2.trans (hba.mono R4.out.2.size)⟩; have e6' : wa.cell? ⟨k, 6, none⟩ = some (.int .i64 e.rn) := RA.out.1.co 6))
            | (go_at_call_of 55 (Value.int .u64 e.rn); refine Calls.mono (h6.out _) ?_; rintro e' wb ⟨rfl, hbb⟩
               first
               | (have RB : Hid (LiesO wb k e ∧ Below w.heap.size w wb) := ⟨RA.out.1.below hbb RA.out.1.lt, RA.out.2.trans (hbb.mono RA.out.2.size)⟩)
               | (have RB : Hid (LiesO wb k e ∧ Below w.heap.size w wb) := ⟨R4.out.1.below hbb R4.out.1.lt, R4.out.2.trans (hbb.mono R4.out.2.size)⟩; have e5' : wb.cell? ⟨k, 5, none⟩ = some (.int .i64 e.rr) := RB.out.1.co 5)))
          all_goals
            go_wp2
            go_meet
            case rel => first | exact ⟨congrArg Value.string HQ.out, RB.out.2⟩ | exact ⟨congrArg Value.string HQ.out, RA.out.2⟩
        · have HQ : Hid (sb q9 = sb q12) := by
            show _ = _
            rw [← Q12.out, hu]; simp [opt]
          rw [hu]
          clear hu O8
          go_wp2
          go_meet
          case rel => exact ⟨congrArg Value.string HQ.out, B8.out⟩
      case rest =>
      obtain ⟨rfl, b9⟩ := hcut
      have B9 : Hid (Below w.heap.size w wc) := b9
      clear b9 O8 B8
      go_wp2
      go_ret
      exact ⟨rfl, B9.out⟩

set_option maxHeartbeats 1000000 in
theorem rencode_no (e : Ev) (hl : e.deps.length = 16) (h : okev e = false) (w : World) : Calls Try.prog 19 #[.agg (evc e)] w fun e' w' => e' = .returned (.tuple #[.string (sb []), .int .i64 1]) ∧ Below w.heap.size w w' := by
  obtain ⟨hE, hB⟩ := boxedE w e
  have H0 : Hid (Below w.heap.size w (w.alloc (.cells (evc e) 29))) := hB
  have HK : Hid _ := h
  clear hB h
  go_enter Try.func19, Try.ntmps19
  go_wp2_with (refine load_ev rfl rfl rfl hE hl ?_)
  refine (reright_any e hl _).mono ?_
  rintro e1 w1 ⟨rfl, hb1⟩
  have H1 : Hid (Below w.heap.size w w1) := H0.out.trans (hb1.mono H0.out.size)
  clear hE hb1 H0
  rw [HK.out]
  go_wp2
  go_ret2
  exact ⟨rfl, H1.out⟩

set_option maxHeartbeats 1000000 in
theorem rencode_ok (e : Ev) (hl : e.deps.length = 16) (h : okev e = true) (w : World) : Calls Try.prog 19 #[.agg (evc e)] w fun e' w' => e' = .returned (.tuple #[.string (sb (evb e)), .int .i64 0]) ∧ Below w.heap.size w w' := by
  obtain ⟨hE, hB⟩ := boxedE w e
  have H0 : Hid (Below w.heap.size w (w.alloc (.cells (evc e) 29))) := hB
  have HK : Hid _ := h
  have HF : Hid (Fits e) := okev_fits hl h
  clear hB h
  go_enter Try.func19, Try.ntmps19
  go_wp2_with (refine load_ev rfl rfl rfl hE hl ?_)
  refine (reright_any e hl _).mono ?_
  rintro e1 w1 ⟨rfl, hb1⟩
  have E1 := hE.below hb1 hE.lt
  have H1 : Hid (Below w.heap.size w w1) := H0.out.trans (hb1.mono H0.out.size)
  clear hE hb1 H0
  rw [HK.out]
  go_wp2_with (refine load_ev rfl rfl rfl E1 hl ?_)
  refine (rbytes_any e HF.out _).mono ?_
  rintro e2 w2 ⟨rfl, hb2⟩
  have H2 : Hid (Below w.heap.size w w2) := H1.out.trans (hb2.mono H1.out.size)
  clear E1 hb2 H1
  go_wp2
  go_ret2
  exact ⟨rfl, H2.out⟩
end Go.Proofs.Ytgolokcajkccfaa
