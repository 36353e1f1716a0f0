/-
  What Ends comes to.
-/
import Derived.Test.YtmnhbkehicpohaaRen
namespace Go.Proofs.Ytmnhbkehicpohaa
set_option maxRecDepth 100000
open Go.RowKit

theorem plain_am : Try.prog.eqGuardType Try.prog.depth 54 = false := by kernel_rfl
theorem eqGuard_am (w : World) {op : BinOp} {x y : Operand} (p q : Aim) : (eqGuard op 54 x y (.agg (amc p)) (.agg (amc q))).run Try.prog w = .ok () w := run_eqGuard_agg w _ _ _ _ _ _ plain_am
theorem eql_am (w : World) {x y : Aim} {t : Bool} (h : decide (x = y) = t) : (binOp .eql 54 (.agg (amc x)) (.agg (amc y))).run Try.prog w = .ok (.bool t) w := by
  rw [run_eql_struct, run_equalIn_aim w 9997, Result.andThen_ok, h]
theorem meets_no {b a : Ev} (h : (aimP b).2 = false) : meets b a = false := by unfold meets; rw [h]; rfl
theorem meets_one {b a : Ev} (h : (aimP b).2 = true) (h1 : decide ((aimP b).1 = wholeE a.key) = true) : meets b a = true := by unfold meets; rw [h, h1]; rfl
theorem meets_two {b a : Ev} (h : (aimP b).2 = true) (h1 : decide ((aimP b).1 = wholeE a.key) = false) : meets b a = decide ((aimP b).1 = aimAtE a) := by unfold meets; rw [h, h1]; rfl
set_option maxHeartbeats 1000000 in
theorem ends_any (b a : Ev) (hb16 : b.deps.length = 16) (ha16 : a.deps.length = 16) (w : World) : Calls Try.prog 14 #[.agg (evc b), .agg (evc a)] w fun e w' => e = .returned (.bool (endsE b a)) ∧ Below w.heap.size w w' := by
  obtain ⟨hb, ha, hB⟩ := boxedEE w b a
  have HB : Hid (Below w.heap.size w ((w.alloc (.cells (evc b) 30)).alloc (.cells (evc a) 30))) := hB
  clear hB
  have ca := ha.c19 ha16
  go_enter Try.func14, Try.ntmps14
  go_wp2_with fail
  refine (adds_any a.kind _).mono ?_
  rintro e w1 ⟨rfl, hw1⟩
  obtain rfl := hw1.symm
  clear hw1 ca
  rcases Bool.eq_false_or_eq_true (addsE a.kind) with hadd | hadd
  · rw [hadd]
    go_wp2_with (first | refine load_ev rfl rfl rfl hb hb16 ?_ | refine load_ev rfl rfl rfl ha ha16 ?_)
    refine (covers_any b a hb16 _).mono ?_
    rintro e w1 ⟨rfl, hb1⟩
    have hb' := hb.below hb1 hb.lt
    have ha' := ha.below hb1 ha.lt
    have HB1 : Hid (Below w.heap.size w w1) := HB.out.trans (hb1.mono HB.out.size)
    clear hb ha hb1 HB
    rcases Bool.eq_false_or_eq_true (coversE b a) with hc | hc
    · rw [hc]
      have HR : Hid (endsE b a = meets b a) := by show _ = _; rw [← ends_aim b a hadd, hc]; rfl
      have hop := hb'.op hb16
      go_wp2_with (refine load_op_at rfl rfl rfl hop ?_)
      refine (aimof_any b _).mono ?_
      rintro e w2 ⟨rfl, hb2⟩
      have ha2 := ha'.below hb2 ha'.lt
      have HB2 : Hid (Below w.heap.size w w2) := HB1.out.trans (hb2.mono HB1.out.size)
      have hM0 := liesM_new w2 zaim
      have hM1 := hM0.row (aimP b).1
      have hlt2 := ha2.lt
      have hA3 : LiesE ((w2.alloc (.cells (amc zaim) 54)).setRow w2.heap.size (amc (aimP b).1)) (w.heap.size + 1) a := (ha2.alloc _).rowOther _ (by omega)
      have HB3 : Hid (Below w.heap.size w ((w2.alloc (.cells (amc zaim) 54)).setRow w2.heap.size (amc (aimP b).1))) := below_setRow (HB2.out.alloc HB2.out.size _) (by have := HB2.out.size; omega) _
      clear hb' ha' hb2 HB1 ha2 HB2 hop hlt2
      go_upto_region 4 with (refine store_am (x := (aimP b).1) rfl rfl rfl rfl hM0 ?_)
      change Code.wp _ _ _ _ ((w2.alloc (.cells (amc zaim) 54)).setRow w2.heap.size (amc (aimP b).1))
      generalize (w2.alloc (.cells (amc zaim) 54)).setRow w2.heap.size (amc (aimP b).1) = W0 at hM1 hA3 HB3 ⊢
      clear hM0
      generalize w2.heap.size = G at *
      rcases Bool.eq_false_or_eq_true (aimP b).2 with hok | hok
      · rcases Bool.eq_false_or_eq_true (decide ((aimP b).1 = wholeE a.key)) with h1 | h1
        · have HR1 : Hid (endsE b a = _) := HR.out.trans (meets_one hok h1)
          rw [hok]
          refine region_vals [24, 25, 26, 27, 28, 29, 30, 31, 32, 33, 34, 35, 36, 37, 38, 4] [.bool true, .bool true, .agg (amc (aimP b).1), .pointer (some ⟨w.heap.size + 1, 19, none⟩), .pointer (some ⟨w.heap.size + 1, 20, none⟩), .string (sb a.key), .agg (amc (wholeE a.key)), .bool true, .bool true, undef, undef, undef, undef, .bool true, .bool true, .bool true] _ (by kernel_rfl) (by kernel_rfl) (by rfl) (by decide) (by kernel_rfl) (by simp only [lay, Act.put, List.setIfInBounds_toArray, List.set_cons_zero, List.set_cons_succ, List.getD_cons_zero, List.getD_cons_succ, Nat.reduceAdd]; rfl) ⟨?_, ?_, ?_, ?_, ?_, ?_, ?_, ?_, ?_, ?_, ?_, ?_, ?_, ?_, ?_, ?_, trivial⟩ ?_
          · exact .inl ⟨rfl, fun W hb => yields_move rfl rfl⟩
          · exact .inl ⟨rfl, fun W hb => yields_move rfl rfl⟩
          · exact .inl ⟨rfl, fun W hb => yields_load rfl rfl (load_amr (hM1.below hb hM1.lt))⟩
          · exact .inl ⟨rfl, fun W hb => yields_field rfl rfl (field_e3 W _)⟩
          · exact .inl ⟨rfl, fun W hb => yields_field rfl rfl (field_p1 W _ 19)⟩
          · exact .inl ⟨rfl, fun W hb => yields_load rfl rfl (load_str_run ((hA3.below hb hA3.lt).c20 ha16))⟩
          · exact .inl ⟨rfl, fun W hb => yields_call (vs := [.string (sb a.key)]) rfl rfl (enters_wholekey _ _) (whole_any _ W)⟩
          · exact .inl ⟨rfl, fun W hb => yields_bin rfl rfl rfl (eqGuard_am W _ _) (eql_am W h1)⟩
          · exact .inl ⟨rfl, fun W hb => yields_move rfl rfl⟩
          · exact .inr ⟨rfl, rfl⟩
          · exact .inr ⟨rfl, rfl⟩
          · exact .inr ⟨rfl, rfl⟩
          · exact .inr ⟨rfl, rfl⟩
          · exact .inl ⟨rfl, fun W hb => yields_pick (b := true) rfl rfl rfl⟩
          · exact .inl ⟨rfl, fun W hb => yields_pick (b := true) rfl rfl rfl⟩
          · exact .inl ⟨rfl, fun W hb => yields_assign rfl rfl⟩
          intro w4 hb4
          have HB4 : Hid (Below w.heap.size w w4) := HB3.out.trans (hb4.mono HB3.out.size)
          clear hb4 HB3 hM1 hA3
          go_wp2
          go_ret
          exact ⟨by rw [HR1.out]; rfl, HB4.out⟩
        · have HR2 : Hid (endsE b a = _) := HR.out.trans (meets_two hok h1)
          rw [hok]
          refine region_vals [24, 25, 26, 27, 28, 29, 30, 31, 32, 33, 34, 35, 36, 37, 38, 4] [.bool true, .bool true, .agg (amc (aimP b).1), .pointer (some ⟨w.heap.size + 1, 19, none⟩), .pointer (some ⟨w.heap.size + 1, 20, none⟩), .string (sb a.key), .agg (amc (wholeE a.key)), .bool false, .bool false, .agg (amc (aimP b).1), .agg (evc a), .agg (amc (aimAtE a)), .bool (decide ((aimP b).1 = aimAtE a)), .bool (decide ((aimP b).1 = aimAtE a)), .bool (decide ((aimP b).1 = aimAtE a)), .bool (decide ((aimP b).1 = aimAtE a))] _ (by kernel_rfl) (by kernel_rfl) (by rfl) (by decide) (by kernel_rfl) (by simp only [lay, Act.put, List.setIfInBounds_toArray, List.set_cons_zero, List.set_cons_succ, List.getD_cons_zero, List.getD_cons_succ, Nat.reduceAdd]; rfl) ⟨?_, ?_, ?_, ?_, ?_, ?_, ?_, ?_, ?_, ?_, ?_, ?_, ?_, ?_, ?_, ?_, trivial⟩ ?_
          · exact .inl ⟨rfl, fun W hb => yields_move rfl rfl⟩
          · exact .inl ⟨rfl, fun W hb => yields_move rfl rfl⟩
          · exact .inl ⟨rfl, fun W hb => yields_load rfl rfl (load_amr (hM1.below hb hM1.lt))⟩
          · exact .inl ⟨rfl, fun W hb => yields_field rfl rfl (field_e3 W _)⟩
          · exact .inl ⟨rfl, fun W hb => yields_field rfl rfl (field_p1 W _ 19)⟩
          · exact .inl ⟨rfl, fun W hb => yields_load rfl rfl (load_str_run ((hA3.below hb hA3.lt).c20 ha16))⟩
          · exact .inl ⟨rfl, fun W hb => yields_call (vs := [.string (sb a.key)]) rfl rfl (enters_wholekey _ _) (whole_any _ W)⟩
          · exact .inl ⟨rfl, fun W hb => yields_bin rfl rfl rfl (eqGuard_am W _ _) (eql_am W h1)⟩
          · exact .inl ⟨rfl, fun W hb => yields_move rfl rfl⟩
          · exact .inl ⟨rfl, fun W hb => yields_load rfl rfl (load_amr (hM1.below hb hM1.lt))⟩
          · exact .inl ⟨rfl, fun W hb => yields_load rfl rfl (load_ev_run (hA3.below hb hA3.lt) ha16)⟩
          · exact .inl ⟨rfl, fun W hb => yields_call (vs := [.agg (evc a)]) rfl rfl (enters_aimat _ _) (aimat_any _ ha16 W)⟩
          · exact .inl ⟨rfl, fun W hb => yields_bin rfl rfl rfl (eqGuard_am W _ _) (eql_am W rfl)⟩
          · exact .inl ⟨rfl, fun W hb => yields_pick (b := false) rfl rfl rfl⟩
          · exact .inl ⟨rfl, fun W hb => yields_pick (b := true) rfl rfl rfl⟩
          · exact .inl ⟨rfl, fun W hb => yields_assign rfl rfl⟩
          intro w4 hb4
          have HB4 : Hid (Below w.heap.size w w4) := HB3.out.trans (hb4.mono HB3.out.size)
          clear hb4 HB3 hM1 hA3
          go_wp2
          go_ret
          exact ⟨by rw [HR2.out]; rfl, HB4.out⟩
      · have HR3 : Hid (endsE b a = _) := HR.out.trans (meets_no hok)
        rw [hok]
        refine region_vals [24, 25, 26, 27, 28, 29, 30, 31, 32, 33, 34, 35, 36, 37, 38, 4] [.bool false, .bool false, undef, undef, undef, undef, undef, undef, undef, undef, undef, undef, undef, undef, .bool false, .bool false] _ (by kernel_rfl) (by kernel_rfl) (by rfl) (by decide) (by kernel_rfl) (by simp only [lay, Act.put, List.setIfInBounds_toArray, List.set_cons_zero, List.set_cons_succ, List.getD_cons_zero, List.getD_cons_succ, Nat.reduceAdd]; rfl) ⟨?_, ?_, ?_, ?_, ?_, ?_, ?_, ?_, ?_, ?_, ?_, ?_, ?_, ?_, ?_, ?_, trivial⟩ ?_
        · exact .inl ⟨rfl, fun W hb => yields_move rfl rfl⟩
        · exact .inl ⟨rfl, fun W hb => yields_move rfl rfl⟩
        · exact .inr ⟨rfl, rfl⟩
        · exact .inr ⟨rfl, rfl⟩
        · exact .inr ⟨rfl, rfl⟩
        · exact .inr ⟨rfl, rfl⟩
        · exact .inr ⟨rfl, rfl⟩
        · exact .inr ⟨rfl, rfl⟩
        · exact .inr ⟨rfl, rfl⟩
        · exact .inr ⟨rfl, rfl⟩
        · exact .inr ⟨rfl, rfl⟩
        · exact .inr ⟨rfl, rfl⟩
        · exact .inr ⟨rfl, rfl⟩
        · exact .inr ⟨rfl, rfl⟩
        · exact .inl ⟨rfl, fun W hb => yields_pick (b := false) rfl rfl rfl⟩
        · exact .inl ⟨rfl, fun W hb => yields_assign rfl rfl⟩
        intro w4 hb4
        have HB4 : Hid (Below w.heap.size w w4) := HB3.out.trans (hb4.mono HB3.out.size)
        clear hb4 HB3 hM1 hA3
        go_wp2
        go_ret
        exact ⟨by rw [HR3.out]; rfl, HB4.out⟩
    · have HR : Hid (endsE b a = false) := by show _ = _; unfold endsE; rw [hc]; rfl
      rw [hc]
      clear hb' ha'
      go_wp2
      go_ret
      exact ⟨by rw [HR.out]; rfl, HB1.out⟩
  · have HR : Hid (endsE b a = false) := by show _ = _; unfold endsE; rw [hadd]; simp
    rw [hadd]
    clear hb ha
    go_wp2
    go_ret
    exact ⟨by rw [HR.out]; rfl, HB.out⟩
end Go.Proofs.Ytmnhbkehicpohaa
