/-
  TallyTells: the walk.
-/
import Derived.Test.YtojaphoonaoppaaTwk
namespace Go.Proofs.Ytojaphoonaoppaa
set_option maxRecDepth 100000
open Go.RowKit

theorem enters_rof (xs : Array Value) (w : World) : (callFunc 9 xs).run Try.prog w = .ok (.enter 9 xs) w := enters Try.func9 (by kernel_rfl) (by kernel_rfl) xs w
theorem neq_int_same (w : World) (a : Int) : (binOp .neq 3 (.int .i64 a) (.int .i64 a)).run Try.prog w = .ok (.bool false) w := by rw [neq_run]; simp
set_option maxHeartbeats 2000000 in
theorem ttells_walk (ao : Option Addr) (m c : Nat) (E : List Ev) (n : Int) (w : World) (hE : Evs w ao m c E) :
    Calls Try.prog 3 #[.slice ao m c, .int .i64 n] w fun e w' => e = .returned (.bool true) ∧ Below w.heap.size w w' := by
  go_enter Try.func3, Try.ntmps3
  go_wp2_with fail
  refine (awake_any w).mono ?_
  rintro e w1 ⟨rfl, hb1⟩
  have HB1 : Hid (Below w.heap.size w w1) := hb1
  have hE1 := hE.below hb1 (Nat.le_refl _)
  clear hb1 hE
  by_cases hbig : 2000 < m
  · have hz : (2000 : Int) < (m : Int) := by omega
    clear hE1
    go_wp2_with fail
    refine (awake_any w1).mono ?_
    rintro e w2 ⟨rfl, hb2⟩
    have HB2 : Hid (Below w.heap.size w w2) := HB1.out.trans (hb2.mono HB1.out.size)
    clear hb2 HB1
    go_wp2
    go_ret
    exact ⟨rfl, HB2.out⟩
  · have hz : ¬ (2000 : Int) < (m : Int) := by omega
    have hm : m ≤ 5000 := by omega
    have hBl := byE_length E
    go_wp2_with fail
    refine (tby_any ao m c E w1 hE1 hm).mono ?_
    rintro e w2 ⟨rfl, hb2⟩
    have hz2 := liesA_new w2 zeros
    have hB3 : Below w2.heap.size w2 ((w2.alloc (.cells (vals zeros) 24)).setRow w2.heap.size (vals (byE E))) := below_setRow ((Below.refl _ _).alloc (Nat.le_refl _) _) (Nat.le_refl _) _
    have hB2 : Below w.heap.size w w2 := HB1.out.trans (hb2.mono HB1.out.size)
    have HS3 : Aside (LiesA ((w2.alloc (.cells (vals zeros) 24)).setRow w2.heap.size (vals (byE E))) w2.heap.size (byE E) ∧ Evs ((w2.alloc (.cells (vals zeros) 24)).setRow w2.heap.size (vals (byE E))) ao m c E ∧ Below w.heap.size w ((w2.alloc (.cells (vals zeros) 24)).setRow w2.heap.size (vals (byE E)))) := ⟨hz2.row _, (hE1.below hb2 (Nat.le_refl _)).below hB3 (Nat.le_refl _), hB2.trans (hB3.mono hB2.size)⟩
    clear hB3 HB1 hE1 hb2 hB2
    go_upto_region 4 with (refine store_arr rfl rfl rfl rfl hz2 hBl rfl ?_)
    change Code.wp _ _ _ _ ((w2.alloc (.cells (vals zeros) 24)).setRow w2.heap.size (vals (byE E)))
    clear hz2
    generalize (w2.alloc (.cells (vals zeros) 24)).setRow w2.heap.size (vals (byE E)) = W at *
    generalize w2.heap.size = D at *
    go_wp2
    go_loopg [17] 16 (fun kx s17 wr => ∃ r : Nat, s17 = .int .i64 r ∧ r ≤ 16 ∧ 16 - r ≤ kx ∧ Aside (LiesA wr D (byE E) ∧ Evs wr ao m c E ∧ Below w.heap.size w wr))
    case atStart => exact ⟨0, rfl, by omega, by omega, HS3⟩
    case round =>
      clear HS3
      obtain ⟨r, rfl, hr16, hkx, HS⟩ := hrel
      by_cases hlt : r < 16
      · have hltz : (r : Int) < 16 := by omega
        have hcl : wr.cell? ⟨D, r, none⟩ = some (.int .i64 (ofE (r : Int) E)) := by
          rw [← byE_getD E hlt]
          exact HS.out.1.cell (by omega)
        have hEd := HS.out.2.1
        have HSd := HS
        clear HS
        go_wp2_with fail
        refine region_vals [20, 21, 22, 23, 24, 25, 26] [.int .i64 (r : Int), .pointer (some ⟨D, r, none⟩), .int .i64 (ofE (r : Int) E), .slice ao m c, .int .i64 (r : Int), .int .i64 (ofE (r : Int) E), .bool false] _ (by kernel_rfl) (by kernel_rfl) (by rfl) (by decide) (by kernel_rfl) (by simp only [lay, Act.put, List.setIfInBounds_toArray, List.set_cons_zero, List.set_cons_succ, List.getD_cons_zero, List.getD_cons_succ, Nat.reduceAdd]; rfl) ⟨?_, ?_, ?_, ?_, ?_, ?_, ?_, trivial⟩ ?_
        · exact .inl ⟨rfl, fun W hb => yields_move rfl rfl⟩
        · exact .inl ⟨rfl, fun W hb => yields_indexAddr rfl rfl rfl (run_indexAt_arr W D r hlt)⟩
        · exact .inl ⟨rfl, fun W hb => yields_load rfl rfl (load_int_run ((hb.cell (block_lt_of_cell hcl)).trans hcl))⟩
        · exact .inl ⟨rfl, fun W hb => yields_move rfl rfl⟩
        · exact .inl ⟨rfl, fun W hb => yields_move rfl rfl⟩
        · exact .inl ⟨rfl, fun W hb => yields_call (xs := [.tmp 23, .tmp 24]) (vs := [.slice ao m c, .int .i64 (r : Int)]) rfl rfl (enters_rof _ _) (rof_any ao m c E (r : Int) W (hEd.below hb (Nat.le_refl _)) hm)⟩
        · exact .inl ⟨rfl, fun W hb => yields_bin rfl rfl rfl (eqGuard_int _) (neq_int_same _ _)⟩
        intro w5 hb5
        have HS5 : Aside (LiesA w5 D (byE E) ∧ Evs w5 ao m c E ∧ Below w.heap.size w w5) := ⟨HSd.out.1.below hb5 HSd.out.1.lt, HSd.out.2.1.below hb5 (Nat.le_refl _), HSd.out.2.2.trans (hb5.mono HSd.out.2.2.size)⟩
        clear HSd hb5 hcl hEd
        go_wp2
        go_roundg (16 - (r + 1))
        case measure => omega
        case rel => exact ⟨r + 1, by go_num, by omega, Nat.le_refl _, HS5⟩
      · obtain rfl : r = 16 := by omega
        have HS0 : Aside (Evs wr ao m c E ∧ Below w.heap.size w wr) := HS.out.2
        clear HS
        go_wp2_with fail
        refine (tsum_any ao m c E wr HS0.out.1 hm).mono ?_
        rintro e w5 ⟨rfl, hb5⟩
        have HS5 : Aside (Evs w5 ao m c E ∧ Below w.heap.size w w5) := ⟨HS0.out.1.below hb5 (Nat.le_refl _), HS0.out.2.trans (hb5.mono HS0.out.2.size)⟩
        clear hb5 HS0
        go_wp2_with fail
        refine (rsum_any ao m c E w5 HS5.out.1 hm).mono ?_
        rintro e w6 ⟨rfl, hb6⟩
        have HS6 : Aside (Evs w6 ao m c E ∧ Below w.heap.size w w6) := ⟨HS5.out.1.below hb6 (Nat.le_refl _), HS5.out.2.trans (hb6.mono HS5.out.2.size)⟩
        clear hb6 HS5
        go_wp2_with fail
        refine (tcheck_any ao m c E n w6 HS6.out.1 hm).mono ?_
        rintro e w7 ⟨rfl, hb7⟩
        have HS7 : Aside (Evs w7 ao m c E ∧ Below w.heap.size w w7) := ⟨HS6.out.1.below hb7 (Nat.le_refl _), HS6.out.2.trans (hb7.mono HS6.out.2.size)⟩
        clear hb7 HS6
        go_wp2_with fail
        refine (rcheck_any ao m c E n w7 HS7.out.1 hm).mono ?_
        rintro e w8 ⟨rfl, hb8⟩
        have HB8 : Hid (Below w.heap.size w w8) := HS7.out.2.trans (hb8.mono HS7.out.2.size)
        clear hb8 HS7
        go_wp2
        go_ret
        exact ⟨rfl, HB8.out⟩
end Go.Proofs.Ytojaphoonaoppaa
