/-
  What whole comes to; a vector's block made, and stored.
-/
import Derived.Test.YtcndgbepdgjkeaaMpm
namespace Go.Proofs.Ytcndgbepdgjkeaa
set_option maxRecDepth 100000
open Go.RowKit

theorem yields_ex {o : Oper} {E : Act} {w : World} {v : Value} (h : (execOp E.eval o).run Try.prog w = .ok (.value v) w) : Yields Try.prog v w ((execOp E.eval o).run Try.prog w) := by
  rw [h]; exact ⟨rfl, Below.refl _ _⟩
theorem mrow_in {g n k : Nat} {R : Nat → List Int} {w : World} (hk : k < n) (h : Mat w g n R) : Calls Try.prog 17 #[.pointer (some ⟨g, 0, none⟩), .int .i64 (k : Int)] w fun e w' => e = .returned (.agg (vals (R k))) ∧ Below w.heap.size w w' := by
  have := mrow_any _ n R (k : Int) w h.mp
  rwa [rowE_in hk] at this
theorem vv_alloc (w : World) : ∃ D W', (Instr.alloc 24 true (.tuple #[])).run Try.prog w = .ok (.pointer (some ⟨D, 0, none⟩)) W' ∧ Lies W' D zeros ∧ Below w.heap.size w W' ∧ w.heap.size ≤ D := by
  refine ⟨w.heap.size, w.alloc (.cells (vals zeros) 24), ?_, lies_new w zeros, (Below.refl _ _).alloc (Nat.le_refl _) _, Nat.le_refl _⟩
  rw [zeros_vals]
  simp [go_sem]
theorem vv_store {F : Nat} {w0 w : World} {g : Nat} {z v : List Int} (hg : Lies w g z) (hv : v.length = 16) (hz : z.length = 16) (hb : Below F w0 w) (hF : F ≤ g) : ∃ W', (storeVar 24 ⟨g, 0, none⟩ (.agg (vals v))).run Try.prog w = .ok () W' ∧ Lies W' g v ∧ Below F w0 W' ∧ ∀ (E : Nat) (l : List Int), E ≠ g → Lies w E l → Lies W' E l :=
  ⟨_, store_run hg hv hz, hg.row v, below_setRow hb hF _, fun _ _ he hl => hl.rowOther _ he⟩
theorem enters_whole (xs : Array Value) (w : World) : (callFunc 20 xs).run Try.prog w = .ok (.enter 20 xs) w := enters Try.func20 (by kernel_rfl) (by kernel_rfl) xs w

set_option maxHeartbeats 1000000 in
theorem whole_any (g n : Nat) (R : Nat → List Int) (s : List Int) (hs : s.length = 16) (w : World) (h : Mat w g n R) :
    Calls Try.prog 20 #[.pointer (some ⟨g, 0, none⟩), .int .i64 (n : Int), .agg (vals s)] w fun e w' => e = .returned (.bool (wholeTo R s n)) ∧ Below w.heap.size w w' := by
  have hS0 := lies_new w s
  have hb0 : Below w.heap.size w (w.alloc (.cells (vals s) 24)) := (Below.refl _ w).alloc (Nat.le_refl _) _
  have hM0 := h.alloc (.cells (vals s) 24)
  have hn16 := h.le
  clear h
  generalize hW0 : w.alloc (.cells (vals s) 24) = W0 at *
  go_enter Try.func20, Try.ntmps20
  go_wp2_with fail
  clear hW0
  go_loopw [7] (fun i wr => ∃ k : Nat, k ≤ n ∧ i = .int .i64 (k : Int) ∧ wholeTo R s k = true ∧ Lies wr w.heap.size s ∧ Mat wr g n R ∧ Below w.heap.size w wr) (fun i _ => n - (intOf i).toNat)
  case atStart => exact ⟨0, Nat.zero_le _, rfl, rfl, hS0, hM0, hb0⟩
  case round =>
    clear hS0 hM0 hb0
    obtain ⟨k, hk, rfl, hwh, hS, hM, hB⟩ := hrel
    have HW : Hid _ := hwh
    clear hwh
    by_cases hkn : k < n
    · have hk16 : k < 16 := by omega
      by_cases hle : (R k).getD k 0 ≤ s.getD k 0
      · go_wp2_with fail
        refine region_vals [13, 14, 15, 16, 17, 18, 19, 20, 21] [.pointer (some ⟨g, 0, none⟩), .int .i64 (k : Int), .agg (vals (R k)), .int .i64 (k : Int), .int .i64 ((R k).getD k 0), .int .i64 (k : Int), .pointer (some ⟨w.heap.size, k, none⟩), .int .i64 (s.getD k 0), .bool false] _ (by kernel_rfl) (by kernel_rfl) (by rfl) (by decide) (by kernel_rfl) (by simp only [lay, Act.put, List.setIfInBounds_toArray, List.set_cons_zero, List.set_cons_succ, List.getD_cons_zero, List.getD_cons_succ, Nat.reduceAdd]; rfl) ⟨?_, ?_, ?_, ?_, ?_, ?_, ?_, ?_, ?_, trivial⟩ ?_
        · exact .inl ⟨rfl, fun W hb => yields_move rfl rfl⟩
        · exact .inl ⟨rfl, fun W hb => yields_move rfl rfl⟩
        · exact .inl ⟨rfl, fun W hb => yields_call (f := 17) (xs := [.tmp 13, .tmp 14]) (vs := [.pointer (some ⟨g, 0, none⟩), .int .i64 (k : Int)]) (v := .agg (vals (R k))) rfl rfl (enters_mrow _ _) (mrow_in hkn (hM.below hb hM.lt))⟩
        · exact .inl ⟨rfl, fun W hb => yields_move rfl rfl⟩
        · exact .inl ⟨rfl, fun W hb => yields_ex (y_indexV rfl rfl rfl (run_index_vec _ _ _ (hM.grid.len k) hk16))⟩
        · exact .inl ⟨rfl, fun W hb => yields_move rfl rfl⟩
        · exact .inl ⟨rfl, fun W hb => yields_indexAddr rfl rfl rfl (run_indexAt_vec _ _ k hk16)⟩
        · exact .inl ⟨rfl, fun W hb => yields_load rfl rfl (load_int_run ((hS.below hb hS.lt).cell (by omega)))⟩
        · exact .inl ⟨rfl, fun W hb => yields_bin rfl rfl rfl (eqGuard_int _) (gtr_no _ (by omega))⟩
        intro w5 hb5
        have HW5 : Hid (wholeTo R s (k + 1) = true) := wholeTo_succ HW.out hle
        have HM : Hid (Mat w5 g n R) := hM.below hb5 hM.lt
        have HS : Hid (Lies w5 w.heap.size s) := hS.below hb5 hS.lt
        have HB : Hid (Below w.heap.size w w5) := hB.trans (hb5.mono hB.size)
        clear hM hS hB hb5 hle HW
        go_wp2
        go_roundw
        case rel => exact ⟨k + 1, by omega, by go_num, HW5.out, HS.out, HM.out, HB.out⟩
        case measure => simp [intOf]; omega
      · go_wp2_with fail
        refine region_vals [13, 14, 15, 16, 17, 18, 19, 20, 21] [.pointer (some ⟨g, 0, none⟩), .int .i64 (k : Int), .agg (vals (R k)), .int .i64 (k : Int), .int .i64 ((R k).getD k 0), .int .i64 (k : Int), .pointer (some ⟨w.heap.size, k, none⟩), .int .i64 (s.getD k 0), .bool true] _ (by kernel_rfl) (by kernel_rfl) (by rfl) (by decide) (by kernel_rfl) (by simp only [lay, Act.put, List.setIfInBounds_toArray, List.set_cons_zero, List.set_cons_succ, List.getD_cons_zero, List.getD_cons_succ, Nat.reduceAdd]; rfl) ⟨?_, ?_, ?_, ?_, ?_, ?_, ?_, ?_, ?_, trivial⟩ ?_
        · exact .inl ⟨rfl, fun W hb => yields_move rfl rfl⟩
        · exact .inl ⟨rfl, fun W hb => yields_move rfl rfl⟩
        · exact .inl ⟨rfl, fun W hb => yields_call (f := 17) (xs := [.tmp 13, .tmp 14]) (vs := [.pointer (some ⟨g, 0, none⟩), .int .i64 (k : Int)]) (v := .agg (vals (R k))) rfl rfl (enters_mrow _ _) (mrow_in hkn (hM.below hb hM.lt))⟩
        · exact .inl ⟨rfl, fun W hb => yields_move rfl rfl⟩
        · exact .inl ⟨rfl, fun W hb => yields_ex (y_indexV rfl rfl rfl (run_index_vec _ _ _ (hM.grid.len k) hk16))⟩
        · exact .inl ⟨rfl, fun W hb => yields_move rfl rfl⟩
        · exact .inl ⟨rfl, fun W hb => yields_indexAddr rfl rfl rfl (run_indexAt_vec _ _ k hk16)⟩
        · exact .inl ⟨rfl, fun W hb => yields_load rfl rfl (load_int_run ((hS.below hb hS.lt).cell (by omega)))⟩
        · exact .inl ⟨rfl, fun W hb => yields_bin rfl rfl rfl (eqGuard_int _) (gtr_yes _ (by omega))⟩
        intro w5 hb5
        have HB : Hid (Below w.heap.size w w5) := hB.trans (hb5.mono hB.size)
        have HN : Hid (wholeTo R s n = false) := wholeTo_not hkn (by omega)
        clear hM hS hB hb5 hle HW
        go_wp2
        go_ret
        exact ⟨by rw [HN.out]; rfl, HB.out⟩
    · obtain rfl : k = n := by omega
      have HB : Hid (Below w.heap.size w wr) := hB
      clear hM hS hB
      go_wp2
      go_ret
      exact ⟨by rw [HW.out]; rfl, HB.out⟩
end Go.Proofs.Ytcndgbepdgjkeaa
