/-
  RespReplies: any reply, and any command, has the bytes that the document says. For every input.
-/
import Derived.Test.YtkhfplpplmnjiaaDoorAwk
import Derived.Test.YtkhfplpplmnjiaaDoorRtw
namespace Go.Proofs.YtkhfplpplmnjiaaDoor
set_option maxRecDepth 100000
open Go.RowKit Go.Sort

theorem enters_encode (xs : Array Value) (w : World) : (callFunc 11 xs).run Tryd.prog w = .ok (.enter 11 xs) w := enters Tryd.func11 (by kernel_rfl) (by kernel_rfl) xs w
theorem enters_rencode (xs : Array Value) (w : World) : (callFunc 12 xs).run Tryd.prog w = .ok (.enter 12 xs) w := enters Tryd.func12 (by kernel_rfl) (by kernel_rfl) xs w
theorem enters_command (xs : Array Value) (w : World) : (callFunc 13 xs).run Tryd.prog w = .ok (.enter 13 xs) w := enters Tryd.func13 (by kernel_rfl) (by kernel_rfl) xs w
theorem enters_rcommand (xs : Array Value) (w : World) : (callFunc 14 xs).run Tryd.prog w = .ok (.enter 14 xs) w := enters Tryd.func14 (by kernel_rfl) (by kernel_rfl) xs w
theorem eql_str_same (w : World) (a : ByteArray) : (binOp .eql 9 (.string a) (.string a)).run Tryd.prog w = .ok (.bool true) w := by
  simp [binOp, Op.stringOp, go_sem]
theorem field3_run (w : World) (g : Nat) : (Instr.fieldAt 24 (.pointer (some ⟨g, 0, none⟩)) 3).run Tryd.prog w = .ok (.pointer (some ⟨g, 3, none⟩)) w := by kernel_rfl
theorem load_strs_run {w : World} {ad : Addr} {v : Value} (h : w.cell? ad = some v) : (loadVar 22 ad).run Tryd.prog w = .ok v w := by
  have h3 : Tryd.prog.underlying 22 = some (.slice 9) := Tryd.underlying22
  simp [loadVar, isAgg, run_underlying h3, Sem.run_bind, h]
theorem load_reply_run {w : World} {g : Nat} {v0 v1 v2 v3 : Value} (h : w.heap[g]? = some (.cells #[v0, v1, v2, v3] 24 (0, 0))) : (loadVar 24 ⟨g, 0, none⟩).run Tryd.prog w = .ok (.agg #[v0, v1, v2, v3]) w :=
  run_loadVar_row w g 24 24 _ (0, 0) _ h Tryd.underlying24 rfl rfl
theorem made_mb {w : World} {base : Nat} {v : Value} {l : List UInt8} (h : Made w base v l) : Mb l v w := by
  obtain ⟨ao, c, rfl, hB, -⟩ := h.bytes
  exact ⟨ao, c, rfl, hB⟩

set_option maxHeartbeats 4000000 in
theorem replies_walk (kd : Int) (t : ByteArray) (n : Int) (ao : Option Addr) (m c : Nat) (S : List ByteArray) (w : World) (ht : t.size ≤ maxLen) (h0 : -9223372036854775808 ≤ n) (h1 : n ≤ 9223372036854775807) (hT : Txts w ao m c S) (hc : c ≤ maxLen) (hw : Tab w) :
    Calls Tryd.prog 3 #[.agg #[.int .i64 kd, .string t, .int .i64 n, .slice ao m c]] w fun e w' => e = .returned (.bool true) ∧ Below w.heap.size w w' := by
  have hbx : ∀ o : Obj, Below w.heap.size w (w.alloc o) := fun o => (Below.refl _ _).alloc (Nat.le_refl _) o
  have hroom := hT.room
  have hmm : m ≤ maxLen := Nat.le_trans hroom hc
  unfold maxLen at ht
  go_enter Tryd.func3, Tryd.ntmps3
  go_wp2_with fail
  refine Calls.mono (awake_any _ (hw.below (hbx _))) ?_
  rintro e w1 ⟨rfl, hb1⟩
  have hbk1 : w1.heap[w.heap.size]? = some (.cells #[.int .i64 kd, .string t, .int .i64 n, .slice ao m c] 24 (0, 0)) := by
    rw [hb1.block _ (by simp)]; exact heap_alloc_new w _
  have hcl1 : w1.cell? ⟨w.heap.size, 1, none⟩ = some (.string t) := by rw [cell_of_row w1 w.heap.size 1 _ _ _ hbk1]; rfl
  have hcl3 : w1.cell? ⟨w.heap.size, 3, none⟩ = some (.slice ao m c) := by rw [cell_of_row w1 w.heap.size 3 _ _ _ hbk1]; rfl
  have hb1' := (hbx _).trans (hb1.mono (hbx _).size)
  have hlt := World.block_lt_of_cell? w1 _ hcl1
  have hbk1 : Hid _ := hbk1
  have hw1 := hw.below hb1'
  clear hb1
  go_wp2_with fail
  refine Calls.mono (few_any ao m c S w1 (hT.below hb1' (Nat.le_refl _)) hmm) ?_
  rintro e w2 ⟨⟨b, rfl, hfew⟩, hb2⟩
  have hb2' := hb1'.trans (hb2.mono hb1'.size)
  have hcl2 : w2.cell? ⟨w.heap.size, 1, none⟩ = some (.string t) := by rw [hb2.cell hlt]; exact hcl1
  have hbk2 : Hid (w2.heap[w.heap.size]? = _) := (hb2.block _ hlt).trans hbk1.out
  have hlt2 : w.heap.size < w2.heap.size := Nat.lt_of_lt_of_le hlt hb2.size
  have hw2 := hw.below hb2'
  cases b with
  | false =>
    clear hfew
    go_wp2_with fail
    refine Calls.mono (awake_any w2 hw2) ?_
    rintro e w3 ⟨rfl, hb3⟩
    go_wp2
    go_ret
    exact ⟨rfl, hb2'.trans (hb3.mono hb2'.size)⟩
  | true =>
    have hf := hfew.1 rfl
    have hf : Hid _ := hf
    clear hfew
    by_cases h3000 : 3000 < t.size
    · have h3' : (3000 : Int) < (t.size : Int) := by omega
      go_wp2_with fail
      refine Calls.mono (awake_any w2 hw2) ?_
      rintro e w3 ⟨rfl, hb3⟩
      go_wp2
      go_ret
      exact ⟨rfl, hb2'.trans (hb3.mono hb2'.size)⟩
    · have h3' : ¬ (3000 : Int) < (t.size : Int) := by omega
      obtain ⟨e1, he1⟩ : ∃ e1, e1 = enc kd t.data.toList n (dl S) := ⟨_, rfl⟩
      obtain ⟨e2, he2⟩ : ∃ e2, e2 = Rs.many (dl S) := ⟨_, rfl⟩
      have hTW : ∀ W, Below w2.heap.size w2 W → Txts W ao m c S ∧ Tab W := fun W hb => ⟨hT.below (hb2'.trans (hb.mono hb2'.size)) (Nat.le_refl _), hw2.below hb⟩
      have C1 : ∀ W, Below w2.heap.size w2 W → Calls Tryd.prog 11 #[.agg #[.int .i64 kd, .string t, .int .i64 n, .slice ao m c]] W fun e w'' => ∃ v', e = .returned v' ∧ Mb e1 v' w'' ∧ Below W.heap.size W w'' := fun W hb =>
        (encode_any kd t n ao m c S W (by omega) h0 h1 (hTW W hb).1 hf.out (hTW W hb).2).mono fun e w'' ⟨v, a, b, c⟩ => ⟨v, a, by rw [he1]; exact made_mb b, c⟩
      have C2 : ∀ W, Below w2.heap.size w2 W → Calls Tryd.prog 12 #[.agg #[.int .i64 kd, .string t, .int .i64 n, .slice ao m c]] W fun e w'' => e = .returned (.string (tx e1)) ∧ Below W.heap.size W w'' := fun W hb => by
        rw [he1]; exact rencode_any kd t n ao m c S W (by omega) h0 h1 (hTW W hb).1 hf.out
      have C3 : ∀ W, Below w2.heap.size w2 W → Calls Tryd.prog 13 #[.slice ao m c] W fun e w'' => ∃ v', e = .returned v' ∧ Mb e2 v' w'' ∧ Below W.heap.size W w'' := fun W hb =>
        (putcmd_any ao m c S W (hTW W hb).1 hf.out (hTW W hb).2).mono fun e w'' ⟨v, a, b, c⟩ => ⟨v, a, by rw [he2]; exact made_mb b, c⟩
      have C4 : ∀ W, Below w2.heap.size w2 W → Calls Tryd.prog 14 #[.slice ao m c] W fun e w'' => e = .returned (.string (tx e2)) ∧ Below W.heap.size W w'' := fun W hb => by
        rw [he2]; exact rcommand_any ao m c S W (hTW W hb).1 hf.out
      have L1 : ∀ W, Below w2.heap.size w2 W → (loadVar 24 ⟨w.heap.size, 0, none⟩).run Tryd.prog W = .ok (.agg #[.int .i64 kd, .string t, .int .i64 n, .slice ao m c]) W := fun W hb => load_reply_run ((hb.block _ hlt2).trans hbk2.out)
      have L2 : ∀ W, Below w2.heap.size w2 W → (loadVar 22 ⟨w.heap.size, 3, none⟩).run Tryd.prog W = .ok (.slice ao m c) W := fun W hb => load_strs_run (by rw [cell_of_row W w.heap.size 3 _ _ _ ((hb.block _ hlt2).trans hbk2.out)]; rfl)
      have C1 : Hid _ := C1
      have C2 : Hid _ := C2
      have C3 : Hid _ := C3
      have C4 : Hid _ := C4
      have L1 : Hid _ := L1
      have L2 : Hid _ := L2
      clear he1 he2 hTW hcl1 hcl3 hw1
      go_wp2_with fail
      refine region_two [18, 19, 20, 21, 22, 23, 24, 25, 26, 27, 28, 29, 30, 31, 32, 33, 2] (fun v1 v2 => [.agg #[.int .i64 kd, .string t, .int .i64 n, .slice ao m c], v1, .string (tx e1), .agg #[.int .i64 kd, .string t, .int .i64 n, .slice ao m c], .string (tx e1), .bool true, .bool true, .pointer (some ⟨w.heap.size, 3, none⟩), .slice ao m c, v2, .string (tx e2), .pointer (some ⟨w.heap.size, 3, none⟩), .slice ao m c, .string (tx e2), .bool true, .bool true, .bool true]) 1 9 (Mb e1) (Mb e2) _ (by kernel_rfl) (by kernel_rfl) (by rfl) (by decide) (by kernel_rfl) (by decide) (by decide) (by decide) (fun _ _ => rfl) (fun _ _ => rfl) ?hV (fun v1 v2 => by simp only [lay, Act.put, List.setIfInBounds_toArray, List.set_cons_zero, List.set_cons_succ, List.getD_cons_zero, List.getD_cons_succ, Nat.reduceAdd]; rfl) Mb.stable Mb.stable ⟨?_, ?_, ?_, ?_, ?_, ?_, ?_, ?_, ?_, ?_, ?_, ?_, ?_, ?_, ?_, ?_, ?_, trivial⟩ ?_
      case hV =>
        intro v1 v2 i i1 i9
        by_cases hi : i < 17
        · have hi' : i = 0 ∨ i = 2 ∨ i = 3 ∨ i = 4 ∨ i = 5 ∨ i = 6 ∨ i = 7 ∨ i = 8 ∨ i = 10 ∨ i = 11 ∨ i = 12 ∨ i = 13 ∨ i = 14 ∨ i = 15 ∨ i = 16 := by omega
          rcases hi' with rfl | rfl | rfl | rfl | rfl | rfl | rfl | rfl | rfl | rfl | rfl | rfl | rfl | rfl | rfl <;> rfl
        · rw [List.getD_eq_getElem?_getD, List.getD_eq_getElem?_getD, List.getElem?_eq_none (by simp; omega), List.getElem?_eq_none (by simp; omega)]
      · exact OkTwo.at (by decide) (by decide) rfl (fun _ _ => rfl) (fun v1 v2 W hb _ _ => yields_load rfl rfl (L1.out W hb))
      · exact OkTwo.one (fun _ _ => rfl) (fun v1 v2 W hb => yieldsR_call (vs := [.agg #[.int .i64 kd, .string t, .int .i64 n, .slice ao m c]]) rfl rfl (enters_encode _ _) (C1.out W hb))
      · exact OkTwo.at (by decide) (by decide) rfl (fun _ _ => rfl) (fun v1 v2 W hb a _ => yields_convert (vx := v1) rfl rfl (conv_mb (a (by kernel_rfl))))
      · exact OkTwo.at (by decide) (by decide) rfl (fun _ _ => rfl) (fun v1 v2 W hb _ _ => yields_load rfl rfl (L1.out W hb))
      · exact OkTwo.at (by decide) (by decide) rfl (fun _ _ => rfl) (fun v1 v2 W hb _ _ => yields_call (vs := [.agg #[.int .i64 kd, .string t, .int .i64 n, .slice ao m c]]) (v := .string (tx e1)) rfl rfl (enters_rencode _ _) (C2.out W hb))
      · exact OkTwo.at (by decide) (by decide) rfl (fun _ _ => rfl) (fun v1 v2 W hb _ _ => yields_bin rfl rfl rfl (eqGuard_str W) (eql_str_same W _))
      · exact OkTwo.at (by decide) (by decide) rfl (fun _ _ => rfl) (fun v1 v2 W hb _ _ => yields_move rfl rfl)
      · exact OkTwo.at (by decide) (by decide) rfl (fun _ _ => rfl) (fun v1 v2 W hb _ _ => yields_field rfl rfl (field3_run W _))
      · exact OkTwo.at (by decide) (by decide) rfl (fun _ _ => rfl) (fun v1 v2 W hb _ _ => yields_load rfl rfl (L2.out W hb))
      · exact OkTwo.two (by decide) (fun _ _ => rfl) (fun v1 v2 W hb => yieldsR_call (vs := [.slice ao m c]) rfl rfl (enters_command _ _) (C3.out W hb))
      · exact OkTwo.at (by decide) (by decide) rfl (fun _ _ => rfl) (fun v1 v2 W hb _ a => yields_convert (vx := v2) rfl rfl (conv_mb (a (by kernel_rfl))))
      · exact OkTwo.at (by decide) (by decide) rfl (fun _ _ => rfl) (fun v1 v2 W hb _ _ => yields_field rfl rfl (field3_run W _))
      · exact OkTwo.at (by decide) (by decide) rfl (fun _ _ => rfl) (fun v1 v2 W hb _ _ => yields_load rfl rfl (L2.out W hb))
      · exact OkTwo.at (by decide) (by decide) rfl (fun _ _ => rfl) (fun v1 v2 W hb _ _ => yields_call (vs := [.slice ao m c]) (v := .string (tx e2)) rfl rfl (enters_rcommand _ _) (C4.out W hb))
      · exact OkTwo.at (by decide) (by decide) rfl (fun _ _ => rfl) (fun v1 v2 W hb _ _ => yields_bin rfl rfl rfl (eqGuard_str W) (eql_str_same W _))
      · exact OkTwo.at (by decide) (by decide) rfl (fun _ _ => rfl) (fun v1 v2 W hb _ _ => yields_pick (b := true) rfl rfl rfl)
      · exact OkTwo.at (by decide) (by decide) rfl (fun _ _ => rfl) (fun v1 v2 W hb _ _ => yields_assign rfl rfl)
      intro v1 v2 W hb _ _
      have hbW := hb2'.trans (hb.mono hb2'.size)
      go_wp2
      go_ret
      exact ⟨rfl, hbW⟩
end Go.Proofs.YtkhfplpplmnjiaaDoor
