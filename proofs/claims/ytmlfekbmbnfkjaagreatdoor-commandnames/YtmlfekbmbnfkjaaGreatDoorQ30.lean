/-
  What the reference's Refuse comes to; a reply held against the reference's; calls held against one another.
-/
import Derived.Test.YtmlfekbmbnfkjaaGreatDoorQ20
import Derived.Test.YtmlfekbmbnfkjaaGreatDoorQ27
import Derived.Test.YtmlfekbmbnfkjaaGreatDoorQ29
namespace Go.Proofs.YtmlfekbmbnfkjaaGreatDoor
set_option maxRecDepth 100000
open Go.RowKit

theorem rrefuse_any (e : Int) (w : World) : Calls Tryz.prog 15 #[.int .i64 e] w fun x w' => x = .returned (.agg (repc 2 (errE e) 0 (.slice none 0 0))) ∧ Below w.heap.size w w' := by
  obtain ⟨R, hR⟩ : ∃ R, w.heap.size = R := ⟨_, rfl⟩
  have s1 : (w.alloc (.cells repz 37)).heap.size = R + 1 := by rw [← hR]; simp
  have s2 : ((w.alloc (.cells repz 37)).alloc (.cells wdA 9)).heap.size = R + 2 := by rw [← hR]; simp
  have a1 := heap_alloc_new w (.cells repz 37)
  have a2 := heap_alloc_new (w.alloc (.cells repz 37)) (.cells wdA 9)
  rw [hR] at a1
  rw [s1] at a2
  have a3 : ((w.alloc (.cells repz 37)).alloc (.cells wdA 9)).heap[R]? = some (.cells repz 37 (0, 0)) := by rw [Below.heap_alloc _ _ _ (by omega)]; exact a1
  have hb : Below w.heap.size w ((w.alloc (.cells repz 37)).alloc (.cells wdA 9)) := ((Below.refl _ w).alloc (Nat.le_refl _) _).alloc (by omega) _
  obtain ⟨W1, hW1⟩ : ∃ W1, (w.alloc (.cells repz 37)).alloc (.cells wdA 9) = W1 := ⟨_, rfl⟩
  rw [hW1] at a2 a3 hb s2
  have hW1 : (w.alloc (.cells #[.int .i64 0, .string ⟨#[]⟩, .int .i64 0, .slice none 0 0] 37)).alloc (.cells #[.string ⟨#[111, 107]⟩, .string ⟨#[97, 114, 103]⟩, .string ⟨#[115, 104, 111, 114, 116]⟩, .string ⟨#[102, 111, 114, 109]⟩, .string ⟨#[108, 111, 110, 103]⟩, .string ⟨#[115, 117, 109]⟩, .string ⟨#[111, 118, 101, 114]⟩, .string ⟨#[110, 111, 110, 101]⟩, .string ⟨#[116, 121, 112, 101]⟩, .string ⟨#[102, 117, 108, 108]⟩, .string ⟨#[108, 111, 115, 116]⟩, .string ⟨#[115, 116, 97, 116, 101]⟩, .string ⟨#[97, 114, 105, 116, 121]⟩, .string ⟨#[105, 110, 116]⟩, .string ⟨#[117, 110, 107, 110, 111, 119, 110]⟩, .string ⟨#[100, 111, 119, 110]⟩] 9) = W1 := hW1
  have H1 : Aside (W1.heap[R]? = some (.cells repz 37 (0, 0)) ∧ Below w.heap.size w W1 ∧ W1.heap.size = R + 2) := ⟨a3, hb, s2⟩
  have HR : Hid (w.heap.size = R) := hR
  have hF := fun t W => rfault_any t W
  have FINISH : Hid (∀ t w2, Below W1.heap.size W1 w2 → ∃ W, (storeVar 37 ⟨R, 0, none⟩ (.agg (repc 2 t 0 (.slice none 0 0)))).run Tryz.prog w2 = .ok () W ∧ W.heap[R]? = some (.cells (repc 2 t 0 (.slice none 0 0)) 37 (0, 0)) ∧ Hid (Below w.heap.size w W)) := fun t w2 hb2 => by
    have hz : w2.heap[R]? = some (.cells repz 37 (0, 0)) := by rw [hb2.block _ (by have := H1.out.2.2; omega)]; exact H1.out.1
    exact ⟨_, storeVar_rrep (cs := repc 2 t 0 (.slice none 0 0)) hz rfl rfl (repc_one _ _ _ _ _ _), setRow_heap w2 R _ _ _ _ hz, below_setRow (H1.out.2.1.trans (hb2.mono H1.out.2.1.size)) (by rw [HR.out]; exact Nat.le_refl _) _⟩
  clear a1 a3 s1 s2 hb
  by_cases h : 0 ≤ e ∧ e < 16
  · obtain ⟨h0, h1⟩ := h
    obtain ⟨n, rfl⟩ : ∃ n : Nat, e = (n : Int) := ⟨e.toNat, by omega⟩
    have hc : W1.cell? ⟨R + 1, n, none⟩ = some (.string (sb (WD.getD n []))) := by
      rw [cell_of_row _ (R + 1) n _ _ _ a2]; exact wdA_at (by omega)
    have e1 : wordE (n : Int) = WD.getD n [] := by unfold wordE; rw [if_pos ⟨h0, h1⟩, Int.toNat_natCast]
    have hap : (⟨#[69, 82, 82, 32]⟩ : ByteArray) ++ sb (WD.getD n []) = sb (errE (n : Int)) := by rw [← e1]; exact sb_app [69, 82, 82, 32] _
    have hs1 : (sb (WD.getD n [])).size ≤ 7 := by rw [← e1]; have := wordE_len (n : Int); simpa [sb, ByteArray.size] using this
    generalize errE (n : Int) = t at *
    generalize WD.getD n [] = wd at *
    clear a2 e1 H1
    go_enter Tryz.func15, Tryz.ntmps15
    go_wp2_with fail
    refine Calls.mono (hF t _) ?_
    rintro x w2 ⟨rfl, hb2⟩
    obtain ⟨W, hst, hg, FIN⟩ := FINISH.out t w2 hb2
    clear hb2 FINISH hF hc
    go_wp2_with (first
      | (refine wpList_storeR (ty := 37) (x := .tmp 2) (y := .tmp 19) (ad := ⟨R, 0, none⟩) (v := .agg (repc 2 t 0 (.slice none 0 0))) (w' := W) rfl rfl rfl rfl hst ?_))
    refine ret_rrep rfl rfl rfl hg rfl ?_
    exact ⟨rfl, FIN.out⟩
  · have e1 : errE e = [69, 82, 82, 32, 63] := by unfold errE wordE; rw [if_neg h]; rfl
    rw [e1]
    have h' : e < 0 ∨ (¬ e < 0 ∧ 16 ≤ e) := by omega
    have hF2 : ∀ W, Calls Tryz.prog 35 #[.string ⟨#[69, 82, 82, 32, 63]⟩] W _ := fun W => hF [69, 82, 82, 32, 63] W
    clear a2 H1 h hF
    rcases h' with h1 | ⟨h1, h2⟩ <;>
    · go_enter Tryz.func15, Tryz.ntmps15
      go_wp2_with fail
      refine Calls.mono (hF2 _) ?_
      rintro x w2 ⟨rfl, hb2⟩
      obtain ⟨W, hst, hg, FIN⟩ := FINISH.out [69, 82, 82, 32, 63] w2 hb2
      clear hb2 FINISH hF2
      go_wp2_with (first
        | (refine wpList_storeR (ty := 37) (x := .tmp 2) (y := .tmp 13) (ad := ⟨R, 0, none⟩) (v := .agg (repc 2 [69, 82, 82, 32, 63] 0 (.slice none 0 0))) (w' := W) rfl rfl rfl rfl hst ?_))
      refine ret_rrep rfl rfl rfl hg rfl ?_
      exact ⟨rfl, FIN.out⟩
/-- A reply held against the reference's: they are the same. -/
theorem csame_yes (k : Int) (t : List UInt8) (n : Int) (a1 a2 : Option Addr) (c1 c2 : Nat) (S : List (List UInt8)) (w : World) (h1 : TL w a1 S) (h2 : TL w a2 S) (hm : S.length ≤ 1048576) :
    Calls Tryz.prog 13 #[.agg (repc k t n (.slice a1 S.length c1)), .agg (repc k t n (.slice a2 S.length c2))] w fun e w' => e = .returned (.bool true) ∧ Below w.heap.size w w' := by
  obtain ⟨R, hR⟩ : ∃ R, w.heap.size = R := ⟨_, rfl⟩
  obtain ⟨q, hq⟩ : ∃ q, S.length = q := ⟨_, rfl⟩
  have s1 : (w.alloc (.cells (repc k t n (.slice a1 S.length c1)) 35)).heap.size = R + 1 := by rw [← hR]; simp
  have b1 := heap_alloc_new w (.cells (repc k t n (.slice a1 S.length c1)) 35)
  have b2 := heap_alloc_new (w.alloc (.cells (repc k t n (.slice a1 S.length c1)) 35)) (.cells (repc k t n (.slice a2 S.length c2)) 37)
  rw [hR] at b1
  rw [s1] at b2
  have b3 : ((w.alloc (.cells (repc k t n (.slice a1 S.length c1)) 35)).alloc (.cells (repc k t n (.slice a2 S.length c2)) 37)).heap[R]? = some (.cells (repc k t n (.slice a1 S.length c1)) 35 (0, 0)) := by rw [Below.heap_alloc _ _ _ (by omega)]; exact b1
  have hb : Below w.heap.size w ((w.alloc (.cells (repc k t n (.slice a1 S.length c1)) 35)).alloc (.cells (repc k t n (.slice a2 S.length c2)) 37)) := ((Below.refl _ w).alloc (Nat.le_refl _) _).alloc (by omega) _
  have hT := texts_yes a1 a2 c1 c2 S _ (h1.below hb (Nat.le_refl _)) (h2.below hb (Nat.le_refl _)) hm
  rw [hq] at *
  obtain ⟨W1, hW1⟩ : ∃ W1, (w.alloc (.cells (repc k t n (.slice a1 q c1)) 35)).alloc (.cells (repc k t n (.slice a2 q c2)) 37) = W1 := ⟨_, rfl⟩
  rw [hW1] at b2 b3 hb hT
  have p0 : W1.cell? ⟨R, 0, none⟩ = some (.int .i64 k) := cell_of_row _ R 0 _ _ _ b3
  have p1 : W1.cell? ⟨R, 1, none⟩ = some (.string (sb t)) := cell_of_row _ R 1 _ _ _ b3
  have p2 : W1.cell? ⟨R, 2, none⟩ = some (.int .i64 n) := cell_of_row _ R 2 _ _ _ b3
  have p3 : W1.cell? ⟨R, 3, none⟩ = some (.slice a1 q c1) := cell_of_row _ R 3 _ _ _ b3
  have q0 : W1.cell? ⟨R + 1, 0, none⟩ = some (.int .i64 k) := cell_of_row _ (R + 1) 0 _ _ _ b2
  have q1 : W1.cell? ⟨R + 1, 1, none⟩ = some (.string (sb t)) := cell_of_row _ (R + 1) 1 _ _ _ b2
  have q2 : W1.cell? ⟨R + 1, 2, none⟩ = some (.int .i64 n) := cell_of_row _ (R + 1) 2 _ _ _ b2
  have q3 : W1.cell? ⟨R + 1, 3, none⟩ = some (.slice a2 q c2) := cell_of_row _ (R + 1) 3 _ _ _ b2
  have hW1 : (w.alloc (.cells #[.int .i64 k, .string (sb t), .int .i64 n, .slice a1 q c1] 35)).alloc (.cells #[.int .i64 k, .string (sb t), .int .i64 n, .slice a2 q c2] 37) = W1 := hW1
  have hq1 : ((sb t).toList == (sb t).toList) = true := by simp
  have hq2 : ((k : Int) == k) = true := by simp
  have hq3 : ((n : Int) == n) = true := by simp
  have FIN : Hid (Below w.heap.size w W1) := hb
  clear b1 b2 b3 hb s1 h1 h2 hq
  unfold repc
  go_enter Tryz.func13, Tryz.ntmps13
  go_wp2_with fail
  refine Calls.mono hT ?_
  rintro e w2 ⟨rfl, hb2⟩
  have FIN2 : Hid (Below w.heap.size w w2) := FIN.out.trans (hb2.mono FIN.out.size)
  clear hT hb2 p0 p1 p2 p3 q0 q1 q2 q3
  go_wp2
  go_ret
  exact ⟨rfl, FIN2.out⟩
theorem run_eql_cl (w : World) (a : Cl) : (binOp .eql 26 (.agg (clc a)) (.agg (clc a))).run Tryz.prog w = .ok (.bool true) w := by
  have h : (Op.equalIn (9998 + 2) 26 (.agg (clc a)) (.agg (clc a))).run Tryz.prog w = .ok ([decide (a.name = a.name), decide (a.key = a.key), decide (a.field = a.field), decide (a.value = a.value), decide (a.n = a.n), decide (a.m = a.m)].all id) w := by
    rw [run_equalIn_struct w (9998 + 1) 26 _ _ (by kernel_rfl) (by kernel_rfl)]
    have hm : (Tryz.prog.fieldsOf 26).toList.map (fun f => (f.name, f.type, f.offset)) = [("Name", 9, 0), ("Key", 9, 1), ("Field", 9, 2), ("Value", 9, 3), ("N", 3, 4), ("M", 3, 5)] := by kernel_rfl
    exact run_eqFields hm ⟨by decide, ⟨_, _, part_str w rfl, part_str w rfl, equal_str w _ _ _⟩, by decide, ⟨_, _, part_str w rfl, part_str w rfl, equal_str w _ _ _⟩, by decide, ⟨_, _, part_str w rfl, part_str w rfl, equal_str w _ _ _⟩,
      by decide, ⟨_, _, part_str w rfl, part_str w rfl, equal_str w _ _ _⟩, by decide, ⟨_, _, part_int w rfl, part_int w rfl, equal_int w _ _ _⟩, by decide, ⟨_, _, part_int w rfl, part_int w rfl, equal_int w _ _ _⟩, trivial⟩
  rw [run_eql_struct, h, Result.andThen_ok]
  simp
theorem run_eql_rcl (w : World) (a : Cl) : (binOp .eql 30 (.agg (clc a)) (.agg (clc a))).run Tryz.prog w = .ok (.bool true) w := by
  have h : (Op.equalIn (9998 + 2) 30 (.agg (clc a)) (.agg (clc a))).run Tryz.prog w = .ok ([decide (a.name = a.name), decide (a.key = a.key), decide (a.field = a.field), decide (a.value = a.value), decide (a.n = a.n), decide (a.m = a.m)].all id) w := by
    rw [run_equalIn_struct w (9998 + 1) 30 _ _ (by kernel_rfl) (by kernel_rfl)]
    have hm : (Tryz.prog.fieldsOf 30).toList.map (fun f => (f.name, f.type, f.offset)) = [("Name", 9, 0), ("Key", 9, 1), ("Field", 9, 2), ("Value", 9, 3), ("N", 3, 4), ("M", 3, 5)] := by kernel_rfl
    exact run_eqFields hm ⟨by decide, ⟨_, _, part_str w rfl, part_str w rfl, equal_str w _ _ _⟩, by decide, ⟨_, _, part_str w rfl, part_str w rfl, equal_str w _ _ _⟩, by decide, ⟨_, _, part_str w rfl, part_str w rfl, equal_str w _ _ _⟩,
      by decide, ⟨_, _, part_str w rfl, part_str w rfl, equal_str w _ _ _⟩, by decide, ⟨_, _, part_int w rfl, part_int w rfl, equal_int w _ _ _⟩, by decide, ⟨_, _, part_int w rfl, part_int w rfl, equal_int w _ _ _⟩, trivial⟩
  rw [run_eql_struct, h, Result.andThen_ok]
  simp
theorem plain_cl : Tryz.prog.eqGuardType Tryz.prog.depth 26 = false := by kernel_rfl
theorem plain_rcl : Tryz.prog.eqGuardType Tryz.prog.depth 30 = false := by kernel_rfl
end Go.Proofs.YtmlfekbmbnfkjaaGreatDoor

