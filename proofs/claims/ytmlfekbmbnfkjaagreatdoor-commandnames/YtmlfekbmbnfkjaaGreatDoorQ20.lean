/-
  What Refuse comes to, the program's and the reference's.
-/
import Derived.Test.YtmlfekbmbnfkjaaGreatDoorQ18
import Derived.Test.YtmlfekbmbnfkjaaGreatDoorQ19
namespace Go.Proofs.YtmlfekbmbnfkjaaGreatDoor
set_option maxRecDepth 100000
open Go.RowKit

def WD : List (List UInt8) := [[111, 107], [97, 114, 103], [115, 104, 111, 114, 116], [102, 111, 114, 109], [108, 111, 110, 103], [115, 117, 109], [111, 118, 101, 114], [110, 111, 110, 101], [116, 121, 112, 101], [102, 117, 108, 108], [108, 111, 115, 116], [115, 116, 97, 116, 101], [97, 114, 105, 116, 121], [105, 110, 116], [117, 110, 107, 110, 111, 119, 110], [100, 111, 119, 110]]
def wordE (e : Int) : List UInt8 := if 0 ≤ e ∧ e < 16 then WD.getD e.toNat [] else [63]
def errE (e : Int) : List UInt8 := [69, 82, 82, 32] ++ wordE e
/-- A reply. -/
def repc (k : Int) (t : List UInt8) (n : Int) (v : Value) : Array Value := #[.int .i64 k, .string (sb t), .int .i64 n, v]
theorem repc_one (k : Int) (t : List UInt8) (n : Int) (ao : Option Addr) (m c : Nat) : (repc k t n (.slice ao m c)).all (·.oneCell') = true := by simp [repc, Value.oneCell']
def wdA : Array Value := (WD.map fun t => Value.string (sb t)).toArray
theorem wdA_at {i : Nat} (h : i < 16) : wdA[i]? = some (.string (sb (WD.getD i []))) := by
  unfold wdA
  rw [List.getElem?_toArray, List.getElem?_map, List.getD_eq_getElem?_getD, List.getElem?_eq_getElem (show i < WD.length from h)]
  rfl
set_option maxHeartbeats 1000000 in
theorem word_any (e : Int) (w : World) : Calls Tryz.prog 34 #[.int .i64 e] w fun x w' => x = .returned (.string (sb (wordE e))) ∧ Below w.heap.size w w' := by
  have hb : Below w.heap.size w (w.alloc (.cells wdA 9)) := (Below.refl _ w).alloc (Nat.le_refl _) _
  have hn := heap_alloc_new w (.cells wdA 9)
  have FIN : Hid (Below w.heap.size w (w.alloc (.cells wdA 9))) := hb
  by_cases h : 0 ≤ e ∧ e < 16
  · obtain ⟨h0, h1⟩ := h
    obtain ⟨n, rfl⟩ : ∃ n : Nat, e = (n : Int) := ⟨e.toNat, by omega⟩
    have hc : (w.alloc (.cells wdA 9)).cell? ⟨w.heap.size, n, none⟩ = some (.string (sb (WD.getD n []))) := by
      rw [cell_of_row _ w.heap.size n _ _ _ hn]; exact wdA_at (by omega)
    have e1 : wordE (n : Int) = WD.getD n [] := by unfold wordE; rw [if_pos ⟨h0, h1⟩, Int.toNat_natCast]
    rw [e1]
    generalize WD.getD n [] = t at *
    clear hb hn e1
    have hW := Eq.refl (w.alloc (.cells wdA 9))
    obtain ⟨W, hW⟩ : ∃ W, w.alloc (.cells wdA 9) = W := ⟨_, rfl⟩
    rw [hW] at hc FIN
    have hW : w.alloc (.cells #[.string ⟨#[111, 107]⟩, .string ⟨#[97, 114, 103]⟩, .string ⟨#[115, 104, 111, 114, 116]⟩, .string ⟨#[102, 111, 114, 109]⟩, .string ⟨#[108, 111, 110, 103]⟩, .string ⟨#[115, 117, 109]⟩, .string ⟨#[111, 118, 101, 114]⟩, .string ⟨#[110, 111, 110, 101]⟩, .string ⟨#[116, 121, 112, 101]⟩, .string ⟨#[102, 117, 108, 108]⟩, .string ⟨#[108, 111, 115, 116]⟩, .string ⟨#[115, 116, 97, 116, 101]⟩, .string ⟨#[97, 114, 105, 116, 121]⟩, .string ⟨#[105, 110, 116]⟩, .string ⟨#[117, 110, 107, 110, 111, 119, 110]⟩, .string ⟨#[100, 111, 119, 110]⟩] 9) = W := hW
    go_enter Tryz.func34, Tryz.ntmps34
    go_wp2
    go_ret
    exact ⟨rfl, FIN.out⟩
  · have e1 : wordE e = [63] := if_neg h
    rw [e1]
    clear hb hn
    by_cases h0 : e < 0
    · go_enter Tryz.func34, Tryz.ntmps34
      go_wp2
      go_ret
      exact ⟨rfl, FIN.out⟩
    · have h1 : 16 ≤ e := by omega
      have h2 : ¬ e < 0 := h0
      go_enter Tryz.func34, Tryz.ntmps34
      go_wp2
      go_ret
      exact ⟨rfl, FIN.out⟩
def repz : Array Value := #[.int .i64 0, .string ⟨#[]⟩, .int .i64 0, .slice none 0 0]
theorem refusal_any (t : List UInt8) (w : World) : Calls Tryz.prog 33 #[.string (sb t)] w fun x w' => x = .returned (.agg (repc 2 t 0 (.slice none 0 0))) ∧ Below w.heap.size w w' := by
  have hb : Below w.heap.size w ((w.alloc (.cells repz 35)).setRow w.heap.size (repc 2 t 0 (.slice none 0 0))) := below_setRow ((Below.refl _ w).alloc (Nat.le_refl _) _) (Nat.le_refl _) _
  have hn := heap_alloc_new w (.cells repz 35)
  have hst := storeVar_rep (cs := repc 2 t 0 (.slice none 0 0)) hn rfl rfl (repc_one _ _ _ _ _ _)
  have hg := setRow_heap (w.alloc (.cells repz 35)) w.heap.size _ (repc 2 t 0 (.slice none 0 0)) _ _ hn
  generalize (w.alloc (.cells repz 35)).setRow w.heap.size (repc 2 t 0 (.slice none 0 0)) = W at *
  have FIN : Hid (Below w.heap.size w W) := hb
  clear hb hn
  go_enter Tryz.func33, Tryz.ntmps33
  go_wp2_with (first
    | (refine wpList_storeR (ty := 35) (x := .tmp 2) (y := .tmp 4) (ad := ⟨w.heap.size, 0, none⟩) (v := .agg (repc 2 t 0 (.slice none 0 0))) (w' := W) rfl rfl rfl rfl hst ?_))
  refine ret_rep rfl rfl rfl hg rfl ?_
  exact ⟨rfl, FIN.out⟩
theorem rfault_any (t : List UInt8) (w : World) : Calls Tryz.prog 35 #[.string (sb t)] w fun x w' => x = .returned (.agg (repc 2 t 0 (.slice none 0 0))) ∧ Below w.heap.size w w' := by
  have hb : Below w.heap.size w ((w.alloc (.cells repz 37)).setRow w.heap.size (repc 2 t 0 (.slice none 0 0))) := below_setRow ((Below.refl _ w).alloc (Nat.le_refl _) _) (Nat.le_refl _) _
  have hn := heap_alloc_new w (.cells repz 37)
  have hst := storeVar_rrep (cs := repc 2 t 0 (.slice none 0 0)) hn rfl rfl (repc_one _ _ _ _ _ _)
  have hg := setRow_heap (w.alloc (.cells repz 37)) w.heap.size _ (repc 2 t 0 (.slice none 0 0)) _ _ hn
  generalize (w.alloc (.cells repz 37)).setRow w.heap.size (repc 2 t 0 (.slice none 0 0)) = W at *
  have FIN : Hid (Below w.heap.size w W) := hb
  clear hb hn
  go_enter Tryz.func35, Tryz.ntmps35
  go_wp2_with (first
    | (refine wpList_storeR (ty := 37) (x := .tmp 2) (y := .tmp 4) (ad := ⟨w.heap.size, 0, none⟩) (v := .agg (repc 2 t 0 (.slice none 0 0))) (w' := W) rfl rfl rfl rfl hst ?_))
  refine ret_rrep rfl rfl rfl hg rfl ?_
  exact ⟨rfl, FIN.out⟩
theorem wordE_len (e : Int) : (wordE e).length ≤ 7 := by
  unfold wordE
  split
  · rename_i h
    have h1 : ∀ i, i < 16 → (WD.getD i []).length ≤ 7 := by decide
    exact h1 _ (by omega)
  · decide
theorem sb_app (a b : List UInt8) : sb a ++ sb b = sb (a ++ b) := by
  apply ByteArray.ext
  simp [sb]
theorem refuse_any (e : Int) (w : World) : Calls Tryz.prog 14 #[.int .i64 e] w fun x w' => x = .returned (.agg (repc 2 (errE e) 0 (.slice none 0 0))) ∧ Below w.heap.size w w' := by
  have hb0 : Below w.heap.size w (w.alloc (.cells repz 35)) := (Below.refl _ w).alloc (Nat.le_refl _) _
  have hn := heap_alloc_new w (.cells repz 35)
  have hW := word_any e (w.alloc (.cells repz 35))
  have hR := fun W => refusal_any (errE e) W
  have hap : (⟨#[69, 82, 82, 32]⟩ : ByteArray) ++ sb (wordE e) = sb (errE e) := sb_app [69, 82, 82, 32] (wordE e)
  have hs1 : (sb (wordE e)).size ≤ 7 := by have := wordE_len e; simpa [sb, ByteArray.size] using this
  have H0 : Aside (Below w.heap.size w (w.alloc (.cells repz 35))) := hb0
  generalize errE e = t at *
  generalize wordE e = wd at *
  have HN : Hid _ := hn
  clear hn hb0
  go_enter Tryz.func14, Tryz.ntmps14
  go_wp2_with fail
  refine Calls.mono hW ?_
  rintro x w1 ⟨rfl, hb1⟩
  clear hW
  go_wp2_with fail
  refine Calls.mono (hR _) ?_
  rintro x w2 ⟨rfl, hb2⟩
  have hb3 := hb1.trans (hb2.mono hb1.size)
  have hz2 : w2.heap[w.heap.size]? = some (.cells repz 35 (0, 0)) := by rw [hb3.block _ (by simp)]; exact HN.out
  have hst := storeVar_rep (cs := repc 2 t 0 (.slice none 0 0)) hz2 rfl rfl (repc_one _ _ _ _ _ _)
  have hg := setRow_heap w2 w.heap.size _ (repc 2 t 0 (.slice none 0 0)) _ _ hz2
  have FIN : Hid (Below w.heap.size w (w2.setRow w.heap.size (repc 2 t 0 (.slice none 0 0)))) := below_setRow (H0.out.trans (hb3.mono H0.out.size)) (Nat.le_refl _) _
  generalize w2.setRow w.heap.size (repc 2 t 0 (.slice none 0 0)) = W at *
  clear hb1 hb2 hb3 hz2 hR H0 HN
  go_wp2_with (first
    | (refine wpList_storeR (ty := 35) (x := .tmp 2) (y := .tmp 6) (ad := ⟨w.heap.size, 0, none⟩) (v := .agg (repc 2 t 0 (.slice none 0 0))) (w' := W) rfl rfl rfl rfl hst ?_))
  refine ret_rep rfl rfl rfl hg rfl ?_
  exact ⟨rfl, FIN.out⟩
end Go.Proofs.YtmlfekbmbnfkjaaGreatDoor

