/-
  What Refuse comes to, the program's and the reference's.
-/
import Derived.Test.YtmlfekbmbnfkjabGreatDoorQ18
import Derived.Test.YtmlfekbmbnfkjabGreatDoorQ19
namespace Go.Proofs.YtmlfekbmbnfkjabGreatDoor
set_option maxRecDepth 100000
open Go.RowKit

def WD : List (List UInt8) := [[111, 107], [97, 114, 103], [115, 104, 111, 114, 116], [102, 111, 114, 109], [108, 111, 110, 103], [115, 117, 109], [111, 118, 101, 114], [110, 111, 110, 101], [116, 121, 112, 101], [102, 117, 108, 108], [108, 111, 115, 116], [115, 116, 97, 116, 101], [97, 114, 105, 116, 121], [105, 110, 116], [117, 110, 107, 110, 111, 119, 110], [100, 111, 119, 110]]
def wordE (e : Int) : List UInt8 := if 0 ≤ e ∧ e < 16 then WD.getD e.toNat [] else [63]
def errE (e : Int) : List UInt8 := [69, 82, 82, 32] ++ wordE e
/-- A reply. -/
def repc (k : Int) (t : List UInt8) (n : Int) (v : Value) : Array Value := #[.int .i64 k, .string (sb t), .int .i64 n, v]
theorem repc_one (k : Int) (t : List UInt8) (n : Int) (ao : Option Addr) (m c : Nat) : (repc k t n (.slice ao m c)).all (·.oneCell') = true := by simp [repc, Value.oneCell']
def wdA : Array Value := (WD.map fun t => Value.string (sb t)).toArray
theorem wdA_at {i : Nat} (h : i < 16) : wdA[i]? = some (.string (sb (WD.getD i []))) := by
  unfold wdA
  rw [List.getElem?_toArray, List.getElem?_map, List.getD_eq_getElem?_getD, List.getElem?_eq_getElem (show i < WD.length from h)]
  rfl
set_option maxHeartbeats 1000000 in
theorem word_any (e : Int) (w : World) : Calls Tryz.prog 25 #[.int .i64 e] w fun x w' => x = .returned (.string (sb (wordE e))) ∧ Below w.heap.size w w' := by
  have hb : Below w.heap.size w (w.alloc (.cells wdA 9)) := (Below.refl _ w).alloc (Nat.le_refl _) _
  have hn := heap_alloc_new w (.cells wdA 9)
  have FIN : Hid (Below w.heap.size w (w.alloc (.cells wdA 9))) := hb
  by_cases h : 0 ≤ e ∧ e < 16
  · obtain ⟨h0, h1⟩ := h
    obtain ⟨n, rfl⟩ : ∃ n : Nat, e = (n : Int) := ⟨e.toNat, by omega⟩
    have hc : (w.alloc (.cells wdA 9)).cell? ⟨w.heap.size, n, none⟩ = some (.string (sb (WD.getD n []))) := by
      rw [cell_of_row _ w.heap.size n _ _ _ hn]; exact wdA_at (by omega)
    have e1 : wordE (n : Int) = WD.getD n [] := by unfold wordE; rw [if_pos ⟨h0, h1⟩, Int.toNat_natCast]
    rw [e1]
    generalize WD.getD n [] = t at *
    clear hb hn e1
    have hW := Eq.refl (w.alloc (.cells wdA 9))
    obtain ⟨W, hW⟩ : ∃ W, w.alloc (.cells wdA 9) = W := ⟨_, rfl⟩
    rw [hW] at hc FIN
    have hW : w.alloc (.cells #[.string ⟨#[111, 107]⟩, .string ⟨#[97, 114, 103]⟩, .string ⟨#[115, 104, 111, 114, 116]⟩, .string ⟨#[102, 111, 114, 109]⟩, .string ⟨#[108, 111, 110, 103]⟩, .string ⟨#[115, 117, 109]⟩, .string ⟨#[111, 118, 101, 114]⟩, .string ⟨#[110, 111, 110, 101]⟩, .string ⟨#[116, 121, 112, 101]⟩, .string ⟨#[102, 117, 108, 108]⟩, .string ⟨#[108, 111, 115, 116]⟩, .string ⟨#[115, 116, 97, 116, 101]⟩, .string ⟨#[97, 114, 105, 116, 121]⟩, .string ⟨#[105, 110, 116]⟩, .string ⟨#[117, 110, 107, 110, 111, 119, 110]⟩, .string ⟨#[100, 111, 119, 110]⟩] 9) = W := hW
    go_enter Tryz.func25, Tryz.ntmps25
    go_wp2
    go_ret
    exact ⟨rfl, FIN.out⟩
  · have e1 : wordE e = [63] := if_neg h
    rw [e1]
    clear hb hn
    by_cases h0 : e < 0
    · go_enter Tryz.func25, Tryz.ntmps25
      go_wp2
      go_ret
      exact ⟨rfl, FIN.out⟩
    · have h1 : 16 ≤ e := by omega
      have h2 : ¬ e < 0 := h0
      go_enter Tryz.func25, Tryz.ntmps25
      go_wp2
      go_ret
      exact ⟨rfl, FIN.out⟩
def repz : Array Value := #[.int .i64 0, .string ⟨#[]⟩, .int .i64 0, .slice none 0 0]
theorem refusal_any (t : List UInt8) (w : World) : Calls Tryz.prog 24 #[.string (sb t)] w fun x w' => x = .returned (.agg (repc 2 t 0 (.slice none 0 0))) ∧ Below w.heap.size w w' := by
  have hb : Below w.heap.size w ((w.alloc (.cells repz 30)).setRow w.heap.size (repc 2 t 0 (.slice none 0 0))) := below_setRow ((Below.refl _ w).alloc (Nat.le_refl _) _) (Nat.le_refl _) _
  have hn := heap_alloc_new w (.cells repz 30)
  have hst := storeVar_rep (cs := repc 2 t 0 (.slice none 0 0)) hn rfl rfl (repc_one _ _ _ _ _ _)
  have hg := setRow_heap (w.alloc (.cells repz 30)) w.heap.size _ (repc 2 t 0 (.slice none 0 0)) _ _ hn
  generalize (w.alloc (.cells repz 30)).setRow w.heap.size (repc 2 t 0 (.slice none 0 0)) = W at *
  have FIN : Hid (Below w.heap.size w W) := hb
  clear hb hn
  go_enter Tryz.func24, Tryz.ntmps24
  go_wp2_with (first
    | (refine wpList_storeR (ty := 30) (x := .tmp 2) (y := .tmp 4) (ad := ⟨w.heap.size, 0, none⟩) (v := .agg (repc 2 t 0 (.slice none 0 0))) (w' := W) rfl rfl rfl rfl hst ?_))
  refine ret_rep rfl rfl rfl hg rfl ?_
  exact ⟨rfl, FIN.out⟩
theorem wordE_len (e : Int) : (wordE e).length ≤ 7 := by
  unfold wordE
  split
  · rename_i h
    have h1 : ∀ i, i < 16 → (WD.getD i []).length ≤ 7 := by decide
    exact h1 _ (by omega)
  · decide
theorem sb_app (a b : List UInt8) : sb a ++ sb b = sb (a ++ b) := by
  apply ByteArray.ext
  simp [sb]
theorem refuse_any (e : Int) (w : World) : Calls Tryz.prog 13 #[.int .i64 e] w fun x w' => x = .returned (.agg (repc 2 (errE e) 0 (.slice none 0 0))) ∧ Below w.heap.size w w' := by
  have hb0 : Below w.heap.size w (w.alloc (.cells repz 30)) := (Below.refl _ w).alloc (Nat.le_refl _) _
  have hn := heap_alloc_new w (.cells repz 30)
  have hW := word_any e (w.alloc (.cells repz 30))
  have hR := fun W => refusal_any (errE e) W
  have hap : (⟨#[69, 82, 82, 32]⟩ : ByteArray) ++ sb (wordE e) = sb (errE e) := sb_app [69, 82, 82, 32] (wordE e)
  have hs1 : (sb (wordE e)).size ≤ 7 := by have := wordE_len e; simpa [sb, ByteArray.size] using this
  have H0 : Aside (Below w.heap.size w (w.alloc (.cells repz 30))) := hb0
  generalize errE e = t at *
  generalize wordE e = wd at *
  have HN : Hid _ := hn
  clear hn hb0
  go_enter Tryz.func13, Tryz.ntmps13
  go_wp2_with fail
  refine Calls.mono hW ?_
  rintro x w1 ⟨rfl, hb1⟩
  clear hW
  go_wp2_with fail
  refine Calls.mono (hR _) ?_
  rintro x w2 ⟨rfl, hb2⟩
  have hb3 := hb1.trans (hb2.mono hb1.size)
  have hz2 : w2.heap[w.heap.size]? = some (.cells repz 30 (0, 0)) := by rw [hb3.block _ (by simp)]; exact HN.out
  have hst := storeVar_rep (cs := repc 2 t 0 (.slice none 0 0)) hz2 rfl rfl (repc_one _ _ _ _ _ _)
  have hg := setRow_heap w2 w.heap.size _ (repc 2 t 0 (.slice none 0 0)) _ _ hz2
  have FIN : Hid (Below w.heap.size w (w2.setRow w.heap.size (repc 2 t 0 (.slice none 0 0)))) := below_setRow (H0.out.trans (hb3.mono H0.out.size)) (Nat.le_refl _) _
  generalize w2.setRow w.heap.size (repc 2 t 0 (.slice none 0 0)) = W at *
  clear hb1 hb2 hb3 hz2 hR H0 HN
  go_wp2_with (first
    | (refine wpList_storeR (ty := 30) (x := .tmp 2) (y := .tmp 6) (ad := ⟨w.heap.size, 0, none⟩) (v := .agg (repc 2 t 0 (.slice none 0 0))) (w' := W) rfl rfl rfl rfl hst ?_))
  refine ret_rep rfl rfl rfl hg rfl ?_
  exact ⟨rfl, FIN.out⟩
end Go.Proofs.YtmlfekbmbnfkjabGreatDoor

/-
  What comes of a command: the small makers of replies and outcomes.
-/
namespace Go.Proofs.YtmlfekbmbnfkjabGreatDoor
set_option maxRecDepth 100000
open Go.RowKit

def opx (k : Int) (ky f v : List UInt8) (n r m : Int) : Array Value := #[.int .i64 k, .string (sb ky), .string (sb f), .string (sb v), .int .i64 n, .int .i64 r, .int .i64 m]
def opzz : Array Value := opx 0 [] [] [] 0 0 0
def outx (k : Int) (t : List UInt8) (n : Int) (ao : Option Addr) (m c : Nat) (o : Array Value) (b : Bool) : Array Value := #[.int .i64 k, .string (sb t), .int .i64 n, .slice ao m c] ++ o ++ #[.bool b]
def outz : Array Value := #[.int .i64 0, .string ⟨#[]⟩, .int .i64 0, .slice none 0 0, .int .i64 0, .string ⟨#[]⟩, .string ⟨#[]⟩, .string ⟨#[]⟩, .int .i64 0, .int .i64 0, .int .i64 0, .bool false]
theorem outx_one (k : Int) (t : List UInt8) (n : Int) (ao : Option Addr) (m c : Nat) (k' : Int) (ky f v : List UInt8) (n' r' m' : Int) (b : Bool) : (outx k t n ao m c (opx k' ky f v n' r' m') b).all (·.oneCell') = true := by simp [outx, opx, Value.oneCell']
theorem alloc_two (w : World) (a b : Obj) : ((w.alloc a).alloc b).heap[w.heap.size + 1]? = some b := by
  have := heap_alloc_new (w.alloc a) b
  simpa using this
theorem below_two (w : World) (a b : Obj) : Below w.heap.size w ((w.alloc a).alloc b) := ((Below.refl _ w).alloc (Nat.le_refl _) _).alloc (by simp) _
theorem below_three (w : World) (a b c : Obj) : Below w.heap.size w (((w.alloc a).alloc b).alloc c) := (below_two w a b).alloc (by simp; omega) _
theorem alloc_three (w : World) (a b c : Obj) : (((w.alloc a).alloc b).alloc c).heap[w.heap.size + 2]? = some c := by
  have := heap_alloc_new ((w.alloc a).alloc b) c
  simpa using this
theorem ctell_any (k : Int) (t : List UInt8) (n : Int) (ao : Option Addr) (m c : Nat) (w : World) : Calls Tryz.prog 43 #[.agg (repc k t n (.slice ao m c))] w fun x w' => x = .returned (.agg (outx k t n ao m c opzz false)) ∧ Below w.heap.size w w' := by
  unfold repc
  go_enter Tryz.func43, Tryz.ntmps43
  go_wp2
  refine ret_out rfl rfl rfl (alloc_two w _ _) rfl ?_
  exact ⟨rfl, below_two w _ _⟩
theorem cdo_any (k : Int) (t : List UInt8) (n : Int) (ao : Option Addr) (m c : Nat) (k' : Int) (ky f v : List UInt8) (n' r' m' : Int) (w : World) : Calls Tryz.prog 105 #[.agg (repc k t n (.slice ao m c)), .agg (opx k' ky f v n' r' m')] w fun x w' => x = .returned (.agg (outx k t n ao m c (opx k' ky f v n' r' m') true)) ∧ Below w.heap.size w w' := by
  unfold repc opx
  go_enter Tryz.func105, Tryz.ntmps105
  go_wp2
  refine ret_out rfl rfl rfl (alloc_three w _ _ _) rfl ?_
  exact ⟨rfl, below_three w _ _ _⟩
theorem csimple_any (t : List UInt8) (w : World) : Calls Tryz.prog 106 #[.string (sb t)] w fun x w' => x = .returned (.agg (repc 1 t 0 (.slice none 0 0))) ∧ Below w.heap.size w w' := by
  go_enter Tryz.func106, Tryz.ntmps106
  go_wp2
  refine ret_rep rfl rfl rfl (heap_alloc_new w _) rfl ?_
  exact ⟨rfl, (Below.refl _ w).alloc (Nat.le_refl _) _⟩
theorem cwhole_any (n : Int) (w : World) : Calls Tryz.prog 110 #[.int .i64 n] w fun x w' => x = .returned (.agg (repc 3 [] n (.slice none 0 0))) ∧ Below w.heap.size w w' := by
  go_enter Tryz.func110, Tryz.ntmps110
  go_wp2
  refine ret_rep rfl rfl rfl (heap_alloc_new w _) rfl ?_
  exact ⟨rfl, (Below.refl _ w).alloc (Nat.le_refl _) _⟩
theorem carray_any (ao : Option Addr) (m c : Nat) (w : World) : Calls Tryz.prog 115 #[.slice ao m c] w fun x w' => x = .returned (.agg (repc 6 [] 0 (.slice ao m c))) ∧ Below w.heap.size w w' := by
  go_enter Tryz.func115, Tryz.ntmps115
  go_wp2
  refine ret_rep rfl rfl rfl (heap_alloc_new w _) rfl ?_
  exact ⟨rfl, (Below.refl _ w).alloc (Nat.le_refl _) _⟩
theorem cisit_any (b : Bool) (w : World) : Calls Tryz.prog 114 #[.bool b] w fun x w' => x = .returned (.agg (repc 3 [] (if b then 1 else 0) (.slice none 0 0))) ∧ Below w.heap.size w w' := by
  have hn := heap_alloc_new w (.cells repz 30)
  have hb0 : Below w.heap.size w (w.alloc (.cells repz 30)) := (Below.refl _ w).alloc (Nat.le_refl _) _
  obtain ⟨W, hW⟩ : ∃ W, w.alloc (.cells repz 30) = W := ⟨_, rfl⟩
  have hW' : w.alloc (.cells #[.int .i64 0, .string ⟨#[]⟩, .int .i64 0, .slice none 0 0] 30) = W := hW
  rw [hW] at hn hb0
  obtain ⟨R, hR⟩ : ∃ R, w.heap.size = R := ⟨_, rfl⟩
  have HB : Hid (Below w.heap.size w W) := hb0
  rw [hR] at hn
  have hlt : R < W.heap.size := (Array.getElem?_eq_some_iff.1 hn).1
  clear hb0 hW
  cases b
  · have hc := cwhole_any 0 W
    go_enter Tryz.func114, Tryz.ntmps114
    go_wp2_with fail
    refine Calls.mono hc ?_
    rintro x w1 ⟨rfl, hb1⟩
    have hn1 : w1.heap[R]? = some (.cells repz 30 (0, 0)) := (hb1.block _ hlt).trans hn
    have hst := storeVar_rep (cs := repc 3 [] 0 (.slice none 0 0)) hn1 rfl rfl (repc_one _ _ _ _ _ _)
    have hg := setRow_heap w1 R _ (repc 3 [] 0 (.slice none 0 0)) _ _ hn1
    have FIN : Hid (Below w.heap.size w (w1.setRow R (repc 3 [] 0 (.slice none 0 0)))) := below_setRow (HB.out.trans (hb1.mono HB.out.size)) (by omega) _
    generalize w1.setRow R (repc 3 [] 0 (.slice none 0 0)) = W2 at *
    clear hc hb1 hn1 hn
    go_wp2_with (first
      | (refine wpList_storeR (ty := 30) (x := .tmp 2) (y := .tmp 5) (ad := ⟨R, 0, none⟩) (v := .agg (repc 3 [] 0 (.slice none 0 0))) (w' := W2) rfl rfl rfl rfl hst ?_))
    refine ret_rep rfl rfl rfl hg rfl ?_
    exact ⟨rfl, by rw [← hR]; exact FIN.out⟩
  · have hc := cwhole_any 1 W
    go_enter Tryz.func114, Tryz.ntmps114
    go_wp2_with fail
    refine Calls.mono hc ?_
    rintro x w1 ⟨rfl, hb1⟩
    have hn1 : w1.heap[R]? = some (.cells repz 30 (0, 0)) := (hb1.block _ hlt).trans hn
    have hst := storeVar_rep (cs := repc 3 [] 1 (.slice none 0 0)) hn1 rfl rfl (repc_one _ _ _ _ _ _)
    have hg := setRow_heap w1 R _ (repc 3 [] 1 (.slice none 0 0)) _ _ hn1
    have FIN : Hid (Below w.heap.size w (w1.setRow R (repc 3 [] 1 (.slice none 0 0)))) := below_setRow (HB.out.trans (hb1.mono HB.out.size)) (by omega) _
    generalize w1.setRow R (repc 3 [] 1 (.slice none 0 0)) = W2 at *
    clear hc hb1 hn1 hn
    go_wp2_with (first
      | (refine wpList_storeR (ty := 30) (x := .tmp 2) (y := .tmp 4) (ad := ⟨R, 0, none⟩) (v := .agg (repc 3 [] 1 (.slice none 0 0))) (w' := W2) rfl rfl rfl rfl hst ?_))
    refine ret_rep rfl rfl rfl hg rfl ?_
    exact ⟨rfl, by rw [← hR]; exact FIN.out⟩
end Go.Proofs.YtmlfekbmbnfkjabGreatDoor

