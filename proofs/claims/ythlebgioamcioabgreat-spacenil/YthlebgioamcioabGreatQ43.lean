/-
  The keys of no map, sorted; what a nil space's Keys and Collect come to.
-/
import Derived.Test.YthlebgioamcioabGreatQ42
import Derived.Test.YthlebgioamcioabGreatQ41
import Derived.WalkKit
import Derived.Test.YthlebgioamcioabGreatQ38
import Derived.Test.YthlebgioamcioabGreatQ39
namespace Go.Proofs.YthlebgioamcioabGreat
set_option maxRecDepth 100000
open Go.RowKit Go.Maps Go.Sort Go.Shelf

theorem sortsK (m : Nat) : AnyZ.SortsIn Tryz.prog sortedKRen Fence.wide m :=
  ⟨fun blk off cap ss W hH hblk hsz => callsIn_wide.2 (AnyM.slices_Sort_string sortK blk off cap ss W hH hblk hsz),
   fun p cap W => callsIn_wide.2 (AnyM.slices_Sort_string_none sortK p cap W)⟩
theorem mkeys_any (mb : Option Nat) (W : World) : Calls Tryz.prog 107 #[.map mb] W fun e w' => e = .returned (.func (.func 176) #[] #[.pointer (some ⟨W.heap.size, 0, none⟩)]) ∧ w' = W.alloc (.cells #[.map mb] 34) :=
  (callsIn_wide (n := 5)).1 (AnyZ.keys_in keysK Fence.wide 5 trivial rfl mb W)
theorem sorted_nil (w : World) : Calls Tryz.prog 106 #[.func (.func 176) #[] #[.pointer (some ⟨w.heap.size, 0, none⟩)]] (w.alloc (.cells #[.map none] 34)) fun e w' => e = .returned (.slice none 0 0) ∧ Below (w.alloc (.cells #[.map none] 34)).heap.size (w.alloc (.cells #[.map none] 34)) w' := by
  have hseq : SeqGives Fence.wide 2 Tryz.prog 176 #[.pointer (some ⟨w.heap.size, 0, none⟩)] encStr (fun ss : List (List UInt8) => ss = []) 0 (w.alloc (.cells #[.map none] 34)) :=
    AnyZ.keys_gives_nil (ρ := keysKRen) { keysK with } Fence.wide _ trivial rfl w.heap.size _ (by simp) (by simp)
  have h := (callsIn_wide (n := 5)).1 (AnyZ.sorted_in sortedK Fence.wide 5 trivial trivial trivial trivial rfl (by omega) (sortsK _) (enters_of Tryz.func124 (by kernel_rfl) rfl) 176 #[.pointer (some ⟨w.heap.size, 0, none⟩)] trivial (enters_of Tryz.func176 (by kernel_rfl) rfl) _ 0 (Nat.zero_le _) (by omega) _ hseq)
  refine Calls.mono h ?_
  rintro e w' ⟨v, ss, rfl, rfl, -, hnil, hb⟩
  exact ⟨by rw [hnil.2 rfl], hb⟩
theorem names_zero (g : Nat) (w : World) (hc : w.cell? ⟨g, 17, none⟩ = some (.map none)) : Calls Tryz.prog 45 #[.pointer (some ⟨g, 0, none⟩)] w fun e w' => e = .returned (.slice none 0 0) ∧ Below w.heap.size w w' := by
  have hz := sorz_some g w
  have hk := mkeys_any none w
  have hs := sorted_nil w
  have hb : Below w.heap.size w (w.alloc (.cells #[.map none] 34)) := (Below.refl _ w).alloc (Nat.le_refl _) _
  obtain ⟨W, hW⟩ : ∃ W, W = w.alloc (.cells #[.map none] 34) := ⟨_, rfl⟩
  rw [← hW] at hk hs hb
  have HB : Hid (Below w.heap.size w W) := hb
  clear hb hW
  go_enter Tryz.func45, Tryz.ntmps45
  go_wp2_with fail
  refine Calls.mono hz ?_
  rintro e w1 ⟨rfl, hw⟩
  obtain rfl := hw.symm
  clear hz
  go_wp2_with fail
  refine Calls.mono hk ?_
  rintro e w2 ⟨rfl, hw⟩
  obtain rfl := hw.symm
  clear hk
  go_wp2_with fail
  refine Calls.mono hs ?_
  rintro e w3 ⟨rfl, hb3⟩
  have FIN : Hid (Below w.heap.size w w3) := HB.out.trans (hb3.mono HB.out.size)
  clear hs hb3
  go_wp2
  go_ret
  exact ⟨rfl, FIN.out⟩
theorem names_nil (w : World) : Calls Tryz.prog 45 #[.pointer none] w fun e w' => e = .returned (.slice none 0 0) ∧ Below w.heap.size w w' := by
  have hz := sorz_nil w
  have hc := (sp_new w).c17
  have hb0 := sp_below w
  generalize w.alloc (.cells (spc st0 none) 36) = V at *
  obtain ⟨g, hg⟩ : ∃ g, g = w.heap.size := ⟨_, rfl⟩
  rw [← hg] at hz hc
  replace hc : V.cell? ⟨g, 17, none⟩ = some (.map none) := hc
  have hk := mkeys_any none V
  have hs := sorted_nil V
  have hb : Below V.heap.size V (V.alloc (.cells #[.map none] 34)) := (Below.refl _ V).alloc (Nat.le_refl _) _
  obtain ⟨W, hW⟩ : ∃ W, W = V.alloc (.cells #[.map none] 34) := ⟨_, rfl⟩
  rw [← hW] at hk hs hb
  have HB : Hid (Below w.heap.size w W) := hb0.trans (hb.mono hb0.size)
  clear hb hW hb0 hg
  go_enter Tryz.func45, Tryz.ntmps45
  go_wp2_with fail
  refine Calls.mono hz ?_
  rintro e w1 ⟨rfl, hw⟩
  obtain rfl := hw.symm
  clear hz
  go_wp2_with fail
  refine Calls.mono hk ?_
  rintro e w2 ⟨rfl, hw⟩
  obtain rfl := hw.symm
  clear hk
  go_wp2_with fail
  refine Calls.mono hs ?_
  rintro e w3 ⟨rfl, hb3⟩
  have FIN : Hid (Below w.heap.size w w3) := HB.out.trans (hb3.mono HB.out.size)
  clear hs hb3
  go_wp2
  go_ret
  exact ⟨rfl, FIN.out⟩
theorem skeys_nil (w : World) : Calls Tryz.prog 16 #[.pointer none] w fun e w' => e = .returned (.slice none 0 0) ∧ Below w.heap.size w w' := by
  have hb : Below w.heap.size w (w.alloc (.cells #[.pointer none] 33)) := (Below.refl _ w).alloc (Nat.le_refl _) _
  have hx := heap_alloc_new w (.cells #[.pointer none] 33)
  have hn := names_nil (w.alloc (.cells #[.pointer none] 33))
  have hc := cell_of_row _ _ 0 _ _ _ hx
  obtain ⟨W, hW⟩ : ∃ W, W = w.alloc (.cells #[.pointer none] 33) := ⟨_, rfl⟩
  rw [← hW] at hn hb hc
  have hc : W.cell? ⟨w.heap.size, 0, none⟩ = some (.pointer none) := hc
  have HB : Hid (Below w.heap.size w W) := hb
  clear hb hx
  go_enter Tryz.func16, Tryz.ntmps16
  go_wp2_with fail
  rw [← hW]
  refine Calls.mono hn ?_
  rintro e w1 ⟨rfl, hb1⟩
  have FIN : Hid (Below w.heap.size w w1) := HB.out.trans (hb1.mono HB.out.size)
  have hd := fun f => dels_e none 0 f w1
  clear hn hb1
  go_wp2_with fail
  refine Calls.mono (hd _) ?_
  rintro e w2 ⟨rfl, hw⟩
  obtain rfl := hw.symm
  go_wp2
  go_ret
  exact ⟨rfl, FIN.out⟩
end Go.Proofs.YthlebgioamcioabGreat

/-
  What tells comes to at a nil space and what tells of nothing. (Written by gentells.py.)
-/
namespace Go.Proofs.YthlebgioamcioabGreat
set_option maxRecDepth 100000
open Go.RowKit Go.Shelf

/-- What tells of nothing. -/
def told0 : Array Value := #[.int .i64 0, .string ⟨#[]⟩, .bool false, .int .i64 0, .slice none 0 0, .slice none 0 0, .slice none 0 0, .slice none 0 0]
/-- It lies in a block. -/
def Tld (w : World) (g : Nat) : Prop := w.heap[g]? = some (.cells told0 49 (0, 0))
theorem Tld.cell0 {w w1 : World} {g : Nat} (h : Tld w g) (hb : Below w.heap.size w w1) : w1.cell? ⟨g, 0, none⟩ = some (.int .i64 0) := by
  rw [hb.cell (Array.getElem?_eq_some_iff.1 h).1, cell_of_row w g 0 _ _ _ h]; rfl
theorem Tld.cell1 {w w1 : World} {g : Nat} (h : Tld w g) (hb : Below w.heap.size w w1) : w1.cell? ⟨g, 1, none⟩ = some (.string ⟨#[]⟩) := by
  rw [hb.cell (Array.getElem?_eq_some_iff.1 h).1, cell_of_row w g 1 _ _ _ h]; rfl
theorem Tld.cell2 {w w1 : World} {g : Nat} (h : Tld w g) (hb : Below w.heap.size w w1) : w1.cell? ⟨g, 2, none⟩ = some (.bool false) := by
  rw [hb.cell (Array.getElem?_eq_some_iff.1 h).1, cell_of_row w g 2 _ _ _ h]; rfl
theorem Tld.cell3 {w w1 : World} {g : Nat} (h : Tld w g) (hb : Below w.heap.size w w1) : w1.cell? ⟨g, 3, none⟩ = some (.int .i64 0) := by
  rw [hb.cell (Array.getElem?_eq_some_iff.1 h).1, cell_of_row w g 3 _ _ _ h]; rfl
theorem Tld.cell4 {w w1 : World} {g : Nat} (h : Tld w g) (hb : Below w.heap.size w w1) : w1.cell? ⟨g, 4, none⟩ = some (.slice none 0 0) := by
  rw [hb.cell (Array.getElem?_eq_some_iff.1 h).1, cell_of_row w g 4 _ _ _ h]; rfl
theorem Tld.cell5 {w w1 : World} {g : Nat} (h : Tld w g) (hb : Below w.heap.size w w1) : w1.cell? ⟨g, 5, none⟩ = some (.slice none 0 0) := by
  rw [hb.cell (Array.getElem?_eq_some_iff.1 h).1, cell_of_row w g 5 _ _ _ h]; rfl
theorem Tld.cell6 {w w1 : World} {g : Nat} (h : Tld w g) (hb : Below w.heap.size w w1) : w1.cell? ⟨g, 6, none⟩ = some (.slice none 0 0) := by
  rw [hb.cell (Array.getElem?_eq_some_iff.1 h).1, cell_of_row w g 6 _ _ _ h]; rfl
theorem Tld.cell7 {w w1 : World} {g : Nat} (h : Tld w g) (hb : Below w.heap.size w w1) : w1.cell? ⟨g, 7, none⟩ = some (.slice none 0 0) := by
  rw [hb.cell (Array.getElem?_eq_some_iff.1 h).1, cell_of_row w g 7 _ _ _ h]; rfl
theorem field_told0 (W : World) (g : Nat) : (Instr.fieldAt 49 (.pointer (some ⟨g, 0, none⟩)) 0).run Tryz.prog W = .ok (.pointer (some ⟨g, 0, none⟩)) W := by kernel_rfl
theorem field_told1 (W : World) (g : Nat) : (Instr.fieldAt 49 (.pointer (some ⟨g, 0, none⟩)) 1).run Tryz.prog W = .ok (.pointer (some ⟨g, 1, none⟩)) W := by kernel_rfl
theorem field_told2 (W : World) (g : Nat) : (Instr.fieldAt 49 (.pointer (some ⟨g, 0, none⟩)) 2).run Tryz.prog W = .ok (.pointer (some ⟨g, 2, none⟩)) W := by kernel_rfl
theorem field_told3 (W : World) (g : Nat) : (Instr.fieldAt 49 (.pointer (some ⟨g, 0, none⟩)) 3).run Tryz.prog W = .ok (.pointer (some ⟨g, 3, none⟩)) W := by kernel_rfl
theorem field_told4 (W : World) (g : Nat) : (Instr.fieldAt 49 (.pointer (some ⟨g, 0, none⟩)) 4).run Tryz.prog W = .ok (.pointer (some ⟨g, 4, none⟩)) W := by kernel_rfl
theorem field_told5 (W : World) (g : Nat) : (Instr.fieldAt 49 (.pointer (some ⟨g, 0, none⟩)) 5).run Tryz.prog W = .ok (.pointer (some ⟨g, 5, none⟩)) W := by kernel_rfl
theorem field_told6 (W : World) (g : Nat) : (Instr.fieldAt 49 (.pointer (some ⟨g, 0, none⟩)) 6).run Tryz.prog W = .ok (.pointer (some ⟨g, 6, none⟩)) W := by kernel_rfl
theorem field_told7 (W : World) (g : Nat) : (Instr.fieldAt 49 (.pointer (some ⟨g, 0, none⟩)) 7).run Tryz.prog W = .ok (.pointer (some ⟨g, 7, none⟩)) W := by kernel_rfl
theorem load_it {w : World} {ad : Addr} {v : Value} (h : w.cell? ad = some v) : (loadVar 3 ad).run Tryz.prog w = .ok v w := by
  have h3 : Tryz.prog.underlying 3 = some (.int .i64) := by kernel_rfl
  simp [loadVar, isAgg, run_underlying h3, Sem.run_bind, h]
theorem load_st {w : World} {ad : Addr} {v : Value} (h : w.cell? ad = some v) : (loadVar 9 ad).run Tryz.prog w = .ok v w := by
  have h3 : Tryz.prog.underlying 9 = some (.string) := by kernel_rfl
  simp [loadVar, isAgg, run_underlying h3, Sem.run_bind, h]
theorem load_bt {w : World} {ad : Addr} {v : Value} (h : w.cell? ad = some v) : (loadVar 4 ad).run Tryz.prog w = .ok v w := by
  have h3 : Tryz.prog.underlying 4 = some (.bool) := by kernel_rfl
  simp [loadVar, isAgg, run_underlying h3, Sem.run_bind, h]
theorem load_tt {w : World} {ad : Addr} {v : Value} (h : w.cell? ad = some v) : (loadVar 43 ad).run Tryz.prog w = .ok v w := by
  have h3 : Tryz.prog.underlying 43 = some (.slice 9) := by kernel_rfl
  simp [loadVar, isAgg, run_underlying h3, Sem.run_bind, h]
theorem load_et {w : World} {ad : Addr} {v : Value} (h : w.cell? ad = some v) : (loadVar 32 ad).run Tryz.prog w = .ok v w := by
  have h3 : Tryz.prog.underlying 32 = some (.slice 29) := by kernel_rfl
  simp [loadVar, isAgg, run_underlying h3, Sem.run_bind, h]
theorem same_below {f : FuncId} {args : Array Value} {w : World} {v : Value} (h : Calls Tryz.prog f args w fun e w' => e = .returned v ∧ w' = w) : Calls Tryz.prog f args w fun e w' => e = .returned v ∧ Below w.heap.size w w' := by
  refine Calls.mono h ?_
  rintro e w' ⟨rfl, rfl⟩
  exact ⟨rfl, Below.refl _ _⟩

set_option maxHeartbeats 4000000 in
theorem tells_nil (key : Key) (w : World) : Calls Tryz.prog 17 #[.pointer none, .string (sb key), .agg told0] w fun e w' => e = .returned (.bool true) ∧ Below w.heap.size w w' := by
  have hb0 : Below w.heap.size w (w.alloc (.cells told0 49)) := (Below.refl _ w).alloc (Nat.le_refl _) _
  have hx : Tld (w.alloc (.cells told0 49)) w.heap.size := heap_alloc_new w _
  obtain ⟨W0, hW⟩ : ∃ W, W = w.alloc (.cells told0 49) := ⟨_, rfl⟩
  rw [← hW] at hb0 hx
  have hT := stext_nil key W0
  go_enter Tryz.func17, Tryz.ntmps17
  go_wp2_with fail
  rw [← hW]
  refine Calls.mono hT ?_
  rintro e w1 ⟨rfl, hb1⟩
  have HB1 : Hid (Below w.heap.size w w1) := hb0.trans (hb1.mono hb0.size)
  have hx1 : Tld w1 w.heap.size := (hb1.block _ (Array.getElem?_eq_some_iff.1 hx).1).trans hx
  have hF := sfields_nil key w1
  clear hT hx hb1 hb0 hW
  go_wp2_with fail
  refine Calls.mono hF ?_
  rintro e w2 ⟨rfl, hb2⟩
  have HB2 : Hid (Below w.heap.size w w2) := HB1.out.trans (hb2.mono HB1.out.size)
  have hx2 : Tld w2 w.heap.size := (hb2.block _ (Array.getElem?_eq_some_iff.1 hx1).1).trans hx1
  have hS := sscores_nil key w2
  clear hF hx1 hb2
  go_wp2_with fail
  refine Calls.mono hS ?_
  rintro e w3 ⟨rfl, hb3⟩
  have HB3 : Hid (Below w.heap.size w w3) := HB2.out.trans (hb3.mono HB2.out.size)
  have HB : Hid (Tld w3 w.heap.size) := (hb3.block _ (Array.getElem?_eq_some_iff.1 hx2).1).trans hx2
  clear hS hx2 hb3
  have HQ : Hid (∀ w', Below w.heap.size w w' → Below w.heap.size w w') := fun _ h => h
  obtain ⟨g, hg⟩ : ∃ g, w.heap.size = g := ⟨_, rfl⟩
  rw [hg] at HB ⊢
  clear hg HQ
  go_upto_region 3 with fail
  refine region_vals [25, 26, 27, 28, 29, 30, 31, 32, 33, 34, 35, 36, 37, 38, 39, 40, 41, 42, 43, 44, 45, 46, 47, 48, 49, 50, 51, 52, 53, 54, 55, 56, 57, 58, 59, 60, 61, 62, 63, 64, 65, 66, 67, 68] [.pointer none, .string (sb key), .int .i64 0, .pointer (some ⟨g, 0, none⟩), .int .i64 0, .bool false, .bool false, .string (sb []), .pointer (some ⟨g, 1, none⟩), .string ⟨#[]⟩, .bool false, .bool false, .bool false, .bool false, .pointer (some ⟨g, 2, none⟩), .bool false, .bool false, .bool false, .bool false, .pointer none, .string (sb key), .int .i64 0, .pointer (some ⟨g, 3, none⟩), .int .i64 0, .bool false, .bool false, .bool false, .pointer none, .string (sb key), .slice none 0 0, .pointer (some ⟨g, 4, none⟩), .slice none 0 0, .bool true, .bool false, .bool false, .bool false, .pointer none, .string (sb key), .slice none 0 0, .pointer (some ⟨g, 7, none⟩), .slice none 0 0, .bool true, .bool false, .bool false] _ (by kernel_rfl) (by kernel_rfl) (by rfl) (by decide) (by kernel_rfl) (by simp only [lay, Act.put, List.setIfInBounds_toArray, List.set_cons_zero, List.set_cons_succ, List.getD_cons_zero, List.getD_cons_succ, Nat.reduceAdd]; rfl) ⟨?_, ?_, ?_, ?_, ?_, ?_, ?_, ?_, ?_, ?_, ?_, ?_, ?_, ?_, ?_, ?_, ?_, ?_, ?_, ?_, ?_, ?_, ?_, ?_, ?_, ?_, ?_, ?_, ?_, ?_, ?_, ?_, ?_, ?_, ?_, ?_, ?_, ?_, ?_, ?_, ?_, ?_, ?_, ?_, trivial⟩ ?_
  · exact .inl ⟨rfl, fun W hb => yields_move rfl rfl⟩
  · exact .inl ⟨rfl, fun W hb => yields_move rfl rfl⟩
  · exact .inl ⟨rfl, fun W hb => yields_call (vs := [.pointer none, .string (sb key)]) rfl rfl (enters_of Tryz.func36 (by kernel_rfl) rfl _ W) (stype_nil key W)⟩
  · exact .inl ⟨rfl, fun W hb => yields_field rfl rfl (field_told0 W g)⟩
  · exact .inl ⟨rfl, fun W hb => yields_load rfl rfl (load_it (HB.out.cell0 hb))⟩
  · exact .inl ⟨rfl, fun W hb => yields_bin rfl rfl rfl (by rfl) (by rfl)⟩
  · exact .inl ⟨rfl, fun W hb => yields_move rfl rfl⟩
  · exact .inl ⟨rfl, fun W hb => yields_move rfl rfl⟩
  · exact .inl ⟨rfl, fun W hb => yields_field rfl rfl (field_told1 W g)⟩
  · exact .inl ⟨rfl, fun W hb => yields_load rfl rfl (load_st (HB.out.cell1 hb))⟩
  · exact .inl ⟨rfl, fun W hb => yields_bin rfl rfl rfl (eqGuard_str W) (neq_str_run W (s := []) (b := false) (by decide))⟩
  · exact .inl ⟨rfl, fun W hb => yields_pick (b := false) rfl rfl rfl⟩
  · exact .inl ⟨rfl, fun W hb => yields_move rfl rfl⟩
  · exact .inl ⟨rfl, fun W hb => yields_move rfl rfl⟩
  · exact .inl ⟨rfl, fun W hb => yields_field rfl rfl (field_told2 W g)⟩
  · exact .inl ⟨rfl, fun W hb => yields_load rfl rfl (load_bt (HB.out.cell2 hb))⟩
  · exact .inl ⟨rfl, fun W hb => yields_bin rfl rfl rfl (by rfl) (by rfl)⟩
  · exact .inl ⟨rfl, fun W hb => yields_pick (b := false) rfl rfl rfl⟩
  · exact .inl ⟨rfl, fun W hb => yields_move rfl rfl⟩
  · exact .inl ⟨rfl, fun W hb => yields_move rfl rfl⟩
  · exact .inl ⟨rfl, fun W hb => yields_move rfl rfl⟩
  · exact .inl ⟨rfl, fun W hb => yields_call (vs := [.pointer none, .string (sb key)]) rfl rfl (enters_of Tryz.func51 (by kernel_rfl) rfl _ W) (ssum_nil key W)⟩
  · exact .inl ⟨rfl, fun W hb => yields_field rfl rfl (field_told3 W g)⟩
  · exact .inl ⟨rfl, fun W hb => yields_load rfl rfl (load_it (HB.out.cell3 hb))⟩
  · exact .inl ⟨rfl, fun W hb => yields_bin rfl rfl rfl (by rfl) (by rfl)⟩
  · exact .inl ⟨rfl, fun W hb => yields_pick (b := false) rfl rfl rfl⟩
  · exact .inl ⟨rfl, fun W hb => yields_move rfl rfl⟩
  · exact .inl ⟨rfl, fun W hb => yields_move rfl rfl⟩
  · exact .inl ⟨rfl, fun W hb => yields_move rfl rfl⟩
  · exact .inl ⟨rfl, fun W hb => yields_call (vs := [.pointer none, .string (sb key)]) rfl rfl (enters_of Tryz.func21 (by kernel_rfl) rfl _ W) (smembers_nil key W)⟩
  · exact .inl ⟨rfl, fun W hb => yields_field rfl rfl (field_told4 W g)⟩
  · exact .inl ⟨rfl, fun W hb => yields_load rfl rfl (load_tt (HB.out.cell4 hb))⟩
  · exact .inl ⟨rfl, fun W hb => yields_call (vs := [.slice none 0 0, .slice none 0 0]) rfl rfl (enters_of Tryz.func52 (by kernel_rfl) rfl _ W) (same_below (texts_e none none 0 0 W))⟩
  · exact .inl ⟨rfl, fun W hb => yields_un rfl rfl rfl⟩
  · exact .inl ⟨rfl, fun W hb => yields_pick (b := false) rfl rfl rfl⟩
  · exact .inl ⟨rfl, fun W hb => yields_move rfl rfl⟩
  · exact .inl ⟨rfl, fun W hb => yields_move rfl rfl⟩
  · exact .inl ⟨rfl, fun W hb => yields_move rfl rfl⟩
  · exact .inl ⟨rfl, fun W hb => yields_call (vs := [.pointer none, .string (sb key)]) rfl rfl (enters_of Tryz.func24 (by kernel_rfl) rfl _ W) (sitems_nil key W)⟩
  · exact .inl ⟨rfl, fun W hb => yields_field rfl rfl (field_told7 W g)⟩
  · exact .inl ⟨rfl, fun W hb => yields_load rfl rfl (load_et (HB.out.cell7 hb))⟩
  · exact .inl ⟨rfl, fun W hb => yields_call (vs := [.slice none 0 0, .slice none 0 0]) rfl rfl (enters_of Tryz.func34 (by kernel_rfl) rfl _ W) (same_below (same_e none none 0 0 W))⟩
  · exact .inl ⟨rfl, fun W hb => yields_un rfl rfl rfl⟩
  · exact .inl ⟨rfl, fun W hb => yields_pick (b := false) rfl rfl rfl⟩
  intro w4 hb4
  have hc5 := HB.out.cell5 hb4
  have hc6 := HB.out.cell6 hb4
  have FIN : Hid (Below w.heap.size w w4) := HB3.out.trans (hb4.mono HB3.out.size)
  clear hb4
  go_wp2_with fail
  go_loopw [85] (fun i wr => i = .int .i64 0 ∧ wr = w4) (fun _ _ => 0)
  case atStart => exact ⟨rfl, rfl⟩
  case round =>
    obtain ⟨rfl, rfl⟩ := hrel
    go_wp2_with fail
    go_loopw [117] (fun i wq => i = .int .i64 0 ∧ wq = wr) (fun _ _ => 0)
    case atStart => exact ⟨rfl, rfl⟩
    case round =>
      obtain ⟨rfl, rfl⟩ := hrel
      go_wp2
      go_ret
      exact ⟨rfl, FIN.out⟩
end Go.Proofs.YthlebgioamcioabGreat

/-
  What a nil space's Ready, Apply and Collect come to.
-/
namespace Go.Proofs.YthlebgioamcioabGreat
set_option maxRecDepth 100000
open Go.RowKit Go.Shelf

theorem eql_nil (w : World) : (binOp .eql 33 (.pointer none) (.pointer none)).run Tryz.prog w = .ok (.bool true) w := by kernel_rfl
theorem sready_nil (e : Ev) (w : World) : Calls Tryz.prog 10 #[.pointer none, .agg (evc e)] w fun e w' => e = .returned (.bool false) ∧ Below w.heap.size w w' := by
  have hb : Below w.heap.size w (w.alloc (.cells (evc e) 29)) := (Below.refl _ w).alloc (Nat.le_refl _) _
  have FIN : Hid _ := hb
  have he := eql_nil
  clear hb
  go_enter Tryz.func10, Tryz.ntmps10
  go_wp2
  go_ret
  exact ⟨rfl, FIN.out⟩
theorem sapply_nil (e : Ev) (w : World) : Calls Tryz.prog 11 #[.pointer none, .agg (evc e)] w fun e w' => e = .returned (.int .i64 1) ∧ Below w.heap.size w w' := by
  have hb : Below w.heap.size w (w.alloc (.cells (evc e) 29)) := (Below.refl _ w).alloc (Nat.le_refl _) _
  have FIN : Hid _ := hb
  have he := eql_nil
  clear hb
  go_enter Tryz.func11, Tryz.ntmps11
  go_wp2
  go_ret
  exact ⟨rfl, FIN.out⟩
theorem scollect_nil (v : List Int) (w : World) : Calls Tryz.prog 15 #[.pointer none, .agg (vals v)] w fun e w' => e = .returned (.int .i64 0) ∧ Below w.heap.size w w' := by
  have hb0 : Below w.heap.size w (w.alloc (.cells (vals v) 25)) := (Below.refl _ w).alloc (Nat.le_refl _) _
  obtain ⟨W0, hW0⟩ : ∃ W, W = w.alloc (.cells (vals v) 25) := ⟨_, rfl⟩
  rw [← hW0] at hb0
  have hz := sorz_nil W0
  have hc := (sp_new W0).c17
  have hb1 := sp_below W0
  generalize W0.alloc (.cells (spc st0 none) 36) = W at *
  obtain ⟨g, hg⟩ : ∃ g, g = W0.heap.size := ⟨_, rfl⟩
  rw [← hg] at hz hc
  replace hc : W.cell? ⟨g, 17, none⟩ = some (.map none) := hc
  have hn := names_zero g W hc
  have HB : Hid (Below w.heap.size w W) := hb0.trans (hb1.mono hb0.size)
  clear hb0 hb1 hg hc
  go_enter Tryz.func15, Tryz.ntmps15
  go_wp2_with fail
  rw [← hW0]
  refine Calls.mono hz ?_
  rintro e w1 ⟨rfl, hw⟩
  obtain rfl := hw.symm
  clear hz
  go_wp2_with fail
  refine Calls.mono hn ?_
  rintro e w2 ⟨rfl, hb2⟩
  have FIN : Hid (Below w.heap.size w w2) := HB.out.trans (hb2.mono HB.out.size)
  clear hn hb2
  go_wp2_with fail
  go_loopw [5, 14] (fun v i wr => v = .int .i64 0 ∧ i = .int .i64 0 ∧ wr = w2) (fun _ _ _ => 0)
  case atStart => exact ⟨rfl, rfl, rfl⟩
  case round =>
    obtain ⟨rfl, rfl, rfl⟩ := hrel
    go_wp2
    go_ret
    exact ⟨rfl, FIN.out⟩
end Go.Proofs.YthlebgioamcioabGreat

/-
  SpaceNil: a nil space, and the zero one, have seen nothing. (Written by gennsp.py.)
-/
namespace Go.Proofs.YthlebgioamcioabGreat
set_option maxRecDepth 100000
open Go.RowKit Go.Shelf

section
variable {P : Program} {ops : Array Oper} {rest : List Oper} {o : Oper} {a : Act} {w w' : World} {Q : Exit → Act → World → Prop} {x : Operand} {ty : TypeId} {v : Value} {ad : Addr}
theorem wpList_loadG (hw : Region.wanted o (yielded ops a.tmps) = true) (ho : o.op = .load ty x) (hx : a.eval x = .pointer (some ad)) (hr : (loadVar ty ad).run P w = .ok v w) (hK : wpList P ops Q rest (a.put o.dst v) w) : wpList P ops Q (o :: rest) a w := by
  refine wpList_step fun K hK' => ?_
  rw [if_pos hw]
  unfold Oper.wp execOp
  simp only [ho, hx, Instr.loadAt, Instr.sureAddr, Sem.run_bind, Sem.run_pure, Result.andThen_ok, hr]
  exact hK' _ _ hK
theorem wpList_b0 (hw : Region.wanted o (yielded ops a.tmps) = true) (ho : o.op = .build ty #[]) (hr : (Instr.build ty #[]).run P w = .ok v w) (hK : wpList P ops Q rest (a.put o.dst v) w) : wpList P ops Q (o :: rest) a w := by
  refine wpList_step fun K hK' => ?_
  rw [if_pos hw]
  unfold Oper.wp execOp
  simp only [ho, List.map_toArray, List.map_nil, Sem.run_bind, Sem.run_pure, Result.andThen_ok, hr]
  exact hK' _ _ hK
end
theorem b0_vv (w : World) : (Instr.build 25 #[]).run Tryz.prog w = .ok (.agg (vals zeros)) w := by kernel_rfl
theorem b0_sp (w : World) : (Instr.build 36 #[]).run Tryz.prog w = .ok (.agg (spc st0 none)) w := by kernel_rfl
theorem b0_told (w : World) : (Instr.build 49 #[]).run Tryz.prog w = .ok (.agg told0) w := by kernel_rfl
theorem load_evr {w : World} {g : Nat} {e : Ev} (h : LiesE w g e) (hl : e.deps.length = 16) : (loadVar 29 ⟨g, 0, none⟩).run Tryz.prog w = .ok (.agg (evc e)) w :=
  run_loadVar_row w g 29 29 _ (0, 0) _ h Tryz.underlying29 rfl (size26 e hl)
theorem eql_strs (w : World) (a : ByteArray) : (binOp .eql 9 (.string a) (.string a)).run Tryz.prog w = .ok (.bool true) w := by
  have h3 : Tryz.prog.underlying 9 = some .string := by kernel_rfl
  go_simp
theorem enters_sapp (xs : Array Value) (w : World) : (callFunc 11 xs).run Tryz.prog w = .ok (.enter 11 xs) w := enters Tryz.func11 (by kernel_rfl) (by kernel_rfl) xs w
theorem all1 {e : Ev} (he : Wide e) : All (applyS st0 e) 1 := all0.apply he
/-- A space of no keys stands as its block stands. -/
theorem sp0_kept {w w' : World} {g : Nat} (h : SpK lay0 w g st0 none) (hb : w'.heap[g]? = w.heap[g]?) (hs : w.heap.size ≤ w'.heap.size) : SpK lay0 w' g st0 none :=
  h.kept (fun k _ hk => by
    rcases hk with rfl | hk | hk
    · exact hb
    · cases hk
    · exact absurd rfl hk) hs

set_option maxHeartbeats 8000000 in
theorem lnil_walk (e : Ev) (he : Wide e) (key : Key) (w : World) : Calls Tryz.prog 3 #[.agg (evc e), .string (sb key)] w fun ex w' => ex = .returned (.bool true) ∧ Below w.heap.size w w' := by
  have he16 := he.1
  have hb0 : Below w.heap.size w (w.alloc (.cells (evc e) 29)) := (Below.refl _ w).alloc (Nat.le_refl _) _
  have hE0 := liesE_new w e
  obtain ⟨W0, hW0⟩ : ∃ W, W = w.alloc (.cells (evc e) 29) := ⟨_, rfl⟩
  rw [← hW0] at hb0 hE0
  have hA := sawake_any W0
  go_enter Tryz.func3, Tryz.ntmps3
  go_wp2_with fail
  rw [← hW0]
  refine Calls.mono hA ?_
  rintro ex w1 ⟨rfl, hb1⟩
  have hE1 := hE0.below hb1 hE0.lt
  have HB1 : Hid (Below w.heap.size w w1) := hb0.trans (hb1.mono hb0.size)
  have hF := evs_single (w1.alloc (.cells (evc e) 29)) _ e he (liesE_new w1 e)
  have hFew := sfew_any _ 1 1 [e] _ hF
  have hbs : Below w1.heap.size w1 (w1.alloc (.cells (evc e) 29)) := (Below.refl _ w1).alloc (Nat.le_refl _) _
  clear hA hb0 hb1 hE0 hF hW0
  go_wp2_with (first | refine load_ev rfl rfl rfl hE1 he16 ?_ | refine build_ev1 rfl rfl rfl he16 ?_)
  refine Calls.mono hFew ?_
  rintro ex w2 ⟨t, rfl, -, hb2⟩
  have hb12 := hbs.trans (hb2.mono hbs.size)
  have hE2 := hE1.below hb12 hE1.lt
  have HB2 : Hid (Below w.heap.size w w2) := HB1.out.trans (hb12.mono HB1.out.size)
  clear hFew hbs hb2 hb12 hE1 HB1
  cases t with
  | false =>
    have hA := sawake_any w2
    go_wp2_with fail
    refine Calls.mono hA ?_
    rintro ex w3 ⟨rfl, hb3⟩
    have HB3 : Hid (Below w.heap.size w w3) := HB2.out.trans (hb3.mono HB2.out.size)
    clear hb3 hA
    go_wp2
    go_ret
    exact ⟨rfl, HB3.out⟩
  | true =>
    have hSp := sp_new w2
    have hz0 := b0_sp w2
    have hbz := sp_below w2
    have hE3 := hE2.below hbz hE2.lt
    have HB3 : Hid (Below w.heap.size w (w2.alloc (.cells (spc st0 none) 36))) := HB2.out.trans (hbz.mono HB2.out.size)
    have Hg : Hid (w.heap.size + 1 ≤ w2.heap.size) := hE2.lt
    clear hbz HB2 hE2
    go_wp2_with (first | refine wpList_b0 rfl rfl hz0 ?_ | refine load_ev rfl rfl rfl hE3 he16 ?_)
    generalize w2.alloc (.cells (spc st0 none) 36) = W3 at *
    obtain ⟨g, hg⟩ : ∃ g, w2.heap.size = g := ⟨_, rfl⟩
    rw [hg] at hSp Hg ⊢
    clear hz0 hg
    refine Calls.mono (sready_nil e W3) ?_
    rintro ex w4 ⟨rfl, hb4⟩
    have HB4 : Hid (Below w.heap.size w w4) := HB3.out.trans (hb4.mono HB3.out.size)
    have hE4 := hE3.below hb4 hE3.lt
    have HS4 : Hid (SpK lay0 w4 g st0 none) := hSp.below hb4 (Nat.le_refl _)
    clear hb4 hE3 hSp HB3
    go_wp2_with (first | refine load_ev rfl rfl rfl hE4 he16 ?_)
    refine Calls.mono (sapply_nil e w4) ?_
    rintro ex w5 ⟨rfl, hb5⟩
    have HB5 : Hid (Below w.heap.size w w5) := HB4.out.trans (hb5.mono HB4.out.size)
    have hE5 := hE4.below hb5 hE4.lt
    have HS5 : Hid (SpK lay0 w5 g st0 none) := HS4.out.below hb5 (Nat.le_refl _)
    clear hb5 hE4 HS4 HB4
    go_wp2_with fail
    refine Calls.mono (svv_nil w5) ?_
    rintro ex w6 ⟨rfl, hb6⟩
    have HB6 : Hid (Below w.heap.size w w6) := HB5.out.trans (hb6.mono HB5.out.size)
    have hE6 := hE5.below hb6 hE5.lt
    have HS6 : Hid (SpK lay0 w6 g st0 none) := HS5.out.below hb6 (Nat.le_refl _)
    clear hb6 hE5 HS5 HB5
    have hbv := b0_vv w6
    have heq : (Op.equalIn 10000 25 (.agg (vals zeros)) (.agg (vals zeros))).run Tryz.prog w6 = .ok true w6 := by
      rw [run_equalIn_vec w6 9998 zeros zeros rfl rfl]
      simp
    have hgd := plain_vec
    generalize vals zeros = vv at *
    go_wp2_with (first | refine wpList_b0 rfl rfl hbv ?_)
    refine Calls.mono (stime_nil w6) ?_
    rintro ex w7 ⟨rfl, hb7⟩
    have HB7 : Hid (Below w.heap.size w w7) := HB6.out.trans (hb7.mono HB6.out.size)
    have hE7 := hE6.below hb7 hE6.lt
    have HS7 : Hid (SpK lay0 w7 g st0 none) := HS6.out.below hb7 (Nat.le_refl _)
    clear hb7 hE6 HS6 HB6 hbv heq hgd
    go_wp2_with fail
    refine Calls.mono (sdead_nil w7) ?_
    rintro ex w8 ⟨rfl, hb8⟩
    have HB8 : Hid (Below w.heap.size w w8) := HB7.out.trans (hb8.mono HB7.out.size)
    have hE8 := hE7.below hb8 hE7.lt
    have HS8 : Hid (SpK lay0 w8 g st0 none) := HS7.out.below hb8 (Nat.le_refl _)
    clear hb8 hE7 HS7 HB7
    have hld := load_dp hE8 he16
    go_wp2_with (first | refine wpList_loadG rfl rfl rfl hld ?_)
    refine Calls.mono (scollect_nil e.deps w8) ?_
    rintro ex w9 ⟨rfl, hb9⟩
    have HB9 : Hid (Below w.heap.size w w9) := HB8.out.trans (hb9.mono HB8.out.size)
    have hE9 := hE8.below hb9 hE8.lt
    have HS9 : Hid (SpK lay0 w9 g st0 none) := HS8.out.below hb9 (Nat.le_refl _)
    clear hb9 hE8 HS8 HB8 hld
    go_wp2_with fail
    refine Calls.mono (skeys_nil w9) ?_
    rintro ex wa ⟨rfl, hba⟩
    have HBa : Hid (Below w.heap.size w wa) := HB9.out.trans (hba.mono HB9.out.size)
    have hEa := hE9.below hba hE9.lt
    have HSa : Hid (SpK lay0 wa g st0 none) := HS9.out.below hba (Nat.le_refl _)
    clear hba hE9 HS9 HB9
    have hbt := b0_told wa
    generalize hTO : told0 = TO at *
    go_wp2_with (first | refine wpList_b0 rfl rfl hbt ?_)
    rw [← hTO]
    refine Calls.mono (tells_nil key wa) ?_
    rintro ex wb ⟨rfl, hbb⟩
    have HBb : Hid (Below w.heap.size w wb) := HBa.out.trans (hbb.mono HBa.out.size)
    have hEb := hEa.below hbb hEa.lt
    have HSb : Hid (SpK lay0 wb g st0 none) := HSa.out.below hbb (Nat.le_refl _)
    clear hbb hEa HSa HBa hbt
    have hN := new_any wb
    go_wp2_with fail
    refine Calls.mono hN ?_
    rintro ex wc ⟨rfl, hwc⟩
    have HN : Hid (SpK lay0 wc wb.heap.size st0 none) := by rw [Hid, hwc]; exact sp_new wb
    have hbc : Below wb.heap.size wb wc := by rw [hwc]; exact sp_below wb
    have HBc : Hid (Below w.heap.size w wc) := HBb.out.trans (hbc.mono HBb.out.size)
    have hEc := hEb.below hbc hEb.lt
    have HSc : Hid (SpK lay0 wc g st0 none) := HSb.out.below hbc (Nat.le_refl _)
    have Hgg : Hid (g < wb.heap.size) := HSb.out.lt
    generalize wb.heap.size = g2 at *
    clear hbc HBb hEb HSb hwc hN
    go_upto_region 8 with fail
    have hbd : Below wc.heap.size wc wc.drew := (Below.refl _ wc).drew
    have hEd := hEc.below hbd hEc.lt
    have HSd : Hid (SpK lay0 wc.drew g st0 none) := HSc.out.below hbd (Nat.le_refl _)
    have HNd : Hid (SpK lay0 wc.drew g2 st0 none) := HN.out.below hbd (Nat.le_refl _)
    have HBd : Hid (Below w.heap.size w wc.drew) := HBc.out.trans (hbd.mono HBc.out.size)
    obtain ⟨B, hB⟩ : ∃ B, w.heap.size = B := ⟨_, rfl⟩
    have HBB : Hid (w.heap.size = B) := hB
    rw [hB] at hEd Hg ⊢
    obtain ⟨tx, htx⟩ : ∃ tx, sb (encS st0) = tx := ⟨_, rfl⟩
    obtain ⟨ty, hty⟩ : ∃ ty, sb (encS (applyS st0 e)) = ty := ⟨_, rfl⟩
    obtain ⟨x, hx⟩ : ∃ x, applyE st0 e = x := ⟨_, rfl⟩
    have HTX : Hid _ := htx
    have HTY : Hid _ := hty
    have HX : Hid _ := hx
    have hx0 : (x == x) = true := beq_self_eq_true x
    clear hbd hEc HSc HN HBc hB htx hty hx hTO
    have HSwd := HSd
    have HNwd := HNd
    have HBwd := HBd
    have hEwd := hEd
    clear HSd HNd HBd
    refine wp_region_noPanic ?_
    refine wp_region_held_drew (S := fun W' : World => LiesE W' B e) (by kernel_rfl) hEd (fun hHeld => ?_)
    refine wpAnyH_take (i := 0) (oi := { dst := some 65, op := _, type := _, pos := _, after := _, guard := _ }) (v := .pointer none) rfl (by kernel_rfl) (by kernel_rfl) (by kernel_rfl) (fun _ _ _ h => h) (Or.inl ⟨by rfl, ?_⟩) (by assumption) ?_
    · intro w9 hSw
      exact y_move rfl rfl
    simp only [Act.put, List.setIfInBounds_toArray, List.set_cons_zero, List.set_cons_succ]
    refine wpAnyH_take (i := 2) (oi := { dst := some 67, op := _, type := _, pos := _, after := _, guard := _ }) (v := .pointer (some ⟨g, 0, none⟩)) rfl (by kernel_rfl) (by kernel_rfl) (by kernel_rfl) (fun _ _ _ h => h) (Or.inl ⟨by rfl, ?_⟩) (by assumption) ?_
    · intro w9 hSw
      exact y_move rfl rfl
    simp only [Act.put, List.setIfInBounds_toArray, List.set_cons_zero, List.set_cons_succ]
    clear hHeld
    refine wpAnyH_ready (rs := [1]) (by kernel_rfl) (by simp) ?_
    refine AllReadyH.cons (o := { dst := some 66, op := _, type := _, pos := _, after := _, guard := _ }) rfl (fun K hK => ?_) AllReadyH.nil
    rw [if_pos (by rfl)]
    refine y_call (f := 19) (xs := [.tmp 65]) (vs := [.pointer none]) rfl rfl (enters_senc _ _) (sencode_nil wc.drew) ?_
    rintro ex q1 ⟨rfl, hbq1⟩
    refine ⟨_, rfl, ?_⟩
    have hEq1 := hEwd.below hbq1 hEwd.lt
    have HSq1 : Hid _ := HSwd.out.below hbq1 (Nat.le_refl _)
    have HNq1 : Hid _ := HNwd.out.below hbq1 (Nat.le_refl _)
    have HBq1 : Hid (Below w.heap.size w q1) := HBwd.out.trans (hbq1.mono HBwd.out.size)
    clear hbq1 hEwd HSwd HNwd HBwd
    rw [HTX.out]
    refine hK.out _ _ hEq1 (fun hHeld => ?_)
    clear hK K
    simp only [Act.put, List.setIfInBounds_toArray, List.set_cons_zero, List.set_cons_succ]
    clear hHeld
    refine wpAnyH_ready (rs := [3]) (by kernel_rfl) (by simp) ?_
    refine AllReadyH.cons (o := { dst := some 68, op := _, type := _, pos := _, after := _, guard := _ }) rfl (fun K hK => ?_) AllReadyH.nil
    rw [if_pos (by rfl)]
    refine y_call (f := 19) (xs := [.tmp 67]) (vs := [.pointer (some ⟨g, 0, none⟩)]) rfl rfl (enters_senc _ _) (sencode_any lay0 q1 g st0 HSq1.out inv20 (by simp [st0]) (by simp [st0])) ?_
    rintro ex q2 ⟨rfl, hbq2⟩
    refine ⟨_, rfl, ?_⟩
    have hEq2 := hEq1.below hbq2 hEq1.lt
    have HSq2 : Hid _ := HSq1.out.below hbq2 (Nat.le_refl _)
    have HNq2 : Hid _ := HNq1.out.below hbq2 (Nat.le_refl _)
    have HBq2 : Hid (Below w.heap.size w q2) := HBq1.out.trans (hbq2.mono HBq1.out.size)
    clear hbq2 hEq1 HSq1 HNq1 HBq1
    rw [HTX.out]
    refine hK.out _ _ hEq2 (fun hHeld => ?_)
    clear hK K
    simp only [Act.put, List.setIfInBounds_toArray, List.set_cons_zero, List.set_cons_succ]
    refine wpAnyH_take (i := 4) (oi := { dst := some 69, op := _, type := _, pos := _, after := _, guard := _ }) (v := .bool true) rfl (by kernel_rfl) (by kernel_rfl) (by kernel_rfl) (fun _ _ _ h => h) (Or.inl ⟨by rfl, ?_⟩) (by assumption) ?_
    · intro w9 hSw
      exact exec_bin rfl rfl rfl (eqGuard_str _) (eql_strs _ tx)
    simp only [Act.put, List.setIfInBounds_toArray, List.set_cons_zero, List.set_cons_succ]
    refine wpAnyH_take (i := 5) (oi := { dst := some 70, op := _, type := _, pos := _, after := _, guard := _ }) (v := .bool true) rfl (by kernel_rfl) (by kernel_rfl) (by kernel_rfl) (fun _ _ _ h => h) (Or.inl ⟨by rfl, ?_⟩) (by assumption) ?_
    · intro w9 hSw
      exact y_move rfl rfl
    simp only [Act.put, List.setIfInBounds_toArray, List.set_cons_zero, List.set_cons_succ]
    refine wpAnyH_take (i := 6) (oi := { dst := some 71, op := _, type := _, pos := _, after := _, guard := _ }) (v := .pointer (some ⟨g, 0, none⟩)) rfl (by kernel_rfl) (by kernel_rfl) (by kernel_rfl) (fun _ _ _ h => h) (Or.inl ⟨by rfl, ?_⟩) (by assumption) ?_
    · intro w9 hSw
      exact y_move rfl rfl
    simp only [Act.put, List.setIfInBounds_toArray, List.set_cons_zero, List.set_cons_succ]
    refine wpAnyH_take (i := 7) (oi := { dst := some 72, op := _, type := _, pos := _, after := _, guard := _ }) (v := .agg (evc e)) rfl (by kernel_rfl) (by kernel_rfl) (by kernel_rfl) (fun _ _ _ h => h) (Or.inl ⟨by rfl, ?_⟩) (by assumption) ?_
    · intro w9 hSw
      exact y_load rfl rfl (load_evr hSw he16)
    simp only [Act.put, List.setIfInBounds_toArray, List.set_cons_zero, List.set_cons_succ]
    refine wpAnyH_take (i := 9) (oi := { dst := some 74, op := _, type := _, pos := _, after := _, guard := _ }) (v := .pointer (some ⟨g2, 0, none⟩)) rfl (by kernel_rfl) (by kernel_rfl) (by kernel_rfl) (fun _ _ _ h => h) (Or.inl ⟨by rfl, ?_⟩) (by assumption) ?_
    · intro w9 hSw
      exact y_move rfl rfl
    simp only [Act.put, List.setIfInBounds_toArray, List.set_cons_zero, List.set_cons_succ]
    refine wpAnyH_take (i := 10) (oi := { dst := some 75, op := _, type := _, pos := _, after := _, guard := _ }) (v := .agg (evc e)) rfl (by kernel_rfl) (by kernel_rfl) (by kernel_rfl) (fun _ _ _ h => h) (Or.inl ⟨by rfl, ?_⟩) (by assumption) ?_
    · intro w9 hSw
      exact y_load rfl rfl (load_evr hSw he16)
    simp only [Act.put, List.setIfInBounds_toArray, List.set_cons_zero, List.set_cons_succ]
    clear hHeld
    refine wpAnyH_ready (rs := [8]) (by kernel_rfl) (by simp) ?_
    refine AllReadyH.cons (o := { dst := some 73, op := _, type := _, pos := _, after := _, guard := _ }) rfl (fun K hK => ?_) AllReadyH.nil
    rw [if_pos (by rfl)]
    refine y_call (f := 11) (xs := [.tmp 71, .tmp 72]) (vs := [.pointer (some ⟨g, 0, none⟩), .agg (evc e)]) rfl rfl (enters_sapp _ _) (apply_any lay0 q2 g st0 e HSq2.out inv0 he (by simp [st0])) ?_
    rintro ex q3 ⟨rfl, Y3, hs3, ht3⟩
    refine ⟨_, rfl, ?_⟩
    have hEq3 := ht3.lies hEq2 (by have := Hg.out; omega) (by intro h; cases h) rfl
    have HSq3 : Hid (SpK Y3 q3 g (applyS st0 e) none) := hs3
    have HNq3 : Hid (SpK lay0 q3 g2 st0 none) := sp0_kept HNq2.out (ht3.block _ HNq2.out.lt (by have := Hgg.out; omega) (by intro h; cases h) rfl) ht3.size
    have hbw := (ht3.below (Above.mk (by have := Hg.out; have := HBB.out; omega) (fun k h => by cases h) (fun k h => absurd rfl h) : Above w.heap.size g lay0) HBq2.out.size).1
    have HBq3 : Hid (Below w.heap.size w q3) := HBq2.out.trans hbw
    have HY3 : Hid (∀ k, (Y3.km = some k ∨ Y3.own k ≠ none) → g2 < k) := fun k hk => by
      have h2 := HNq2.out.lt
      rcases hk with h | h
      · rcases ht3.km k h with h | h
        · cases h
        · omega
      · rcases ht3.own k h with h | h
        · exact absurd rfl h
        · omega
    clear hs3 ht3 hbw hEq2 HSq2 HNq2 HBq2
    rw [HX.out]
    refine hK.out _ _ hEq3 (fun hHeld => ?_)
    clear hK K
    simp only [Act.put, List.setIfInBounds_toArray, List.set_cons_zero, List.set_cons_succ]
    clear hHeld
    refine wpAnyH_ready (rs := [11]) (by kernel_rfl) (by simp) ?_
    refine AllReadyH.cons (o := { dst := some 76, op := _, type := _, pos := _, after := _, guard := _ }) rfl (fun K hK => ?_) AllReadyH.nil
    rw [if_pos (by rfl)]
    refine y_call (f := 11) (xs := [.tmp 74, .tmp 75]) (vs := [.pointer (some ⟨g2, 0, none⟩), .agg (evc e)]) rfl rfl (enters_sapp _ _) (apply_any lay0 q3 g2 st0 e HNq3.out inv0 he (by simp [st0])) ?_
    rintro ex q4 ⟨rfl, Y4, hs4, ht4⟩
    refine ⟨_, rfl, ?_⟩
    have hEq4 := ht4.lies hEq3 (by have := Hg.out; have := Hgg.out; omega) (by intro h; cases h) rfl
    have HNq4 : Hid (SpK Y4 q4 g2 (applyS st0 e) none) := hs4
    have hne : ∀ k, (k = g ∨ Y3.km = some k ∨ Y3.own k ≠ none) → k ≠ g2 := fun k hc => by
      have h1 := Hgg.out
      rcases hc with h | h
      · omega
      · have := HY3.out k h
        omega
    have HSq4 : Hid (SpK Y3 q4 g (applyS st0 e) none) := HSq3.out.kept (fun k hk hc => ht4.block k hk (hne k hc) (by intro h; cases h) rfl) ht4.size
    have hbw := (ht4.below (Above.mk (by have := Hg.out; have := Hgg.out; have := HBB.out; omega) (fun k h => by cases h) (fun k h => absurd rfl h) : Above w.heap.size g2 lay0) HBq3.out.size).1
    have HBq4 : Hid (Below w.heap.size w q4) := HBq3.out.trans hbw
    clear hne hs4 ht4 hbw hEq3 HSq3 HNq3 HBq3 HY3
    rw [HX.out]
    refine hK.out _ _ hEq4 (fun hHeld => ?_)
    clear hK K
    simp only [Act.put, List.setIfInBounds_toArray, List.set_cons_zero, List.set_cons_succ]
    refine wpAnyH_take (i := 12) (oi := { dst := some 77, op := _, type := _, pos := _, after := _, guard := _ }) (v := .bool true) rfl (by kernel_rfl) (by kernel_rfl) (by kernel_rfl) (fun _ _ _ h => h) (Or.inl ⟨by rfl, ?_⟩) (by assumption) ?_
    · intro w9 hSw
      exact exec_bin rfl rfl rfl (eqGuard_er _ _ _) (eql_er _ hx0)
    simp only [Act.put, List.setIfInBounds_toArray, List.set_cons_zero, List.set_cons_succ]
    refine wpAnyH_take (i := 13) (oi := { dst := some 78, op := _, type := _, pos := _, after := _, guard := _ }) (v := .bool true) rfl (by kernel_rfl) (by kernel_rfl) (by kernel_rfl) (fun _ _ _ h => h) (Or.inl ⟨by rfl, ?_⟩) (by assumption) ?_
    · intro w9 hSw
      exact exec_pick (b := true) rfl rfl rfl rfl
    simp only [Act.put, List.setIfInBounds_toArray, List.set_cons_zero, List.set_cons_succ]
    refine wpAnyH_take (i := 14) (oi := { dst := some 79, op := _, type := _, pos := _, after := _, guard := _ }) (v := .bool true) rfl (by kernel_rfl) (by kernel_rfl) (by kernel_rfl) (fun _ _ _ h => h) (Or.inl ⟨by rfl, ?_⟩) (by assumption) ?_
    · intro w9 hSw
      exact y_move rfl rfl
    simp only [Act.put, List.setIfInBounds_toArray, List.set_cons_zero, List.set_cons_succ]
    refine wpAnyH_take (i := 15) (oi := { dst := some 80, op := _, type := _, pos := _, after := _, guard := _ }) (v := .pointer (some ⟨g, 0, none⟩)) rfl (by kernel_rfl) (by kernel_rfl) (by kernel_rfl) (fun _ _ _ h => h) (Or.inl ⟨by rfl, ?_⟩) (by assumption) ?_
    · intro w9 hSw
      exact y_move rfl rfl
    simp only [Act.put, List.setIfInBounds_toArray, List.set_cons_zero, List.set_cons_succ]
    refine wpAnyH_take (i := 17) (oi := { dst := some 82, op := _, type := _, pos := _, after := _, guard := _ }) (v := .pointer (some ⟨g2, 0, none⟩)) rfl (by kernel_rfl) (by kernel_rfl) (by kernel_rfl) (fun _ _ _ h => h) (Or.inl ⟨by rfl, ?_⟩) (by assumption) ?_
    · intro w9 hSw
      exact y_move rfl rfl
    simp only [Act.put, List.setIfInBounds_toArray, List.set_cons_zero, List.set_cons_succ]
    clear hHeld
    refine wpAnyH_ready (rs := [16]) (by kernel_rfl) (by simp) ?_
    refine AllReadyH.cons (o := { dst := some 81, op := _, type := _, pos := _, after := _, guard := _ }) rfl (fun K hK => ?_) AllReadyH.nil
    rw [if_pos (by rfl)]
    refine y_call (f := 19) (xs := [.tmp 80]) (vs := [.pointer (some ⟨g, 0, none⟩)]) rfl rfl (enters_senc _ _) (sencode_any Y3 q4 g (applyS st0 e) HSq4.out (all1 he).i2 (by have := (all1 he).len; omega) (by have := (all1 he).len; omega)) ?_
    rintro ex q5 ⟨rfl, hbq5⟩
    refine ⟨_, rfl, ?_⟩
    have hEq5 := hEq4.below hbq5 hEq4.lt
    have HSq5 : Hid _ := HSq4.out.below hbq5 (Nat.le_refl _)
    have HNq5 : Hid _ := HNq4.out.below hbq5 (Nat.le_refl _)
    have HBq5 : Hid (Below w.heap.size w q5) := HBq4.out.trans (hbq5.mono HBq4.out.size)
    clear hbq5 hEq4 HSq4 HNq4 HBq4
    rw [HTY.out]
    refine hK.out _ _ hEq5 (fun hHeld => ?_)
    clear hK K
    simp only [Act.put, List.setIfInBounds_toArray, List.set_cons_zero, List.set_cons_succ]
    clear hHeld
    refine wpAnyH_ready (rs := [18]) (by kernel_rfl) (by simp) ?_
    refine AllReadyH.cons (o := { dst := some 83, op := _, type := _, pos := _, after := _, guard := _ }) rfl (fun K hK => ?_) AllReadyH.nil
    rw [if_pos (by rfl)]
    refine y_call (f := 19) (xs := [.tmp 82]) (vs := [.pointer (some ⟨g2, 0, none⟩)]) rfl rfl (enters_senc _ _) (sencode_any Y4 q5 g2 (applyS st0 e) HNq5.out (all1 he).i2 (by have := (all1 he).len; omega) (by have := (all1 he).len; omega)) ?_
    rintro ex q6 ⟨rfl, hbq6⟩
    refine ⟨_, rfl, ?_⟩
    have hEq6 := hEq5.below hbq6 hEq5.lt
    have HSq6 : Hid _ := HSq5.out.below hbq6 (Nat.le_refl _)
    have HNq6 : Hid _ := HNq5.out.below hbq6 (Nat.le_refl _)
    have HBq6 : Hid (Below w.heap.size w q6) := HBq5.out.trans (hbq6.mono HBq5.out.size)
    clear hbq6 hEq5 HSq5 HNq5 HBq5
    rw [HTY.out]
    refine hK.out _ _ hEq6 (fun hHeld => ?_)
    clear hK K
    simp only [Act.put, List.setIfInBounds_toArray, List.set_cons_zero, List.set_cons_succ]
    refine wpAnyH_take (i := 19) (oi := { dst := some 84, op := _, type := _, pos := _, after := _, guard := _ }) (v := .bool true) rfl (by kernel_rfl) (by kernel_rfl) (by kernel_rfl) (fun _ _ _ h => h) (Or.inl ⟨by rfl, ?_⟩) (by assumption) ?_
    · intro w9 hSw
      exact exec_bin rfl rfl rfl (eqGuard_str _) (eql_strs _ ty)
    simp only [Act.put, List.setIfInBounds_toArray, List.set_cons_zero, List.set_cons_succ]
    refine wpAnyH_take (i := 20) (oi := { dst := some 85, op := _, type := _, pos := _, after := _, guard := _ }) (v := .bool true) rfl (by kernel_rfl) (by kernel_rfl) (by kernel_rfl) (fun _ _ _ h => h) (Or.inl ⟨by rfl, ?_⟩) (by assumption) ?_
    · intro w9 hSw
      exact exec_pick (b := true) rfl rfl rfl rfl
    simp only [Act.put, List.setIfInBounds_toArray, List.set_cons_zero, List.set_cons_succ]
    refine wpAnyH_take (i := 21) (oi := { dst := some 4, op := _, type := _, pos := _, after := _, guard := _ }) (v := .bool true) rfl (by kernel_rfl) (by kernel_rfl) (by kernel_rfl) (fun _ _ _ h => h) (Or.inl ⟨by rfl, ?_⟩) (by assumption) ?_
    · intro w9 hSw
      exact y_assign rfl rfl
    simp only [Act.put, List.setIfInBounds_toArray, List.set_cons_zero, List.set_cons_succ]
    refine wpAnyH_done (by kernel_rfl) ?_ _
    refine NoPanic.normal ?_
    clear hHeld
    have HBz : Hid (Below w.heap.size w q6) := HBq6.out
    go_wp2
    go_ret
    exact ⟨rfl, HBz.out⟩
end Go.Proofs.YthlebgioamcioabGreat

