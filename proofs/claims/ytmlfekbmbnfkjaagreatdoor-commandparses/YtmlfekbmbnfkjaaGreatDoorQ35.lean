/-
  awake and small.
-/
import Derived.Test.YtmlfekbmbnfkjaaGreatDoorQ30
import Derived.Test.YtmlfekbmbnfkjaaGreatDoorQ34
namespace Go.Proofs.YtmlfekbmbnfkjaaGreatDoor
set_option maxRecDepth 100000
open Go.RowKit

def small22 (A : List (List UInt8)) : Prop := A.length ≤ 20 ∧ ∀ s ∈ A, s.length ≤ 1000
set_option maxHeartbeats 1000000 in
theorem csmall_any (ao : Option Addr) (m c : Nat) (A : List (List UInt8)) (w : World) (hT : T21.Txts w ao m c (A.map sb)) :
    Calls Tryz.prog 10 #[.slice ao m c] w fun e w' => (∃ b : Bool, e = .returned (.bool b) ∧ (b = true ↔ small22 A)) ∧ Below w.heap.size w w' := by
  have hlen := hT.len
  rw [List.length_map] at hlen
  by_cases h100 : 20 < m
  · have h100' : (20 : Int) < (m : Int) := by omega
    have hno : ¬ small22 A := fun h => by have := h.1; omega
    go_enter Tryz.func10, Tryz.ntmps10
    go_wp2
    go_ret
    exact ⟨⟨false, rfl, by simp [hno]⟩, Below.refl _ _⟩
  · have h100' : ¬ (20 : Int) < (m : Int) := by omega
    have HT : Aside (T21.Txts w ao m c (A.map sb)) := hT
    have HL : Hid (A.length = m) := hlen
    clear hT hlen
    go_enter Tryz.func10, Tryz.ntmps10
    go_wp2_with fail
    go_loopw [9] (fun i wr => ∃ k : Nat, k ≤ m ∧ i = .int .i64 (k : Int) ∧ Hid (∀ j, j < k → (A.getD j []).length ≤ 1000) ∧ Hid (Below w.heap.size w wr)) (fun i _ => m - (intOf i).toNat)
    case atStart => exact ⟨0, Nat.zero_le _, rfl, fun j hj => by omega, Below.refl _ _⟩
    case round =>
      obtain ⟨k, hk, rfl, HF, HB⟩ := hrel
      by_cases hlt : k < m
      · have hlt' : (k : Int) < (m : Int) := by omega
        obtain ⟨b, off, rfl, hc2⟩ := arg_at (HT.out.below HB.out (Nat.le_refl _)) hlt
        have hsz : (sb (A.getD k [])).size = (A.getD k []).length := size_sb _
        have HN : Hid ((A.getD k []).length ≤ 1000 → ∀ j, j < k + 1 → (A.getD j []).length ≤ 1000) := fun h j hj => by
          by_cases e : j = k
          · rw [e]; exact h
          · exact HF.out j (by omega)
        have HX : Hid (1000 < (A.getD k []).length → ¬ small22 A) := fun h hf => by
          have := hf.2 (A.getD k []) (by rw [List.getD_eq_getElem?_getD, List.getElem?_eq_getElem (by have := HL.out; omega)]; exact List.getElem_mem _)
          omega
        generalize A.getD k [] = s at *
        obtain ⟨q, hq⟩ : ∃ q, s.length = q := ⟨_, rfl⟩
        rw [hq] at hsz HN HX
        clear hq
        by_cases hs : 1000 < q
        · have hs' : (1000 : Int) < (q : Int) := by omega
          have hno := HX.out hs
          clear HX HN
          go_wp2
          go_ret
          exact ⟨⟨false, rfl, by simp [hno]⟩, HB.out⟩
        · have hs' : ¬ (1000 : Int) < (q : Int) := by omega
          have HT2 := HN.out (by omega)
          have HT2 : Hid _ := HT2
          clear HX HN
          go_wp2
          go_roundw
          case rel => exact ⟨k + 1, by omega, by go_num, HT2.out, HB⟩
          case measure => simp [intOf]; omega
      · have hlt' : ¬ (k : Int) < (m : Int) := by omega
        have HY : Hid (small22 A) := ⟨by have := HL.out; omega, fun s hs => by
          obtain ⟨j, hj⟩ := List.getElem?_of_mem hs
          have hj2 := (List.getElem?_eq_some_iff.1 hj).1
          have := HF.out j (by have := HL.out; omega)
          rw [List.getD_eq_getElem?_getD, hj, Option.getD_some] at this
          exact this⟩
        go_wp2
        go_ret
        exact ⟨.inr ⟨rfl, HY.out⟩, HB.out⟩
def awA : List (List UInt8) := [[105, 110, 99, 114, 98, 121], [107], [45, 53]]
def awC : Cl := ⟨[73, 78, 67, 82, 66, 89], [107], [], [], -5, 0⟩
theorem aw_parse : parseE awA = (awC, 0) := by decide +kernel
theorem aw_err : errE 13 = [69, 82, 82, 32, 105, 110, 116] := by decide
set_option maxHeartbeats 2000000 in
theorem cawake_any (w : World) (ht : Tb w) : Calls Tryz.prog 9 #[] w fun e w' => e = .returned (.bool true) ∧ Below w.heap.size w w' := by
  have hb0 : Below w.heap.size w (w.alloc (.cells #[.string ⟨#[105, 110, 99, 114, 98, 121]⟩, .string ⟨#[107]⟩, .string ⟨#[45, 53]⟩] 9)) := (Below.refl _ w).alloc (Nat.le_refl _) _
  have hT : T21.Txts (w.alloc (.cells #[.string ⟨#[105, 110, 99, 114, 98, 121]⟩, .string ⟨#[107]⟩, .string ⟨#[45, 53]⟩] 9)) (some ⟨w.heap.size, 0, none⟩) 3 3 (awA.map sb) := by
    refine ⟨rfl, Nat.le_refl _, (fun h => by cases h), fun ad had j s hs => ?_, fun s hs => ?_⟩
    · obtain rfl := Option.some.inj had
      rw [Addr.add_lit, Nat.zero_add, World.cell?_alloc_mark]
      match j, hs with
      | 0, hs => cases hs; rfl
      | 1, hs => cases hs; rfl
      | 2, hs => cases hs; rfl
    · have h9 : ∀ x ∈ awA, x.length ≤ 9 := by decide
      obtain ⟨x, hx, rfl⟩ := List.mem_map.1 hs
      have := h9 x hx
      rw [size_sb]
      unfold maxLen
      omega
  have hP := parse_any (some ⟨w.heap.size, 0, none⟩) 3 3 awA _ hT (by decide) (ht.below hb0) (by decide)
  rw [aw_parse] at hP
  have HB0 : Hid _ := hb0
  clear hb0 hT
  go_enter Tryz.func9, Tryz.ntmps9
  go_wp2_with fail
  refine Calls.mono hP ?_
  rintro e w1 ⟨rfl, hb1⟩
  have hb2 : Below w.heap.size w w1 := HB0.out.trans (hb1.mono HB0.out.size)
  have hnew := heap_alloc_new w1 (.cells (clc clz) 26)
  have hst : (storeVar 26 ⟨w1.heap.size, 0, none⟩ (.agg #[.string ⟨#[73, 78, 67, 82, 66, 89]⟩, .string ⟨#[107]⟩, .string ⟨#[]⟩, .string ⟨#[]⟩, .int .i64 (-5), .int .i64 0])).run Tryz.prog (w1.alloc (.cells (clc clz) 26)) = .ok () ((w1.alloc (.cells (clc clz) 26)).setRow w1.heap.size (clc awC)) := storeVar_cl (cs := clc awC) hnew rfl rfl (clc_one _)
  have hg := setRow_heap (w1.alloc (.cells (clc clz) 26)) w1.heap.size _ (clc awC) _ _ hnew
  have hb3 : Below w1.heap.size w1 ((w1.alloc (.cells (clc clz) 26)).setRow w1.heap.size (clc awC)) := below_setRow ((Below.refl _ w1).alloc (Nat.le_refl _) _) (Nat.le_refl _) _
  generalize (w1.alloc (.cells (clc clz) 26)).setRow w1.heap.size (clc awC) = W2 at *
  have hld : (loadVar 26 ⟨w1.heap.size, 0, none⟩).run Tryz.prog W2 = .ok (.agg #[.string ⟨#[73, 78, 67, 82, 66, 89]⟩, .string ⟨#[107]⟩, .string ⟨#[]⟩, .string ⟨#[]⟩, .int .i64 (-5), .int .i64 0]) W2 := loadVar_cl hg (clc_size awC)
  have hR := fun W => refuse_any 13 W
  rw [aw_err] at hR
  have hR : ∀ W, Calls Tryz.prog 14 #[.int .i64 13] W fun x w' => x = .returned (.agg #[.int .i64 2, .string ⟨#[69, 82, 82, 32, 105, 110, 116]⟩, .int .i64 0, .slice none 0 0]) ∧ Below W.heap.size W w' := hR
  have FIN : Hid (Below w.heap.size w W2) := hb2.trans (hb3.mono hb2.size)
  have hec : (Value.agg (clc awC)) = .agg #[.string ⟨#[73, 78, 67, 82, 66, 89]⟩, .string ⟨#[107]⟩, .string ⟨#[]⟩, .string ⟨#[]⟩, .int .i64 (-5), .int .i64 0] := rfl
  clear hb1 hb2 hb3 hg hnew hP HB0
  go_wp2_with (first
    | (refine wpList_storeR (ty := 26) (x := .tmp 1) (y := .tmp 6) (ad := ⟨w1.heap.size, 0, none⟩) (v := .agg #[.string ⟨#[73, 78, 67, 82, 66, 89]⟩, .string ⟨#[107]⟩, .string ⟨#[]⟩, .string ⟨#[]⟩, .int .i64 (-5), .int .i64 0]) (w' := W2) rfl rfl rfl rfl hst ?_)
    | (refine wpList_loadW (ty := 26) (x := .tmp 1) (ad := ⟨w1.heap.size, 0, none⟩) (v := .agg #[.string ⟨#[73, 78, 67, 82, 66, 89]⟩, .string ⟨#[107]⟩, .string ⟨#[]⟩, .string ⟨#[]⟩, .int .i64 (-5), .int .i64 0]) (by first | rfl | kernel_rfl) rfl rfl hld ?_))
  refine Calls.mono (hR _) ?_
  rintro e w3 ⟨rfl, hb4⟩
  have FIN2 : Hid (Below w.heap.size w w3) := FIN.out.trans (hb4.mono FIN.out.size)
  clear hb4 hR hld hst
  have hf : (Instr.field 35 (.agg #[.int .i64 2, .string ⟨#[69, 82, 82, 32, 105, 110, 116]⟩, .int .i64 0, .slice none 0 0]) 1).run Tryz.prog w3 = .ok (.string ⟨#[69, 82, 82, 32, 105, 110, 116]⟩) w3 := by kernel_rfl
  go_wp2
  go_ret
  exact ⟨rfl, FIN2.out⟩
end Go.Proofs.YtmlfekbmbnfkjaaGreatDoor

/-
  CommandParses: any arguments are the call that the document says, or have its error; any error is told as it says. For every input.
-/
namespace Go.Proofs.YtmlfekbmbnfkjaaGreatDoor
set_option maxRecDepth 100000
open Go.RowKit

set_option maxHeartbeats 4000000 in
theorem parses_walk (ao : Option Addr) (m c : Nat) (S : List ByteArray) (e : Int) (w : World) (hT0 : T21.Txts w ao m c S) (ht : Tb w) :
    Calls Tryz.prog 3 #[.slice ao m c, .int .i64 e] w fun x w' => x = .returned (.bool true) ∧ Below w.heap.size w w' := by
  obtain ⟨A, rfl⟩ := texts_map S
  have HT : Aside (T21.Txts w ao m c (A.map sb) ∧ Tb w) := ⟨hT0, ht⟩
  have hA := cawake_any w ht
  clear hT0 ht
  go_enter Tryz.func3, Tryz.ntmps3
  go_wp2_with fail
  refine Calls.mono hA ?_
  rintro x w1 ⟨rfl, hb1⟩
  have HB1 : Hid (Below w.heap.size w w1) := hb1
  have hS := csmall_any ao m c A w1 (HT.out.1.below hb1 (Nat.le_refl _))
  clear hA hb1
  go_wp2_with fail
  refine Calls.mono hS ?_
  rintro x w2 ⟨⟨b, rfl, hbs⟩, hb2⟩
  have HB2 : Hid (Below w.heap.size w w2) := HB1.out.trans (hb2.mono HB1.out.size)
  have HBS : Hid (b = true ↔ small22 A) := hbs
  clear hS hb2 hbs
  cases b with
  | false =>
    have hA2 := cawake_any w2 (HT.out.2.below HB2.out)
    go_wp2_with fail
    refine Calls.mono hA2 ?_
    rintro x w3 ⟨rfl, hb3⟩
    have FIN : Hid (Below w.heap.size w w3) := HB2.out.trans (hb3.mono HB2.out.size)
    clear hb3 hA2
    go_wp2
    go_ret
    exact ⟨rfl, FIN.out⟩
  | true =>
    have hsm := HBS.out.1 rfl
    have hl := HT.out.1.len
    rw [List.length_map] at hl
    have hP := parse_any ao m c A w2 (HT.out.1.below HB2.out (Nat.le_refl _)) hsm.2 (HT.out.2.below HB2.out) (by have := hsm.1; omega)
    have HR : Hid (∀ W, Below w.heap.size w W → _) := fun W hb => rparse_any ao m c A W (HT.out.1.below hb (Nat.le_refl _)) hsm.2 (by have := hsm.1; omega)
    clear hsm hl
    obtain ⟨⟨⟨nm, ky, fd, vl, i, j⟩, z⟩, hz⟩ : ∃ p, parseE A = p := ⟨_, rfl⟩
    rw [hz] at hP
    simp only [hz] at HR
    clear hz
    have hE1 := fun W => refuse_any e W
    have hE2 := fun W => rrefuse_any e W
    have hE3 := fun W => csame_yes 2 (errE e) 0 none none 0 0 [] W (fun j t h => by cases h) (fun j t h => by cases h) (by decide)
    have hE3 : ∀ W, Calls Tryz.prog 13 #[.agg (repc 2 (errE e) 0 (.slice none 0 0)), .agg (repc 2 (errE e) 0 (.slice none 0 0))] W _ := hE3
    generalize errE e = t at *
    go_wp2_with fail
    refine Calls.mono hP ?_
    rintro x w3 ⟨rfl, hb3⟩
    have HB3 : Hid (Below w.heap.size w w3) := HB2.out.trans (hb3.mono HB2.out.size)
    clear hP hb3
    have hnew := heap_alloc_new w3 (.cells (clc clz) 26)
    have hst := storeVar_cl (cs := clc ⟨nm, ky, fd, vl, i, j⟩) hnew rfl rfl (clc_one _)
    have hg := setRow_heap (w3.alloc (.cells (clc clz) 26)) w3.heap.size _ (clc ⟨nm, ky, fd, vl, i, j⟩) _ _ hnew
    have hb4 : Below w3.heap.size w3 ((w3.alloc (.cells (clc clz) 26)).setRow w3.heap.size (clc ⟨nm, ky, fd, vl, i, j⟩)) := below_setRow ((Below.refl _ w3).alloc (Nat.le_refl _) _) (Nat.le_refl _) _
    have hs4 : ((w3.alloc (.cells (clc clz) 26)).setRow w3.heap.size (clc ⟨nm, ky, fd, vl, i, j⟩)).heap.size = w3.heap.size + 1 := by simp [World.setRow]
    generalize (w3.alloc (.cells (clc clz) 26)).setRow w3.heap.size (clc ⟨nm, ky, fd, vl, i, j⟩) = W4 at *
    have HB4 : Hid (Below w.heap.size w W4) := HB3.out.trans (hb4.mono HB3.out.size)
    have HG : Hid (W4.heap[w3.heap.size]? = some (.cells (clc ⟨nm, ky, fd, vl, i, j⟩) 26 (0, 0))) := hg
    have HS4 : Hid (W4.heap.size = w3.heap.size + 1) := hs4
    have hR := HR.out W4 HB4.out
    clear hnew hg hb4 hs4 HR
    go_wp2_with (first
      | (refine wpList_storeR (ty := 26) (x := .tmp 5) (y := .tmp 20) (ad := ⟨w3.heap.size, 0, none⟩) (v := .agg (clc ⟨nm, ky, fd, vl, i, j⟩)) (w' := W4) rfl rfl rfl rfl hst ?_))
    refine Calls.mono hR ?_
    rintro x w5 ⟨rfl, hb5⟩
    have HB5 : Hid (Below w.heap.size w w5) := HB4.out.trans (hb5.mono HB4.out.size)
    have HG5 : Hid (w5.heap[w3.heap.size]? = some (.cells (clc ⟨nm, ky, fd, vl, i, j⟩) 26 (0, 0)) ∧ w3.heap.size < w5.heap.size) := ⟨by rw [hb5.block _ (by rw [HS4.out]; omega)]; exact HG.out, by have := HS4.out; have := hb5.size; omega⟩
    clear hR hb5 hst
    have hnew := heap_alloc_new w5 (.cells (clc clz) 30)
    have hst := storeVar_rcl (cs := clc ⟨nm, ky, fd, vl, i, j⟩) hnew rfl rfl (clc_one _)
    have hg := setRow_heap (w5.alloc (.cells (clc clz) 30)) w5.heap.size _ (clc ⟨nm, ky, fd, vl, i, j⟩) _ _ hnew
    have hb6 : Below w5.heap.size w5 ((w5.alloc (.cells (clc clz) 30)).setRow w5.heap.size (clc ⟨nm, ky, fd, vl, i, j⟩)) := below_setRow ((Below.refl _ w5).alloc (Nat.le_refl _) _) (Nat.le_refl _) _
    generalize (w5.alloc (.cells (clc clz) 30)).setRow w5.heap.size (clc ⟨nm, ky, fd, vl, i, j⟩) = W6 at *
    have HB6 : Hid (Below w.heap.size w W6) := HB5.out.trans (hb6.mono HB5.out.size)
    have hg1 : W6.heap[w3.heap.size]? = some (.cells (clc ⟨nm, ky, fd, vl, i, j⟩) 26 (0, 0)) := by rw [hb6.block _ HG5.out.2]; exact HG5.out.1
    have hl1 : (loadVar 26 ⟨w3.heap.size, 0, none⟩).run Tryz.prog W6 = .ok (.agg #[.string (sb nm), .string (sb ky), .string (sb fd), .string (sb vl), .int .i64 i, .int .i64 j]) W6 := loadVar_cl hg1 rfl
    have hl2 : (loadVar 30 ⟨w5.heap.size, 0, none⟩).run Tryz.prog W6 = .ok (.agg #[.string (sb nm), .string (sb ky), .string (sb fd), .string (sb vl), .int .i64 i, .int .i64 j]) W6 := loadVar_rcl hg rfl
    have hzz : ((z : Int) == z) = true := by simp
    have he1 := hE1 W6
    clear hnew hb6 hg hg1 hE1
    go_wp2_with (first
      | (refine wpList_storeR (ty := 30) (x := .tmp 7) (y := .tmp 25) (ad := ⟨w5.heap.size, 0, none⟩) (v := .agg (clc ⟨nm, ky, fd, vl, i, j⟩)) (w' := W6) rfl rfl rfl rfl hst ?_)
      | (refine wpList_loadR (ty := 26) (x := .tmp 5) (ad := ⟨w3.heap.size, 0, none⟩) (v := .agg #[.string (sb nm), .string (sb ky), .string (sb fd), .string (sb vl), .int .i64 i, .int .i64 j]) rfl rfl rfl hl1 ?_)
      | (refine wpList_loadR (ty := 30) (x := .tmp 7) (ad := ⟨w5.heap.size, 0, none⟩) (v := .agg #[.string (sb nm), .string (sb ky), .string (sb fd), .string (sb vl), .int .i64 i, .int .i64 j]) rfl rfl rfl hl2 ?_))
    refine Calls.mono he1 ?_
    rintro x w7 ⟨rfl, hb7⟩
    have HB7 : Hid (Below w.heap.size w w7) := HB6.out.trans (hb7.mono HB6.out.size)
    have he2 := hE2 w7
    clear he1 hb7 hE2 hl1 hl2 hst
    go_wp2_with fail
    refine Calls.mono he2 ?_
    rintro x w8 ⟨rfl, hb8⟩
    have HB8 : Hid (Below w.heap.size w w8) := HB7.out.trans (hb8.mono HB7.out.size)
    have he3 := hE3 w8
    clear he2 hb8 hE3
    go_wp2_with fail
    refine Calls.mono he3 ?_
    rintro x w9 ⟨rfl, hb9⟩
    have FIN : Hid (Below w.heap.size w w9) := HB8.out.trans (hb9.mono HB8.out.size)
    clear he3 hb9
    go_wp2
    go_ret
    exact ⟨rfl, FIN.out⟩
end Go.Proofs.YtmlfekbmbnfkjaaGreatDoor

