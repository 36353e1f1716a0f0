/-
  The table of commands: what table and rowOf come to.
-/
import Derived.Test.YtmlfekbmbnfkjabGreatDoorQ18
import Derived.Test.YtmlfekbmbnfkjabGreatDoorQ12
import Derived.Test.YtmlfekbmbnfkjabGreatDoorQ21
import Derived.Deep.MidRow
import Derived.Deep.LoopGhost
namespace Go.Proofs.YtmlfekbmbnfkjabGreatDoor
set_option maxRecDepth 100000
open Go.RowKit

/-- What there is to know of a command. -/
structure Rw22 where
  name : List UInt8
  takes : List UInt8
  is : Int
  fn : Nat
deriving DecidableEq
def rwc (r : Rw22) : List Value := [.string (sb r.name), .string (sb r.takes), .int .i64 r.is, .func (.func r.fn) #[] #[]]
def TB : List Rw22 := [
  ⟨[83, 69, 84], [107, 118], 1, 61⟩,
  ⟨[71, 69, 84], [107], 1, 62⟩,
  ⟨[73, 78, 67, 82, 66, 89], [107, 110], 2, 63⟩,
  ⟨[67, 79, 85, 78, 84], [107], 2, 64⟩,
  ⟨[83, 65, 68, 68], [107, 102], 3, 65⟩,
  ⟨[83, 82, 69, 77], [107, 102], 3, 66⟩,
  ⟨[83, 73, 83, 77, 69, 77, 66, 69, 82], [107, 102], 3, 67⟩,
  ⟨[83, 77, 69, 77, 66, 69, 82, 83], [107], 3, 68⟩,
  ⟨[72, 83, 69, 84], [107, 102, 118], 4, 69⟩,
  ⟨[72, 68, 69, 76], [107, 102], 4, 70⟩,
  ⟨[72, 71, 69, 84], [107, 102], 4, 71⟩,
  ⟨[72, 71, 69, 84, 65, 76, 76], [107], 4, 72⟩,
  ⟨[90, 65, 68, 68], [107, 110, 102], 5, 73⟩,
  ⟨[90, 82, 69, 77], [107, 102], 5, 74⟩,
  ⟨[90, 83, 67, 79, 82, 69], [107, 102], 5, 75⟩,
  ⟨[90, 82, 65, 78, 75], [107, 102], 5, 76⟩,
  ⟨[90, 82, 65, 78, 71, 69], [107, 110, 109], 5, 77⟩,
  ⟨[76, 80, 85, 83, 72], [107, 118], 6, 78⟩,
  ⟨[82, 80, 85, 83, 72], [107, 118], 6, 79⟩,
  ⟨[76, 73, 78, 83, 69, 82, 84], [107, 110, 118], 6, 80⟩,
  ⟨[76, 82, 69, 77], [107, 110], 6, 81⟩,
  ⟨[76, 82, 65, 78, 71, 69], [107, 110, 109], 6, 82⟩,
  ⟨[68, 69, 76], [107], 0, 83⟩,
  ⟨[84, 89, 80, 69], [107], 0, 84⟩,
  ⟨[75, 69, 89, 83], [], 0, 85⟩]
def tbc : Array Value := (TB.flatMap rwc).toArray
set_option maxHeartbeats 4000000 in
theorem table_any (w : World) : Calls Tryz.prog 39 #[] w fun e w' => e = .returned (.slice (some ⟨w.heap.size, 0, none⟩) 25 25) ∧ w' = w.alloc (.cells tbc 62) := by
  go_enter Tryz.func39, Tryz.ntmps39
  go_wp2
  go_ret
  exact ⟨rfl, rfl⟩
end Go.Proofs.YtmlfekbmbnfkjabGreatDoor

/-
  What rowOf comes to: a name's row.
-/
namespace Go.Proofs.YtmlfekbmbnfkjabGreatDoor
set_option maxRecDepth 100000
open Go.RowKit

def rwz : Array Value := #[.string ⟨#[]⟩, .string ⟨#[]⟩, .int .i64 0, .nilFunc]
def rowN (l : List UInt8) : Option Rw22 := TB.find? fun r => decide (r.name = l)
def rowV (o : Option Rw22) : Value := match o with | some r => .agg (rwc r).toArray | none => .agg rwz
theorem tb_len : TB.length = 25 := rfl
theorem rwc_len (r : Rw22) : (rwc r).length = 4 := rfl
theorem flat4 : ∀ (T : List Rw22) (i : Nat) (r : Rw22) (j : Nat) (v : Value), T[i]? = some r → (rwc r)[j]? = some v → (T.flatMap rwc)[i * 4 + j]? = some v
  | [], i, r, j, v, h, _ => by simp at h
  | t :: T, 0, r, j, v, h, k => by
    simp only [List.getElem?_cons_zero, Option.some.injEq] at h
    subst h
    rw [List.flatMap_cons, Nat.zero_mul, Nat.zero_add, List.getElem?_append_left (List.getElem?_eq_some_iff.1 k).1]
    exact k
  | t :: T, i + 1, r, j, v, h, k => by
    rw [List.getElem?_cons_succ] at h
    rw [List.flatMap_cons, List.getElem?_append_right (by rw [rwc_len]; omega), rwc_len]
    have e : (i + 1) * 4 + j - 4 = i * 4 + j := by omega
    rw [e]
    exact flat4 T i r j v h k
theorem tb_cell {W : World} {b i j : Nat} {r : Rw22} {v : Value} (hb : W.heap[b]? = some (.cells tbc 62)) (hr : TB[i]? = some r) (hv : (rwc r)[j]? = some v) : W.cell? ⟨b, i * 4 + j, none⟩ = some v := by
  rw [cell_of_row W b (i * 4 + j) _ _ _ hb]
  unfold tbc
  rw [List.getElem?_toArray]
  exact flat4 TB i r j v hr hv
theorem index_row (w : World) {b k m c : Nat} (hk : k < m) : (Instr.indexAt 89 (.slice (some ⟨b, 0, none⟩) m c) (.int .i64 (k : Int))).run Tryz.prog w = .ok (.pointer (some ⟨b, k * 4, none⟩)) w := by
  have hk' : (k : Int) < (m : Int) := by omega
  have hs : (Tryz.prog.info? 62).map (·.size) = some 4 := by kernel_rfl
  have ht : Tryz.prog.underlying 89 = some (.slice 62) := Tryz.underlying89
  go_simp
theorem rwc_one (r : Rw22) : (rwc r).toArray.all (·.oneCell') = true := by simp [rwc, Value.oneCell']
theorem row_at {W : World} {b i : Nat} {r : Rw22} (hb : W.heap[b]? = some (.cells tbc 62)) (hr : TB[i]? = some r) : (loadVar 62 ⟨b, i * 4, none⟩).run Tryz.prog W = .ok (.agg (rwc r).toArray) W :=
  run_loadVar_mid (P := Tryz.prog) W b (i * 4) 62 _ _ (fun j v hv => tb_cell hb hr hv) Tryz.underlying62 rfl (by rw [rwc_len]; kernel_rfl)
theorem rowN_none {l : List UInt8} (h : ∀ r ∈ TB, r.name ≠ l) : rowN l = none := by
  unfold rowN
  rw [List.find?_eq_none]
  intro r hr
  simpa using h r hr
theorem rowN_some {l : List UInt8} {i : Nat} {r : Rw22} (h : ∀ x ∈ TB.take i, x.name ≠ l) (hr : TB[i]? = some r) (hn : r.name = l) : rowN l = some r := by
  unfold rowN
  obtain ⟨h1, e1⟩ := List.getElem?_eq_some_iff.1 hr
  have e : TB = TB.take i ++ r :: TB.drop (i + 1) := by rw [← e1, ← List.drop_eq_getElem_cons h1, List.take_append_drop]
  rw [e, List.find?_append, List.find?_eq_none.2 (fun x hx => by simpa using h x hx), Option.none_or, List.find?_cons_of_pos (by simpa using hn)]
/-- What rowOf has laid. -/
structure Rl (w wr : World) : Prop where
  res : wr.heap[w.heap.size]? = some (.cells rwz 62 (0, 0))
  tab : wr.heap[w.heap.size + 1]? = some (.cells tbc 62 (0, 0))
  be : Below w.heap.size w wr
set_option maxHeartbeats 1000000 in
theorem rowof_any (l : List UInt8) (w : World) :
    Calls Tryz.prog 21 #[.string (sb l)] w fun e w' => e = .returned (.tuple #[rowV (rowN l), .bool (rowN l).isSome]) ∧ Below w.heap.size w w' := by
  obtain ⟨R, hR⟩ : ∃ R, w.heap.size = R := ⟨_, rfl⟩
  have hs0 : (w.alloc (.cells rwz 62)).heap.size = R + 1 := by rw [← hR]; simp
  have hz0 : (w.alloc (.cells rwz 62)).heap[R]? = some (.cells rwz 62) := by rw [← hR]; exact heap_alloc_new w _
  have hb0 : Below w.heap.size w (w.alloc (.cells rwz 62)) := (Below.refl _ w).alloc (Nat.le_refl _) _
  have hT := table_any (w.alloc (.cells rwz 62))
  have hz1 : ((w.alloc (.cells rwz 62)).alloc (.cells tbc 62)).heap[R]? = some (.cells rwz 62) := by rw [Below.heap_alloc _ _ _ (by omega)]; exact hz0
  have ht1 := heap_alloc_new (w.alloc (.cells rwz 62)) (.cells tbc 62)
  have hb1 : Below w.heap.size w ((w.alloc (.cells rwz 62)).alloc (.cells tbc 62)) := hb0.alloc (by omega) _
  rw [hs0] at hT ht1
  have H0 : Aside (Rl w ((w.alloc (.cells rwz 62)).alloc (.cells tbc 62)) ∧ ∀ x ∈ TB.take 0, x.name ≠ l) := ⟨⟨by rw [hR]; exact hz1, by rw [hR]; exact ht1, hb1⟩, by simp⟩
  have HR : Hid (w.heap.size = R) := hR
  clear hz0 hb0 hz1 ht1 hb1
  go_enter Tryz.func21, Tryz.ntmps21
  go_wp2_with fail
  refine Calls.mono hT ?_
  rintro e w1 ⟨rfl, hw1⟩
  obtain ⟨W1, hW1⟩ : ∃ W1, (w.alloc (.cells rwz 62)).alloc (.cells tbc 62) = W1 := ⟨_, rfl⟩
  rw [hW1] at hw1 H0
  subst hw1
  clear hT hs0 hW1
  go_wp2_with fail
  go_loopw [5, 8] (fun _ c wr => ∃ k : Nat, k ≤ 25 ∧ c = .int .i64 (k : Int) ∧ Aside (Rl w wr ∧ ∀ x ∈ TB.take k, x.name ≠ l)) (fun _ c _ => 25 - (intOf c).toNat)
  case atStart => exact ⟨0, Nat.zero_le _, rfl, H0⟩
  case round =>
    clear H0
    obtain ⟨k, hk, rfl, HX⟩ := hrel
    by_cases hkn : k < 25
    · have hkn' : (k : Int) < 25 := by omega
      obtain ⟨r, hr⟩ : ∃ r, TB[k]? = some r := ⟨_, List.getElem?_eq_getElem (by rw [tb_len]; exact hkn)⟩
      have hix := index_row wr (b := R + 1) (k := k) (m := 25) (c := 25) hkn
      have htab : wr.heap[R + 1]? = some (.cells tbc 62 (0, 0)) := by rw [← hR]; exact HX.out.1.tab
      have hld := row_at htab hr
      clear htab
      have hnew := heap_alloc_new wr (.cells rwz 62)
      have hst := storeVar_rw (cs := (rwc r).toArray) hnew rfl rfl (rwc_one r)
      have hb2 : Below wr.heap.size wr ((wr.alloc (.cells rwz 62)).setRow wr.heap.size (rwc r).toArray) := below_setRow ((Below.refl _ wr).alloc (Nat.le_refl _) _) (Nat.le_refl _) _
      have hg2 := setRow_heap (wr.alloc (.cells rwz 62)) wr.heap.size _ (rwc r).toArray _ _ hnew
      have hcA := cell_of_row _ wr.heap.size 0 _ _ _ hg2
      generalize (wr.alloc (.cells rwz 62)).setRow wr.heap.size (rwc r).toArray = W2 at *
      have hc0 : W2.cell? ⟨wr.heap.size, 0, none⟩ = some (.string (sb r.name)) := hcA
      clear hcA
      have hld2 := loadVar_rw hg2 rfl
      have HX2 : Aside (Rl w W2 ∧ ∀ x ∈ TB.take k, x.name ≠ l) := ⟨⟨by rw [hb2.block _ (Array.getElem?_eq_some_iff.1 HX.out.1.res).1]; exact HX.out.1.res, by rw [hb2.block _ (Array.getElem?_eq_some_iff.1 HX.out.1.tab).1]; exact HX.out.1.tab, HX.out.1.be.trans (hb2.mono HX.out.1.be.size)⟩, HX.out.2⟩
      have hq : ((sb r.name).toList == (sb l).toList) = decide (r.name = l) := sb_beq _ _
      clear HX hnew hb2
      by_cases hn : r.name = l
      · rw [decide_eq_true hn] at hq
        have hfin := rowN_some HX2.out.2 hr hn
        have hres : W2.heap[R]? = some (.cells rwz 62 (0, 0)) := by rw [← hR]; exact HX2.out.1.res
        have hst2 := storeVar_rw (cs := (rwc r).toArray) hres rfl rfl (rwc_one r)
        have hg3 := setRow_heap W2 R _ (rwc r).toArray _ _ hres
        clear hres
        have FIN : Hid (Below w.heap.size w (W2.setRow R (rwc r).toArray)) := below_setRow HX2.out.1.be (by rw [HR.out]; exact Nat.le_refl _) _
        generalize W2.setRow R (rwc r).toArray = W3 at *
        clear HX2
        go_wp2_with (first
          | (refine wpList_loadR (ty := 62) (x := .tmp 10) (ad := ⟨R + 1, k * 4, none⟩) (v := .agg (rwc r).toArray) rfl rfl rfl hld ?_)
          | (refine wpList_storeR (ty := 62) (x := .tmp 5) (y := .tmp 11) (ad := ⟨wr.heap.size, 0, none⟩) (v := .agg (rwc r).toArray) (w' := W2) rfl rfl rfl rfl hst ?_)
          | (refine wpList_loadR (ty := 62) (x := .tmp 5) (ad := ⟨wr.heap.size, 0, none⟩) (v := .agg (rwc r).toArray) rfl rfl rfl hld2 ?_)
          | (refine wpList_storeR (ty := 62) (x := .tmp 2) (y := .tmp 16) (ad := ⟨R, 0, none⟩) (v := .agg (rwc r).toArray) (w' := W3) rfl rfl rfl rfl hst2 ?_))
        refine ret_rw2 rfl rfl rfl rfl hg3 rfl ?_
        rw [hfin]
        exact ⟨rfl, FIN.out⟩
      · rw [decide_eq_false hn] at hq
        have HN : Aside (Rl w W2 ∧ ∀ x ∈ TB.take (k + 1), x.name ≠ l) := ⟨HX2.out.1, fun x hx => by
          rw [List.take_add_one, hr] at hx
          rcases List.mem_append.1 hx with h1 | h1
          · exact HX2.out.2 x h1
          · have h2 : x ∈ [r] := by simpa using h1
            rw [List.mem_singleton.1 h2]; exact hn⟩
        clear HX2
        go_wp2_with (first
          | (refine wpList_loadR (ty := 62) (x := .tmp 10) (ad := ⟨R + 1, k * 4, none⟩) (v := .agg (rwc r).toArray) rfl rfl rfl hld ?_)
          | (refine wpList_storeR (ty := 62) (x := .tmp 5) (y := .tmp 11) (ad := ⟨wr.heap.size, 0, none⟩) (v := .agg (rwc r).toArray) (w' := W2) rfl rfl rfl rfl hst ?_))
        go_roundw
        case rel => exact ⟨k + 1, by omega, by go_num, HN⟩
        case measure => simp [intOf]; omega
    · have hkn' : ¬ (k : Int) < 25 := by omega
      have hfin : rowN l = none := rowN_none (by have := HX.out.2; rw [List.take_of_length_le (by rw [tb_len]; omega)] at this; exact this)
      have hres : wr.heap[R]? = some (.cells rwz 62 (0, 0)) := by rw [← hR]; exact HX.out.1.res
      have hst2 := storeVar_rw (cs := rwz) hres rfl rfl (by simp [rwz, Value.oneCell'])
      have hg3 := setRow_heap wr R _ rwz _ _ hres
      clear hres
      have FIN : Hid (Below w.heap.size w (wr.setRow R rwz)) := below_setRow HX.out.1.be (by rw [HR.out]; exact Nat.le_refl _) _
      generalize wr.setRow R rwz = W3 at *
      clear HX
      go_wp2_with (first
        | (refine wpList_storeR (ty := 62) (x := .tmp 2) (y := .tmp 18) (ad := ⟨R, 0, none⟩) (v := .agg rwz) (w' := W3) rfl rfl rfl rfl hst2 ?_))
      refine ret_rw2 rfl rfl rfl rfl hg3 rfl ?_
      exact ⟨rfl, by rw [← HR.out]; exact FIN.out⟩
end Go.Proofs.YtmlfekbmbnfkjabGreatDoor

