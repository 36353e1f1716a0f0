/-
  What the reference's Latest and Value come to.
-/
import Derived.Test.YtmacebekodndjaaGlo
namespace Go.Proofs.Ytmacebekodndjaa
set_option maxRecDepth 100000
open Go.RowKit

theorem exec_not {o : Oper} {a : Act} {w : World} {x : Operand} {b : Bool} (ho : o.op = .unOp .not 4 x) (hx : a.eval x = .bool b) : (execOp a.eval o).run Try.prog w = .ok (.value (.bool (!b))) w := by
  unfold execOp
  simp only [ho, hx]
  rfl
theorem enters_rlater (xs : Array Value) (w : World) : (callFunc 29 xs).run Try.prog w = .ok (.enter 29 xs) w := enters Try.func29 (by kernel_rfl) (by kernel_rfl) xs w
def topTo (E : List Ev) (j : Nat) (x : Ev) : Bool := (E.take j).all fun b => !laterE b x
theorem topTo_succ {E : List Ev} {j : Nat} {x y : Ev} (h : E[j]? = some y) : topTo E (j + 1) x = (topTo E j x && !laterE y x) := by
  unfold topTo
  rw [take_snoc h, List.all_append]
  simp
theorem find_snoc_no {E : List Ev} {i : Nat} {x : Ev} {p : Ev → Bool} (h : (E.take i).find? p = none) (hx : E[i]? = some x) (hp : p x = false) : (E.take (i + 1)).find? p = none := by
  rw [take_snoc hx, List.find?_append, h]
  simp [hp]
theorem find_snoc_yes {E : List Ev} {i : Nat} {x : Ev} {p : Ev → Bool} (h : (E.take i).find? p = none) (hx : E[i]? = some x) (hp : p x = true) : E.find? p = some x := by
  have e1 : E = E.take (i + 1) ++ E.drop (i + 1) := (List.take_append_drop _ _).symm
  rw [e1, List.find?_append, take_snoc hx, List.find?_append, h]
  simp [hp]
set_option maxHeartbeats 4000000 in
theorem rglatest_any (ao : Option Addr) (m c : Nat) (E : List Ev) (w : World) (hE : Evs w ao m c E) (hm : m ≤ 1000) :
    Calls Try.prog 19 #[.slice ao m c] w fun e w' => e = .returned (.tuple #[.agg (evc (orz (rlat E))), .bool (rlat E).isSome]) ∧ Below w.heap.size w w' := by
  have hlen := hE.len
  have HE : Aside (Evs w ao m c E) := hE
  have H0 : Aside (LiesE (w.alloc (.cells (evc zv) 43)) w.heap.size zv ∧ Below w.heap.size w (w.alloc (.cells (evc zv) 43)) ∧ (E.take 0).find? (topE E) = none) := ⟨liesE_new w zv, (Below.refl _ _).alloc (Nat.le_refl _) _, rfl⟩
  clear hE
  go_enter Try.func19, Try.ntmps19
  go_wp2
  go_loopg [9] m (fun kx s9 wr => ∃ i : Nat, s9 = .int .i64 i ∧ i ≤ m ∧ m - i ≤ kx ∧ Aside (LiesE wr w.heap.size zv ∧ Below w.heap.size w wr ∧ (E.take i).find? (topE E) = none))
  case atStart => exact ⟨0, rfl, Nat.zero_le _, by omega, H0⟩
  case round =>
    clear H0
    obtain ⟨i, rfl, him, hkO, HS⟩ := hrel
    by_cases hlt : i < m
    · have hltz : (i : Int) < (m : Int) := by omega
      obtain ⟨b1, o1, x, rfl, hx, hwx, -, -⟩ := (HE.out.below HS.out.2.1 (Nat.le_refl _)).at hlt
      go_wp2
      go_loopg [5, 14] m (fun kx s5 s14 wr2 => ∃ j : Nat, s14 = .int .i64 j ∧ s5 = .bool (topTo E j x) ∧ j ≤ m ∧ m - j ≤ kx ∧ Aside (LiesE wr2 w.heap.size zv ∧ Below w.heap.size w wr2))
      case atStart => exact ⟨0, rfl, rfl, Nat.zero_le _, by omega, ⟨HS.out.1, HS.out.2.1⟩⟩
      case round =>
        obtain ⟨j, rfl, rfl, hji, hkx, HJ⟩ := hrel
        by_cases hjl : j < m
        · have hjz : (j : Int) < (m : Int) := by omega
          obtain ⟨b1', o1', y, hb1', hy, hwy, hr2, hl2⟩ := (HE.out.below HJ.out.2.drew (Nat.le_refl _)).at hjl
          obtain ⟨b1'', o1'', x', hb1'', hx', -, hr1, hl1⟩ := (HE.out.below HJ.out.2.drew (Nat.le_refl _)).at hlt
          obtain rfl : x = x' := by rw [hx] at hx'; exact Option.some.inj hx'
          simp only [Option.some.injEq, Addr.mk.injEq, and_true] at hb1' hb1''
          obtain ⟨rfl, rfl⟩ := hb1'
          obtain ⟨rfl, rfl⟩ := hb1''
          have HT : Hid (topTo E (j + 1) x = (topTo E j x && !laterE y x)) := topTo_succ hy
          have HZ : Aside (LiesE wr.drew w.heap.size zv ∧ Below w.heap.size w wr.drew) := ⟨HJ.out.1, HJ.out.2.drew⟩
          clear HJ
          generalize topTo E j x = t at *
          go_wp2_with fail
          cases t with
          | false =>
            refine wp_region_noPanic ?_
            refine wp_region_held_drew (S := fun W' : World => W'.rangeAt b1 (o1 + i * 26) (evl x) ∧ W'.rangeAt b1 (o1 + j * 26) (evl y)) (by kernel_rfl) ⟨hr1, hr2⟩ (fun hHeld => ?_)
            refine wpAnyH_take (i := 0) (oi := { dst := some 17, op := _, type := _, pos := _, after := _, guard := _ }) (v := .bool false) rfl (by kernel_rfl) (by kernel_rfl) (by kernel_rfl) (fun _ _ _ h => h) (Or.inl ⟨by rfl, ?_⟩) (by assumption) ?_
            · intro w9 hSw
              exact exec_move rfl rfl
            simp only [Act.put, List.setIfInBounds_toArray, List.set_cons_zero, List.set_cons_succ]
            refine wpAnyH_take (i := 1) (oi := { dst := some 18, op := _, type := _, pos := _, after := _, guard := _ }) (v := .bool false) rfl (by kernel_rfl) (by kernel_rfl) (by kernel_rfl) (fun _ _ _ h => h) (Or.inl ⟨by rfl, ?_⟩) (by assumption) ?_
            · intro w9 hSw
              exact exec_move rfl rfl
            simp only [Act.put, List.setIfInBounds_toArray, List.set_cons_zero, List.set_cons_succ]
            refine wpAnyH_take (i := 2) (oi := { dst := some 19, op := _, type := _, pos := _, after := _, guard := _ }) (v := undef) rfl (by kernel_rfl) (by kernel_rfl) (by kernel_rfl) (fun _ _ _ h => h) (Or.inr ⟨by rfl, rfl⟩) (by assumption) ?_
            simp only [Act.put, List.setIfInBounds_toArray, List.set_cons_zero, List.set_cons_succ]
            refine wpAnyH_take (i := 3) (oi := { dst := some 20, op := _, type := _, pos := _, after := _, guard := _ }) (v := undef) rfl (by kernel_rfl) (by kernel_rfl) (by kernel_rfl) (fun _ _ _ h => h) (Or.inr ⟨by rfl, rfl⟩) (by assumption) ?_
            simp only [Act.put, List.setIfInBounds_toArray, List.set_cons_zero, List.set_cons_succ]
            refine wpAnyH_take (i := 4) (oi := { dst := some 21, op := _, type := _, pos := _, after := _, guard := _ }) (v := undef) rfl (by kernel_rfl) (by kernel_rfl) (by kernel_rfl) (fun _ _ _ h => h) (Or.inr ⟨by rfl, rfl⟩) (by assumption) ?_
            simp only [Act.put, List.setIfInBounds_toArray, List.set_cons_zero, List.set_cons_succ]
            refine wpAnyH_take (i := 5) (oi := { dst := some 22, op := _, type := _, pos := _, after := _, guard := _ }) (v := undef) rfl (by kernel_rfl) (by kernel_rfl) (by kernel_rfl) (fun _ _ _ h => h) (Or.inr ⟨by rfl, rfl⟩) (by assumption) ?_
            simp only [Act.put, List.setIfInBounds_toArray, List.set_cons_zero, List.set_cons_succ]
            refine wpAnyH_take (i := 6) (oi := { dst := some 23, op := _, type := _, pos := _, after := _, guard := _ }) (v := undef) rfl (by kernel_rfl) (by kernel_rfl) (by kernel_rfl) (fun _ _ _ h => h) (Or.inr ⟨by rfl, rfl⟩) (by assumption) ?_
            simp only [Act.put, List.setIfInBounds_toArray, List.set_cons_zero, List.set_cons_succ]
            refine wpAnyH_take (i := 7) (oi := { dst := some 24, op := _, type := _, pos := _, after := _, guard := _ }) (v := undef) rfl (by kernel_rfl) (by kernel_rfl) (by kernel_rfl) (fun _ _ _ h => h) (Or.inr ⟨by rfl, rfl⟩) (by assumption) ?_
            simp only [Act.put, List.setIfInBounds_toArray, List.set_cons_zero, List.set_cons_succ]
            refine wpAnyH_take (i := 8) (oi := { dst := some 25, op := _, type := _, pos := _, after := _, guard := _ }) (v := undef) rfl (by kernel_rfl) (by kernel_rfl) (by kernel_rfl) (fun _ _ _ h => h) (Or.inr ⟨by rfl, rfl⟩) (by assumption) ?_
            simp only [Act.put, List.setIfInBounds_toArray, List.set_cons_zero, List.set_cons_succ]
            refine wpAnyH_take (i := 9) (oi := { dst := some 26, op := _, type := _, pos := _, after := _, guard := _ }) (v := undef) rfl (by kernel_rfl) (by kernel_rfl) (by kernel_rfl) (fun _ _ _ h => h) (Or.inr ⟨by rfl, rfl⟩) (by assumption) ?_
            simp only [Act.put, List.setIfInBounds_toArray, List.set_cons_zero, List.set_cons_succ]
            refine wpAnyH_take (i := 10) (oi := { dst := some 27, op := _, type := _, pos := _, after := _, guard := _ }) (v := undef) rfl (by kernel_rfl) (by kernel_rfl) (by kernel_rfl) (fun _ _ _ h => h) (Or.inr ⟨by rfl, rfl⟩) (by assumption) ?_
            simp only [Act.put, List.setIfInBounds_toArray, List.set_cons_zero, List.set_cons_succ]
            refine wpAnyH_take (i := 11) (oi := { dst := some 28, op := _, type := _, pos := _, after := _, guard := _ }) (v := undef) rfl (by kernel_rfl) (by kernel_rfl) (by kernel_rfl) (fun _ _ _ h => h) (Or.inr ⟨by rfl, rfl⟩) (by assumption) ?_
            simp only [Act.put, List.setIfInBounds_toArray, List.set_cons_zero, List.set_cons_succ]
            refine wpAnyH_take (i := 12) (oi := { dst := some 29, op := _, type := _, pos := _, after := _, guard := _ }) (v := .bool false) rfl (by kernel_rfl) (by kernel_rfl) (by kernel_rfl) (fun _ _ _ h => h) (Or.inl ⟨by rfl, ?_⟩) (by assumption) ?_
            · intro w9 hSw
              exact exec_pick (b := false) rfl rfl rfl rfl
            simp only [Act.put, List.setIfInBounds_toArray, List.set_cons_zero, List.set_cons_succ]
            refine wpAnyH_take (i := 13) (oi := { dst := some 5, op := _, type := _, pos := _, after := _, guard := _ }) (v := .bool false) rfl (by kernel_rfl) (by kernel_rfl) (by kernel_rfl) (fun _ _ _ h => h) (Or.inl ⟨by rfl, ?_⟩) (by assumption) ?_
            · intro w9 hSw
              exact exec_assign rfl rfl
            simp only [Act.put, List.setIfInBounds_toArray, List.set_cons_zero, List.set_cons_succ]
            refine wpAnyH_done (by kernel_rfl) ?_ _
            refine NoPanic.normal ?_
            clear hHeld
            clear hr1 hr2
            go_wp2
            go_roundg (m - (j + 1))
            case measure => omega
            case rel => exact ⟨j + 1, by go_num, by rw [HT.out]; rfl, by omega, Nat.le_refl _, HZ⟩
          | true =>
            refine wp_region_noPanic ?_
            refine wp_region_held_drew (S := fun W' : World => W'.rangeAt b1 (o1 + i * 26) (evl x) ∧ W'.rangeAt b1 (o1 + j * 26) (evl y)) (by kernel_rfl) ⟨hr1, hr2⟩ (fun hHeld => ?_)
            refine wpAnyH_take (i := 0) (oi := { dst := some 17, op := _, type := _, pos := _, after := _, guard := _ }) (v := .bool true) rfl (by kernel_rfl) (by kernel_rfl) (by kernel_rfl) (fun _ _ _ h => h) (Or.inl ⟨by rfl, ?_⟩) (by assumption) ?_
            · intro w9 hSw
              exact exec_move rfl rfl
            simp only [Act.put, List.setIfInBounds_toArray, List.set_cons_zero, List.set_cons_succ]
            refine wpAnyH_take (i := 1) (oi := { dst := some 18, op := _, type := _, pos := _, after := _, guard := _ }) (v := .bool true) rfl (by kernel_rfl) (by kernel_rfl) (by kernel_rfl) (fun _ _ _ h => h) (Or.inl ⟨by rfl, ?_⟩) (by assumption) ?_
            · intro w9 hSw
              exact exec_move rfl rfl
            simp only [Act.put, List.setIfInBounds_toArray, List.set_cons_zero, List.set_cons_succ]
            refine wpAnyH_take (i := 2) (oi := { dst := some 19, op := _, type := _, pos := _, after := _, guard := _ }) (v := .slice (some ⟨b1, o1, none⟩) m c) rfl (by kernel_rfl) (by kernel_rfl) (by kernel_rfl) (fun _ _ _ h => h) (Or.inl ⟨by rfl, ?_⟩) (by assumption) ?_
            · intro w9 hSw
              exact exec_move rfl rfl
            simp only [Act.put, List.setIfInBounds_toArray, List.set_cons_zero, List.set_cons_succ]
            refine wpAnyH_take (i := 3) (oi := { dst := some 20, op := _, type := _, pos := _, after := _, guard := _ }) (v := .int .i64 (j : Int)) rfl (by kernel_rfl) (by kernel_rfl) (by kernel_rfl) (fun _ _ _ h => h) (Or.inl ⟨by rfl, ?_⟩) (by assumption) ?_
            · intro w9 hSw
              exact exec_move rfl rfl
            simp only [Act.put, List.setIfInBounds_toArray, List.set_cons_zero, List.set_cons_succ]
            refine wpAnyH_take (i := 4) (oi := { dst := some 21, op := _, type := _, pos := _, after := _, guard := _ }) (v := .pointer (some ⟨b1, o1 + j * 26, none⟩)) rfl (by kernel_rfl) (by kernel_rfl) (by kernel_rfl) (fun _ _ _ h => h) (Or.inl ⟨by rfl, ?_⟩) (by assumption) ?_
            · intro w9 hSw
              exact exec_index rfl rfl rfl (index_ev w9 hjl)
            simp only [Act.put, List.setIfInBounds_toArray, List.set_cons_zero, List.set_cons_succ]
            refine wpAnyH_take (i := 5) (oi := { dst := some 22, op := _, type := _, pos := _, after := _, guard := _ }) (v := .agg (evc y)) rfl (by kernel_rfl) (by kernel_rfl) (by kernel_rfl) (fun _ _ _ h => h) (Or.inl ⟨by rfl, ?_⟩) (by assumption) ?_
            · intro w9 hSw
              exact exec_load (ad := ⟨b1, o1 + j * 26, none⟩) rfl rfl (load_part hSw.2 hwy.1)
            simp only [Act.put, List.setIfInBounds_toArray, List.set_cons_zero, List.set_cons_succ]
            refine wpAnyH_take (i := 6) (oi := { dst := some 23, op := _, type := _, pos := _, after := _, guard := _ }) (v := .slice (some ⟨b1, o1, none⟩) m c) rfl (by kernel_rfl) (by kernel_rfl) (by kernel_rfl) (fun _ _ _ h => h) (Or.inl ⟨by rfl, ?_⟩) (by assumption) ?_
            · intro w9 hSw
              exact exec_move rfl rfl
            simp only [Act.put, List.setIfInBounds_toArray, List.set_cons_zero, List.set_cons_succ]
            refine wpAnyH_take (i := 7) (oi := { dst := some 24, op := _, type := _, pos := _, after := _, guard := _ }) (v := .int .i64 (i : Int)) rfl (by kernel_rfl) (by kernel_rfl) (by kernel_rfl) (fun _ _ _ h => h) (Or.inl ⟨by rfl, ?_⟩) (by assumption) ?_
            · intro w9 hSw
              exact exec_move rfl rfl
            simp only [Act.put, List.setIfInBounds_toArray, List.set_cons_zero, List.set_cons_succ]
            refine wpAnyH_take (i := 8) (oi := { dst := some 25, op := _, type := _, pos := _, after := _, guard := _ }) (v := .pointer (some ⟨b1, o1 + i * 26, none⟩)) rfl (by kernel_rfl) (by kernel_rfl) (by kernel_rfl) (fun _ _ _ h => h) (Or.inl ⟨by rfl, ?_⟩) (by assumption) ?_
            · intro w9 hSw
              exact exec_index rfl rfl rfl (index_ev w9 hlt)
            simp only [Act.put, List.setIfInBounds_toArray, List.set_cons_zero, List.set_cons_succ]
            refine wpAnyH_take (i := 9) (oi := { dst := some 26, op := _, type := _, pos := _, after := _, guard := _ }) (v := .agg (evc x)) rfl (by kernel_rfl) (by kernel_rfl) (by kernel_rfl) (fun _ _ _ h => h) (Or.inl ⟨by rfl, ?_⟩) (by assumption) ?_
            · intro w9 hSw
              exact exec_load (ad := ⟨b1, o1 + i * 26, none⟩) rfl rfl (load_part hSw.1 hwx.1)
            simp only [Act.put, List.setIfInBounds_toArray, List.set_cons_zero, List.set_cons_succ]
            clear hHeld
            refine wpAnyH_ready (rs := [10]) (by kernel_rfl) (by simp) ?_
            refine AllReadyH.cons (o := { dst := some 27, op := _, type := _, pos := _, after := _, guard := _ }) rfl (fun K hK => ?_) AllReadyH.nil
            rw [if_pos (by rfl)]
            refine wp_callL (xs := [.tmp 22, .tmp 26]) (vs := [.agg (evc y), .agg (evc x)]) rfl rfl (enters_rlater _ _) (rlater_any y x _) ?_
            rintro e w5 ⟨rfl, hb5⟩
            refine ⟨_, rfl, ?_⟩
            have hr1' := range_below (w := wr.drew) hr1 hb5 hl1
            have hr2' := range_below (w := wr.drew) hr2 hb5 hl2
            refine hK.out _ _ ⟨hr1', hr2'⟩ (fun hHeld => ?_)
            clear hK K
            simp only [Act.put, List.setIfInBounds_toArray, List.set_cons_zero, List.set_cons_succ]
            refine wpAnyH_take (i := 11) (oi := { dst := some 28, op := _, type := _, pos := _, after := _, guard := _ }) (v := .bool (!laterE y x)) rfl (by kernel_rfl) (by kernel_rfl) (by kernel_rfl) (fun _ _ _ h => h) (Or.inl ⟨by rfl, ?_⟩) (by assumption) ?_
            · intro w9 hSw
              exact exec_not (b := laterE y x) rfl rfl
            simp only [Act.put, List.setIfInBounds_toArray, List.set_cons_zero, List.set_cons_succ]
            refine wpAnyH_take (i := 12) (oi := { dst := some 29, op := _, type := _, pos := _, after := _, guard := _ }) (v := .bool (!laterE y x)) rfl (by kernel_rfl) (by kernel_rfl) (by kernel_rfl) (fun _ _ _ h => h) (Or.inl ⟨by rfl, ?_⟩) (by assumption) ?_
            · intro w9 hSw
              exact exec_pick (b := true) rfl rfl rfl rfl
            simp only [Act.put, List.setIfInBounds_toArray, List.set_cons_zero, List.set_cons_succ]
            refine wpAnyH_take (i := 13) (oi := { dst := some 5, op := _, type := _, pos := _, after := _, guard := _ }) (v := .bool (!laterE y x)) rfl (by kernel_rfl) (by kernel_rfl) (by kernel_rfl) (fun _ _ _ h => h) (Or.inl ⟨by rfl, ?_⟩) (by assumption) ?_
            · intro w9 hSw
              exact exec_assign rfl rfl
            simp only [Act.put, List.setIfInBounds_toArray, List.set_cons_zero, List.set_cons_succ]
            refine wpAnyH_done (by kernel_rfl) ?_ _
            refine NoPanic.normal ?_
            clear hHeld
            have HZ2 : Aside (LiesE w5 w.heap.size zv ∧ Below w.heap.size w w5) := ⟨HZ.out.1.below hb5 HZ.out.1.lt, HZ.out.2.trans (hb5.mono HZ.out.2.size)⟩
            clear hr1 hr2 HZ hb5 hr1' hr2'
            go_wp2
            go_roundg (m - (j + 1))
            case measure => omega
            case rel => exact ⟨j + 1, by go_num, by rw [HT.out]; rfl, by omega, Nat.le_refl _, HZ2⟩
        · obtain rfl : j = m := by omega
          have HTT : Hid (topTo E j x = topE E x) := by
            show _ = _
            unfold topTo topE
            rw [List.take_of_length_le (by omega)]
          rw [HTT.out]
          cases ht : topE E x with
          | false =>
            have HS2 : Aside (LiesE wr w.heap.size zv ∧ Below w.heap.size w wr ∧ (E.take (i + 1)).find? (topE E) = none) := ⟨HJ.out.1, HJ.out.2, find_snoc_no HS.out.2.2 hx ht⟩
            clear HS HJ
            go_wp2
            go_roundg (j - (i + 1))
            case measure => omega
            case rel => exact ⟨i + 1, by go_num, by omega, Nat.le_refl _, HS2⟩
          | true =>
            have HR : Hid (rlat E = some x) := find_snoc_yes HS.out.2.2 hx ht
            obtain ⟨b1', o1', x', hb1', hx', -, hr, hl⟩ := (HE.out.below HJ.out.2 (Nat.le_refl _)).at hlt
            obtain rfl : x = x' := by rw [hx] at hx'; exact Option.some.inj hx'
            simp only [Option.some.injEq, Addr.mk.injEq, and_true] at hb1'
            obtain ⟨rfl, rfl⟩ := hb1'
            have hix := fun W : World => index_ev W (b := b1) (off := o1) (k := i) (m := j) (c := c) hlt
            have hz := HJ.out.1
            have HB : Hid (Below w.heap.size w wr) := HJ.out.2
            have hx16 := hwx.1
            clear HS HJ
            go_wp2_with (first | refine load_ev_mid rfl rfl rfl hr hx16 ?_ | refine store_ev rfl rfl rfl rfl hz hx16 rfl ?_)
            exact ret_ev2 rfl rfl rfl rfl (hz.row x) hx16 ⟨by rw [HR.out]; rfl, below_setRow HB.out (Nat.le_refl _) _⟩
    · obtain rfl : i = m := by omega
      have HR : Hid (rlat E = none) := by
        have := HS.out.2.2
        rw [List.take_of_length_le (by omega)] at this
        exact this
      have hz := HS.out.1
      have HB : Hid (Below w.heap.size w wr) := HS.out.2.1
      clear HS
      go_wp2_with (refine store_ev (e := zv) rfl rfl rfl rfl hz rfl rfl ?_)
      exact ret_ev2 rfl rfl rfl rfl (hz.row zv) rfl ⟨by rw [HR.out]; rfl, below_setRow HB.out (Nat.le_refl _) _⟩

def setTo (E : List Ev) (i : Nat) : List Ev := (E.take i).filter setE
theorem setTo_succ {E : List Ev} {i : Nat} {u : Ev} (h : E[i]? = some u) : setTo E (i + 1) = if u.kind = 1 then setTo E i ++ [u] else setTo E i := by
  unfold setTo
  rw [take_snoc h, List.filter_append, List.filter_cons, List.filter_nil]
  by_cases hk : u.kind = 1 <;> simp [hk, setE]
theorem setTo_len (E : List Ev) (i : Nat) : (setTo E i).length ≤ i := by
  unfold setTo
  have := List.length_filter_le setE (E.take i)
  have := List.length_take_le i E
  omega
end Go.Proofs.Ytmacebekodndjaa
