/-
  LiveAll's walk.
-/
import Derived.Test.YtmnhbkehicpohaaRla
import Derived.Test.YtmnhbkehicpohaaLsa
namespace Go.Proofs.Ytmnhbkehicpohaa
set_option maxRecDepth 100000
open Go.RowKit

theorem enters_rall (xs : Array Value) (w : World) : (callFunc 13 xs).run Try.prog w = .ok (.enter 13 xs) w := enters Try.func13 (by kernel_rfl) (by kernel_rfl) xs w
theorem enters_same (xs : Array Value) (w : World) : (callFunc 11 xs).run Try.prog w = .ok (.enter 11 xs) w := enters Try.func11 (by kernel_rfl) (by kernel_rfl) xs w
theorem enters_ends (xs : Array Value) (w : World) : (callFunc 14 xs).run Try.prog w = .ok (.enter 14 xs) w := enters Try.func14 (by kernel_rfl) (by kernel_rfl) xs w
theorem eql_bb (w : World) (x : Bool) : (binOp .eql 4 (.bool x) (.bool x)).run Try.prog w = .ok (.bool true) w := by
  cases x <;> kernel_rfl
set_option maxHeartbeats 2000000 in
theorem lall_walk (ao : Option Addr) (m c : Nat) (E : List Ev) (a b : Ev) (ha16 : a.deps.length = 16) (hb16 : b.deps.length = 16) (w : World) (hE : Evs w ao m c E) :
    Calls Try.prog 3 #[.slice ao m c, .agg (evc a), .agg (evc b)] w fun e w' => e = .returned (.bool true) ∧ Below w.heap.size w w' := by
  have hwd : Hid (∀ e ∈ E, Wide e) := hE.wide
  have hlen := hE.len
  obtain ⟨hA0, hB0, hB⟩ := boxedEE w a b
  obtain ⟨W, hW⟩ : ∃ W, (w.alloc (.cells (evc a) 30)).alloc (.cells (evc b) 30) = W := ⟨_, rfl⟩
  rw [hW] at hA0 hB0 hB
  have HF0 : Aside (LiesE W w.heap.size a ∧ LiesE W (w.heap.size + 1) b ∧ Evs W ao m c E ∧ Below w.heap.size w W) := ⟨hA0, hB0, hE.below hB (Nat.le_refl _), hB⟩
  clear hA0 hB0 hB hE
  go_enter Try.func3, Try.ntmps3
  go_wp2_with fail
  clear hW
  refine (awake_any W).mono ?_
  rintro e w1 ⟨rfl, hb1⟩
  have HF1 : Aside (LiesE w1 w.heap.size a ∧ LiesE w1 (w.heap.size + 1) b ∧ Evs w1 ao m c E ∧ Below w.heap.size w w1) := ⟨HF0.out.1.below hb1 HF0.out.1.lt, HF0.out.2.1.below hb1 HF0.out.2.1.lt, HF0.out.2.2.1.below hb1 (Nat.le_refl _), HF0.out.2.2.2.trans (hb1.mono HF0.out.2.2.2.size)⟩
  clear HF0 hb1
  go_wp2_with fail
  refine (few_any ao m c E w1 HF1.out.2.2.1).mono ?_
  rintro e w2 ⟨t, rfl, ht, hb2⟩
  have HF2 : Aside (LiesE w2 w.heap.size a ∧ LiesE w2 (w.heap.size + 1) b ∧ Evs w2 ao m c E ∧ Below w.heap.size w w2) := ⟨HF1.out.1.below hb2 HF1.out.1.lt, HF1.out.2.1.below hb2 HF1.out.2.1.lt, HF1.out.2.2.1.below hb2 (Nat.le_refl _), HF1.out.2.2.2.trans (hb2.mono HF1.out.2.2.2.size)⟩
  clear HF1 hb2
  cases t with
  | false =>
    go_wp2_with fail
    refine (awake_any w2).mono ?_
    rintro e w3 ⟨rfl, hb3⟩
    have HB3 : Hid (Below w.heap.size w w3) := HF2.out.2.2.2.trans (hb3.mono HF2.out.2.2.2.size)
    clear hb3 HF2
    go_wp2
    go_ret
    exact ⟨rfl, HB3.out⟩
  | true =>
    have hm := ht rfl
    clear ht
    have HAW : Hid (∀ e ∈ allE E, Wide e) := fun e he => hwd.out e (mem_all he)
    have hAl : (allE E).length ≤ 1000 := by have := all_length E; omega
    have hEd : Evs w2.drew ao m c E := HF2.out.2.2.1.below ((Below.refl _ _).drew) (Nat.le_refl _)
    have hAd : LiesE w2.drew w.heap.size a := HF2.out.1
    have hBd : LiesE w2.drew (w.heap.size + 1) b := HF2.out.2.1
    have HBd : Hid (Below w.heap.size w w2.drew) := HF2.out.2.2.2.drew
    clear HF2
    go_wp2_with fail
    refine wp_region_noPanic ?_
    refine wp_region_held_drew (S := fun W' : World => LiesE W' w.heap.size a ∧ LiesE W' (w.heap.size + 1) b) (by kernel_rfl) ⟨hAd, hBd⟩ (fun hHeld => ?_)
    refine wpAnyH_take (i := 0) (oi := { dst := some 15, op := _, type := _, pos := _, after := _, guard := _ }) (v := .slice ao m c) rfl (by kernel_rfl) (by kernel_rfl) (by kernel_rfl) (fun _ _ _ h => h) (Or.inl ⟨by rfl, ?_⟩) (by assumption) ?_
    · intro w9 hSw
      exact exec_move rfl rfl
    simp only [Act.put, List.setIfInBounds_toArray, List.set_cons_zero, List.set_cons_succ]
    refine wpAnyH_take (i := 2) (oi := { dst := some 17, op := _, type := _, pos := _, after := _, guard := _ }) (v := .slice ao m c) rfl (by kernel_rfl) (by kernel_rfl) (by kernel_rfl) (fun _ _ _ h => h) (Or.inl ⟨by rfl, ?_⟩) (by assumption) ?_
    · intro w9 hSw
      exact exec_move rfl rfl
    simp only [Act.put, List.setIfInBounds_toArray, List.set_cons_zero, List.set_cons_succ]
    clear hHeld
    refine wpAnyH_ready (rs := [1]) (by kernel_rfl) (by simp) ?_
    refine AllReadyH.cons (o := { dst := some 16, op := _, type := _, pos := _, after := _, guard := _ }) rfl (fun K hK => ?_) AllReadyH.nil
    rw [if_pos (by rfl)]
    refine wp_callL (xs := [.tmp 15]) (vs := [.slice ao m c]) rfl rfl (enters_all _ _) (all_any _ _ _ E w2.drew hEd (by omega)) ?_
    rintro e w3 ⟨v3, rfl, hR3, hb3⟩
    refine ⟨_, rfl, ?_⟩
    have hA3 := hAd.below hb3 hAd.lt
    have hB3 := hBd.below hb3 hBd.lt
    have hE3 := hEd.below hb3 (Nat.le_refl _)
    refine hK.out _ _ ⟨hA3, hB3⟩ (fun hHeld => ?_)
    clear hK K
    simp only [Act.put, List.setIfInBounds_toArray, List.set_cons_zero, List.set_cons_succ]
    clear hHeld
    refine wpAnyH_ready (rs := [3]) (by kernel_rfl) (by simp) ?_
    refine AllReadyH.cons (o := { dst := some 18, op := _, type := _, pos := _, after := _, guard := _ }) rfl (fun K hK => ?_) AllReadyH.nil
    rw [if_pos (by rfl)]
    refine wp_callL (xs := [.tmp 17]) (vs := [.slice ao m c]) rfl rfl (enters_rall _ _) (rall_any _ _ _ E w3 hE3 (by omega)) ?_
    rintro e w4 ⟨v4, rfl, hR4, hb4⟩
    refine ⟨_, rfl, ?_⟩
    have hA4 := hA3.below hb4 hA3.lt
    have hB4 := hB3.below hb4 hB3.lt
    obtain ⟨a3, c3, rfl, hE5⟩ := (hR3.below hb4 (Nat.le_refl _)).evs HAW.out
    obtain ⟨a4, c4, rfl, hE6⟩ := hR4.evs HAW.out
    have hs4 : w.heap.size ≤ w4.heap.size := Nat.le_trans HBd.out.size (Nat.le_trans hb3.size hb4.size)
    refine hK.out _ _ ⟨hA4, hB4⟩ (fun hHeld => ?_)
    clear hK K
    simp only [Act.put, List.setIfInBounds_toArray, List.set_cons_zero, List.set_cons_succ]
    clear hHeld hR3 hR4 hA3 hB3 hE3
    refine wpAnyH_ready (rs := [4]) (by kernel_rfl) (by simp) ?_
    refine AllReadyH.cons (o := { dst := some 19, op := _, type := _, pos := _, after := _, guard := _ }) rfl (fun K hK => ?_) AllReadyH.nil
    rw [if_pos (by rfl)]
    refine wp_callL (xs := [.tmp 16, .tmp 18]) (vs := [.slice a3 (allE E).length c3, .slice a4 (allE E).length c4]) rfl rfl (enters_same _ _) (same_yes a3 a4 _ c3 c4 _ w4 hE5 hE6 (by omega)) ?_
    rintro e w5 ⟨rfl, hb5⟩
    refine ⟨_, rfl, ?_⟩
    have hA5 := hA4.below hb5 hA4.lt
    have hB5 := hB4.below hb5 hB4.lt
    have hs5 : w.heap.size ≤ w5.heap.size := Nat.le_trans hs4 hb5.size
    refine hK.out _ _ ⟨hA5, hB5⟩ (fun hHeld => ?_)
    clear hK K
    simp only [Act.put, List.setIfInBounds_toArray, List.set_cons_zero, List.set_cons_succ]
    clear hE5 hE6 hA4 hB4
    refine wpAnyH_take (i := 5) (oi := { dst := some 20, op := _, type := _, pos := _, after := _, guard := _ }) (v := .bool true) rfl (by kernel_rfl) (by kernel_rfl) (by kernel_rfl) (fun _ _ _ h => h) (Or.inl ⟨by rfl, ?_⟩) (by assumption) ?_
    · intro w9 hSw
      exact exec_move rfl rfl
    simp only [Act.put, List.setIfInBounds_toArray, List.set_cons_zero, List.set_cons_succ]
    refine wpAnyH_take (i := 6) (oi := { dst := some 21, op := _, type := _, pos := _, after := _, guard := _ }) (v := .agg (evc b)) rfl (by kernel_rfl) (by kernel_rfl) (by kernel_rfl) (fun _ _ _ h => h) (Or.inl ⟨by rfl, ?_⟩) (by assumption) ?_
    · intro w9 hSw
      exact exec_load (ad := ⟨w.heap.size + 1, 0, none⟩) rfl rfl (load_ev_run hSw.2 hb16)
    simp only [Act.put, List.setIfInBounds_toArray, List.set_cons_zero, List.set_cons_succ]
    refine wpAnyH_take (i := 7) (oi := { dst := some 22, op := _, type := _, pos := _, after := _, guard := _ }) (v := .agg (evc a)) rfl (by kernel_rfl) (by kernel_rfl) (by kernel_rfl) (fun _ _ _ h => h) (Or.inl ⟨by rfl, ?_⟩) (by assumption) ?_
    · intro w9 hSw
      exact exec_load (ad := ⟨w.heap.size, 0, none⟩) rfl rfl (load_ev_run hSw.1 ha16)
    simp only [Act.put, List.setIfInBounds_toArray, List.set_cons_zero, List.set_cons_succ]
    refine wpAnyH_take (i := 9) (oi := { dst := some 24, op := _, type := _, pos := _, after := _, guard := _ }) (v := .agg (evc b)) rfl (by kernel_rfl) (by kernel_rfl) (by kernel_rfl) (fun _ _ _ h => h) (Or.inl ⟨by rfl, ?_⟩) (by assumption) ?_
    · intro w9 hSw
      exact exec_load (ad := ⟨w.heap.size + 1, 0, none⟩) rfl rfl (load_ev_run hSw.2 hb16)
    simp only [Act.put, List.setIfInBounds_toArray, List.set_cons_zero, List.set_cons_succ]
    refine wpAnyH_take (i := 10) (oi := { dst := some 25, op := _, type := _, pos := _, after := _, guard := _ }) (v := .agg (evc a)) rfl (by kernel_rfl) (by kernel_rfl) (by kernel_rfl) (fun _ _ _ h => h) (Or.inl ⟨by rfl, ?_⟩) (by assumption) ?_
    · intro w9 hSw
      exact exec_load (ad := ⟨w.heap.size, 0, none⟩) rfl rfl (load_ev_run hSw.1 ha16)
    simp only [Act.put, List.setIfInBounds_toArray, List.set_cons_zero, List.set_cons_succ]
    clear hHeld
    refine wpAnyH_ready (rs := [8]) (by kernel_rfl) (by simp) ?_
    refine AllReadyH.cons (o := { dst := some 23, op := _, type := _, pos := _, after := _, guard := _ }) rfl (fun K hK => ?_) AllReadyH.nil
    rw [if_pos (by rfl)]
    refine wp_callL (xs := [.tmp 21, .tmp 22]) (vs := [.agg (evc b), .agg (evc a)]) rfl rfl (enters_ends _ _) (ends_any b a hb16 ha16 w5) ?_
    rintro e w6 ⟨rfl, hb6⟩
    refine ⟨_, rfl, ?_⟩
    have hA6 := hA5.below hb6 hA5.lt
    have hB6 := hB5.below hb6 hB5.lt
    have hs6 : w.heap.size ≤ w6.heap.size := Nat.le_trans hs5 hb6.size
    refine hK.out _ _ ⟨hA6, hB6⟩ (fun hHeld => ?_)
    clear hK K
    simp only [Act.put, List.setIfInBounds_toArray, List.set_cons_zero, List.set_cons_succ]
    clear hHeld hA5 hB5
    refine wpAnyH_ready (rs := [11]) (by kernel_rfl) (by simp) ?_
    refine AllReadyH.cons (o := { dst := some 26, op := _, type := _, pos := _, after := _, guard := _ }) rfl (fun K hK => ?_) AllReadyH.nil
    rw [if_pos (by rfl)]
    refine wp_callL (xs := [.tmp 24, .tmp 25]) (vs := [.agg (evc b), .agg (evc a)]) rfl rfl (enters_rends _ _) (rends_any b a hb16 ha16 w6) ?_
    rintro e w7 ⟨rfl, hb7⟩
    refine ⟨_, rfl, ?_⟩
    refine hK.out _ _ ⟨hA6.below hb7 hA6.lt, hB6.below hb7 hB6.lt⟩ (fun hHeld => ?_)
    clear hK K
    simp only [Act.put, List.setIfInBounds_toArray, List.set_cons_zero, List.set_cons_succ]
    refine wpAnyH_take (i := 12) (oi := { dst := some 27, op := _, type := _, pos := _, after := _, guard := _ }) (v := .bool true) rfl (by kernel_rfl) (by kernel_rfl) (by kernel_rfl) (fun _ _ _ h => h) (Or.inl ⟨by rfl, ?_⟩) (by assumption) ?_
    · intro w9 hSw
      exact exec_bin rfl rfl rfl rfl (eql_bb w9 _)
    simp only [Act.put, List.setIfInBounds_toArray, List.set_cons_zero, List.set_cons_succ]
    refine wpAnyH_take (i := 13) (oi := { dst := some 28, op := _, type := _, pos := _, after := _, guard := _ }) (v := .bool true) rfl (by kernel_rfl) (by kernel_rfl) (by kernel_rfl) (fun _ _ _ h => h) (Or.inl ⟨by rfl, ?_⟩) (by assumption) ?_
    · intro w9 hSw
      exact exec_pick (b := true) rfl rfl rfl rfl
    simp only [Act.put, List.setIfInBounds_toArray, List.set_cons_zero, List.set_cons_succ]
    refine wpAnyH_take (i := 14) (oi := { dst := some 6, op := _, type := _, pos := _, after := _, guard := _ }) (v := .bool true) rfl (by kernel_rfl) (by kernel_rfl) (by kernel_rfl) (fun _ _ _ h => h) (Or.inl ⟨by rfl, ?_⟩) (by assumption) ?_
    · intro w9 hSw
      exact exec_assign rfl rfl
    simp only [Act.put, List.setIfInBounds_toArray, List.set_cons_zero, List.set_cons_succ]
    refine wpAnyH_done (by kernel_rfl) ?_ _
    refine NoPanic.normal ?_
    clear hHeld
    have HBf : Hid (Below w.heap.size w w7) := (((((HBd.out.trans (hb3.mono HBd.out.size)).trans (hb4.mono (Nat.le_trans HBd.out.size hb3.size))).trans (hb5.mono hs4)).trans (hb6.mono hs5)).trans (hb7.mono hs6))
    clear hb3 hb4 hb5 hb6 hb7 hA6 hB6
    go_wp2
    go_ret
    exact ⟨rfl, HBf.out⟩
end Go.Proofs.Ytmnhbkehicpohaa
