/-
  What the reference's New, See, Stable and Cut come to.
-/
import Derived.Test.YtcndgbepdgjkeaaMpm
namespace Go.Proofs.Ytcndgbepdgjkeaa
set_option maxRecDepth 100000
open Go.RowKit

theorem enters_rmsee (xs : Array Value) (w : World) : (callFunc 12 xs).run Try.prog w = .ok (.enter 12 xs) w := enters Try.func12 (by kernel_rfl) (by kernel_rfl) xs w
theorem enters_rmstab (xs : Array Value) (w : World) : (callFunc 14 xs).run Try.prog w = .ok (.enter 14 xs) w := enters Try.func14 (by kernel_rfl) (by kernel_rfl) xs w
theorem enters_rmcut (xs : Array Value) (w : World) : (callFunc 16 xs).run Try.prog w = .ok (.enter 16 xs) w := enters Try.func16 (by kernel_rfl) (by kernel_rfl) xs w
theorem wpList_mk {P : Program} {w w' : World} {ops : Array Oper} {rest : List Oper} {o : Oper} {a : Act} {Q : Exit → Act → World → Prop} {x y : Operand} {ty : TypeId} {v p q : Value} (hw : Region.wanted o (yielded ops a.tmps) = true) (ho : o.op = .makeSlice ty x y) (hx : a.eval x = p) (hy : a.eval y = q) (hr : (Instr.makeSlice ty p q).run P w = .ok v w') (hK : wpList P ops Q rest (a.put o.dst v) w') : wpList P ops Q (o :: rest) a w := by
  refine wpList_step fun K hK' => ?_
  rw [if_pos hw]
  unfold Oper.wp execOp
  simp only [ho, hx, hy, Sem.run_bind, Sem.run_pure, Result.andThen_ok, hr]
  exact hK' _ _ hK
theorem vv_parts : ∃ i, Try.prog.info? 24 = some i ∧ i.zero = some (.agg (vals zeros)) ∧ i.size = 16 ∧ i.bytes = 128 := by
  have h : (Try.prog.info? 24).map (fun i => (i.zero, i.size, i.bytes)) = some (some (.agg (vals zeros)), 16, 128) := by kernel_rfl
  cases hi : Try.prog.info? 24 with
  | none => rw [hi] at h; cases h
  | some i =>
    rw [hi] at h
    simp only [Option.map_some, Option.some.injEq, Prod.mk.injEq] at h
    exact ⟨i, rfl, h.1, h.2.1, h.2.2⟩
def rcells (n : Nat) : Array Value := madeCells (vals zeros) (n * 16)
theorem rcells_get (n k : Nat) (h : k < n * 16) : (rcells n)[k]? = some (.int .i64 0) := by
  have hs : (vals zeros).size = 16 := rfl
  have hk : k % 16 < 16 := Nat.mod_lt _ (by omega)
  have hz := vals_get zeros (k % 16) hk
  rw [zeros_get] at hz
  have hz' : (vals zeros)[k % 16]! = .int .i64 0 := by
    rw [getElem!_pos _ _ (by rw [hs]; exact hk)]
    exact (Array.getElem?_eq_some_iff.1 hz).2
  rw [rcells, madeCells, Array.getElem?_map, hs]
  simp [h, hz']
theorem make_vv (w : World) (n : Nat) (hn : n ≤ 16) : (Instr.makeSlice 37 (.int .i64 (n : Int)) (.int .i64 (n : Int))).run Try.prog w = .ok (.slice (some ⟨w.heap.size, 0, none⟩) n n) (w.alloc (.cells (rcells n) 24)) := by
  obtain ⟨i, hi, hz0, hz1, hz2⟩ := vv_parts
  have := run_makeSlice (P := Try.prog) w 37 24 i _ Try.underlying37 hi hz0 .i64 .i64 (n : Int) (n : Int) (by omega) (Int.le_refl _) (by rw [hz1]; simp; omega) (by rw [hz2]; omega) (by omega)
  rw [hz1, Int.toNat_natCast] at this
  exact this
theorem rmat_new (w : World) (n : Nat) (hn : 1 ≤ n) : RMat ((w.alloc (.cells (rcells n) 24)).alloc (.cells #[.slice (some ⟨w.heap.size, 0, none⟩) n n] 39)) (w.alloc (.cells (rcells n) 24)).heap.size w.heap.size n zeroR := by
  have hl : w.heap.size < (w.alloc (.cells (rcells n) 24)).heap.size := by simp
  refine ⟨(grid_new w 24 (rcells n) 0 n fun j hj => ?_).same (Below.heap_alloc _ _ _ hl), ?_, by omega, hn, by simp; omega⟩
  · rw [Nat.zero_add]; exact rcells_get n j hj
  · rw [cell_of_row _ _ 0 _ _ _ (heap_alloc_new _ _)]
    rfl
theorem load_sl {w : World} {ad : Addr} {v : Value} (h : w.cell? ad = some v) : (loadVar 37 ad).run Try.prog w = .ok v w := by
  have h3 : Try.prog.underlying 37 = some (.slice 24) := by kernel_rfl
  simp [loadVar, isAgg, run_underlying h3, Sem.run_bind, h]

set_option maxHeartbeats 1000000 in
theorem rmnew_any (x : Int) (w : World) : Calls Try.prog 10 #[.int .i64 x] w fun e w' => ∃ g b, e = .returned (.pointer (some ⟨g, 0, none⟩)) ∧ RMat w' g b (clampN x) zeroR ∧ w.heap.size ≤ g ∧ w.heap.size ≤ b ∧ Below w.heap.size w w' := by
  have hm := make_vv w (clampN x) (clampN_le x)
  have hM := rmat_new w (clampN x) (clampN_pos x)
  have hB : Below w.heap.size w ((w.alloc (.cells (rcells (clampN x)) 24)).alloc (.cells #[.slice (some ⟨w.heap.size, 0, none⟩) (clampN x) (clampN x)] 39)) := ((Below.refl _ w).alloc (Nat.le_refl _) _).alloc (by simp) _
  have hg : w.heap.size ≤ (w.alloc (.cells (rcells (clampN x)) 24)).heap.size := by simp
  have hcx : max 1 (min x 16) = (clampN x : Int) := by unfold clampN; omega
  obtain ⟨y, hy⟩ : ∃ y, min x 16 = y := ⟨_, rfl⟩
  rw [hy] at hcx
  generalize clampN x = n at *
  have HM : Hid _ := And.intro hM (And.intro hB hg)
  clear hM hB hg
  generalize hw1 : w.alloc (.cells (rcells n) 24) = w1 at *
  go_enter Try.func10, Try.ntmps10
  go_wp2_with (refine wpList_mk (ty := 37) (x := .tmp 5) (y := .tmp 5) (p := .int .i64 (n : Int)) (q := .int .i64 (n : Int)) (v := .slice (some ⟨w.heap.size, 0, none⟩) n n) (w' := w1) rfl rfl rfl rfl hm ?_)
  go_ret
  exact ⟨_, _, rfl, HM.out.1, HM.out.2.2, Nat.le_refl _, HM.out.2.1⟩

set_option maxHeartbeats 2000000 in
theorem rmsee_any (g b n : Nat) (R : Nat → List Int) (r : Int) (v : List Int) (hv : v.length = 16) (w : World) (h : RMat w g b n R) :
    Calls Try.prog 12 #[.pointer (some ⟨g, 0, none⟩), .int .i64 r, .agg (vals v)] w fun e w' => e = .returned (.int .i64 (seeN n r v)) ∧ RMat w' g b n (seeR n R r v) ∧ Chg b w w' := by
  have hV := lies_new w v
  have hb0 : Below w.heap.size w (w.alloc (.cells (vals v) 24)) := (Below.refl _ w).alloc (Nat.le_refl _) _
  have hM := h.alloc (.cells (vals v) 24)
  have hbl := h.lb
  generalize hW : w.alloc (.cells (vals v) 24) = W at *
  have hR := rright_any v hv W
  have hcell := hM.cell
  clear h
  by_cases h0 : 0 ≤ r
  · by_cases h1 : r < (n : Int)
    · obtain ⟨k, rfl⟩ : ∃ k : Nat, r = (k : Int) := ⟨r.toNat, by omega⟩
      have hk : k < n := by omega
      have hi : inM n (k : Int) = true := by rw [inM_nat, decide_eq_true hk]
      have hd1 : decide ((k : Int) < 0) = false := decide_eq_false (by omega)
      have hd2 : decide (n ≤ k) = false := decide_eq_false (by omega)
      have hd3 : decide ((n : Int) ≤ (k : Int)) = false := decide_eq_false (by omega)
      clear h0 h1
      by_cases hf : fine v = true
      · rw [hf] at hR
        have hok : okS n (k : Int) v = true := by rw [okS, hi, hf]; rfl
        have HsR : Hid (seeR n R (k : Int) v = setR R k (each max (R k) v)) := by show _ = _; rw [seeR, if_pos hok, Int.toNat_natCast]
        rw [show seeN n (k : Int) v = 0 by rw [seeN, if_pos hok]]
        have hR16 := hM.grid.len k
        clear hok hi hf
        go_enter Try.func12, Try.ntmps12
        go_wp2_with (refine load_vec_w rfl rfl rfl hV hv ?_)
        refine Calls.mono hR ?_
        rintro e w2 ⟨rfl, hb2⟩
        have hmd := hM.below hb2 (Nat.le_refl _)
        have hV := hV.below hb2 hV.lt
        have HB2 : Hid (Below w.heap.size w w2) := hb0.trans (hb2.mono hb0.size)
        clear hcell hM hR hb2 hb0 hW
        have hmd := hmd.drew
        have hV := hV.drew
        have HB2 : Hid (Below w.heap.size w w2.drew) := HB2.out.drew
        have hcell := hmd.cell
        go_wp2_with fail
        refine wp_region_noPanic ?_
        refine wp_region_held_drew (S := fun W' : World => Lies W' w.heap.size v ∧ W'.cell? ⟨g, 0, none⟩ = some (.slice (some ⟨b, 0, none⟩) n n)) (by kernel_rfl) ⟨hV, hcell⟩ (fun hHeld => ?_)
        refine wpAnyH_take (i := 0) (oi := { dst := some 23, op := _, type := _, pos := _, after := _, guard := _ }) (v := .pointer (some ⟨g, 0, none⟩)) rfl (by kernel_rfl) (by kernel_rfl) (by kernel_rfl) (fun _ _ _ h => h) (Or.inl ⟨by rfl, ?_⟩) (by assumption) ?_
        · intro w9 hSw
          exact y_move rfl rfl
        simp only [Act.put, List.setIfInBounds_toArray, List.set_cons_zero, List.set_cons_succ]
        refine wpAnyH_take (i := 1) (oi := { dst := some 24, op := _, type := _, pos := _, after := _, guard := _ }) (v := .pointer (some ⟨g, 0, none⟩)) rfl (by kernel_rfl) (by kernel_rfl) (by kernel_rfl) (fun _ _ _ h => h) (Or.inl ⟨by rfl, ?_⟩) (by assumption) ?_
        · intro w9 hSw
          exact y_nil rfl rfl
        simp only [Act.put, List.setIfInBounds_toArray, List.set_cons_zero, List.set_cons_succ]
        refine wpAnyH_take (i := 2) (oi := { dst := some 25, op := _, type := _, pos := _, after := _, guard := _ }) (v := .pointer (some ⟨g, 0, none⟩)) rfl (by kernel_rfl) (by kernel_rfl) (by kernel_rfl) (fun _ _ _ h => h) (Or.inl ⟨by rfl, ?_⟩) (by assumption) ?_
        · intro w9 hSw
          exact y_field rfl rfl (field_rm _ _)
        simp only [Act.put, List.setIfInBounds_toArray, List.set_cons_zero, List.set_cons_succ]
        refine wpAnyH_take (i := 3) (oi := { dst := some 26, op := _, type := _, pos := _, after := _, guard := _ }) (v := .slice (some ⟨b, 0, none⟩) n n) rfl (by kernel_rfl) (by kernel_rfl) (by kernel_rfl) (fun _ _ _ h => h) (Or.inl ⟨by rfl, ?_⟩) (by assumption) ?_
        · intro w9 hSw
          exact y_load rfl rfl (load_sl hSw.2)
        simp only [Act.put, List.setIfInBounds_toArray, List.set_cons_zero, List.set_cons_succ]
        refine wpAnyH_take (i := 4) (oi := { dst := some 27, op := _, type := _, pos := _, after := _, guard := _ }) (v := .int .i64 (k : Int)) rfl (by kernel_rfl) (by kernel_rfl) (by kernel_rfl) (fun _ _ _ h => h) (Or.inl ⟨by rfl, ?_⟩) (by assumption) ?_
        · intro w9 hSw
          exact y_move rfl rfl
        simp only [Act.put, List.setIfInBounds_toArray, List.set_cons_zero, List.set_cons_succ]
        refine wpAnyH_take (i := 5) (oi := { dst := some 28, op := _, type := _, pos := _, after := _, guard := _ }) (v := .pointer (some ⟨g, 0, none⟩)) rfl (by kernel_rfl) (by kernel_rfl) (by kernel_rfl) (fun _ _ _ h => h) (Or.inl ⟨by rfl, ?_⟩) (by assumption) ?_
        · intro w9 hSw
          exact y_move rfl rfl
        simp only [Act.put, List.setIfInBounds_toArray, List.set_cons_zero, List.set_cons_succ]
        refine wpAnyH_take (i := 6) (oi := { dst := some 29, op := _, type := _, pos := _, after := _, guard := _ }) (v := .pointer (some ⟨g, 0, none⟩)) rfl (by kernel_rfl) (by kernel_rfl) (by kernel_rfl) (fun _ _ _ h => h) (Or.inl ⟨by rfl, ?_⟩) (by assumption) ?_
        · intro w9 hSw
          exact y_nil rfl rfl
        simp only [Act.put, List.setIfInBounds_toArray, List.set_cons_zero, List.set_cons_succ]
        refine wpAnyH_take (i := 7) (oi := { dst := some 30, op := _, type := _, pos := _, after := _, guard := _ }) (v := .pointer (some ⟨g, 0, none⟩)) rfl (by kernel_rfl) (by kernel_rfl) (by kernel_rfl) (fun _ _ _ h => h) (Or.inl ⟨by rfl, ?_⟩) (by assumption) ?_
        · intro w9 hSw
          exact y_field rfl rfl (field_rm _ _)
        simp only [Act.put, List.setIfInBounds_toArray, List.set_cons_zero, List.set_cons_succ]
        refine wpAnyH_take (i := 8) (oi := { dst := some 31, op := _, type := _, pos := _, after := _, guard := _ }) (v := .slice (some ⟨b, 0, none⟩) n n) rfl (by kernel_rfl) (by kernel_rfl) (by kernel_rfl) (fun _ _ _ h => h) (Or.inl ⟨by rfl, ?_⟩) (by assumption) ?_
        · intro w9 hSw
          exact y_load rfl rfl (load_sl hSw.2)
        simp only [Act.put, List.setIfInBounds_toArray, List.set_cons_zero, List.set_cons_succ]
        refine wpAnyH_take (i := 9) (oi := { dst := some 32, op := _, type := _, pos := _, after := _, guard := _ }) (v := .int .i64 (k : Int)) rfl (by kernel_rfl) (by kernel_rfl) (by kernel_rfl) (fun _ _ _ h => h) (Or.inl ⟨by rfl, ?_⟩) (by assumption) ?_
        · intro w9 hSw
          exact y_move rfl rfl
        simp only [Act.put, List.setIfInBounds_toArray, List.set_cons_zero, List.set_cons_succ]
        refine wpAnyH_take (i := 10) (oi := { dst := some 33, op := _, type := _, pos := _, after := _, guard := _ }) (v := .pointer (some ⟨b, 0 + k * 16, none⟩)) rfl (by kernel_rfl) (by kernel_rfl) (by kernel_rfl) (fun _ _ _ h => h) (Or.inl ⟨by rfl, ?_⟩) (by assumption) ?_
        · intro w9 hSw
          exact y_index rfl rfl rfl (run_indexAt_vvs _ _ _ _ k hk)
        simp only [Act.put, List.setIfInBounds_toArray, List.set_cons_zero, List.set_cons_succ]
        refine wpAnyH_take (i := 12) (oi := { dst := some 35, op := _, type := _, pos := _, after := _, guard := _ }) (v := .agg (vals (v))) rfl (by kernel_rfl) (by kernel_rfl) (by kernel_rfl) (fun _ _ _ h => h) (Or.inl ⟨by rfl, ?_⟩) (by assumption) ?_
        · intro w9 hSw
          exact y_load rfl rfl (load_run hSw.1 hv)
        simp only [Act.put, List.setIfInBounds_toArray, List.set_cons_zero, List.set_cons_succ]
        clear hHeld
        refine wpAnyH_ready (rs := [11]) (by kernel_rfl) (by simp) ?_
        refine AllReadyH.cons (o := { dst := some 34, op := _, type := _, pos := _, after := _, guard := _ }) rfl (fun K hK => ?_) AllReadyH.nil
        rw [if_pos (by rfl)]
        refine y_ldw (ty := 24) (x := .tmp 33) (ad := ⟨b, 0 + k * 16, none⟩) (v := .agg (vals (R k))) rfl rfl (grid_load hmd.grid hk) ?_
        refine hK.out _ _ ⟨hV, hcell⟩ (fun hHeld => ?_)
        clear hK K
        simp only [Act.put, List.setIfInBounds_toArray, List.set_cons_zero, List.set_cons_succ]
        clear hHeld
        refine wpAnyH_ready (rs := [13]) (by kernel_rfl) (by simp) ?_
        refine AllReadyH.cons (o := { dst := some 36, op := _, type := _, pos := _, after := _, guard := _ }) rfl (fun K hK => ?_) AllReadyH.nil
        rw [if_pos (by rfl)]
        refine y_call (f := 19) (xs := [.tmp 34, .tmp 35]) (vs := [.agg (vals (R k)), .agg (vals (v))]) rfl rfl (enters_rjoin _ _) (rjoin_any (R k) v hR16 hv w2.drew) ?_
        rintro ex w4 ⟨rfl, hb4⟩
        refine ⟨_, rfl, ?_⟩
        have hM4 := hmd.below hb4 (Nat.le_refl _)
        have hV4 := hV.below hb4 hV.lt
        have hC4 : Chg b w w4 := Chg.of_below (HB2.out.trans (hb4.mono HB2.out.size))
        refine hK.out _ _ ⟨hV4, hM4.cell⟩ (fun hHeld => ?_)
        clear hK K
        simp only [Act.put, List.setIfInBounds_toArray, List.set_cons_zero, List.set_cons_succ]
        refine wpAnyH_take (i := 14) (oi := { dst := some 37, op := _, type := _, pos := _, after := _, guard := _ }) (v := .pointer (some ⟨b, 0 + k * 16, none⟩)) rfl (by kernel_rfl) (by kernel_rfl) (by kernel_rfl) (fun _ _ _ h => h) (Or.inl ⟨by rfl, ?_⟩) (by assumption) ?_
        · intro w9 hSw
          exact y_index rfl rfl rfl (run_indexAt_vvs _ _ _ _ k hk)
        simp only [Act.put, List.setIfInBounds_toArray, List.set_cons_zero, List.set_cons_succ]
        clear hHeld
        obtain ⟨w5, hw5⟩ : ∃ w5, w5 = w4.setCells b (0 + k * 16) ((each max (R k) v).map (Value.int .i64)) := ⟨_, rfl⟩
        have hst := grid_store hM4.grid hk (each_length max (R k) v hR16 hv)
        have hM5 := hM4.store hk (each_length max (R k) v hR16 hv)
        have hC5 := hC4.trans (Chg.set w4 b (0 + k * 16) ((each max (R k) v).map (Value.int .i64)))
        have hV5 := hV4.chg (Chg.set w4 b (0 + k * 16) ((each max (R k) v).map (Value.int .i64))) (by omega)
        rw [← hw5] at hst hM5 hC5 hV5
        refine wpAnyH_ready (rs := [15]) (by kernel_rfl) (by simp) ?_
        refine AllReadyH.cons (o := { dst := none, op := _, type := _, pos := _, after := _, guard := _ }) rfl (fun K hK => ?_) AllReadyH.nil
        rw [if_pos (by rfl)]
        refine y_store (ty := 24) (x := .tmp 37) (y := .tmp 36) (ad := ⟨b, 0 + k * 16, none⟩) (v := .agg (vals (each max (R k) v))) (w' := w5) rfl rfl rfl hst ?_
        refine hK.out _ _ ⟨hV5, hM5.cell⟩ (fun hHeld => ?_)
        clear hK K
        simp only [Act.put]
        refine wpAnyH_done (by kernel_rfl) ?_ _
        refine NoPanic.normal ?_
        clear hHeld
        clear hst hw5 hM4 hV4 hC4 hb4 hmd
        have HM5 : Hid (RMat w5 g b n (setR R k (each max (R k) v))) := hM5
        have HC : Hid (Chg b w w5) := hC5
        clear hM5 hC5 hV5 hcell hV
        go_wp2
        go_ret
        exact ⟨rfl, by rw [HsR.out]; exact HM5.out, HC.out⟩
      · have hf' : fine v = false := by simpa using hf
        rw [hf'] at hR
        have hok : okS n (k : Int) v = false := by rw [okS, hi, hf']; rfl
        have HsR : Hid (seeR n R (k : Int) v = R) := by show _ = _; rw [seeR, hok]; rfl
        rw [show seeN n (k : Int) v = 1 by rw [seeN, hok]; rfl]
        clear hok hi hf hf'
        go_enter Try.func12, Try.ntmps12
        go_wp2_with (refine load_vec_w rfl rfl rfl hV hv ?_)
        refine Calls.mono hR ?_
        rintro e w2 ⟨rfl, hb2⟩
        have HM : Hid (RMat w2 g b n R) := hM.below hb2 (Nat.le_refl _)
        have HC : Hid (Below w.heap.size w w2) := hb0.trans (hb2.mono hb0.size)
        clear hV hM hb0 hb2 hR hW hcell
        go_wp2
        go_ret
        exact ⟨rfl, by rw [HsR.out]; exact HM.out, Chg.of_below HC.out⟩
    · have hok : okS n r v = false := by rw [okS, inM, decide_eq_false (fun h => h1 h.2)]; rfl
      have HsR : Hid (seeR n R r v = R) := by show _ = _; rw [seeR, hok]; rfl
      rw [show seeN n r v = 1 by rw [seeN, hok]; rfl]
      have HM : Hid (RMat W g b n R) := hM
      have HC : Hid (Below w.heap.size w W) := hb0
      have hd1 : decide (r < 0) = false := decide_eq_false (by omega)
      have hd2 : decide ((n : Int) ≤ r) = true := decide_eq_true (by omega)
      clear hok hR hV hM hb0
      go_enter Try.func12, Try.ntmps12
      go_wp2
      go_ret
      exact ⟨rfl, by rw [HsR.out]; exact HM.out, Chg.of_below HC.out⟩
  · have hok : okS n r v = false := by rw [okS, inM, decide_eq_false (fun h => h0 h.1)]; rfl
    have HsR : Hid (seeR n R r v = R) := by show _ = _; rw [seeR, hok]; rfl
    rw [show seeN n r v = 1 by rw [seeN, hok]; rfl]
    have HM : Hid (RMat W g b n R) := hM
    have HC : Hid (Below w.heap.size w W) := hb0
    have hd1 : decide (r < 0) = true := decide_eq_true (by omega)
    clear hok hR hV hM hb0 hcell
    go_enter Try.func12, Try.ntmps12
    go_wp2
    go_ret
    exact ⟨rfl, by rw [HsR.out]; exact HM.out, Chg.of_below HC.out⟩

set_option maxHeartbeats 2000000 in
theorem rmstab_any (g b n : Nat) (R : Nat → List Int) (w : World) (h : RMat w g b n R) (hn : n ≤ 16) :
    Calls Try.prog 14 #[.pointer (some ⟨g, 0, none⟩)] w fun e w' => e = .returned (.agg (vals (metE n R))) ∧ Below w.heap.size w w' := by
  have hlen := h.grid.len
  have hr0 : (R 0).length = 16 := hlen 0
  have hix := fun W => run_indexAt_vvs W b n n 0 h.pos
  have hZ1 := lies_new w zeros
  have hM1 := h.alloc (.cells (vals zeros) 24)
  have hb1 : Below w.heap.size w (w.alloc (.cells (vals zeros) 24)) := (Below.refl _ w).alloc (Nat.le_refl _) _
  have hl1 : w.heap.size < (w.alloc (.cells (vals zeros) 24)).heap.size := by simp
  generalize hW1 : w.alloc (.cells (vals zeros) 24) = W1 at *
  have hc1 := hM1.cell
  have hg0 := grid_load hM1.grid h.pos
  rw [show 0 + 0 * 16 = 0 by omega] at hg0 hix
  rw [show ((0 : Nat) : Int) = 0 by omega] at hix
  have hZ2 := (hZ1.alloc (.cells (vals zeros) 24)).rowOther (g := W1.heap.size) (vals (R 0)) (by omega)
  have hL1 := lies_new W1 zeros
  have hL2 := hL1.row (R 0)
  have hb2 : Below W1.heap.size W1 ((W1.alloc (.cells (vals zeros) 24)).setRow W1.heap.size (vals (R 0))) := below_setRow ((Below.refl _ W1).alloc (Nat.le_refl _) _) (Nat.le_refl _) _
  have hM2 := hM1.below hb2 (Nat.le_refl _)
  have hB2 : Below w.heap.size w ((W1.alloc (.cells (vals zeros) 24)).setRow W1.heap.size (vals (R 0))) := hb1.trans (hb2.mono hb1.size)
  have hgG : g < W1.heap.size := hM1.lt
  have hbG : b < W1.heap.size := hM1.lb
  have hst := store_run hL1 (l := R 0) hr0 rfl
  generalize hG : W1.heap.size = G at *
  generalize hW2 : (W1.alloc (.cells (vals zeros) 24)).setRow G (vals (R 0)) = W2 at *
  have hc2 := hM2.cell
  rw [zeros_vals] at hW1 hst
  have hm0 : metTo n R 0 = R 0 := rowE_in (k := 0) h.pos
  rw [← hm0] at hL2
  clear hZ1 hM1 hb1 hb2 hL1 hm0 h
  go_enter Try.func14, Try.ntmps14
  go_wp2_with (first
    | (refine wpList_loadR (ty := 24) (x := .tmp 9) (ad := ⟨b, 0, none⟩) (v := .agg (vals (R 0))) rfl rfl rfl hg0 ?_)
    | (refine wpList_storeR (ty := 24) (x := .tmp 3) (y := .tmp 10) (ad := ⟨G, 0, none⟩) (v := .agg (vals (R 0))) (w' := W2) rfl rfl rfl rfl hst ?_))
  clear hst hg0 hW1 hW2 hG hc1
  go_loopw [16] (fun i wr => ∃ k : Nat, k ≤ n ∧ i = .int .i64 (k : Int) ∧ Lies wr G (metTo n R k) ∧ Lies wr w.heap.size zeros ∧ RMat wr g b n R ∧ Below w.heap.size w wr) (fun i _ => n - (intOf i).toNat)
  case atStart => exact ⟨0, Nat.zero_le _, rfl, hL2, hZ2, hM2, hB2⟩
  case round =>
    clear hL2 hZ2 hM2 hB2 hc2
    obtain ⟨k, hk, rfl, hL, hZ, hM, hB⟩ := hrel
    by_cases hkn : k < n
    · have hmd := hM.drew
      have hA16 := metTo_len (n := n) hlen k
      have hR16 := hlen k
      have hne1 : g ≠ G := by omega
      have hne2 : b ≠ G := by omega
      have Hn : Hid (metTo n R (k + 1) = each min (metTo n R k) (R k)) := rfl
      generalize hA : metTo n R k = A at *
      go_wp2_with fail
      refine wp_region_noPanic ?_
      refine wp_region_held_drew (S := fun W' : World => W'.cell? ⟨g, 0, none⟩ = some (.slice (some ⟨b, 0, none⟩) n n) ∧ Grid W' b 0 n R) (by kernel_rfl) ⟨hmd.cell, hmd.grid⟩ (fun hHeld => ?_)
      refine wpAnyH_take (i := 1) (oi := { dst := some 20, op := _, type := _, pos := _, after := _, guard := _ }) (v := .pointer (some ⟨g, 0, none⟩)) rfl (by kernel_rfl) (by kernel_rfl) (by kernel_rfl) (fun _ _ _ h => h) (Or.inl ⟨by rfl, ?_⟩) (by assumption) ?_
      · intro w9 hSw
        exact y_move rfl rfl
      simp only [Act.put, List.setIfInBounds_toArray, List.set_cons_zero, List.set_cons_succ]
      refine wpAnyH_take (i := 2) (oi := { dst := some 21, op := _, type := _, pos := _, after := _, guard := _ }) (v := .pointer (some ⟨g, 0, none⟩)) rfl (by kernel_rfl) (by kernel_rfl) (by kernel_rfl) (fun _ _ _ h => h) (Or.inl ⟨by rfl, ?_⟩) (by assumption) ?_
      · intro w9 hSw
        exact y_nil rfl rfl
      simp only [Act.put, List.setIfInBounds_toArray, List.set_cons_zero, List.set_cons_succ]
      refine wpAnyH_take (i := 3) (oi := { dst := some 22, op := _, type := _, pos := _, after := _, guard := _ }) (v := .pointer (some ⟨g, 0, none⟩)) rfl (by kernel_rfl) (by kernel_rfl) (by kernel_rfl) (fun _ _ _ h => h) (Or.inl ⟨by rfl, ?_⟩) (by assumption) ?_
      · intro w9 hSw
        exact y_field rfl rfl (field_rm _ _)
      simp only [Act.put, List.setIfInBounds_toArray, List.set_cons_zero, List.set_cons_succ]
      refine wpAnyH_take (i := 4) (oi := { dst := some 23, op := _, type := _, pos := _, after := _, guard := _ }) (v := .slice (some ⟨b, 0, none⟩) n n) rfl (by kernel_rfl) (by kernel_rfl) (by kernel_rfl) (fun _ _ _ h => h) (Or.inl ⟨by rfl, ?_⟩) (by assumption) ?_
      · intro w9 hSw
        exact y_load rfl rfl (load_sl hSw.1)
      simp only [Act.put, List.setIfInBounds_toArray, List.set_cons_zero, List.set_cons_succ]
      refine wpAnyH_take (i := 5) (oi := { dst := some 24, op := _, type := _, pos := _, after := _, guard := _ }) (v := .int .i64 (k : Int)) rfl (by kernel_rfl) (by kernel_rfl) (by kernel_rfl) (fun _ _ _ h => h) (Or.inl ⟨by rfl, ?_⟩) (by assumption) ?_
      · intro w9 hSw
        exact y_move rfl rfl
      simp only [Act.put, List.setIfInBounds_toArray, List.set_cons_zero, List.set_cons_succ]
      refine wpAnyH_take (i := 6) (oi := { dst := some 25, op := _, type := _, pos := _, after := _, guard := _ }) (v := .pointer (some ⟨b, 0 + k * 16, none⟩)) rfl (by kernel_rfl) (by kernel_rfl) (by kernel_rfl) (fun _ _ _ h => h) (Or.inl ⟨by rfl, ?_⟩) (by assumption) ?_
      · intro w9 hSw
        exact y_index rfl rfl rfl (run_indexAt_vvs _ _ _ _ k hkn)
      simp only [Act.put, List.setIfInBounds_toArray, List.set_cons_zero, List.set_cons_succ]
      refine wpAnyH_take (i := 7) (oi := { dst := some 26, op := _, type := _, pos := _, after := _, guard := _ }) (v := .agg (vals (R k))) rfl (by kernel_rfl) (by kernel_rfl) (by kernel_rfl) (fun _ _ _ h => h) (Or.inl ⟨by rfl, ?_⟩) (by assumption) ?_
      · intro w9 hSw
        exact y_load rfl rfl (grid_load hSw.2 hkn)
      simp only [Act.put, List.setIfInBounds_toArray, List.set_cons_zero, List.set_cons_succ]
      clear hHeld
      refine wpAnyH_ready (rs := [0]) (by kernel_rfl) (by simp) ?_
      refine AllReadyH.cons (o := { dst := some 19, op := _, type := _, pos := _, after := _, guard := _ }) rfl (fun K hK => ?_) AllReadyH.nil
      rw [if_pos (by rfl)]
      refine y_ldw (ty := 24) (x := .tmp 3) (ad := ⟨G, 0, none⟩) (v := .agg (vals (A))) rfl rfl (load_run hL.drew hA16) ?_
      refine hK.out _ _ ⟨hmd.cell, hmd.grid⟩ (fun hHeld => ?_)
      clear hK K
      simp only [Act.put, List.setIfInBounds_toArray, List.set_cons_zero, List.set_cons_succ]
      clear hHeld
      refine wpAnyH_ready (rs := [8]) (by kernel_rfl) (by simp) ?_
      refine AllReadyH.cons (o := { dst := some 27, op := _, type := _, pos := _, after := _, guard := _ }) rfl (fun K hK => ?_) AllReadyH.nil
      rw [if_pos (by rfl)]
      refine y_call (f := 27) (xs := [.tmp 19, .tmp 26]) (vs := [.agg (vals (A)), .agg (vals (R k))]) rfl rfl (enters_rmeet _ _) (rmeet_any A (R k) hA16 hR16 wr.drew) ?_
      rintro ex w4 ⟨rfl, hb4⟩
      refine ⟨_, rfl, ?_⟩
      have hM4 := hmd.below hb4 (Nat.le_refl _)
      have hL4 := hL.drew.below hb4 hL.drew.lt
      have hZ4 := hZ.drew.below hb4 hZ.drew.lt
      refine hK.out _ _ ⟨hM4.cell, hM4.grid⟩ (fun hHeld => ?_)
      clear hK K
      simp only [Act.put, List.setIfInBounds_toArray, List.set_cons_zero, List.set_cons_succ]
      clear hHeld
      have hM5 : RMat (w4.setRow G (vals (each min A (R k)))) g b n R := hM4.same (setRow_other w4 G g _ hne1) (setRow_other w4 G b _ hne2) (by simp [World.setRow])
      refine wpAnyH_ready (rs := [9]) (by kernel_rfl) (by simp) ?_
      refine AllReadyH.cons (o := { dst := none, op := _, type := _, pos := _, after := _, guard := _ }) rfl (fun K hK => ?_) AllReadyH.nil
      rw [if_pos (by rfl)]
      refine y_store (ty := 24) (x := .tmp 3) (y := .tmp 27) (ad := ⟨G, 0, none⟩) (v := .agg (vals (each min A (R k)))) (w' := w4.setRow G (vals (each min A (R k)))) rfl rfl rfl (store_run hL4 (each_length min A (R k) hA16 hR16) hA16) ?_
      refine hK.out _ _ ⟨hM5.cell, hM5.grid⟩ (fun hHeld => ?_)
      clear hK K
      simp only [Act.put]
      refine wpAnyH_done (by kernel_rfl) ?_ _
      refine NoPanic.normal ?_
      clear hHeld
      have hL5 : Hid (Lies (w4.setRow G (vals (each min A (R k)))) G (each min A (R k))) := hL4.row _
      have hZ5 : Hid (Lies (w4.setRow G (vals (each min A (R k)))) w.heap.size zeros) := hZ4.rowOther _ (by omega)
      have hB5 : Hid (Below w.heap.size w (w4.setRow G (vals (each min A (R k))))) := below_setRow (hB.drew.trans (hb4.mono hB.size)) (by omega) _
      have HM5 : Hid (RMat (w4.setRow G (vals (each min A (R k)))) g b n R) := hM5
      clear hL hZ hM hB hmd hM4 hL4 hZ4 hM5 hb4
      go_wp2
      go_roundw
      case rel => exact ⟨k + 1, by omega, by go_num, by rw [Hn.out]; exact hL5.out, hZ5.out, HM5.out, hB5.out⟩
      case measure => simp [intOf]; omega
    · obtain rfl : k = n := by omega
      have hA16 := metTo_len (n := k) hlen k
      have HB : Hid (Below w.heap.size w wr) := hB
      clear hM hB
      go_wp2_with (first
        | (refine wpList_loadR (ty := 24) (x := .tmp 3) (ad := ⟨G, 0, none⟩) (v := .agg (vals (metTo k R k))) rfl rfl rfl (load_run hL hA16) ?_)
        | (refine wpList_storeR (ty := 24) (x := .tmp 2) (y := .tmp 29) (ad := ⟨w.heap.size, 0, none⟩) (v := .agg (vals (metTo k R k))) rfl rfl rfl rfl (store_run hZ hA16 rfl) ?_))
      exact ret_vec rfl rfl rfl (hZ.row _) hA16 ⟨rfl, below_setRow HB.out (Nat.le_refl _) _⟩

set_option maxHeartbeats 2000000 in
theorem rmcut_any (g b n : Nat) (R : Nat → List Int) (s : List Int) (hs : s.length = 16) (w : World) (h : RMat w g b n R) (hn : n ≤ 16) :
    Calls Try.prog 16 #[.pointer (some ⟨g, 0, none⟩), .agg (vals s)] w fun e w' => e = .returned (.agg (vals (cutE n R s))) ∧ Below w.heap.size w w' := by
  obtain ⟨hA, hZ, hb0⟩ := boxed2 w s zeros
  have hM := (h.alloc (.cells (vals s) 24)).alloc (.cells (vals zeros) 24)
  generalize hW : (w.alloc (.cells (vals s) 24)).alloc (.cells (vals zeros) 24) = W at *
  rw [zeros_vals] at hW
  have hcell := hM.cell
  have hlen := h.grid.len
  clear h
  go_enter Try.func16, Try.ntmps16
  go_wp2_with fail
  go_loopw [11] (fun i wr => ∃ k : Nat, k ≤ n ∧ i = .int .i64 (k : Int) ∧ wholeTo R s k = true ∧ Lies wr w.heap.size s ∧ Lies wr (w.heap.size + 1) zeros ∧ RMat wr g b n R ∧ Below w.heap.size w wr) (fun i _ => n - (intOf i).toNat)
  case atStart => exact ⟨0, Nat.zero_le _, rfl, rfl, hA, hZ, hM, hb0⟩
  case round =>
    clear hA hZ hM hb0 hW hcell
    obtain ⟨k, hk, rfl, hwh, hA, hZ, hM, hB⟩ := hrel
    have HW : Hid _ := hwh
    clear hwh
    by_cases hkn : k < n
    · have hk16 : k < 16 := by omega
      have hc1 := hM.grid.cell hkn hk16
      have hc2 := hA.cell (k := k) (by omega)
      have hSd : wr.drew.cell? ⟨g, 0, none⟩ = some (.slice (some ⟨b, 0, none⟩) n n) ∧ wr.drew.cell? ⟨b, 0 + k * 16 + k, none⟩ = some (.int .i64 ((R k).getD k 0)) ∧ wr.drew.cell? ⟨w.heap.size, k, none⟩ = some (.int .i64 (s.getD k 0)) := ⟨hM.cell, hc1, hc2⟩
      have Hs : Hid ((R k).getD k 0 ≤ s.getD k 0 → wholeTo R s (k + 1) = true) := fun h => wholeTo_succ HW.out h
      have Hn : Hid (s.getD k 0 < (R k).getD k 0 → cutE n R s = zeros) := fun h => by rw [cutE, wholeTo_not hkn h]; rfl
      have HA : Hid (Lies wr.drew w.heap.size s) := hA.drew
      have HZ : Hid (Lies wr.drew (w.heap.size + 1) zeros) := hZ.drew
      have HM : Hid (RMat wr.drew g b n R) := hM.drew
      have HB : Hid (Below w.heap.size w wr.drew) := hB.drew
      clear hc1 hc2 hA hZ hM hB HW
      generalize (R k).getD k 0 = x at *
      generalize s.getD k 0 = y at *
      by_cases hxy : y < x
      · go_wp2_with fail
        refine wp_region_noPanic ?_
        refine wp_region_held_drew (S := fun W' : World => W'.cell? ⟨g, 0, none⟩ = some (.slice (some ⟨b, 0, none⟩) n n) ∧ W'.cell? ⟨b, 0 + k * 16 + k, none⟩ = some (.int .i64 x) ∧ W'.cell? ⟨w.heap.size, k, none⟩ = some (.int .i64 y)) (by kernel_rfl) hSd (fun hHeld => ?_)
        refine wpAnyH_take (i := 0) (oi := { dst := some 14, op := _, type := _, pos := _, after := _, guard := _ }) (v := .pointer (some ⟨g, 0, none⟩)) rfl (by kernel_rfl) (by kernel_rfl) (by kernel_rfl) (fun _ _ _ h => h) (Or.inl ⟨by rfl, ?_⟩) (by assumption) ?_
        · intro w9 hSw
          exact y_move rfl rfl
        simp only [Act.put, List.setIfInBounds_toArray, List.set_cons_zero, List.set_cons_succ]
        refine wpAnyH_take (i := 1) (oi := { dst := some 15, op := _, type := _, pos := _, after := _, guard := _ }) (v := .pointer (some ⟨g, 0, none⟩)) rfl (by kernel_rfl) (by kernel_rfl) (by kernel_rfl) (fun _ _ _ h => h) (Or.inl ⟨by rfl, ?_⟩) (by assumption) ?_
        · intro w9 hSw
          exact y_nil rfl rfl
        simp only [Act.put, List.setIfInBounds_toArray, List.set_cons_zero, List.set_cons_succ]
        refine wpAnyH_take (i := 2) (oi := { dst := some 16, op := _, type := _, pos := _, after := _, guard := _ }) (v := .pointer (some ⟨g, 0, none⟩)) rfl (by kernel_rfl) (by kernel_rfl) (by kernel_rfl) (fun _ _ _ h => h) (Or.inl ⟨by rfl, ?_⟩) (by assumption) ?_
        · intro w9 hSw
          exact y_field rfl rfl (field_rm _ _)
        simp only [Act.put, List.setIfInBounds_toArray, List.set_cons_zero, List.set_cons_succ]
        refine wpAnyH_take (i := 3) (oi := { dst := some 17, op := _, type := _, pos := _, after := _, guard := _ }) (v := .slice (some ⟨b, 0, none⟩) n n) rfl (by kernel_rfl) (by kernel_rfl) (by kernel_rfl) (fun _ _ _ h => h) (Or.inl ⟨by rfl, ?_⟩) (by assumption) ?_
        · intro w9 hSw
          exact y_load rfl rfl (load_sl hSw.1)
        simp only [Act.put, List.setIfInBounds_toArray, List.set_cons_zero, List.set_cons_succ]
        refine wpAnyH_take (i := 4) (oi := { dst := some 18, op := _, type := _, pos := _, after := _, guard := _ }) (v := .int .i64 (k : Int)) rfl (by kernel_rfl) (by kernel_rfl) (by kernel_rfl) (fun _ _ _ h => h) (Or.inl ⟨by rfl, ?_⟩) (by assumption) ?_
        · intro w9 hSw
          exact y_move rfl rfl
        simp only [Act.put, List.setIfInBounds_toArray, List.set_cons_zero, List.set_cons_succ]
        refine wpAnyH_take (i := 5) (oi := { dst := some 19, op := _, type := _, pos := _, after := _, guard := _ }) (v := .int .i64 (k : Int)) rfl (by kernel_rfl) (by kernel_rfl) (by kernel_rfl) (fun _ _ _ h => h) (Or.inl ⟨by rfl, ?_⟩) (by assumption) ?_
        · intro w9 hSw
          exact y_move rfl rfl
        simp only [Act.put, List.setIfInBounds_toArray, List.set_cons_zero, List.set_cons_succ]
        refine wpAnyH_take (i := 6) (oi := { dst := some 20, op := _, type := _, pos := _, after := _, guard := _ }) (v := .pointer (some ⟨b, 0 + k * 16, none⟩)) rfl (by kernel_rfl) (by kernel_rfl) (by kernel_rfl) (fun _ _ _ h => h) (Or.inl ⟨by rfl, ?_⟩) (by assumption) ?_
        · intro w9 hSw
          exact y_index rfl rfl rfl (run_indexAt_vvs _ _ _ _ k hkn)
        simp only [Act.put, List.setIfInBounds_toArray, List.set_cons_zero, List.set_cons_succ]
        refine wpAnyH_take (i := 7) (oi := { dst := some 21, op := _, type := _, pos := _, after := _, guard := _ }) (v := .pointer (some ⟨b, 0 + k * 16 + k, none⟩)) rfl (by kernel_rfl) (by kernel_rfl) (by kernel_rfl) (fun _ _ _ h => h) (Or.inl ⟨by rfl, ?_⟩) (by assumption) ?_
        · intro w9 hSw
          exact y_index rfl rfl rfl (run_indexAt_vo _ _ _ k hk16)
        simp only [Act.put, List.setIfInBounds_toArray, List.set_cons_zero, List.set_cons_succ]
        refine wpAnyH_take (i := 8) (oi := { dst := some 22, op := _, type := _, pos := _, after := _, guard := _ }) (v := .int .i64 x) rfl (by kernel_rfl) (by kernel_rfl) (by kernel_rfl) (fun _ _ _ h => h) (Or.inl ⟨by rfl, ?_⟩) (by assumption) ?_
        · intro w9 hSw
          exact y_load rfl rfl (load_int_run hSw.2.1)
        simp only [Act.put, List.setIfInBounds_toArray, List.set_cons_zero, List.set_cons_succ]
        refine wpAnyH_take (i := 9) (oi := { dst := some 23, op := _, type := _, pos := _, after := _, guard := _ }) (v := .int .i64 (k : Int)) rfl (by kernel_rfl) (by kernel_rfl) (by kernel_rfl) (fun _ _ _ h => h) (Or.inl ⟨by rfl, ?_⟩) (by assumption) ?_
        · intro w9 hSw
          exact y_move rfl rfl
        simp only [Act.put, List.setIfInBounds_toArray, List.set_cons_zero, List.set_cons_succ]
        refine wpAnyH_take (i := 10) (oi := { dst := some 24, op := _, type := _, pos := _, after := _, guard := _ }) (v := .pointer (some ⟨w.heap.size, k, none⟩)) rfl (by kernel_rfl) (by kernel_rfl) (by kernel_rfl) (fun _ _ _ h => h) (Or.inl ⟨by rfl, ?_⟩) (by assumption) ?_
        · intro w9 hSw
          exact y_index rfl rfl rfl (run_indexAt_vec _ _ k hk16)
        simp only [Act.put, List.setIfInBounds_toArray, List.set_cons_zero, List.set_cons_succ]
        refine wpAnyH_take (i := 11) (oi := { dst := some 25, op := _, type := _, pos := _, after := _, guard := _ }) (v := .int .i64 y) rfl (by kernel_rfl) (by kernel_rfl) (by kernel_rfl) (fun _ _ _ h => h) (Or.inl ⟨by rfl, ?_⟩) (by assumption) ?_
        · intro w9 hSw
          exact y_load rfl rfl (load_int_run hSw.2.2)
        simp only [Act.put, List.setIfInBounds_toArray, List.set_cons_zero, List.set_cons_succ]
        refine wpAnyH_take (i := 12) (oi := { dst := some 26, op := _, type := _, pos := _, after := _, guard := _ }) (v := .bool true) rfl (by kernel_rfl) (by kernel_rfl) (by kernel_rfl) (fun _ _ _ h => h) (Or.inl ⟨by rfl, ?_⟩) (by assumption) ?_
        · intro w9 hSw
          exact y_bin rfl rfl rfl (eqGuard_int _) (gtr_yes _ (by omega))
        simp only [Act.put, List.setIfInBounds_toArray, List.set_cons_zero, List.set_cons_succ]
        refine wpAnyH_done (by kernel_rfl) ?_ _
        refine NoPanic.normal ?_
        clear hHeld
        have hb4 := build_vv0 wr.drew
        have hZ := HZ.out
        clear hSd
        go_wp2_with (first
          | (refine wpList_b0 (ty := 24) (v := .agg (vals zeros)) rfl rfl hb4 ?_)
          | (refine wpList_storeR (ty := 24) (x := .tmp 4) (y := .tmp 27) (ad := ⟨w.heap.size + 1, 0, none⟩) (v := .agg (vals zeros)) rfl rfl rfl rfl (store_run hZ rfl rfl) ?_))
        exact ret_vec rfl rfl rfl (hZ.row _) rfl ⟨by rw [Hn.out hxy], below_setRow HB.out (by omega) _⟩
      · go_wp2_with fail
        refine wp_region_noPanic ?_
        refine wp_region_held_drew (S := fun W' : World => W'.cell? ⟨g, 0, none⟩ = some (.slice (some ⟨b, 0, none⟩) n n) ∧ W'.cell? ⟨b, 0 + k * 16 + k, none⟩ = some (.int .i64 x) ∧ W'.cell? ⟨w.heap.size, k, none⟩ = some (.int .i64 y)) (by kernel_rfl) hSd (fun hHeld => ?_)
        refine wpAnyH_take (i := 0) (oi := { dst := some 14, op := _, type := _, pos := _, after := _, guard := _ }) (v := .pointer (some ⟨g, 0, none⟩)) rfl (by kernel_rfl) (by kernel_rfl) (by kernel_rfl) (fun _ _ _ h => h) (Or.inl ⟨by rfl, ?_⟩) (by assumption) ?_
        · intro w9 hSw
          exact y_move rfl rfl
        simp only [Act.put, List.setIfInBounds_toArray, List.set_cons_zero, List.set_cons_succ]
        refine wpAnyH_take (i := 1) (oi := { dst := some 15, op := _, type := _, pos := _, after := _, guard := _ }) (v := .pointer (some ⟨g, 0, none⟩)) rfl (by kernel_rfl) (by kernel_rfl) (by kernel_rfl) (fun _ _ _ h => h) (Or.inl ⟨by rfl, ?_⟩) (by assumption) ?_
        · intro w9 hSw
          exact y_nil rfl rfl
        simp only [Act.put, List.setIfInBounds_toArray, List.set_cons_zero, List.set_cons_succ]
        refine wpAnyH_take (i := 2) (oi := { dst := some 16, op := _, type := _, pos := _, after := _, guard := _ }) (v := .pointer (some ⟨g, 0, none⟩)) rfl (by kernel_rfl) (by kernel_rfl) (by kernel_rfl) (fun _ _ _ h => h) (Or.inl ⟨by rfl, ?_⟩) (by assumption) ?_
        · intro w9 hSw
          exact y_field rfl rfl (field_rm _ _)
        simp only [Act.put, List.setIfInBounds_toArray, List.set_cons_zero, List.set_cons_succ]
        refine wpAnyH_take (i := 3) (oi := { dst := some 17, op := _, type := _, pos := _, after := _, guard := _ }) (v := .slice (some ⟨b, 0, none⟩) n n) rfl (by kernel_rfl) (by kernel_rfl) (by kernel_rfl) (fun _ _ _ h => h) (Or.inl ⟨by rfl, ?_⟩) (by assumption) ?_
        · intro w9 hSw
          exact y_load rfl rfl (load_sl hSw.1)
        simp only [Act.put, List.setIfInBounds_toArray, List.set_cons_zero, List.set_cons_succ]
        refine wpAnyH_take (i := 4) (oi := { dst := some 18, op := _, type := _, pos := _, after := _, guard := _ }) (v := .int .i64 (k : Int)) rfl (by kernel_rfl) (by kernel_rfl) (by kernel_rfl) (fun _ _ _ h => h) (Or.inl ⟨by rfl, ?_⟩) (by assumption) ?_
        · intro w9 hSw
          exact y_move rfl rfl
        simp only [Act.put, List.setIfInBounds_toArray, List.set_cons_zero, List.set_cons_succ]
        refine wpAnyH_take (i := 5) (oi := { dst := some 19, op := _, type := _, pos := _, after := _, guard := _ }) (v := .int .i64 (k : Int)) rfl (by kernel_rfl) (by kernel_rfl) (by kernel_rfl) (fun _ _ _ h => h) (Or.inl ⟨by rfl, ?_⟩) (by assumption) ?_
        · intro w9 hSw
          exact y_move rfl rfl
        simp only [Act.put, List.setIfInBounds_toArray, List.set_cons_zero, List.set_cons_succ]
        refine wpAnyH_take (i := 6) (oi := { dst := some 20, op := _, type := _, pos := _, after := _, guard := _ }) (v := .pointer (some ⟨b, 0 + k * 16, none⟩)) rfl (by kernel_rfl) (by kernel_rfl) (by kernel_rfl) (fun _ _ _ h => h) (Or.inl ⟨by rfl, ?_⟩) (by assumption) ?_
        · intro w9 hSw
          exact y_index rfl rfl rfl (run_indexAt_vvs _ _ _ _ k hkn)
        simp only [Act.put, List.setIfInBounds_toArray, List.set_cons_zero, List.set_cons_succ]
        refine wpAnyH_take (i := 7) (oi := { dst := some 21, op := _, type := _, pos := _, after := _, guard := _ }) (v := .pointer (some ⟨b, 0 + k * 16 + k, none⟩)) rfl (by kernel_rfl) (by kernel_rfl) (by kernel_rfl) (fun _ _ _ h => h) (Or.inl ⟨by rfl, ?_⟩) (by assumption) ?_
        · intro w9 hSw
          exact y_index rfl rfl rfl (run_indexAt_vo _ _ _ k hk16)
        simp only [Act.put, List.setIfInBounds_toArray, List.set_cons_zero, List.set_cons_succ]
        refine wpAnyH_take (i := 8) (oi := { dst := some 22, op := _, type := _, pos := _, after := _, guard := _ }) (v := .int .i64 x) rfl (by kernel_rfl) (by kernel_rfl) (by kernel_rfl) (fun _ _ _ h => h) (Or.inl ⟨by rfl, ?_⟩) (by assumption) ?_
        · intro w9 hSw
          exact y_load rfl rfl (load_int_run hSw.2.1)
        simp only [Act.put, List.setIfInBounds_toArray, List.set_cons_zero, List.set_cons_succ]
        refine wpAnyH_take (i := 9) (oi := { dst := some 23, op := _, type := _, pos := _, after := _, guard := _ }) (v := .int .i64 (k : Int)) rfl (by kernel_rfl) (by kernel_rfl) (by kernel_rfl) (fun _ _ _ h => h) (Or.inl ⟨by rfl, ?_⟩) (by assumption) ?_
        · intro w9 hSw
          exact y_move rfl rfl
        simp only [Act.put, List.setIfInBounds_toArray, List.set_cons_zero, List.set_cons_succ]
        refine wpAnyH_take (i := 10) (oi := { dst := some 24, op := _, type := _, pos := _, after := _, guard := _ }) (v := .pointer (some ⟨w.heap.size, k, none⟩)) rfl (by kernel_rfl) (by kernel_rfl) (by kernel_rfl) (fun _ _ _ h => h) (Or.inl ⟨by rfl, ?_⟩) (by assumption) ?_
        · intro w9 hSw
          exact y_index rfl rfl rfl (run_indexAt_vec _ _ k hk16)
        simp only [Act.put, List.setIfInBounds_toArray, List.set_cons_zero, List.set_cons_succ]
        refine wpAnyH_take (i := 11) (oi := { dst := some 25, op := _, type := _, pos := _, after := _, guard := _ }) (v := .int .i64 y) rfl (by kernel_rfl) (by kernel_rfl) (by kernel_rfl) (fun _ _ _ h => h) (Or.inl ⟨by rfl, ?_⟩) (by assumption) ?_
        · intro w9 hSw
          exact y_load rfl rfl (load_int_run hSw.2.2)
        simp only [Act.put, List.setIfInBounds_toArray, List.set_cons_zero, List.set_cons_succ]
        refine wpAnyH_take (i := 12) (oi := { dst := some 26, op := _, type := _, pos := _, after := _, guard := _ }) (v := .bool false) rfl (by kernel_rfl) (by kernel_rfl) (by kernel_rfl) (fun _ _ _ h => h) (Or.inl ⟨by rfl, ?_⟩) (by assumption) ?_
        · intro w9 hSw
          exact y_bin rfl rfl rfl (eqGuard_int _) (gtr_no _ (by omega))
        simp only [Act.put, List.setIfInBounds_toArray, List.set_cons_zero, List.set_cons_succ]
        refine wpAnyH_done (by kernel_rfl) ?_ _
        refine NoPanic.normal ?_
        clear hHeld
        clear hSd
        go_wp2
        go_roundw
        case rel => exact ⟨k + 1, by omega, by go_num, Hs.out (by omega), HA.out, HZ.out, HM.out, HB.out⟩
        case measure => simp [intOf]; omega
    · obtain rfl : k = n := by omega
      have hT := rmstab_any g b k R wr hM hn
      have hl16 := metE_len (n := k) hlen
      have He : Hid (cutE k R s = metE k R) := by show _ = _; rw [cutE, HW.out]; rfl
      have HB : Hid (Below w.heap.size w wr) := hB
      clear hM hB HW hA
      generalize metE k R = M at *
      go_wp2_with fail
      refine Calls.mono hT ?_
      rintro e w4 ⟨rfl, hb4⟩
      have hZ4 := hZ.below hb4 hZ.lt
      have HB4 : Hid (Below w.heap.size w w4) := HB.out.trans (hb4.mono HB.out.size)
      clear hZ hb4 HB hT
      go_wp2_with (refine wpList_storeR (ty := 24) (x := .tmp 4) (y := .tmp 30) (ad := ⟨w.heap.size + 1, 0, none⟩) (v := .agg (vals M)) rfl rfl rfl rfl (store_run hZ4 hl16 rfl) ?_)
      exact ret_vec rfl rfl rfl (hZ4.row _) hl16 ⟨by rw [He.out], below_setRow HB4.out (by omega) _⟩
end Go.Proofs.Ytcndgbepdgjkeaa
