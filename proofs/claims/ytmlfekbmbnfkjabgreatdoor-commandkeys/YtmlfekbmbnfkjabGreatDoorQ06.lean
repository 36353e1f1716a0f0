/-
  What greatest, seenByAim and isEnded come to.
-/
import Derived.Test.YtmlfekbmbnfkjabGreatDoorQ05
import Derived.Deep.LoopGhost
import Derived.Deep.RegionHeld3
import Derived.BigQuiet
import Derived.Test.YtmlfekbmbnfkjabGreatDoorQ01
import Derived.Shelf.SlSortCmp.KitK
import Derived.Deep.Cut
namespace Go.Proofs.YtmlfekbmbnfkjabGreatDoor
set_option maxRecDepth 100000
set_option maxRecDepth 100000
open Go.RowKit
open Go.ChangeMaps (setBlock heap_setBlock_same heap_setBlock_other)

/-- The greater one of each number. -/
def gq (k : Nat) (v u : List Int) : List Int := (List.range 16).map fun i => if i < k then max (v.getD i 0) (u.getD i 0) else v.getD i 0
def gv (v u : List Int) : List Int := gq 16 v u
theorem gq_len (k : Nat) (v u : List Int) : (gq k v u).length = 16 := by simp [gq]
theorem gv_len (v u : List Int) : (gv v u).length = 16 := gq_len _ _ _
theorem gq_get (k : Nat) (v u : List Int) (i : Nat) (hi : i < 16) : (gq k v u).getD i 0 = if i < k then max (v.getD i 0) (u.getD i 0) else v.getD i 0 := by
  simp [gq, List.getD, hi]
theorem gq_zero (v u : List Int) (hv : v.length = 16) : gq 0 v u = v := vec_ext _ _ (gq_len _ _ _) hv (fun i hi => by rw [gq_get 0 v u i hi, if_neg (by omega)])
theorem gq_succ (k : Nat) (v u : List Int) (hk : k < 16) : (gq k v u).set k (max (v.getD k 0) (u.getD k 0)) = gq (k + 1) v u := by
  refine vec_ext _ _ (by rw [List.length_set, gq_len]) (gq_len _ _ _) (fun i hi => ?_)
  rw [gq_get _ _ _ _ hi]
  by_cases h : i = k
  · subst h
    rw [if_pos (by omega)]
    simp [List.getD, gq_len, hk]
  · have e : ((gq k v u).set k (max (v.getD k 0) (u.getD k 0))).getD i 0 = (gq k v u).getD i 0 := by
      simp [List.getD, List.getElem?_set_ne (fun e => h (Eq.symm e))]
    rw [e, gq_get _ _ _ _ hi]
    by_cases h2 : i < k
    · rw [if_pos h2, if_pos (by omega)]
    · rw [if_neg h2, if_neg (by omega)]
theorem hasv_gv (v u : List Int) (r n : Int) : hasv (gv v u) r n = (hasv v r n || hasv u r n) := by
  unfold hasv
  cases hk : okdot r n
  · rfl
  · obtain ⟨h0, h1, -, -⟩ := of_decide_eq_true hk
    have h16 : r.toNat < 16 := by omega
    rw [gv, gq_get _ _ _ _ h16, if_pos h16]
    simp only [Bool.true_and]
    rw [Bool.eq_iff_iff]
    simp only [Bool.or_eq_true, decide_eq_true_eq]
    omega
theorem hasv_zeros (r n : Int) : hasv zeros r n = false := by
  unfold hasv
  cases hk : okdot r n
  · rfl
  · obtain ⟨h0, h1, h2, -⟩ := of_decide_eq_true hk
    have : zeros.getD r.toNat 0 = 0 := by
      unfold zeros
      simp only [List.getD, List.getElem?_replicate]
      split <;> rfl
    rw [this]
    simp only [Bool.true_and, decide_eq_false_iff_not]
    omega
/-- What the events with an aim had seen together. -/
def seen1 (F : Aim → List Int) (e : Ev) : Aim → List Int := if (aimP e).2 then fun y => if (aimP e).1 = y then gv (F (aimP e).1) e.deps else F y else F
def seenF (l : List Ev) : Aim → List Int := l.foldl seen1 (fun _ => zeros)
theorem seen_snoc (l : List Ev) (e : Ev) : seenF (l ++ [e]) = seen1 (seenF l) e := by simp [seenF]
theorem fold_has : ∀ (l : List Ev) (F : Aim → List Int) (x : Aim) (r n : Int), hasv (l.foldl seen1 F x) r n = (hasv (F x) r n || l.any fun b => (aimP b).2 && (decide ((aimP b).1 = x) && hasv b.deps r n))
  | [], F, x, r, n => by simp
  | e :: l, F, x, r, n => by
    rw [List.foldl_cons, fold_has l, List.any_cons, ← Bool.or_assoc]
    congr 1
    unfold seen1
    cases (aimP e).2
    · simp
    · by_cases hx : (aimP e).1 = x
      · simp only [if_true]
        rw [if_pos hx, hasv_gv, hx]
        simp
      · simp only [if_true]
        rw [if_neg hx]
        simp [hx]
theorem seen_has (l : List Ev) (x : Aim) (r n : Int) : hasv (seenF l x) r n = l.any fun b => (aimP b).2 && (decide ((aimP b).1 = x) && hasv b.deps r n) := by
  rw [seenF, fold_has, hasv_zeros, Bool.false_or]
theorem ended_is (l : List Ev) (a : Ev) (h : addsE a.kind = true) : (hasv (seenF l (wholeE a.key)) a.r a.n || hasv (seenF l (aimAtE a)) a.r a.n) = l.any fun b => endsE b a := by
  rw [seen_has, seen_has, Bool.eq_iff_iff, Bool.or_eq_true, List.any_eq_true, List.any_eq_true, List.any_eq_true]
  constructor
  · rintro (⟨b, hb, h1⟩ | ⟨b, hb, h1⟩)
    · refine ⟨b, hb, ?_⟩
      rw [← ends_aim b a h]
      simp only [Bool.and_eq_true, decide_eq_true_eq] at h1
      unfold meets coversE
      simp [h1]
    · refine ⟨b, hb, ?_⟩
      rw [← ends_aim b a h]
      simp only [Bool.and_eq_true, decide_eq_true_eq] at h1
      unfold meets coversE
      simp [h1]
  · rintro ⟨b, hb, h1⟩
    rw [← ends_aim b a h] at h1
    unfold meets coversE at h1
    simp only [Bool.and_eq_true, Bool.or_eq_true, decide_eq_true_eq] at h1
    obtain ⟨h2, h3, h4 | h4⟩ := h1
    · exact .inl ⟨b, hb, by simp [h2, h3, h4]⟩
    · exact .inr ⟨b, hb, by simp [h2, h3, h4]⟩

set_option maxHeartbeats 1000000 in
theorem greatest_any (v u : List Int) (hv : v.length = 16) (hu : u.length = 16) (w : World) : Calls Tryz.prog 166 #[.agg (vals v), .agg (vals u)] w fun e w' => e = .returned (.agg (vals (gv v u))) ∧ Below w.heap.size w w' := by
  obtain ⟨W, hW⟩ : ∃ W, ((w.alloc (.cells (vals v) 41)).alloc (.cells (vals u) 41)).alloc (.cells (vals zeros) 41) = W := ⟨_, rfl⟩
  have h1 : Lies W w.heap.size v := by rw [← hW]; exact ((lies_new w v).alloc _).alloc _
  have h2 : Lies W (w.heap.size + 1) u := by
    rw [← hW]
    have := (lies_new (w.alloc (.cells (vals v) 41)) u).alloc (.cells (vals zeros) 41)
    simpa using this
  have h3 : Lies W (w.heap.size + 1 + 1) zeros := by
    rw [← hW]
    have := lies_new ((w.alloc (.cells (vals v) 41)).alloc (.cells (vals u) 41)) zeros
    simpa using this
  have hB : Below w.heap.size w W := by rw [← hW]; exact (((Below.refl _ _).alloc (Nat.le_refl _) _).alloc (by simp) _).alloc (by simp; omega) _
  rw [zeros_vals] at hW
  have HS : Aside (Lies W w.heap.size (gq 0 v u) ∧ Lies W (w.heap.size + 1 + 1) zeros ∧ Below w.heap.size w W) := ⟨by rw [gq_zero v u hv]; exact h1, h3, hB⟩
  clear h1 h3 hB
  go_enter Tryz.func166, Tryz.ntmps166
  go_wp2_with (refine load_vec_w rfl rfl rfl h2 hu ?_)
  clear h2 hW
  go_loopg [8] 16 (fun kx s8 wr => ∃ k : Nat, s8 = .int .i64 k ∧ k ≤ 16 ∧ 16 - k ≤ kx ∧ Aside (Lies wr w.heap.size (gq k v u) ∧ Lies wr (w.heap.size + 1 + 1) zeros ∧ Below w.heap.size w wr))
  case atStart => exact ⟨0, rfl, by omega, by omega, HS⟩
  case round =>
    clear HS
    obtain ⟨k, rfl, hk, hkx, HS⟩ := hrel
    by_cases hlt : k < 16
    · have hltz : (k : Int) < 16 := by omega
      have hix := fun W => run_index_vec W u k hu hlt
      have had := fun W => run_indexAt_vec W w.heap.size k hlt
      have hc := HS.out.1.cell (k := k) (by rw [gq_len]; exact hlt)
      have hf := HS.out.1.frozen (k := k)
      rw [gq_get _ _ _ _ hlt, if_neg (by omega)] at hc
      obtain ⟨x, hx⟩ : ∃ x, v.getD k 0 = x := ⟨_, rfl⟩
      obtain ⟨y, hy⟩ : ∃ y, u.getD k 0 = y := ⟨_, rfl⟩
      rw [hx] at hc
      have hix2 : ∀ W, (Instr.index 41 (.agg (vals u)) (.int .i64 (k : Int))).run Tryz.prog W = .ok (.int .i64 y) W := fun W => by rw [hix, hy]
      have HS2 : Aside (Lies (wr.setCell ⟨w.heap.size, k, none⟩ (.int .i64 (max x y))) w.heap.size (gq (k + 1) v u) ∧ Lies (wr.setCell ⟨w.heap.size, k, none⟩ (.int .i64 (max x y))) (w.heap.size + 1 + 1) zeros ∧ Below w.heap.size w (wr.setCell ⟨w.heap.size, k, none⟩ (.int .i64 (max x y)))) :=
        ⟨by rw [← gq_succ k v u hlt, hx, hy]; exact HS.out.1.set _, HS.out.2.1.other _ (by show w.heap.size + 1 + 1 ≠ w.heap.size; omega), HS.out.2.2.setCell (show w.heap.size ≤ w.heap.size from Nat.le_refl _) _⟩
      clear hix hx hy HS
      go_wp2
      go_roundg (16 - (k + 1))
      case measure => omega
      case rel => exact ⟨k + 1, by go_num, by omega, Nat.le_refl _, HS2⟩
    · obtain rfl : k = 16 := by omega
      obtain ⟨L1, L3, LB⟩ := HS.out
      have LR := L3.row (gv v u)
      have HB : Hid (Below w.heap.size w (wr.setRow (w.heap.size + 1 + 1) (vals (gv v u)))) := below_setRow LB (by omega) _
      clear HS LB
      go_wp2_with (first | refine load_vec_w rfl rfl rfl L1 (gq_len _ _ _) ?_ | refine store_vec (l := gv v u) (m := zeros) rfl rfl rfl rfl L3 (gv_len _ _) rfl ?_)
      refine ret_vec rfl rfl rfl LR (gv_len _ _) ?_
      exact ⟨rfl, HB.out⟩

theorem take_snoc {E : List Ev} {i : Nat} {u : Ev} (h : E[i]? = some u) : E.take (i + 1) = E.take i ++ [u] := by
  rw [List.take_add_one, h]; rfl
set_option maxHeartbeats 2000000 in
theorem seenby_any (ao : Option Addr) (m c : Nat) (E : List Ev) (w : World) (hE : Evs w ao m c E) (hm : m ≤ 1048576) :
    Calls Tryz.prog 130 #[.slice ao m c] w fun e w' => e = .returned (.map (some w.heap.size)) ∧ Mpa w' w.heap.size (seenF E) ∧ Below w.heap.size w w' := by
  have H0 : Aside (Mpa (w.alloc (.map #[] 0)) w.heap.size (seenF (E.take 0)) ∧ Below w.heap.size w (w.alloc (.map #[] 0))) := ⟨mpa_new w, (Below.refl _ _).alloc (Nat.le_refl _) _⟩
  have HE : Aside (Evs w ao m c E) := hE
  have hlen := hE.len
  have hmm := @run_makeMap Tryz.prog
  clear hE
  go_enter Tryz.func130, Tryz.ntmps130
  go_wp2
  go_loopg [11] m (fun kx s11 wr => ∃ i : Nat, s11 = .int .i64 i ∧ i ≤ m ∧ m - i ≤ kx ∧ Aside (Mpa wr w.heap.size (seenF (E.take i)) ∧ Below w.heap.size w wr))
  case atStart => exact ⟨0, rfl, Nat.zero_le _, by omega, H0⟩
  case round =>
    clear H0
    obtain ⟨i, rfl, him, hkx, HS⟩ := hrel
    by_cases hlt : i < m
    · have hltz : (i : Int) < (m : Int) := by omega
      obtain ⟨b, off, u, rfl, hui, hu, hr, hbl⟩ := (HE.out.below HS.out.2 (Nat.le_refl _)).at hlt
      have hu16 := hu.1
      have hix := fun W : World => index_ev W (b := b) (off := off) (k := i) (m := m) (c := c) hlt
      have hsz : w.heap.size < wr.heap.size := HS.out.1.lt
      have hz := liesE_new wr zv
      have hE1 : LiesE ((wr.alloc (.cells (evc zv) 47)).setRow wr.heap.size (evc u)) wr.heap.size u := hz.row u
      have hB1 : Below wr.heap.size wr ((wr.alloc (.cells (evc zv) 47)).setRow wr.heap.size (evc u)) := below_setRow ((Below.refl _ _).alloc (Nat.le_refl _) _) (Nat.le_refl _) _
      have HB1 : Hid (Below wr.heap.size wr ((wr.alloc (.cells (evc zv) 47)).setRow wr.heap.size (evc u))) := hB1
      have hop := hE1.op hu16
      clear hB1
      go_wp2_with (first | refine load_ev_mid rfl rfl rfl hr hu16 ?_ | refine store_ev rfl rfl rfl rfl hz hu16 rfl ?_ | refine load_op_at rfl rfl rfl hop ?_)
      refine (aimof_any u _).mono ?_
      rintro e w2 ⟨rfl, hb2⟩
      have hE2 : LiesE w2 wr.heap.size u := hE1.below hb2 (by simp [World.setRow])
      have hBw2 : Below wr.heap.size wr w2 := HB1.out.trans (hb2.mono (by simp [World.setRow]))
      have hs2 : wr.heap.size < w2.heap.size := hE2.lt
      have hM0 := liesM_new w2 zaim
      have hM1 := hM0.row (aimP u).1
      have hE3 : LiesE ((w2.alloc (.cells (amc zaim) 127)).setRow w2.heap.size (amc (aimP u).1)) wr.heap.size u := (hE2.alloc _).rowOther _ (by omega)
      have hB3 : Below wr.heap.size wr ((w2.alloc (.cells (amc zaim) 127)).setRow w2.heap.size (amc (aimP u).1)) := below_setRow (hBw2.alloc (by omega) _) (by omega) _
      have HM3 : Aside (Mpa ((w2.alloc (.cells (amc zaim) 127)).setRow w2.heap.size (amc (aimP u).1)) w.heap.size (seenF (E.take i)) ∧ Below w.heap.size w ((w2.alloc (.cells (amc zaim) 127)).setRow w2.heap.size (amc (aimP u).1)) ∧ LiesM ((w2.alloc (.cells (amc zaim) 127)).setRow w2.heap.size (amc (aimP u).1)) w2.heap.size (aimP u).1 ∧ LiesE ((w2.alloc (.cells (amc zaim) 127)).setRow w2.heap.size (amc (aimP u).1)) wr.heap.size u) :=
        ⟨HS.out.1.below hB3 hsz, HS.out.2.trans (hB3.mono (by omega)), hM1, hE3⟩
      clear hE1 hz hop hr hb2 hBw2 hE2 hM1 hE3 hB3 HB1 hix
      go_upto_if 21 with (first | refine store_am (x := (aimP u).1) rfl rfl rfl rfl hM0 ?_)
      change Code.wp _ _ _ _ ((w2.alloc (.cells (amc zaim) 127)).setRow w2.heap.size (amc (aimP u).1))
      generalize (w2.alloc (.cells (amc zaim) 127)).setRow w2.heap.size (amc (aimP u).1) = W at HM3 ⊢
      clear hM0
      have hGb : w.heap.size ≠ w2.heap.size := by omega
      have hDb : w.heap.size ≠ wr.heap.size := by omega
      generalize w2.heap.size = G at *
      generalize wr.heap.size = D at *
      have hsn : Hid (seenF (E.take (i + 1)) = seen1 (seenF (E.take i)) u) := by show _ = _; rw [take_snoc hui, seen_snoc]
      rcases Bool.eq_false_or_eq_true (aimP u).2 with hok | hok
      · obtain ⟨hMap, hBel, hM, hE⟩ := HM3.out
        have hseen : Hid (seenF (E.take (i + 1)) = fun y => if (aimP u).1 = y then gv (seenF (E.take i) (aimP u).1) u.deps else seenF (E.take i) y) := by
          show _ = _
          rw [hsn.out, seen1, hok]
          rfl
        have HBel : Hid (Below w.heap.size w W) := hBel
        clear HM3 hBel HS hsn
        rw [hok]
        go_wp2_with fail
        have hMapd : Mpa W.drew w.heap.size (seenF (E.take i)) := hMap.kept rfl
        refine wp_region_noPanic ?_
        refine wp_region_held_drew (S := fun W' : World => LiesM W' G (aimP u).1 ∧ LiesE W' D u) (by kernel_rfl) ⟨hM.drewN 1, hE.drewN 1⟩ (fun hHeld => ?_)
        refine wpAnyH_take (i := 0) (oi := { dst := some 22, op := _, type := _, pos := _, after := _, guard := _ }) (v := .map (some w.heap.size)) rfl (by kernel_rfl) (by kernel_rfl) (by kernel_rfl) (fun _ _ _ h => h) (Or.inl ⟨by rfl, ?_⟩) (by assumption) ?_
        · intro w9 hSw
          exact exec_move rfl rfl
        simp only [Act.put, List.setIfInBounds_toArray, List.set_cons_zero, List.set_cons_succ]
        refine wpAnyH_take (i := 1) (oi := { dst := some 23, op := _, type := _, pos := _, after := _, guard := _ }) (v := .agg (amc (aimP u).1)) rfl (by kernel_rfl) (by kernel_rfl) (by kernel_rfl) (fun _ _ _ h => h) (Or.inl ⟨by rfl, ?_⟩) (by assumption) ?_
        · intro w9 hSw
          exact exec_load (ad := ⟨G, 0, none⟩) rfl rfl (load_amr hSw.1)
        simp only [Act.put, List.setIfInBounds_toArray, List.set_cons_zero, List.set_cons_succ]
        refine wpAnyH_take (i := 2) (oi := { dst := some 24, op := _, type := _, pos := _, after := _, guard := _ }) (v := .map (some w.heap.size)) rfl (by kernel_rfl) (by kernel_rfl) (by kernel_rfl) (fun _ _ _ h => h) (Or.inl ⟨by rfl, ?_⟩) (by assumption) ?_
        · intro w9 hSw
          exact exec_move rfl rfl
        simp only [Act.put, List.setIfInBounds_toArray, List.set_cons_zero, List.set_cons_succ]
        refine wpAnyH_take (i := 3) (oi := { dst := some 25, op := _, type := _, pos := _, after := _, guard := _ }) (v := .agg (amc (aimP u).1)) rfl (by kernel_rfl) (by kernel_rfl) (by kernel_rfl) (fun _ _ _ h => h) (Or.inl ⟨by rfl, ?_⟩) (by assumption) ?_
        · intro w9 hSw
          exact exec_load (ad := ⟨G, 0, none⟩) rfl rfl (load_amr hSw.1)
        simp only [Act.put, List.setIfInBounds_toArray, List.set_cons_zero, List.set_cons_succ]
        refine wpAnyH_take (i := 5) (oi := { dst := some 27, op := _, type := _, pos := _, after := _, guard := _ }) (v := .pointer (some ⟨D, 0 + 3, none⟩)) rfl (by kernel_rfl) (by kernel_rfl) (by kernel_rfl) (fun _ _ _ h => h) (Or.inl ⟨by rfl, ?_⟩) (by assumption) ?_
        · intro w9 hSw
          exact exec_field rfl rfl (fun w => field_e2 w _ _)
        simp only [Act.put, List.setIfInBounds_toArray, List.set_cons_zero, List.set_cons_succ]
        refine wpAnyH_take (i := 6) (oi := { dst := some 28, op := _, type := _, pos := _, after := _, guard := _ }) (v := .agg (vals u.deps)) rfl (by kernel_rfl) (by kernel_rfl) (by kernel_rfl) (fun _ _ _ h => h) (Or.inl ⟨by rfl, ?_⟩) (by assumption) ?_
        · intro w9 hSw
          exact exec_load (ad := ⟨D, 0 + 3, none⟩) rfl rfl (load_dp hSw.2 hu16)
        simp only [Act.put, List.setIfInBounds_toArray, List.set_cons_zero, List.set_cons_succ]
        clear hHeld
        refine wpAnyH_ready (rs := [4]) (by kernel_rfl) (by simp) ?_
        refine AllReadyH.cons (o := { dst := some 26, op := _, type := _, pos := _, after := _, guard := _ }) rfl (fun K hK => ?_) AllReadyH.nil
        rw [if_pos (by rfl)]
        refine wp_look rfl rfl rfl (hMapd.lookup (aimP u).1) ?_
        refine hK.out _ _ ⟨hM.drewN 1, hE.drewN 1⟩ (fun hHeld => ?_)
        clear hK K
        simp only [Act.put, List.setIfInBounds_toArray, List.set_cons_zero, List.set_cons_succ]
        clear hHeld
        refine wpAnyH_ready (rs := [7]) (by kernel_rfl) (by simp) ?_
        refine AllReadyH.cons (o := { dst := some 29, op := _, type := _, pos := _, after := _, guard := _ }) rfl (fun K hK => ?_) AllReadyH.nil
        rw [if_pos (by rfl)]
        refine wp_callL (xs := [.tmp 26, .tmp 28]) (vs := [.agg (vals (seenF (E.take i) (aimP u).1)), .agg (vals u.deps)]) rfl rfl (enters_greatest _ _) (greatest_any _ _ (hMapd.len _) hu16 _) ?_
        rintro e w5 ⟨rfl, hb5⟩
        refine ⟨_, rfl, ?_⟩
        have hM5 := (hM.drewN 1).below hb5 hM.lt
        have hE5 := (hE.drewN 1).below hb5 hE.lt
        have hMap5 := hMapd.below hb5 hMapd.lt
        obtain ⟨o, ho⟩ := hMap5.update (aimP u).1 (gv (seenF (E.take i) (aimP u).1) u.deps) (gv_len _ _)
        obtain ⟨ho1, ho2⟩ := ho _ rfl
        refine hK.out _ _ ⟨hM5, hE5⟩ (fun hHeld => ?_)
        clear hK K
        simp only [Act.put, List.setIfInBounds_toArray, List.set_cons_zero, List.set_cons_succ]
        clear hHeld
        refine wpAnyH_ready (rs := [8]) (by kernel_rfl) (by simp) ?_
        refine AllReadyH.cons (o := { dst := none, op := _, type := _, pos := _, after := _, guard := _ }) rfl (fun K hK => ?_) AllReadyH.nil
        rw [if_pos (by rfl)]
        refine wp_mapu rfl rfl rfl rfl ho1 ?_
        refine hK.out _ _ ⟨hM5.block o hGb, hE5.block o hDb⟩ (fun hHeld => ?_)
        clear hK K
        simp only [Act.put]
        refine wpAnyH_done (by kernel_rfl) ?_ _
        refine NoPanic.normal ?_
        clear hHeld
        have HS4 : Aside (Mpa (setBlock w5 w.heap.size o) w.heap.size (seenF (E.take (i + 1))) ∧ Below w.heap.size w (setBlock w5 w.heap.size o)) := by
          refine ⟨by rw [hseen.out]; exact ho2, ?_⟩
          exact ((HBel.out.drew).trans (hb5.mono HBel.out.size)).trans ⟨rfl, rfl, rfl, by simp [setBlock], fun k hk => by simp [setBlock, show w.heap.size ≠ k by omega]⟩
        clear ho1 ho2 hMap5 hE5 hM5 hMapd hMap hM hE hb5
        generalize setBlock w5 w.heap.size o = w6 at HS4 ⊢
        go_wp2
        go_roundg (m - (i + 1))
        case measure => omega
        case rel => exact ⟨i + 1, by go_num, by omega, Nat.le_refl _, HS4⟩
      · have HS4 : Aside (Mpa W w.heap.size (seenF (E.take (i + 1))) ∧ Below w.heap.size w W) := ⟨by rw [hsn.out, seen1, hok]; exact HM3.out.1, HM3.out.2.1⟩
        clear HM3 HS hsn
        rw [hok]
        go_wp2
        go_roundg (m - (i + 1))
        case measure => omega
        case rel => exact ⟨i + 1, by go_num, by omega, Nat.le_refl _, HS4⟩
    · obtain rfl : i = m := by omega
      have HR : Hid (Mpa wr w.heap.size (seenF E) ∧ Below w.heap.size w wr) := by
        have := HS.out
        rw [List.take_of_length_le (by omega)] at this
        exact this
      clear HS
      go_wp2
      go_ret
      exact ⟨rfl, HR.out⟩

set_option maxHeartbeats 1000000 in
theorem ended_any (u : Ev) (hl : u.deps.length = 16) (b : Nat) (F : Aim → List Int) (w : World) (hm : Mpa w b F) :
    Calls Tryz.prog 131 #[.agg (evc u), .map (some b)] w fun e w' => e = .returned (.bool (hasv (F (wholeE u.key)) u.r u.n || hasv (F (aimAtE u)) u.r u.n)) ∧ Below w.heap.size w w' := by
  have hE := liesE_new w u
  have hMap := hm.below ((Below.refl _ w).alloc (Nat.le_refl _) (.cells (evc u) 47)) hm.lt
  have HB : Hid (Below w.heap.size w (w.alloc (.cells (evc u) 47))) := (Below.refl _ w).alloc (Nat.le_refl _) _
  clear hm
  rcases Bool.eq_false_or_eq_true (hasv (F (wholeE u.key)) u.r u.n) with h1 | h1
  · go_enter Tryz.func131, Tryz.ntmps131
    go_wp2_with fail
    refine region_vals [5, 6, 7, 8, 9, 10, 11, 12, 13, 14, 15, 16, 17, 18, 19, 20, 4] [.map (some b), .pointer (some ⟨w.heap.size, 19, none⟩), .pointer (some ⟨w.heap.size, 20, none⟩), .string (sb u.key), .agg (amc (wholeE u.key)), .agg (vals (F (wholeE u.key))), .agg (evc u), .bool true, .bool true, undef, undef, undef, undef, undef, undef, .bool true, .bool true] _ (by kernel_rfl) (by kernel_rfl) (by rfl) (by decide) (by kernel_rfl) (by simp only [lay, Act.put, List.setIfInBounds_toArray, List.set_cons_zero, List.set_cons_succ, List.getD_cons_zero, List.getD_cons_succ, Nat.reduceAdd]; rfl) ⟨?_, ?_, ?_, ?_, ?_, ?_, ?_, ?_, ?_, ?_, ?_, ?_, ?_, ?_, ?_, ?_, ?_, trivial⟩ ?_
    · exact .inl ⟨rfl, fun W hb => yields_move rfl rfl⟩
    · exact .inl ⟨rfl, fun W hb => yields_field rfl rfl (field_e3 W _)⟩
    · exact .inl ⟨rfl, fun W hb => yields_field rfl rfl (field_p1 W _ 19)⟩
    · exact .inl ⟨rfl, fun W hb => yields_load rfl rfl (load_str_run ((hE.below hb hE.lt).c20 hl))⟩
    · exact .inl ⟨rfl, fun W hb => yields_call (vs := [.string (sb u.key)]) rfl rfl (enters_wholekey _ _) (whole_any _ W)⟩
    · exact .inl ⟨rfl, fun W hb => yields_lookup rfl rfl rfl ((hMap.below hb hMap.lt).lookup _)⟩
    · exact .inl ⟨rfl, fun W hb => yields_load rfl rfl (load_ev_run (hE.below hb hE.lt) hl)⟩
    · exact .inl ⟨rfl, fun W hb => yields_call (vs := [.agg (vals (F (wholeE u.key))), .agg (evc u)]) (v := .bool true) rfl rfl (enters_lcovers _ _) (okcall (lcovers_any _ _ (hMap.len _) hl W) h1)⟩
    · exact .inl ⟨rfl, fun W hb => yields_move rfl rfl⟩
    · exact .inr ⟨rfl, rfl⟩
    · exact .inr ⟨rfl, rfl⟩
    · exact .inr ⟨rfl, rfl⟩
    · exact .inr ⟨rfl, rfl⟩
    · exact .inr ⟨rfl, rfl⟩
    · exact .inr ⟨rfl, rfl⟩
    · exact .inl ⟨rfl, fun W hb => yields_pick (b := true) rfl rfl rfl⟩
    · exact .inl ⟨rfl, fun W hb => yields_assign rfl rfl⟩
    intro w2 hb2
    have HB2 : Hid (Below w.heap.size w w2) := HB.out.trans (hb2.mono HB.out.size)
    clear hE hMap hb2 HB
    go_wp2
    go_ret
    exact ⟨by rw [h1]; rfl, HB2.out⟩
  · go_enter Tryz.func131, Tryz.ntmps131
    go_wp2_with fail
    refine region_vals [5, 6, 7, 8, 9, 10, 11, 12, 13, 14, 15, 16, 17, 18, 19, 20, 4] [.map (some b), .pointer (some ⟨w.heap.size, 19, none⟩), .pointer (some ⟨w.heap.size, 20, none⟩), .string (sb u.key), .agg (amc (wholeE u.key)), .agg (vals (F (wholeE u.key))), .agg (evc u), .bool false, .bool false, .map (some b), .agg (evc u), .agg (amc (aimAtE u)), .agg (vals (F (aimAtE u))), .agg (evc u), .bool (hasv (F (aimAtE u)) u.r u.n), .bool (hasv (F (aimAtE u)) u.r u.n), .bool (hasv (F (aimAtE u)) u.r u.n)] _ (by kernel_rfl) (by kernel_rfl) (by rfl) (by decide) (by kernel_rfl) (by simp only [lay, Act.put, List.setIfInBounds_toArray, List.set_cons_zero, List.set_cons_succ, List.getD_cons_zero, List.getD_cons_succ, Nat.reduceAdd]; rfl) ⟨?_, ?_, ?_, ?_, ?_, ?_, ?_, ?_, ?_, ?_, ?_, ?_, ?_, ?_, ?_, ?_, ?_, trivial⟩ ?_
    · exact .inl ⟨rfl, fun W hb => yields_move rfl rfl⟩
    · exact .inl ⟨rfl, fun W hb => yields_field rfl rfl (field_e3 W _)⟩
    · exact .inl ⟨rfl, fun W hb => yields_field rfl rfl (field_p1 W _ 19)⟩
    · exact .inl ⟨rfl, fun W hb => yields_load rfl rfl (load_str_run ((hE.below hb hE.lt).c20 hl))⟩
    · exact .inl ⟨rfl, fun W hb => yields_call (vs := [.string (sb u.key)]) rfl rfl (enters_wholekey _ _) (whole_any _ W)⟩
    · exact .inl ⟨rfl, fun W hb => yields_lookup rfl rfl rfl ((hMap.below hb hMap.lt).lookup _)⟩
    · exact .inl ⟨rfl, fun W hb => yields_load rfl rfl (load_ev_run (hE.below hb hE.lt) hl)⟩
    · exact .inl ⟨rfl, fun W hb => yields_call (vs := [.agg (vals (F (wholeE u.key))), .agg (evc u)]) (v := .bool false) rfl rfl (enters_lcovers _ _) (okcall (lcovers_any _ _ (hMap.len _) hl W) h1)⟩
    · exact .inl ⟨rfl, fun W hb => yields_move rfl rfl⟩
    · exact .inl ⟨rfl, fun W hb => yields_move rfl rfl⟩
    · exact .inl ⟨rfl, fun W hb => yields_load rfl rfl (load_ev_run (hE.below hb hE.lt) hl)⟩
    · exact .inl ⟨rfl, fun W hb => yields_call (vs := [.agg (evc u)]) rfl rfl (enters_aimat _ _) (aimat_any _ hl W)⟩
    · exact .inl ⟨rfl, fun W hb => yields_lookup rfl rfl rfl ((hMap.below hb hMap.lt).lookup _)⟩
    · exact .inl ⟨rfl, fun W hb => yields_load rfl rfl (load_ev_run (hE.below hb hE.lt) hl)⟩
    · exact .inl ⟨rfl, fun W hb => yields_call (vs := [.agg (vals (F (aimAtE u))), .agg (evc u)]) (v := .bool (hasv (F (aimAtE u)) u.r u.n)) rfl rfl (enters_lcovers _ _) (lcovers_any _ _ (hMap.len _) hl W)⟩
    · exact .inl ⟨rfl, fun W hb => yields_pick (b := false) rfl rfl rfl⟩
    · exact .inl ⟨rfl, fun W hb => yields_assign rfl rfl⟩
    intro w2 hb2
    have HB2 : Hid (Below w.heap.size w w2) := HB.out.trans (hb2.mono HB.out.size)
    clear hE hMap hb2 HB
    go_wp2
    go_ret
    exact ⟨by rw [h1]; rfl, HB2.out⟩
end Go.Proofs.YtmlfekbmbnfkjabGreatDoor

/-
  What the stable sort's lowest functions come to: two pieces of one length change places; two pieces side by side do.
-/
namespace Go.Proofs.YtmlfekbmbnfkjabGreatDoor
set_option maxRecDepth 100000
open Go.Shelf Go.RowKit Go.Lib Go.Sort

/-- What is known of the program, its element of k cells. -/
structure StAt (P : Program) (k : Nat) : Prop where
  mixed : P.follows .mixedOrders = true
  fsw : P.funcs[272]? = some Tryz.f272
  fro : P.funcs[235]? = some Tryz.f235
  fsy : P.funcs[208]? = some Tryz.f208
  fst : P.funcs[168]? = some Tryz.f168
  fss : P.funcs[132]? = some Tryz.f132
  t0 : P.underlying 0 = some (TypeDesc.tuple #[])
  a0 : ∀ w, (isAgg 0).run P w = .ok false w
  z0 : ∀ w, (Go.sizeOf 0).run P w = .ok 1 w
  v0 : ∀ w, (zeroValue 0).run P w = .ok (Value.tuple #[]) w
  t3 : P.underlying 3 = some (TypeDesc.int IntKind.i64)
  a3 : ∀ w, (isAgg 3).run P w = .ok false w
  z3 : ∀ w, (Go.sizeOf 3).run P w = .ok 1 w
  v3 : ∀ w, (zeroValue 3).run P w = .ok (Value.int IntKind.i64 0) w
  t4 : P.underlying 4 = some (TypeDesc.bool)
  a4 : ∀ w, (isAgg 4).run P w = .ok false w
  z4 : ∀ w, (Go.sizeOf 4).run P w = .ok 1 w
  v4 : ∀ w, (zeroValue 4).run P w = .ok (Value.bool false) w
  tu : P.underlying 239 = some (TypeDesc.int IntKind.u64)
  au : ∀ w, (isAgg 239).run P w = .ok false w
  zu : ∀ w, (Go.sizeOf 239).run P w = .ok 1 w
  vu : ∀ w, (zeroValue 239).run P w = .ok (Value.int IntKind.u64 0) w
  ts : P.underlying 22 = some (TypeDesc.slice 47)
  asl : ∀ w, (isAgg 22).run P w = .ok false w
  zs : ∀ w, (Go.sizeOf 22).run P w = .ok 1 w
  vs : ∀ w, (zeroValue 22).run P w = .ok (Value.slice none 0 0) w
  tc : P.underlying 169 = some (TypeDesc.func #[47, 47] #[3] false)
  ac : ∀ w, (isAgg 169).run P w = .ok false w
  zc : ∀ w, (Go.sizeOf 169).run P w = .ok 1 w
  vc : ∀ w, (zeroValue 169).run P w = .ok (Value.nilFunc) w
  aE : ∀ w, (isAgg 47).run P w = .ok true w
  zE : ∀ w, (Go.sizeOf 47).run P w = .ok k w

section
variable {P : Program} {k : Nat} {α : Type} [Inhabited α]
omit [Inhabited α] in
theorem swF_zero (f : Nat → α) (a b : Nat) : swF f a b 0 = f := by
  funext t
  unfold swF
  rw [if_neg (by omega), if_neg (by omega)]
theorem swF_succ (d dk : Array α) (a b i : Nat) (h1 : a + i < b) (h2 : b + i < d.size) (hs : dk.size = d.size) (h : ∀ t, dk[t]! = swF (fun t => d[t]!) a b i t) (t : Nat) : (swp dk (a + i) (b + i))[t]! = swF (fun t => d[t]!) a b (i + 1) t := by
  rw [get_swp _ _ _ _ (by omega) (by omega), h, h, h]
  unfold swF
  repeat' split
  all_goals first | rfl | (congr 1; omega) | (exfalso; omega)

set_option maxHeartbeats 4000000 in
set_option maxRecDepth 1000000 in
theorem swaprange_at (L : StAt P k) (enc : α → List Value) (fv : Value) (blk off cap a b n : Nat) (d0 d : Array α) (w0 w : World)
    (R : RowK enc k w0 blk off d0) (hs : d0.size = d.size) (S : SWK enc k w0 blk off d w) (hab : a + n ≤ b) (hb : b + n ≤ d.size) (hsz : d.size ≤ 1048576) :
    Calls P 272 #[.slice (some ⟨blk, off, none⟩) d.size cap, .int .i64 a, .int .i64 b, .int .i64 n, fv] w fun e w' => e = .returned (.tuple #[]) ∧ ∃ d', SWK enc k w0 blk off d' w' ∧ d'.size = d.size ∧ ∀ t, d'[t]! = swF (fun t => d[t]!) a b n t := by
  have mixed := L.mixed; have t0 := L.t0; have a0 := L.a0; have z0 := L.z0; have v0 := L.v0; have t3 := L.t3; have a3 := L.a3; have z3 := L.z3; have v3 := L.v3; have t4 := L.t4; have a4 := L.a4; have z4 := L.z4; have v4 := L.v4; have t22 := L.ts; have a22 := L.asl; have z22 := L.zs; have v22 := L.vs; have t25 := L.tc; have a25 := L.ac; have z25 := L.zc; have v25 := L.vc; have aE := L.aE; have zE := L.zE
  have FG := L.fsw
  have S0 : Aside (SWK enc k w0 blk off d w) := S
  clear S L
  go_enter FG, Tryz.ntmps272
  go_wp2
  go_loopg [10] n (fun kx s10 wr => ∃ (i : Nat) (dk : Array α), s10 = .int .i64 i ∧ i ≤ n ∧ n - i ≤ kx ∧ dk.size = d.size ∧ Aside (SWK enc k w0 blk off dk wr) ∧ Aside (∀ t, dk[t]! = swF (fun t => d[t]!) a b i t))
  case atStart => exact ⟨0, d, rfl, Nat.zero_le _, by omega, rfl, S0, fun t => by rw [swF_zero]⟩
  case round =>
    clear S0
    obtain ⟨i, dk, rfl, hin, hkx, hds, S1, heq⟩ := hrel
    by_cases hlt : i < n
    · have hltz : (i : Int) < (n : Int) := by omega
      go_wp2_with fail
      have ea44 : ((a : Int) + (i : Int)).toNat = a + i := by omega
      have pa44 : (0 : Int) ≤ (a : Int) + (i : Int) := by omega
      have ba44 : (a : Int) + (i : Int) < (d.size : Int) := by omega
      have ra44 : IntKind.i64.wrap ((a : Int) + (i : Int)) = (a : Int) + (i : Int) := by rw [IntKind.wrap_i64]; omega
      have ec44 : ((b : Int) + (i : Int)).toNat = b + i := by omega
      have pc44 : (0 : Int) ≤ (b : Int) + (i : Int) := by omega
      have bc44 : (b : Int) + (i : Int) < (d.size : Int) := by omega
      have rc44 : IntKind.i64.wrap ((b : Int) + (i : Int)) = (b : Int) + (i : Int) := by rw [IntKind.wrap_i64]; omega
      have S2 : Aside (SWK enc k w0 blk off (swp dk (a + i) (b + i)) ((wr.drew.setCells blk (off + (a + i) * k) (enc dk[b + i]!)).setCells blk (off + (b + i) * k) (enc dk[a + i]!))) := S1.out.swapped R (a + i) (b + i) (by omega) (by omega)
      have l44a := S1.out.ld1 R (by omega) P (a + i) (by omega)
      have l44b := S1.out.ld1 R (by omega) P (b + i) (by omega)
      have s44a := S1.out.st1 R (by omega) P (a + i) (by omega) dk[b + i]!
      have s44b := S1.out.st2 R (by omega) P (a + i) (b + i) (by omega) (by omega) dk[b + i]! dk[a + i]!
      have n44a : (enc dk[a + i]!).length = k := R.hk _
      have n44b : (enc dk[b + i]!).length = k := R.hk _
      generalize enc dk[a + i]! = cI44 at S2 l44a s44b n44a
      generalize enc dk[b + i]! = cJ44 at S2 l44b s44a s44b n44b
      clear S1
      go_wp2_with fail
      go_big_region_o
      clear l44a l44b s44a s44b
      generalize (wr.drew.setCells blk (off + (a + i) * k) cJ44).setCells blk (off + (b + i) * k) cI44 = w2 at S2 ⊢
      go_wp2
      go_roundg (n - (i + 1))
      case measure => omega
      case rel => exact ⟨i + 1, swp dk (a + i) (b + i), by go_num, by omega, Nat.le_refl _, by rw [size_swp']; exact hds, S2, fun t => swF_succ d dk a b i (by omega) (by omega) hds heq.out t⟩
    · have hltz : ¬ (i : Int) < (n : Int) := by omega
      go_wp2
      go_end0
      obtain rfl : i = n := by omega
      exact ⟨rfl, dk, S1.out, hds, heq.out⟩
end

end Go.Proofs.YtmlfekbmbnfkjabGreatDoor

/-
  What the stable sort's rotation comes to: two pieces side by side change places.
-/
namespace Go.Proofs.YtmlfekbmbnfkjabGreatDoor
set_option maxRecDepth 100000
open Go.Shelf Go.RowKit Go.Lib Go.Sort

section
variable {P : Program} {k : Nat} {α : Type} [Inhabited α]
theorem StAt.esw (L : StAt P k) : ∀ args w, (callFunc 272 args).run P w = .ok (.enter 272 args) w := enters_of L.fsw (by kernel_rfl) rfl
theorem StAt.ero (L : StAt P k) : ∀ args w, (callFunc 235 args).run P w = .ok (.enter 235 args) w := enters_of L.fro (by kernel_rfl) rfl
theorem StAt.esy (L : StAt P k) : ∀ args w, (callFunc 208 args).run P w = .ok (.enter 208 args) w := enters_of L.fsy (by kernel_rfl) rfl
set_option maxHeartbeats 4000000 in
set_option maxRecDepth 1000000 in
theorem rotate_at (L : StAt P k) (enc : α → List Value) (fv : Value) (blk off cap a m b : Nat) (d0 d : Array α) (w0 w : World)
    (R : RowK enc k w0 blk off d0) (hs : d0.size = d.size) (S : SWK enc k w0 blk off d w) (ham : a < m) (hmb : m < b) (hb : b ≤ d.size) (hsz : d.size ≤ 1048576) :
    Calls P 235 #[.slice (some ⟨blk, off, none⟩) d.size cap, .int .i64 a, .int .i64 m, .int .i64 b, fv] w fun e w' => e = .returned (.tuple #[]) ∧ ∃ d', SWK enc k w0 blk off d' w' ∧ Rot d d' a m b := by
  have mixed := L.mixed; have t0 := L.t0; have a0 := L.a0; have z0 := L.z0; have v0 := L.v0; have t3 := L.t3; have a3 := L.a3; have z3 := L.z3; have v3 := L.v3; have t4 := L.t4; have a4 := L.a4; have z4 := L.z4; have v4 := L.v4; have t22 := L.ts; have a22 := L.asl; have z22 := L.zs; have v22 := L.vs; have t25 := L.tc; have a25 := L.ac; have z25 := L.zc; have v25 := L.vc
  have FG := L.fro
  have esw := L.esw
  have S0 : Aside (SWK enc k w0 blk off d w) := S
  have HL : Aside (StAt P k) := L
  clear S L
  go_enter FG, Tryz.ntmps235
  go_wp2
  go_loopg [10, 11] (b - a) (fun kx s10 s11 wr => ∃ (i j : Nat) (dk : Array α), s10 = .int .i64 i ∧ s11 = .int .i64 j ∧ 0 < i ∧ 0 < j ∧ i ≤ m ∧ m + j ≤ d.size ∧ i + j ≤ kx ∧ dk.size = d.size ∧ Aside (SWK enc k w0 blk off dk wr) ∧ Aside (rotF (fun t => dk[t]!) (m - i) m (m + j) = rotF (fun t => d[t]!) a m b))
  case atStart =>
    exact ⟨m - a, b - m, d, by congr 1; omega, by congr 1; omega, by omega, by omega, by omega, by omega, by omega, rfl, S0, (show rotF (fun t => d[t]!) (m - (m - a)) m (m + (b - m)) = _ by rw [show m - (m - a) = a by omega, show m + (b - m) = b by omega])⟩
  case round =>
    clear S0
    obtain ⟨i, j, dk, rfl, rfl, hi0, hj0, him, hjm, hkx, hds, S1, heq⟩ := hrel
    rcases Nat.lt_trichotomy i j with hlt | rfl | hlt
    · have hne : (i : Int) ≠ (j : Int) := by omega
      have hgt : ¬ (j : Int) < (i : Int) := by omega
      have e1 : (m : Int) - (i : Int) = ((m - i : Nat) : Int) := by omega
      have e2 : (m : Int) + (j : Int) - (i : Int) = ((m + j - i : Nat) : Int) := by omega
      have hc := swaprange_at HL.out enc fv blk off cap (m - i) (m + j - i) i d0 dk w0 wr R (by omega) S1.out (by omega) (by omega) (by omega)
      rw [hds] at hc
      have HC : Hid _ := hc
      clear hc
      go_wp2_with fail
      refine Calls.mono HC.out ?_
      rintro e w1 ⟨rfl, d1, S2, hs2, hd1⟩
      have heq2 : Aside (rotF (fun t => d1[t]!) (m - i) m (m + (j - i)) = rotF (fun t => d[t]!) a m b) := by
        show _ = _
        rw [← heq.out, ← rotF_less (fun t => dk[t]!) m i j him hi0 hlt]
        congr 1
        funext t
        exact hd1 t
      have S2' : Aside (SWK enc k w0 blk off d1 w1) := S2
      clear S2 hd1 heq S1 HC
      go_wp2
      go_roundg (i + (j - i))
      case measure => omega
      case rel => exact ⟨i, j - i, d1, rfl, by first | go_num | (congr 1; omega), hi0, by omega, him, by omega, Nat.le_refl _, by omega, S2', heq2⟩
    · have hne : (i : Int) = (i : Int) := rfl
      have e1 : (m : Int) - (i : Int) = ((m - i : Nat) : Int) := by omega
      have hc := swaprange_at HL.out enc fv blk off cap (m - i) m i d0 dk w0 wr R (by omega) S1.out (by omega) (by omega) (by omega)
      rw [hds] at hc
      have HC : Hid _ := hc
      clear hc
      go_wp2_with fail
      refine Calls.mono HC.out ?_
      rintro e w1 ⟨rfl, d1, S2, hs2, hd1⟩
      have hR : Aside (Rot d d1 a m b) := rot_of (by omega) (by omega) (by omega) (fun t => by rw [← heq.out, ← rotF_same (fun t => dk[t]!) m i him]; exact hd1 t)
      have S2' : Aside (SWK enc k w0 blk off d1 w1) := S2
      clear S2 hd1 heq S1 HC
      go_wp2
      go_end0
      exact ⟨rfl, d1, S2'.out, hR.out⟩
    · have hne : (i : Int) ≠ (j : Int) := by omega
      have hgt : (j : Int) < (i : Int) := by omega
      have e1 : (m : Int) - (i : Int) = ((m - i : Nat) : Int) := by omega
      have hc := swaprange_at HL.out enc fv blk off cap (m - i) m j d0 dk w0 wr R (by omega) S1.out (by omega) (by omega) (by omega)
      rw [hds] at hc
      have HC : Hid _ := hc
      clear hc
      go_wp2_with fail
      refine Calls.mono HC.out ?_
      rintro e w1 ⟨rfl, d1, S2, hs2, hd1⟩
      have heq2 : Aside (rotF (fun t => d1[t]!) (m - (i - j)) m (m + j) = rotF (fun t => d[t]!) a m b) := by
        show _ = _
        rw [← heq.out, ← rotF_more (fun t => dk[t]!) m i j him hj0 hlt]
        congr 1
        funext t
        exact hd1 t
      have S2' : Aside (SWK enc k w0 blk off d1 w1) := S2
      clear S2 hd1 heq S1 HC
      go_wp2
      go_roundg (i - j + j)
      case measure => omega
      case rel => exact ⟨i - j, j, d1, by first | go_num | (congr 1; omega), rfl, by omega, hj0, by omega, hjm, Nat.le_refl _, by omega, S2', heq2⟩
end

end Go.Proofs.YtmlfekbmbnfkjabGreatDoor

