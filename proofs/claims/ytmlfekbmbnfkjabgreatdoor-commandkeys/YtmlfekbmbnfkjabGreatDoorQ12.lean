/-
  What Parse comes to.
-/
import Derived.Test.YtmlfekbmbnfkjabGreatDoorQ11
import Derived.ArgAppend
import Derived.Test.YtmlfekbmbnfkjabGreatDoorQ09
namespace Go.Proofs.YtmlfekbmbnfkjabGreatDoor
set_option maxRecDepth 100000
open Go.RowKit

theorem clc_one (c : Cl) : (clc c).all (·.oneCell') = true := by simp [clc, Value.oneCell']
theorem clc_size (c : Cl) : (clc c).size = 6 := rfl
/-- A text among the arguments. -/
theorem arg_at {w : World} {ao : Option Addr} {m c : Nat} {A : List (List UInt8)} (h : T21.Txts w ao m c (A.map sb)) {j : Nat} (hj : j < m) :
    ∃ b off, ao = some ⟨b, off, none⟩ ∧ w.cell? ⟨b, off + j, none⟩ = some (.string (sb (A.getD j []))) := by
  rcases h.norm with ⟨h1, -⟩ | ⟨b, off, hao, -, hc⟩
  · omega
  · refine ⟨b, off, hao, ?_⟩
    rw [hc j hj]
    have hl := h.len
    rw [List.length_map] at hl
    congr 2
    rw [List.getD_eq_getElem?_getD, List.getElem?_map, List.getD_eq_getElem?_getD, List.getElem?_eq_getElem (by omega)]
    rfl
/-- What Parse has laid. -/
structure Pl22 (w : World) (gr : Nat) (r : Rw22) (c : Cl) (wr : World) : Prop where
  res : wr.heap[w.heap.size]? = some (.cells (clc clz) 38 (0, 0))
  row : wr.heap[gr]? = some (.cells (rwc r).toArray 62 (0, 0))
  cl : wr.heap[gr + 1]? = some (.cells (clc c) 38 (0, 0))
  be : Below w.heap.size w wr
  lt : w.heap.size < gr
theorem fin_cl {w wr : World} {cs : Array Value} (hc : cs.size = 6) (h1 : cs.all (·.oneCell') = true) (hr : wr.heap[w.heap.size]? = some (.cells (clc clz) 38 (0, 0))) (hb : Below w.heap.size w wr) :
    ∃ W, (storeVar 38 ⟨w.heap.size, 0, none⟩ (.agg cs)).run Tryz.prog wr = .ok () W ∧ W.heap[w.heap.size]? = some (.cells cs 38 (0, 0)) ∧ Below w.heap.size w W :=
  ⟨_, storeVar_cl hr hc rfl h1, setRow_heap wr w.heap.size _ cs _ _ hr, below_setRow hb (Nat.le_refl _) _⟩
theorem bt_drew {g B : Nat} {wr w4 : World} (h : Bt g wr.drew w4) (hg : B ≤ g) (hB : B ≤ wr.heap.size) : Below B wr w4 := (((Below.refl wr.heap.size wr).drew).mono hB).trans (h.below hg hB)
theorem pl_on {w wr w4 : World} {gr : Nat} {r : Rw22} {cl cl' : Cl} (h : Pl22 w gr r cl wr) (hB : Bt (gr + 1) wr.drew w4) (hc : w4.heap[gr + 1]? = some (.cells (clc cl') 38 (0, 0))) : Pl22 w gr r cl' w4 := by
  have hb : Below w.heap.size wr w4 := bt_drew hB (by have := h.lt; omega) h.be.size
  refine ⟨?_, ?_, hc, h.be.trans hb, h.lt⟩
  · rw [hB.block w.heap.size (Array.getElem?_eq_some_iff.1 h.res).1 (by have := h.lt; omega)]; exact h.res
  · rw [hB.block gr (Array.getElem?_eq_some_iff.1 h.row).1 (by omega)]; exact h.row
set_option maxHeartbeats 4000000 in
theorem parse_any (ao : Option Addr) (m c : Nat) (A : List (List UInt8)) (w : World) (hT : T21.Txts w ao m c (A.map sb)) (hs : ∀ s ∈ A, s.length ≤ 1000) (ht : Tb w) (hm : m ≤ 1000) :
    Calls Tryz.prog 12 #[.slice ao m c] w fun e w' => e = .returned (.tuple #[.agg (clc (parseE A).1), .int .i64 (parseE A).2]) ∧ Below w.heap.size w w' := by
  obtain ⟨R, hR⟩ : ∃ R, w.heap.size = R := ⟨_, rfl⟩
  have hs0 : (w.alloc (.cells (clc clz) 38)).heap.size = R + 1 := by rw [← hR]; simp
  have hz0 : (w.alloc (.cells (clc clz) 38)).heap[w.heap.size]? = some (.cells (clc clz) 38) := heap_alloc_new w _
  have hb0 : Below w.heap.size w (w.alloc (.cells (clc clz) 38)) := (Below.refl _ w).alloc (Nat.le_refl _) _
  have hT0 := hT.below hb0 (Nat.le_refl _)
  have ht0 := ht.below hb0
  have hlen := hT.len
  rw [List.length_map] at hlen
  cases A with
  | nil =>
    simp only [List.length_nil] at hlen
    subst hlen
    obtain ⟨W, hst, hg, hb⟩ := fin_cl (clc_size clz) (clc_one clz) hz0 hb0
    have FIN : Hid (Below w.heap.size w W) := hb
    clear hz0 hb0 hT0 ht0 hT ht hb hs0
    rw [hR] at hst hg
    go_enter Tryz.func12, Tryz.ntmps12
    go_wp2_with (first
      | (refine wpList_storeR (ty := 38) (x := .tmp 2) (y := .tmp 12) (ad := ⟨R, 0, none⟩) (v := .agg (clc clz)) (w' := W) rfl rfl rfl rfl hst ?_))
    refine ret_cl2 rfl rfl rfl rfl hg rfl ?_
    exact ⟨rfl, FIN.out⟩
  | cons a T =>
    rw [List.length_cons] at hlen
    obtain ⟨n, hn⟩ : ∃ n, T.length = n := ⟨_, rfl⟩
    rw [hn] at hlen
    subst hlen
    obtain ⟨b, off, rfl, hcA⟩ := arg_at hT0 (j := 0) (by omega)
    have hc0 : (w.alloc (.cells (clc clz) 38)).cell? ⟨b, off, none⟩ = some (.string (sb a)) := hcA
    clear hcA
    have hm0 : ¬ ((n : Int) + 1 = 0) := by omega
    have hCap := fun W => capitals_any a W (Nat.le_trans (hs a (by simp)) (by decide))
    have hRo := fun W => rowof_any (upE a) W
    have HP : Hid (parseE (a :: T) = (match rowN (upE a) with | none => (clz, 14) | some w => if n = w.takes.length then takesE { clz with name := w.name } w.takes T else (clz, 12))) := by rw [← hn]; rfl
    have HA : Aside (T21.Txts (w.alloc (.cells (clc clz) 38)) (some ⟨b, off, none⟩) (n + 1) c ((a :: T).map sb) ∧ Tb (w.alloc (.cells (clc clz) 38)) ∧ (w.alloc (.cells (clc clz) 38)).heap[w.heap.size]? = some (.cells (clc clz) 38) ∧ Below w.heap.size w (w.alloc (.cells (clc clz) 38)) ∧ (w.alloc (.cells (clc clz) 38)).heap.size = w.heap.size + 1) := ⟨hT0, ht0, hz0, hb0, by simp⟩
    have HA0 : Aside (T21.Txts w (some ⟨b, off, none⟩) (n + 1) c ((a :: T).map sb) ∧ Tb w) := ⟨hT, ht⟩
    have HS : Hid ((∀ s ∈ T, s.length ≤ 1000) ∧ T.length = n ∧ w.heap.size = R ∧ n + 1 ≤ 1000) := ⟨fun s h => hs s (by simp [h]), hn, hR, hm⟩
    clear hz0 hb0 hT0 ht0 hT ht hs hn hs0
    obtain ⟨W0, hW0⟩ : ∃ W0, w.alloc (.cells (clc clz) 38) = W0 := ⟨_, rfl⟩
    rw [hW0] at HA hc0
    have hW0 : w.alloc (.cells #[.string ⟨#[]⟩, .string ⟨#[]⟩, .string ⟨#[]⟩, .string ⟨#[]⟩, .int .i64 0, .int .i64 0] 38) = W0 := hW0
    go_enter Tryz.func12, Tryz.ntmps12
    go_wp2_with fail
    refine Calls.mono (hCap _) ?_
    rintro e w1 ⟨rfl, hb1⟩
    go_wp2_with fail
    refine Calls.mono (hRo _) ?_
    rintro e w2 ⟨rfl, hb2⟩
    have hb02 := hb1.trans (hb2.mono hb1.size)
    have H2 : Aside (T21.Txts w2 (some ⟨b, off, none⟩) (n + 1) c ((a :: T).map sb) ∧ Tb w2 ∧ w2.heap[w.heap.size]? = some (.cells (clc clz) 38 (0, 0)) ∧ Below w.heap.size w w2 ∧ w.heap.size < w2.heap.size) :=
      ⟨HA.out.1.below hb02 (Nat.le_refl _), HA.out.2.1.below hb02, by rw [hb02.block _ (by have := HA.out.2.2.2.2; omega)]; exact HA.out.2.2.1, HA.out.2.2.2.1.trans (hb02.mono HA.out.2.2.2.1.size), by have := HA.out.2.2.2.2; have := hb02.size; omega⟩
    obtain ⟨gr, hgr⟩ : ∃ gr, w2.heap.size = gr := ⟨_, rfl⟩
    clear hb1 hb2 hb02 HA hc0 hW0 hCap hRo
    have hnew := heap_alloc_new w2 (.cells rwz 62)
    have hs2 : (w2.alloc (.cells rwz 62)).heap.size = gr + 1 := by rw [← hgr]; simp
    have hba : Below w2.heap.size w2 (w2.alloc (.cells rwz 62)) := (Below.refl _ w2).alloc (Nat.le_refl _) _
    rw [hgr] at hnew hba
    cases hrn : rowN (upE a) with
    | none =>
      rw [hrn] at HP
      have hst := storeVar_rw (cs := rwz) hnew rfl rfl (by simp [rwz, Value.oneCell'])
      have hb3 : Below gr w2 ((w2.alloc (.cells rwz 62)).setRow gr rwz) := below_setRow hba (Nat.le_refl _) _
      generalize (w2.alloc (.cells rwz 62)).setRow gr rwz = W3 at *
      obtain ⟨W4, hst4, hg4, hb4⟩ := fin_cl (clc_size clz) (clc_one clz) (by rw [hb3.block _ (by have := H2.out.2.2.2.2; omega)]; exact H2.out.2.2.1) (H2.out.2.2.2.1.trans (hb3.mono (by have := H2.out.2.2.2.2; omega)))
      rw [hR] at hst4 hg4
      have FIN : Hid (Below w.heap.size w W4) := hb4
      clear hnew hs2 hba hb3 hb4 H2
      have e1 : rowV none = .agg rwz := rfl
      have HR : Hid (w.heap.size = R) := hR
      clear hR hrn
      go_wp2_with (first
        | (refine wpList_storeR (ty := 62) (x := .tmp 4) (y := .tmp 19) (ad := ⟨gr, 0, none⟩) (v := .agg rwz) (w' := W3) rfl rfl rfl rfl hst ?_)
        | (refine wpList_storeR (ty := 38) (x := .tmp 2) (y := .tmp 23) (ad := ⟨R, 0, none⟩) (v := .agg (clc clz)) (w' := W4) rfl rfl rfl rfl hst4 ?_))
      refine ret_cl2 rfl rfl rfl rfl hg4 rfl ?_
      rw [HP.out]
      exact ⟨rfl, FIN.out⟩
    | some r =>
      rw [hrn] at HP
      have hst := storeVar_rw (cs := (rwc r).toArray) hnew rfl rfl (rwc_one r)
      have hg3 := setRow_heap (w2.alloc (.cells rwz 62)) gr _ (rwc r).toArray _ _ hnew
      have hb3 : Below gr w2 ((w2.alloc (.cells rwz 62)).setRow gr (rwc r).toArray) := below_setRow hba (Nat.le_refl _) _
      have hs3 : ((w2.alloc (.cells rwz 62)).setRow gr (rwc r).toArray).heap.size = gr + 1 := by rw [← hs2]; simp [World.setRow]
      generalize (w2.alloc (.cells rwz 62)).setRow gr (rwc r).toArray = W3 at *
      have hres : W3.heap[w.heap.size]? = some (.cells (clc clz) 38 (0, 0)) := by rw [hb3.block _ (by have := H2.out.2.2.2.2; omega)]; exact H2.out.2.2.1
      have hbw : Below w.heap.size w W3 := H2.out.2.2.2.1.trans (hb3.mono (by have := H2.out.2.2.2.2; omega))
      have hcA := cell_of_row _ gr 0 _ _ _ hg3
      have hcB := cell_of_row _ gr 1 _ _ _ hg3
      have hc0 : W3.cell? ⟨gr, 0, none⟩ = some (.string (sb r.name)) := hcA
      have hc1 : W3.cell? ⟨gr, 1, none⟩ = some (.string (sb r.takes)) := hcB
      have e1 : rowV (some r) = .agg (rwc r).toArray := rfl
      have hsz : (sb r.takes).size = r.takes.length := size_sb r.takes
      have H3 : Aside (T21.Txts W3 (some ⟨b, off, none⟩) (n + 1) c ((a :: T).map sb) ∧ Tb W3 ∧ w.heap.size < gr) := ⟨H2.out.1.below hb3 (by omega), H2.out.2.1.below (by rw [hgr]; exact hb3), by have := H2.out.2.2.2.2; omega⟩
      clear hcA hcB hnew hs2 hba hb3 H2
      obtain ⟨q, hq⟩ : ∃ q, r.takes.length = q := ⟨_, rfl⟩
      rw [hq] at hsz
      by_cases hnq : n = q
      · subst hnq
        have hnew4 := heap_alloc_new W3 (.cells (clc clz) 38)
        rw [hs3] at hnew4
        have hst4 := storeVar_cl (cs := clc { clz with name := r.name }) hnew4 rfl rfl (clc_one _)
        have hg4 := setRow_heap (W3.alloc (.cells (clc clz) 38)) (gr + 1) _ (clc { clz with name := r.name }) _ _ hnew4
        have hb4 : Below (gr + 1) W3 ((W3.alloc (.cells (clc clz) 38)).setRow (gr + 1) (clc { clz with name := r.name })) := below_setRow ((Below.refl _ W3).alloc (by omega) _) (Nat.le_refl _) _
        generalize (W3.alloc (.cells (clc clz) 38)).setRow (gr + 1) (clc { clz with name := r.name }) = W4 at *
        have hc4 : W4.cell? ⟨gr, 1, none⟩ = some (.string (sb r.takes)) := by rw [hb4.cell (Nat.lt_succ_self gr)]; exact hc1
        have hgw : w.heap.size < gr := H3.out.2.2
        have H4 : Aside (Pl22 w gr r { clz with name := r.name } W4 ∧ takesE { clz with name := r.name } (r.takes.drop 0) (T.drop 0) = takesE { clz with name := r.name } r.takes T ∧ T21.Txts W4 (some ⟨b, off, none⟩) (n + 1) c ((a :: T).map sb) ∧ Tb W4) :=
          ⟨⟨by rw [hb4.block _ (by omega)]; exact hres, by rw [hb4.block _ (Nat.lt_succ_self gr)]; exact hg3, hg4, hbw.trans (hb4.mono (by omega)), hgw⟩, rfl, H3.out.1.below hb4 (by omega), H3.out.2.1.below (by rw [hs3]; exact hb4)⟩
        have HR : Hid (w.heap.size = R) := hR
        have HQ : Hid (r.takes.length = n) := hq
        have HI : Hid (W3.heap.size = gr + 1) := hs3
        have hW4 : (storeVar 38 ⟨W3.heap.size, 0, none⟩ (.agg (clc { clz with name := r.name }))).run Tryz.prog (W3.alloc (.cells (clc clz) 38)) = .ok () W4 := by rw [hs3]; exact hst4
        clear hnew4 hg4 hb4 hres hg3 hbw hR hrn hq H3 hgw hst4
        go_wp2_with (first
          | (refine wpList_storeR (ty := 62) (x := .tmp 4) (y := .tmp 19) (ad := ⟨gr, 0, none⟩) (v := .agg (rwc r).toArray) (w' := W3) rfl rfl rfl rfl hst ?_)
          | (refine wpList_storeR (ty := 38) (x := .tmp 6) (y := .tmp 34) (ad := ⟨gr + 1, 0, none⟩) (v := .agg (clc { clz with name := r.name })) (w' := W4) rfl rfl rfl rfl (by rw [← HI.out]; exact hW4) ?_))
        go_loopw [38] (fun cv wr => ∃ (k : Nat) (cl : Cl), k ≤ n ∧ cv = .int .i64 (k : Int) ∧ Aside (Pl22 w gr r cl wr ∧ takesE cl (r.takes.drop k) (T.drop k) = takesE { clz with name := r.name } r.takes T ∧ T21.Txts wr (some ⟨b, off, none⟩) (n + 1) c ((a :: T).map sb) ∧ Tb wr)) (fun cv _ => n - (intOf cv).toNat)
        case atStart => exact ⟨0, _, Nat.zero_le _, rfl, H4⟩
        case round =>
          clear H4
          obtain ⟨k, cl, hk, rfl, HX⟩ := hrel
          by_cases hkn : k < n
          · have hkn' : (k : Int) < (n : Int) := by omega
            obtain ⟨p, hp⟩ : ∃ p, r.takes[k]? = some p := ⟨_, List.getElem?_eq_getElem (by rw [HQ.out]; exact hkn)⟩
            obtain ⟨s, hs⟩ : ∃ s, T[k]? = some s := ⟨_, List.getElem?_eq_getElem (by rw [HS.out.2.1]; exact hkn)⟩
            have hstep := HX.out.2.1
            rw [takesE_step hp hs] at hstep
            have harg : wr.cell? ⟨b, off + (k + 1), none⟩ = some (.string (sb s)) := by
              obtain ⟨b', off', e, harg⟩ := arg_at HX.out.2.2.1 (j := k + 1) (by omega)
              cases e
              rw [harg, List.getD_cons_succ, List.getD_eq_getElem?_getD, hs, Option.getD_some]
            have hct : wr.cell? ⟨gr, 1, none⟩ = some (.string (sb r.takes)) := cell_of_row _ gr 1 _ _ _ HX.out.1.row
            have hix : ∀ h, (sb r.takes)[k]'h = p := fun h => (T21.tx_get r.takes k h).trans (by rw [List.getD_eq_getElem?_getD, hp, Option.getD_some])
            have hTk := ctake_any (gr + 1) cl p s wr.drew HX.out.1.cl (HS.out.1 s (List.mem_of_getElem? hs)) (HX.out.2.2.2.below (Below.refl _ wr).drew)
            unfold takeP at hTk
            have hn1 : (n : Int) ≤ 1000 := by omega
            have hk0 : (0 : Int) ≤ (k : Int) + 1 := by omega
            have hk1 : (k : Int) + 1 < (n : Int) + 1 := by omega
            have hk2 : ((k : Int) + 1).toNat = k + 1 := by omega
            have hkw : IntKind.i64.wrap ((k : Int) + 1) = (k : Int) + 1 := by simp [IntKind.wrap, IntKind.signed, IntKind.bits]; omega
            by_cases hz : takeE p s = 0
            · rw [if_pos hz] at hstep
              have HZ : Aside (takesE (takeC cl p s) (r.takes.drop (k + 1)) (T.drop (k + 1)) = takesE { clz with name := r.name } r.takes T ∧ Pl22 w gr r cl wr ∧ T21.Txts wr (some ⟨b, off, none⟩) (n + 1) c ((a :: T).map sb) ∧ Tb wr) := ⟨hstep, HX.out.1, HX.out.2.2⟩
              rw [hz] at hTk
              clear hstep HX hz hp hs
              go_wp2_with fail
              go_region_with (go_at_call 23; refine Calls.mono hTk ?_; rintro e w4 ⟨rfl, hB, hcl⟩)
              all_goals
                have hbw4 : Below w.heap.size wr w4 := bt_drew hB (by have := HZ.out.2.1.lt; omega) HZ.out.2.1.be.size
                have H5 : Aside (Pl22 w gr r (takeC cl p s) w4 ∧ takesE (takeC cl p s) (r.takes.drop (k + 1)) (T.drop (k + 1)) = takesE { clz with name := r.name } r.takes T ∧ T21.Txts w4 (some ⟨b, off, none⟩) (n + 1) c ((a :: T).map sb) ∧ Tb w4) :=
                  ⟨pl_on HZ.out.2.1 hB (hcl (by simp)), HZ.out.1, HA0.out.1.below (HZ.out.2.1.be.trans hbw4) (Nat.le_refl _), HA0.out.2.below (HZ.out.2.1.be.trans hbw4)⟩
                clear HZ hbw4 hcl hB hTk harg hct hix
                go_wp2
                go_roundw
                case rel => exact ⟨k + 1, _, by omega, by go_num, H5⟩
                case measure => simp [intOf]; omega
            · rw [if_neg hz] at hstep
              have HZ : Aside ((clz, takeE p s) = takesE { clz with name := r.name } r.takes T ∧ Pl22 w gr r cl wr) := ⟨hstep, HX.out.1⟩
              have hzb : (takeE p s == 0) = false := by simpa using hz
              clear hstep HX hp hs
              generalize takeE p s = z at *
              go_wp2_with fail
              go_region_with (go_at_call 23; refine Calls.mono hTk ?_; rintro e w4 ⟨rfl, hB, hcl⟩)
              all_goals
                have hbw4 : Below w.heap.size wr w4 := bt_drew hB (by have := HZ.out.2.lt; omega) HZ.out.2.be.size
                have hres4 : w4.heap[w.heap.size]? = some (.cells (clc clz) 38 (0, 0)) := by
                  have h1 := HZ.out.2.res
                  have h2 := (Array.getElem?_eq_some_iff.1 h1).1
                  rw [(hB : Bt (gr + 1) wr.drew w4).block w.heap.size h2 (by have := HZ.out.2.lt; omega)]
                  exact h1
                obtain ⟨W5, hst5, hg5, hb5⟩ := fin_cl (clc_size clz) (clc_one clz) hres4 (HZ.out.2.be.trans hbw4)
                rw [HR.out] at hst5 hg5
                have FIN : Hid (Below w.heap.size w W5 ∧ (clz, z) = takesE { clz with name := r.name } r.takes T) := ⟨hb5, HZ.out.1⟩
                clear HZ hbw4 hcl hB hTk harg hct hix hres4 hb5
                go_wp2_with (first
                  | (refine wpList_storeR (ty := 38) (x := .tmp 2) (y := .tmp 53) (ad := ⟨R, 0, none⟩) (v := .agg (clc clz)) (w' := W5) rfl rfl rfl rfl hst5 ?_))
                refine ret_cl2 rfl rfl rfl rfl hg5 rfl ?_
                rw [HP.out]
                simp only [if_pos HQ.out.symm]
                rw [← FIN.out.2]
                exact ⟨rfl, FIN.out.1⟩
          · have hkn' : ¬ (k : Int) < (n : Int) := by omega
            have hend := HX.out.2.1
            rw [takesE_end (by rw [HQ.out]; omega)] at hend
            have hcl5 := HX.out.1.cl
            have hld := loadVar_cl hcl5 (clc_size cl)
            obtain ⟨W5, hst5, hg5, hb5⟩ := fin_cl (clc_size cl) (clc_one cl) HX.out.1.res HX.out.1.be
            rw [HR.out] at hst5 hg5
            have FIN : Hid (Below w.heap.size w W5 ∧ (cl, 0) = takesE { clz with name := r.name } r.takes T) := ⟨hb5, hend⟩
            clear hend hcl5 HX hb5
            go_wp2_with (first
              | (refine wpList_loadR (ty := 38) (x := .tmp 6) (ad := ⟨gr + 1, 0, none⟩) (v := .agg (clc cl)) rfl rfl rfl hld ?_)
              | (refine wpList_storeR (ty := 38) (x := .tmp 2) (y := .tmp 56) (ad := ⟨R, 0, none⟩) (v := .agg (clc cl)) (w' := W5) rfl rfl rfl rfl hst5 ?_))
            refine ret_cl2 rfl rfl rfl rfl hg5 rfl ?_
            rw [HP.out]
            simp only [if_pos HQ.out.symm]
            rw [← FIN.out.2]
            exact ⟨rfl, FIN.out.1⟩
      · obtain ⟨W4, hst4, hg4, hb4⟩ := fin_cl (clc_size clz) (clc_one clz) hres hbw
        rw [hR] at hst4 hg4
        have FIN : Hid (Below w.heap.size w W4) := hb4
        have HN : Hid (n ≠ r.takes.length) := by rw [hq]; exact hnq
        have hn1 : (((n + 1 : Nat) : Int) - 1 == (q : Int)) = false := by simp; omega
        have HR : Hid (w.heap.size = R) := hR
        have HQ : Hid (r.takes.length = q) := hq
        clear hb4 H3 hres hbw hR hrn hq hs3 hg3
        go_wp2_with (first
          | (refine wpList_storeR (ty := 62) (x := .tmp 4) (y := .tmp 19) (ad := ⟨gr, 0, none⟩) (v := .agg (rwc r).toArray) (w' := W3) rfl rfl rfl rfl hst ?_)
          | (refine wpList_storeR (ty := 38) (x := .tmp 2) (y := .tmp 31) (ad := ⟨R, 0, none⟩) (v := .agg (clc clz)) (w' := W4) rfl rfl rfl rfl hst4 ?_))
        refine ret_cl2 rfl rfl rfl rfl hg4 rfl ?_
        rw [HP.out]
        simp only [if_neg HN.out]
        exact ⟨rfl, FIN.out⟩
end Go.Proofs.YtmlfekbmbnfkjabGreatDoor

/-
  awake and small.
-/
namespace Go.Proofs.YtmlfekbmbnfkjabGreatDoor
set_option maxRecDepth 100000
open Go.RowKit

def awA : List (List UInt8) := [[105, 110, 99, 114, 98, 121], [107], [45, 53]]
def awC : Cl := ⟨[73, 78, 67, 82, 66, 89], [107], [], [], -5, 0⟩
theorem aw_parse : parseE awA = (awC, 0) := by decide +kernel
theorem aw_err : errE 13 = [69, 82, 82, 32, 105, 110, 116] := by decide
set_option maxHeartbeats 2000000 in
theorem cawake_any (w : World) (ht : Tb w) : Calls Tryz.prog 5 #[] w fun e w' => e = .returned (.bool true) ∧ Below w.heap.size w w' := by
  have hb0 : Below w.heap.size w (w.alloc (.cells #[.string ⟨#[105, 110, 99, 114, 98, 121]⟩, .string ⟨#[107]⟩, .string ⟨#[45, 53]⟩] 9)) := (Below.refl _ w).alloc (Nat.le_refl _) _
  have hT : T21.Txts (w.alloc (.cells #[.string ⟨#[105, 110, 99, 114, 98, 121]⟩, .string ⟨#[107]⟩, .string ⟨#[45, 53]⟩] 9)) (some ⟨w.heap.size, 0, none⟩) 3 3 (awA.map sb) := by
    refine ⟨rfl, Nat.le_refl _, (fun h => by cases h), fun ad had j s hs => ?_, fun s hs => ?_⟩
    · obtain rfl := Option.some.inj had
      rw [Addr.add_lit, Nat.zero_add, World.cell?_alloc_mark]
      match j, hs with
      | 0, hs => cases hs; rfl
      | 1, hs => cases hs; rfl
      | 2, hs => cases hs; rfl
    · have h9 : ∀ x ∈ awA, x.length ≤ 9 := by decide
      obtain ⟨x, hx, rfl⟩ := List.mem_map.1 hs
      have := h9 x hx
      rw [size_sb]
      unfold maxLen
      omega
  have hP := parse_any (some ⟨w.heap.size, 0, none⟩) 3 3 awA _ hT (by decide) (ht.below hb0) (by decide)
  rw [aw_parse] at hP
  have HB0 : Hid _ := hb0
  clear hb0 hT
  go_enter Tryz.func5, Tryz.ntmps5
  go_wp2_with fail
  refine Calls.mono hP ?_
  rintro e w1 ⟨rfl, hb1⟩
  have hb2 : Below w.heap.size w w1 := HB0.out.trans (hb1.mono HB0.out.size)
  have hnew := heap_alloc_new w1 (.cells (clc clz) 38)
  have hst : (storeVar 38 ⟨w1.heap.size, 0, none⟩ (.agg #[.string ⟨#[73, 78, 67, 82, 66, 89]⟩, .string ⟨#[107]⟩, .string ⟨#[]⟩, .string ⟨#[]⟩, .int .i64 (-5), .int .i64 0])).run Tryz.prog (w1.alloc (.cells (clc clz) 38)) = .ok () ((w1.alloc (.cells (clc clz) 38)).setRow w1.heap.size (clc awC)) := storeVar_cl (cs := clc awC) hnew rfl rfl (clc_one _)
  have hg := setRow_heap (w1.alloc (.cells (clc clz) 38)) w1.heap.size _ (clc awC) _ _ hnew
  have hb3 : Below w1.heap.size w1 ((w1.alloc (.cells (clc clz) 38)).setRow w1.heap.size (clc awC)) := below_setRow ((Below.refl _ w1).alloc (Nat.le_refl _) _) (Nat.le_refl _) _
  generalize (w1.alloc (.cells (clc clz) 38)).setRow w1.heap.size (clc awC) = W2 at *
  have hld : (loadVar 38 ⟨w1.heap.size, 0, none⟩).run Tryz.prog W2 = .ok (.agg #[.string ⟨#[73, 78, 67, 82, 66, 89]⟩, .string ⟨#[107]⟩, .string ⟨#[]⟩, .string ⟨#[]⟩, .int .i64 (-5), .int .i64 0]) W2 := loadVar_cl hg (clc_size awC)
  have hR := fun W => refuse_any 13 W
  rw [aw_err] at hR
  have hR : ∀ W, Calls Tryz.prog 13 #[.int .i64 13] W fun x w' => x = .returned (.agg #[.int .i64 2, .string ⟨#[69, 82, 82, 32, 105, 110, 116]⟩, .int .i64 0, .slice none 0 0]) ∧ Below W.heap.size W w' := hR
  have FIN : Hid (Below w.heap.size w W2) := hb2.trans (hb3.mono hb2.size)
  have hec : (Value.agg (clc awC)) = .agg #[.string ⟨#[73, 78, 67, 82, 66, 89]⟩, .string ⟨#[107]⟩, .string ⟨#[]⟩, .string ⟨#[]⟩, .int .i64 (-5), .int .i64 0] := rfl
  clear hb1 hb2 hb3 hg hnew hP HB0
  go_wp2_with (first
    | (refine wpList_storeR (ty := 38) (x := .tmp 1) (y := .tmp 6) (ad := ⟨w1.heap.size, 0, none⟩) (v := .agg #[.string ⟨#[73, 78, 67, 82, 66, 89]⟩, .string ⟨#[107]⟩, .string ⟨#[]⟩, .string ⟨#[]⟩, .int .i64 (-5), .int .i64 0]) (w' := W2) rfl rfl rfl rfl hst ?_)
    | (refine wpList_loadW (ty := 38) (x := .tmp 1) (ad := ⟨w1.heap.size, 0, none⟩) (v := .agg #[.string ⟨#[73, 78, 67, 82, 66, 89]⟩, .string ⟨#[107]⟩, .string ⟨#[]⟩, .string ⟨#[]⟩, .int .i64 (-5), .int .i64 0]) (by first | rfl | kernel_rfl) rfl rfl hld ?_))
  refine Calls.mono (hR _) ?_
  rintro e w3 ⟨rfl, hb4⟩
  have FIN2 : Hid (Below w.heap.size w w3) := FIN.out.trans (hb4.mono FIN.out.size)
  clear hb4 hR hld hst
  have hf : (Instr.field 30 (.agg #[.int .i64 2, .string ⟨#[69, 82, 82, 32, 105, 110, 116]⟩, .int .i64 0, .slice none 0 0]) 1).run Tryz.prog w3 = .ok (.string ⟨#[69, 82, 82, 32, 105, 110, 116]⟩) w3 := by kernel_rfl
  go_wp2
  go_ret
  exact ⟨rfl, FIN2.out⟩
end Go.Proofs.YtmlfekbmbnfkjabGreatDoor

/-
  A text ahead of a list of texts; and what is laid for a call.
-/
namespace Go.Proofs.YtmlfekbmbnfkjabGreatDoor
set_option maxRecDepth 100000
open Go.RowKit

theorem below_alloc22 (w : World) (o : Obj) : Below w.heap.size w (w.alloc o) := (Below.refl _ w).alloc (Nat.le_refl _) _
theorem y_alloc22 {o : Oper} {a : Act} {w w' : World} {K : Act → World → Prop} {Q : Exit → Act → World → Prop} {ty : TypeId} {v : Value} (ho : o.op = .alloc ty) (hr : (Instr.alloc ty true (.tuple #[])).run Tryz.prog w = .ok v w') (h : K (a.put o.dst v) w') : o.wp Tryz.prog a w K Q := by
  unfold Oper.wp execOp
  simp only [ho, Sem.run_bind, Sem.run_pure, Result.andThen_ok, hr]
  exact h
theorem heap_lt22 {w : World} {x : Nat} {o : Obj} (h : w.heap[x]? = some o) : x < w.heap.size := (Array.getElem?_eq_some_iff.1 h).1
end Go.Proofs.YtmlfekbmbnfkjabGreatDoor

/-
  The frame of the functions that plan: the call's block, the outcome's block.
-/
namespace Go.Proofs.YtmlfekbmbnfkjabGreatDoor
set_option maxRecDepth 100000
open Go.RowKit

structure Fr (w W : World) (B O : Nat) (c : Cl) : Prop where
  cl : W.heap[B]? = some (.cells (clc c) 38 (0, 0))
  be : Below w.heap.size w W
  lo : w.heap.size ≤ B
  hi : B < O
theorem Fr.below {w W W' : World} {B O : Nat} {c : Cl} (h : Fr w W B O c) (hb : Below W.heap.size W W') : Fr w W' B O c :=
  ⟨(hb.block _ (heap_lt22 h.cl)).trans h.cl, h.be.trans (hb.mono h.be.size), h.lo, h.hi⟩
theorem Fr.drew {w W : World} {B O : Nat} {c : Cl} (h : Fr w W B O c) : Fr w W.drew B O c := ⟨h.cl, h.be.drew, h.lo, h.hi⟩
theorem Fr.set {w W : World} {B O : Nat} {c : Cl} (vs : Array Value) (h : Fr w W B O c) : Fr w (W.setRow O vs) B O c := by
  have hs : Below O W (W.setRow O vs) := below_setRow (Below.refl _ W) (Nat.le_refl _) _
  exact ⟨(hs.block _ h.hi).trans h.cl, h.be.trans (hs.mono (Nat.le_trans h.lo (Nat.le_of_lt h.hi))), h.lo, h.hi⟩
theorem fr_new (w : World) (c : Cl) : Fr w ((w.alloc (.cells (clc c) 38)).alloc (.cells outz 53)) w.heap.size (w.heap.size + 1) c ∧ ((w.alloc (.cells (clc c) 38)).alloc (.cells outz 53)).heap[w.heap.size + 1]? = some (.cells outz 53 (0, 0)) :=
  ⟨⟨by rw [Below.heap_alloc _ _ _ (by simp)]; exact heap_alloc_new w _, below_two w _ _, Nat.le_refl _, Nat.lt_succ_self _⟩, alloc_two w _ _⟩
section
variable {w W : World} {B O : Nat} {nm ky fd vl : List UInt8} {n m : Int} (h : Fr w W B O ⟨nm, ky, fd, vl, n, m⟩)
include h
theorem Fr.c1 : W.cell? ⟨B, 1, none⟩ = some (.string (sb ky)) := by rw [cell_of_row W B 1 _ _ _ h.cl]; rfl
theorem Fr.c2 : W.cell? ⟨B, 2, none⟩ = some (.string (sb fd)) := by rw [cell_of_row W B 2 _ _ _ h.cl]; rfl
theorem Fr.c3 : W.cell? ⟨B, 3, none⟩ = some (.string (sb vl)) := by rw [cell_of_row W B 3 _ _ _ h.cl]; rfl
theorem Fr.c4 : W.cell? ⟨B, 4, none⟩ = some (.int .i64 n) := by rw [cell_of_row W B 4 _ _ _ h.cl]; rfl
theorem Fr.c5 : W.cell? ⟨B, 5, none⟩ = some (.int .i64 m) := by rw [cell_of_row W B 5 _ _ _ h.cl]; rfl
theorem Fr.load : (loadVar 38 ⟨B, 0, none⟩).run Tryz.prog W = .ok (.agg (clc ⟨nm, ky, fd, vl, n, m⟩)) W := loadVar_cl h.cl rfl
theorem Fr.l1 : (loadVar 9 ⟨B, 1, none⟩).run Tryz.prog W = .ok (.string (sb ky)) W := by have hc := h.c1; clear h; go_simp
theorem Fr.l2 : (loadVar 9 ⟨B, 2, none⟩).run Tryz.prog W = .ok (.string (sb fd)) W := by have hc := h.c2; clear h; go_simp
theorem Fr.l3 : (loadVar 9 ⟨B, 3, none⟩).run Tryz.prog W = .ok (.string (sb vl)) W := by have hc := h.c3; clear h; go_simp
theorem Fr.l4 : (loadVar 3 ⟨B, 4, none⟩).run Tryz.prog W = .ok (.int .i64 n) W := by have hc := h.c4; clear h; go_simp
theorem Fr.l5 : (loadVar 3 ⟨B, 5, none⟩).run Tryz.prog W = .ok (.int .i64 m) W := by have hc := h.c5; clear h; go_simp
end

theorem fieldc1 (w : World) (B : Nat) : (Instr.fieldAt 38 (.pointer (some ⟨B, 0, none⟩)) 1).run Tryz.prog w = .ok (.pointer (some ⟨B, 1, none⟩)) w := by go_simp
theorem bld01 (w : World) (k : Int) (a : ByteArray) : (Instr.build 34 #[(0, .int .i64 k), (1, .string a)]).run Tryz.prog w = .ok (.agg #[.int .i64 k, .string a, .string ⟨#[]⟩, .string ⟨#[]⟩, .int .i64 0, .int .i64 0, .int .i64 0]) w := by go_simp
theorem y_bldS {o : Oper} {a : Act} {w : World} {ty : TypeId} {ps : List (Nat × Operand)} {vs : List (Nat × Value)} {v : Value} (ho : o.op = .build ty ps.toArray) (he : ps.map (fun p => (p.1, a.eval p.2)) = vs) (hr : (Instr.build ty vs.toArray).run Tryz.prog w = .ok v w) : (execOp a.eval o).run Tryz.prog w = .ok (.value v) w := by
  unfold execOp
  subst he
  simp only [ho, List.map_toArray, Sem.run_bind, Sem.run_pure, Result.andThen_ok, hr]
end Go.Proofs.YtmlfekbmbnfkjabGreatDoor

/-
  What comes of a command: what can't be done, a text that may be, what may be done.
-/
namespace Go.Proofs.YtmlfekbmbnfkjabGreatDoor
set_option maxRecDepth 100000
open Go.RowKit

theorem cfail_any (t : List UInt8) (w : World) : Calls Tryz.prog 26 #[.string (sb t)] w fun x w' => x = .returned (.agg (outx 2 t 0 none 0 0 opzz false)) ∧ Below w.heap.size w w' := by
  obtain ⟨W0, hW0⟩ : ∃ W0, w.alloc (.cells outz 53) = W0 := ⟨_, rfl⟩
  have hO0 : W0.heap[w.heap.size]? = some (.cells outz 53 (0, 0)) := by rw [← hW0]; exact heap_alloc_new w _
  have hb0 : Below w.heap.size w W0 := by rw [← hW0]; exact (Below.refl _ w).alloc (Nat.le_refl _) _
  have hW1 : w.alloc (.cells #[.int .i64 0, .string ⟨#[]⟩, .int .i64 0, .slice none 0 0, .int .i64 0, .string ⟨#[]⟩, .string ⟨#[]⟩, .string ⟨#[]⟩, .int .i64 0, .int .i64 0, .int .i64 0, .bool false] 53) = W0 := hW0
  obtain ⟨B, hB⟩ : ∃ B, w.heap.size = B := ⟨_, rfl⟩
  rw [hB] at hO0 hb0
  have HOW0 : Hid (W0.heap[B]? = some (.cells outz 53 (0, 0))) := hO0
  have HBW0 : Hid (Below B w W0) := hb0
  have HL : Hid (B < W0.heap.size) := heap_lt22 hO0
  clear hW0 hO0 hb0
  go_enter Tryz.func26, Tryz.ntmps26
  have hC := refusal_any t W0
  go_wp2_with fail
  refine Calls.mono hC ?_
  rintro ex w1 ⟨rfl, hb⟩
  have HOw1 : Hid (w1.heap[B]? = some (.cells outz 53 (0, 0))) := (hb.block _ (heap_lt22 HOW0.out)).trans HOW0.out
  have HBw1 : Hid (Below B w w1) := HBW0.out.trans (hb.mono (by have := HBW0.out.size; omega))
  clear hC hb
  have hC := ctell_any 2 t 0 none 0 0 w1
  go_wp2_with fail
  refine Calls.mono hC ?_
  rintro ex w2 ⟨rfl, hb⟩
  have HOw2 : Hid (w2.heap[B]? = some (.cells outz 53 (0, 0))) := (hb.block _ (heap_lt22 HOw1.out)).trans HOw1.out
  have HBw2 : Hid (Below B w w2) := HBw1.out.trans (hb.mono (by have := HBw1.out.size; omega))
  clear hC hb
  have hst := storeVar_out (cs := outx 2 t 0 none 0 0 opzz false) HOw2.out rfl rfl (outx_one _ _ _ _ _ _ _ _ _ _ _ _ _ _)
  have hg := setRow_heap w2 B _ (outx 2 t 0 none 0 0 opzz false) _ _ HOw2.out
  have HF : Hid (Below B w (w2.setRow B (outx 2 t 0 none 0 0 opzz false))) := below_setRow HBw2.out (by omega) _
  generalize w2.setRow B (outx 2 t 0 none 0 0 opzz false) = w3 at *
  go_wp2_with (first | (refine wpList_storeR (ty := 53) (x := .tmp 2) (y := .tmp 5) (ad := ⟨B, 0, none⟩) (v := .agg (outx 2 t 0 none 0 0 opzz false)) (w' := w3) rfl rfl rfl rfl hst ?_))
  refine ret_out rfl rfl rfl hg rfl ?_
  first | exact ⟨rfl, HF.out⟩ | exact ⟨rfl, by rw [hB]; exact HF.out⟩
theorem enters_isit (xs : Array Value) (w : World) : (callFunc 114 xs).run Tryz.prog w = .ok (.enter 114 xs) w := enters Tryz.func114 (by kernel_rfl) (by kernel_rfl) xs w
theorem enters_cdo (xs : Array Value) (w : World) : (callFunc 105 xs).run Tryz.prog w = .ok (.enter 105 xs) w := enters Tryz.func105 (by kernel_rfl) (by kernel_rfl) xs w
theorem doif_any (b : Bool) (k : Int) (ky f v : List UInt8) (n r m : Int) (w : World) : Calls Tryz.prog 112 #[.bool b, .agg (opx k ky f v n r m)] w fun x w' => x = .returned (.agg (outx 3 [] (if b then 1 else 0) none 0 0 (if b then opx k ky f v n r m else opzz) b)) ∧ Below w.heap.size w w' := by
  cases b
  · obtain ⟨W0, hW0⟩ : ∃ W0, (w.alloc (.cells (opx k ky f v n r m) 34)).alloc (.cells outz 53) = W0 := ⟨_, rfl⟩
    have hO0 : W0.heap[w.heap.size + 1]? = some (.cells outz 53 (0, 0)) := by rw [← hW0]; exact alloc_two w _ _
    have hP0 : W0.heap[w.heap.size]? = some (.cells (opx k ky f v n r m) 34 (0, 0)) := by rw [← hW0, Below.heap_alloc _ _ _ (by simp)]; exact heap_alloc_new w _
    have hb0 : Below w.heap.size w W0 := by rw [← hW0]; exact below_two w _ _
    have hW1 : (w.alloc (.cells (opx k ky f v n r m) 34)).alloc (.cells #[.int .i64 0, .string ⟨#[]⟩, .int .i64 0, .slice none 0 0, .int .i64 0, .string ⟨#[]⟩, .string ⟨#[]⟩, .string ⟨#[]⟩, .int .i64 0, .int .i64 0, .int .i64 0, .bool false] 53) = W0 := hW0
    obtain ⟨C, hC0⟩ : ∃ C, w.heap.size = C := ⟨_, rfl⟩
    rw [hC0] at hO0 hP0 hb0
    have HOW0 : Hid (W0.heap[C + 1]? = some (.cells outz 53 (0, 0))) := hO0
    have HBW0 : Hid (Below C w W0) := hb0
    have HPW0 : Hid (W0.heap[C]? = some (.cells (opx k ky f v n r m) 34 (0, 0))) := hP0
    clear hW0 hO0 hb0 hP0
    go_enter Tryz.func112, Tryz.ntmps112
    have hC := cisit_any false W0
    go_wp2_with fail
    refine Calls.mono hC ?_
    rintro ex w1 ⟨rfl, hb⟩
    have HOw1 : Hid (w1.heap[C + 1]? = some (.cells outz 53 (0, 0))) := (hb.block _ (heap_lt22 HOW0.out)).trans HOW0.out
    have HBw1 : Hid (Below C w w1) := HBW0.out.trans (hb.mono (by have := HBW0.out.size; omega))
    clear hC hb
    have hC := ctell_any 3 [] 0 none 0 0 w1
    go_wp2_with fail
    refine Calls.mono hC ?_
    rintro ex w2 ⟨rfl, hb⟩
    have HOw2 : Hid (w2.heap[C + 1]? = some (.cells outz 53 (0, 0))) := (hb.block _ (heap_lt22 HOw1.out)).trans HOw1.out
    have HBw2 : Hid (Below C w w2) := HBw1.out.trans (hb.mono (by have := HBw1.out.size; omega))
    clear hC hb
    have hst := storeVar_out (cs := outx 3 [] 0 none 0 0 opzz false) HOw2.out rfl rfl (outx_one _ _ _ _ _ _ _ _ _ _ _ _ _ _)
    have hg := setRow_heap w2 (C + 1) _ (outx 3 [] 0 none 0 0 opzz false) _ _ HOw2.out
    have HF : Hid (Below C w (w2.setRow (C + 1) (outx 3 [] 0 none 0 0 opzz false))) := below_setRow HBw2.out (by omega) _
    generalize w2.setRow (C + 1) (outx 3 [] 0 none 0 0 opzz false) = w3 at *
    go_wp2_with (first | (refine wpList_storeR (ty := 53) (x := .tmp 4) (y := .tmp 8) (ad := ⟨C + 1, 0, none⟩) (v := .agg (outx 3 [] 0 none 0 0 opzz false)) (w' := w3) rfl rfl rfl rfl hst ?_))
    refine ret_out rfl rfl rfl hg rfl ?_
    first | exact ⟨rfl, HF.out⟩ | exact ⟨rfl, by rw [hC0]; exact HF.out⟩
  · obtain ⟨W0, hW0⟩ : ∃ W0, (w.alloc (.cells (opx k ky f v n r m) 34)).alloc (.cells outz 53) = W0 := ⟨_, rfl⟩
    have hO0 : W0.heap[w.heap.size + 1]? = some (.cells outz 53 (0, 0)) := by rw [← hW0]; exact alloc_two w _ _
    have hP0 : W0.heap[w.heap.size]? = some (.cells (opx k ky f v n r m) 34 (0, 0)) := by rw [← hW0, Below.heap_alloc _ _ _ (by simp)]; exact heap_alloc_new w _
    have hb0 : Below w.heap.size w W0 := by rw [← hW0]; exact below_two w _ _
    have hW1 : (w.alloc (.cells (opx k ky f v n r m) 34)).alloc (.cells #[.int .i64 0, .string ⟨#[]⟩, .int .i64 0, .slice none 0 0, .int .i64 0, .string ⟨#[]⟩, .string ⟨#[]⟩, .string ⟨#[]⟩, .int .i64 0, .int .i64 0, .int .i64 0, .bool false] 53) = W0 := hW0
    obtain ⟨C, hC0⟩ : ∃ C, w.heap.size = C := ⟨_, rfl⟩
    rw [hC0] at hO0 hP0 hb0
    have HOW0 : Hid (W0.heap[C + 1]? = some (.cells outz 53 (0, 0))) := hO0
    have HBW0 : Hid (Below C w W0) := hb0
    have HPW0 : Hid (W0.heap[C]? = some (.cells (opx k ky f v n r m) 34 (0, 0))) := hP0
    clear hW0 hO0 hb0 hP0
    go_enter Tryz.func112, Tryz.ntmps112
    go_wp2_with fail
    obtain ⟨D, hD⟩ : ∃ D, D = W0.drew := ⟨_, rfl⟩
    have SD : D.heap[C]? = some (.cells (opx k ky f v n r m) 34 (0, 0)) ∧ Below C w D := by rw [hD]; exact ⟨HPW0.out, HBW0.out.drew⟩
    have hOD : D.heap[C + 1]? = some (.cells outz 53 (0, 0)) := by rw [hD]; exact HOW0.out
    refine wp_region_noPanic ?_
    refine wp_region_held_drew (S := fun W' : World => W'.heap[C]? = some (.cells (opx k ky f v n r m) 34 (0, 0)) ∧ Below C w W') (by kernel_rfl) (by rw [← hD]; exact SD) (fun hHeld => ?_)
    rw [← hD] at hHeld ⊢
    refine wpAnyH_take (i := 1) (oi := { dst := some 10, op := _, type := _, pos := _, after := _, guard := _ }) (v := .agg (opx k ky f v n r m)) rfl (by kernel_rfl) (by kernel_rfl) (by kernel_rfl) (fun _ _ _ h => h) (Or.inl ⟨by rfl, ?_⟩) (by assumption) ?_
    · intro w9 hSw
      exact y_load rfl rfl (loadVar_opr hSw.1 rfl)
    simp only [Act.put, List.setIfInBounds_toArray, List.set_cons_zero, List.set_cons_succ]
    clear hHeld
    refine wpAnyH_ready (rs := [0]) (by kernel_rfl) (by simp) ?_
    refine AllReadyH.cons (o := { dst := some 9, op := _, type := _, pos := _, after := _, guard := _ }) rfl (fun K hK => ?_) AllReadyH.nil
    rw [if_pos (by rfl)]
    refine y_call (f := 114) (xs := [.const (.bool true)]) (vs := [.bool true]) rfl rfl (enters_isit _ _) (cisit_any true D) ?_
    rintro ex q1 ⟨rfl, hb⟩
    refine ⟨_, rfl, ?_⟩
    have Sq1 : q1.heap[C]? = some (.cells (opx k ky f v n r m) 34 (0, 0)) ∧ Below C w q1 := ⟨(hb.block _ (heap_lt22 SD.1)).trans SD.1, SD.2.trans (hb.mono (by have := SD.2.size; omega))⟩
    have hOq1 : q1.heap[C + 1]? = some (.cells outz 53 (0, 0)) := (hb.block _ (heap_lt22 hOD)).trans hOD
    clear hb
    refine hK.out _ _ Sq1 (fun hHeld => ?_)
    clear hK K
    simp only [Act.put, List.setIfInBounds_toArray, List.set_cons_zero, List.set_cons_succ]
    clear hHeld
    refine wpAnyH_ready (rs := [2]) (by kernel_rfl) (by simp) ?_
    refine AllReadyH.cons (o := { dst := some 11, op := _, type := _, pos := _, after := _, guard := _ }) rfl (fun K hK => ?_) AllReadyH.nil
    rw [if_pos (by rfl)]
    refine y_call (f := 105) (xs := [.tmp 9, .tmp 10]) (vs := [.agg (repc 3 [] 1 (.slice none 0 0)), .agg (opx k ky f v n r m)]) rfl rfl (enters_cdo _ _) (cdo_any 3 [] 1 none 0 0 k ky f v n r m q1) ?_
    rintro ex q2 ⟨rfl, hb⟩
    refine ⟨_, rfl, ?_⟩
    have Sq2 : q2.heap[C]? = some (.cells (opx k ky f v n r m) 34 (0, 0)) ∧ Below C w q2 := ⟨(hb.block _ (heap_lt22 Sq1.1)).trans Sq1.1, Sq1.2.trans (hb.mono (by have := Sq1.2.size; omega))⟩
    have hOq2 : q2.heap[C + 1]? = some (.cells outz 53 (0, 0)) := (hb.block _ (heap_lt22 hOq1)).trans hOq1
    clear hb
    refine hK.out _ _ Sq2 (fun hHeld => ?_)
    clear hK K
    simp only [Act.put, List.setIfInBounds_toArray, List.set_cons_zero, List.set_cons_succ]
    clear hHeld
    refine wpAnyH_ready (rs := [3]) (by kernel_rfl) (by simp) ?_
    refine AllReadyH.cons (o := { dst := none, op := _, type := _, pos := _, after := _, guard := _ }) rfl (fun K hK => ?_) AllReadyH.nil
    rw [if_pos (by rfl)]
    have hst := storeVar_out (cs := outx 3 [] 1 none 0 0 (opx k ky f v n r m) true) hOq2 rfl rfl (outx_one _ _ _ _ _ _ _ _ _ _ _ _ _ _)
    have hg := setRow_heap q2 (C + 1) _ (outx 3 [] 1 none 0 0 (opx k ky f v n r m) true) _ _ hOq2
    have hs : Below (C + 1) q2 (q2.setRow (C + 1) (outx 3 [] 1 none 0 0 (opx k ky f v n r m) true)) := below_setRow (Below.refl _ q2) (Nat.le_refl _) _
    generalize q2.setRow (C + 1) (outx 3 [] 1 none 0 0 (opx k ky f v n r m) true) = q3 at *
    have Sq3 : q3.heap[C]? = some (.cells (opx k ky f v n r m) 34 (0, 0)) ∧ Below C w q3 := ⟨(hs.block _ (Nat.lt_succ_self _)).trans Sq2.1, Sq2.2.trans (hs.mono (Nat.le_succ _))⟩
    refine y_store (ty := 53) (x := .tmp 4) (y := .tmp 11) (ad := ⟨C + 1, 0, none⟩) (v := .agg (outx 3 [] 1 none 0 0 (opx k ky f v n r m) true)) (w' := q3) rfl rfl rfl hst ?_
    refine hK.out _ _ Sq3 (fun hHeld => ?_)
    clear hK K
    simp only [Act.put]
    refine wpAnyH_done (by kernel_rfl) ?_ _
    refine NoPanic.normal ?_
    clear hHeld
    go_wp2
    refine ret_out rfl rfl rfl hg rfl ?_
    first | exact ⟨rfl, Sq3.2⟩ | exact ⟨rfl, by rw [hC0]; exact Sq3.2⟩
/-- What doIf hands back. -/
def outd (b : Bool) (k : Int) (ky f v : List UInt8) (n r m : Int) : Array Value := outx 3 [] (if b then 1 else 0) none 0 0 (if b then opx k ky f v n r m else opzz) b
theorem outd_size (b : Bool) (k : Int) (ky f v : List UInt8) (n r m : Int) : (outd b k ky f v n r m).size = 12 := by cases b <;> rfl
theorem outd_one (b : Bool) (k : Int) (ky f v : List UInt8) (n r m : Int) : (outd b k ky f v n r m).all (·.oneCell') = true := by cases b <;> exact outx_one _ _ _ _ _ _ _ _ _ _ _ _ _ _
theorem doif_outd (b : Bool) (k : Int) (ky f v : List UInt8) (n r m : Int) (w : World) : Calls Tryz.prog 112 #[.bool b, .agg (opx k ky f v n r m)] w fun x w' => x = .returned (.agg (outd b k ky f v n r m)) ∧ Below w.heap.size w w' := doif_any b k ky f v n r m w
theorem y_bin22 {o : Oper} {a : Act} {w : World} {op : BinOp} {t r : TypeId} {x y : Operand} {vx vy v : Value} (ho : o.op = .binOp op t x y r) (hx : a.eval x = vx) (hy : a.eval y = vy) (hg : (eqGuard op t x y vx vy).run Tryz.prog w = .ok () w) (hv : (binOp op t vx vy).run Tryz.prog w = .ok v w) : (execOp a.eval o).run Tryz.prog w = .ok (.value v) w := by
  unfold execOp
  simp only [ho, hx, hy, Sem.run_bind, Sem.run_pure, Result.andThen_ok, hg, hv]
theorem guard_int22 (w : World) {op : BinOp} {x y : Operand} (a b : Int) : (eqGuard op 3 x y (.int .i64 a) (.int .i64 b)).run Tryz.prog w = .ok () w := by go_simp
theorem neq_int22 (w : World) (a b : Int) : (binOp .neq 3 (.int .i64 a) (.int .i64 b)).run Tryz.prog w = .ok (.bool (!(a == b))) w := by
  simp [go_sem]
  rfl
end Go.Proofs.YtmlfekbmbnfkjabGreatDoor

