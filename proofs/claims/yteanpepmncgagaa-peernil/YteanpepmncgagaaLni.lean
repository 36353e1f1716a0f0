/-
  PeerNil, the walk.
-/
import Derived.Test.YteanpepmncgagaaPop
namespace Go.Proofs.Yteanpepmncgagaa
set_option maxRecDepth 100000
open Go.RowKit

theorem row_times {w : World} {base : Nat} {r : Value} {E : List Ev} (h : Row w base r E) (hw : ∀ e ∈ E, Wide e) (hn : 0 < E.length) : ∃ gx cap cur, r = .slice (some ⟨gx, 0, none⟩) E.length cap ∧ base ≤ gx ∧ w.heap[gx]? = some (.cells cur 39 (0, 0)) ∧ ∀ i, i < E.length → ∃ t : Int, cur[i * 26 + 2]? = some (.int .i64 t) := by
  rcases h.2 with ⟨rfl, h0⟩ | ⟨g, cap, cur, rfl, hb, hg, hnc, hcm, hcs, htake⟩
  · omega
  · refine ⟨g, cap, cur, rfl, hb, hg, fun i hi => ?_⟩
    have h1 := evs_at hw i _ (List.getElem?_eq_getElem hi) 2 (.int .i64 E[i].t) rfl
    rw [← htake, List.getElem?_take_of_lt (by omega), Array.getElem?_toList] at h1
    exact ⟨_, h1⟩
set_option maxHeartbeats 1000000 in
theorem lnil_far (o : Po) (ao : Option Addr) (len cap : Nat) (w : World) (hl : 200 < len) : Calls Try.prog 6 #[.agg (pol o).toArray, .slice ao len cap] w fun e w' => e = .returned (.bool true) ∧ Below w.heap.size w w' := by
  have hb0 : Below w.heap.size w (w.alloc (.cells (pol o).toArray 41)) := (Below.refl _ w).alloc (Nat.le_refl _) _
  generalize hW0 : w.alloc (.cells (pol o).toArray 41) = W0 at *
  have hA := pawake_any W0
  have HB0 : Hid (Below w.heap.size w W0) := hb0
  clear hb0
  go_enter Try.func6, Try.ntmps6
  go_wp2_with fail
  refine Calls.mono hA ?_
  rintro e w1 ⟨rfl, hb1⟩
  have hA2 := pawake_any w1
  have HB1 : Hid (Below w.heap.size w w1) := HB0.out.trans (hb1.mono HB0.out.size)
  clear hb1 hA HB0
  go_wp2_with fail
  refine Calls.mono hA2 ?_
  rintro e w3 ⟨rfl, hb3⟩
  have HB3 : Hid (Below w.heap.size w w3) := HB1.out.trans (hb3.mono HB1.out.size)
  clear hb3 hA2
  go_wp2
  go_ret
  exact ⟨rfl, HB3.out⟩
set_option maxHeartbeats 8000000 in
theorem lnil_go (o : Po) (ho : WidePo o) (ao : Option Addr) (len cap : Nat) (E : List Ev) (w : World) (hE : Evs w ao len cap E) (hl : ¬ 200 < len) : Calls Try.prog 6 #[.agg (pol o).toArray, .slice ao len cap] w fun e w' => e = .returned (.bool true) ∧ Below w.heap.size w w' := by
  have hO0 := po_new w o ho
  have hd : decide ((200 : Int) < (len : Int)) = false := decide_eq_false (by omega)
  have hb0 : Below w.heap.size w (w.alloc (.cells (pol o).toArray 41)) := (Below.refl _ w).alloc (Nat.le_refl _) _
  generalize hW0 : w.alloc (.cells (pol o).toArray 41) = W0 at *
  have hAw := pawake_any W0
  have hlen := hE.len
  have hwE := hE.wide
  go_enter Try.func6, Try.ntmps6
  go_wp2_with fail
  refine Calls.mono hAw ?_
  rintro e w1 ⟨rfl, hb1⟩
  have hO := hO0.same (hb1.block _ hO0.lt)
  have hB1 := hb0.trans (hb1.mono hb0.size)
  clear hb0 hb1 hAw hW0 hO0
  have hP := padd_nil o.e ho.e w1
  have hlde := hO.lde
  rw [Nat.zero_add] at hlde
  have hf1 := field_p1 w1 w.heap.size
  go_wp2_with (refine wpList_loadR (ty := 39) (x := .tmp 19) (ad := ⟨w.heap.size, 1, none⟩) (v := .agg (evc o.e)) rfl rfl rfl hlde ?_)
  refine Calls.mono hP ?_
  rintro e w2 ⟨rfl, hb2⟩
  have hO := hO.same (hb2.block _ hO.lt)
  have hB2 := hB1.trans (hb2.mono hB1.size)
  have hlen0 := plen_any (.pointer none) [] w2 (.inr ⟨rfl, rfl⟩)
  clear hB1 hb2 hP hlde hf1
  go_wp2_with fail
  refine Calls.mono hlen0 ?_
  rintro e w3 ⟨rfl, hb3⟩
  have hO := hO.same (hb3.block _ hO.lt)
  have hB3 := hB2.trans (hb3.mono hB2.size)
  have hev0 := pevents_any (.pointer none) [] (by simp) w3 (.inr ⟨rfl, rfl⟩)
  clear hB2 hb3 hlen0
  go_wp2_with fail
  refine Calls.mono hev0 ?_
  rintro e w4 ⟨r4, rfl, hR4, hb4⟩
  obtain ⟨a4, c4, rfl, -⟩ := hR4.evs (fun e he => by cases he)
  have hO := hO.same (hb4.block _ hO.lt)
  have hB4 := hB3.trans (hb4.mono hB3.size)
  have htr0 := ptrim_nil o.v ho.v w4
  have hldv := hO.ldv
  rw [Nat.zero_add] at hldv
  have hf2 := field_p2 w4 w.heap.size
  clear hB3 hb4 hev0 hR4
  go_wp2_with (refine wpList_loadW (ty := 35) (x := .tmp 33) (ad := ⟨w.heap.size, 27, none⟩) (v := .agg (vals o.v)) rfl rfl rfl hldv ?_)
  refine Calls.mono htr0 ?_
  rintro e w5 ⟨rfl, hb5⟩
  have hO := hO.same (hb5.block _ hO.lt)
  have hB5 := hB4.trans (hb5.mono hB4.size)
  clear hB4 hb5 htr0 hldv hf2
  have hfo0 := pfor_any (.pointer none) [] o.v o.w ho.v ho.w o.n (by simp) w5 (.inr ⟨rfl, rfl⟩)
  rw [for_zero] at hfo0
  have hldv := hO.ldv
  have hldw := hO.ldw
  have hnum := hO.num
  rw [Nat.zero_add] at hldv hldw hnum
  have hf2 := field_p2 w5 w.heap.size
  have hf3 := field_p3 w5 w.heap.size
  have hf4 := field_p4 w5 w.heap.size
  go_wp2_with (first
    | (refine wpList_loadW (ty := 35) (x := .tmp 40) (ad := ⟨w.heap.size, 27, none⟩) (v := .agg (vals o.v)) rfl rfl rfl hldv ?_)
    | (refine wpList_loadW (ty := 35) (x := .tmp 42) (ad := ⟨w.heap.size, 43, none⟩) (v := .agg (vals o.w)) rfl rfl rfl hldw ?_))
  refine Calls.mono hfo0 ?_
  rintro e w6 ⟨r6, rfl, hR6, hb6⟩
  obtain ⟨a6, c6, rfl, -⟩ := hR6.evs (fun e he => by cases he)
  have hB6 := hB5.trans (hb6.mono hB5.size)
  clear hB5 hb6 hfo0 hldv hldw hnum hf2 hf3 hf4 hR6 hO
  have hN1 := pnew_any w6
  have hA0 := lw_new (F := w.heap.size) w6 31 hB6.size
  have hb2 : Below w6.heap.size w6 (w6.alloc (.cells #[.slice none 0 0] 31)) := (Below.refl _ w6).alloc (Nat.le_refl _) _
  obtain ⟨g, hg⟩ : ∃ g, w6.heap.size = g := ⟨_, rfl⟩
  have hB3 := hB6.trans (hb2.mono hB6.size)
  generalize hW2 : w6.alloc (.cells #[.slice none 0 0] 31) = w3 at *
  rw [hg] at hA0 hN1
  clear hb2 hg hB6
  have he := fun W ad => eql_lp W ad
  go_wp2_with fail
  refine Calls.mono hN1 ?_
  rintro e wx ⟨rfl, hw⟩
  obtain rfl := hw.symm
  clear hw hN1 hW2
  go_wp2_with fail
  clear he
  go_loopw [55] (fun i wr => ∃ (k : Nat) (va : Value), k ≤ len ∧ i = .int .i64 (k : Int) ∧ Lw 31 w.heap.size wr g va (E.take k) ∧ Below w.heap.size w wr) (fun i _ => len - (intOf i).toNat)
  case atStart => exact ⟨0, _, Nat.zero_le _, rfl, hA0, hB3⟩
  case round =>
    clear hA0 hB3
    obtain ⟨k, va, hk, rfl, hA, hBw⟩ := hrel
    by_cases hkl : k < len
    · obtain ⟨b, off, u, rfl, hui, hu, hr, hbl⟩ := (hE.below hBw (Nat.le_refl _)).at hkl
      have hix := fun W : World => index_ev W (b := b) (off := off) (k := k) (m := len) (c := cap) hkl
      have hP1 := padd_at g va (E.take k) u hu (by rw [List.length_take]; omega) wr hA.lp
      have HSN : Hid (E.take (k + 1) = E.take k ++ [u]) := take_snoc hui
      go_wp2_with (first | refine load_ev_mid rfl rfl rfl hr hu.1 ?_)
      refine Calls.mono hP1 ?_
      rintro e w4 ⟨rfl, va', hL4, hT4⟩
      obtain ⟨hA4, hB4⟩ := hA.turn hBw.size hL4 hT4
      have HALL : Hid (Lw 31 w.heap.size w4 g va' (E.take (k + 1)) ∧ Below w.heap.size w w4) := by
        rw [HSN.out]
        exact ⟨hA4, hBw.trans hB4⟩
      clear hP1 hL4 hT4 hA hB4 hA4 hBw hr hbl hix HSN
      go_wp2
      go_roundw
      case rel => exact ⟨k + 1, va', by omega, by go_num, HALL.out⟩
      case measure => simp [intOf]; omega
    · obtain rfl : k = len := by omega
      rw [List.take_of_length_le (by omega)] at hA
      have hev := pevents_any _ E (by omega) wr hA.lp.lp
      go_wp2_with fail
      refine Calls.mono hev ?_
      rintro e w4 ⟨r4, rfl, hR4, hb4⟩
      have hA4 := hA.below hb4
      have hB4 := hBw.trans (hb4.mono hBw.size)
      obtain ⟨a4, c4, rfl, -⟩ := hR4.evs hwE
      have HT : Hid (0 < k → ∃ gx cur, a4 = some ⟨gx, 0, none⟩ ∧ wr.heap.size ≤ gx ∧ w4.heap[gx]? = some (.cells cur 39 (0, 0)) ∧ ∀ i, i < k → ∃ t : Int, cur[i * 26 + 2]? = some (.int .i64 t)) := fun h0 => by
        obtain ⟨gx, cp, cur, h1, h2, h3, h4⟩ := row_times hR4 hwE (by omega)
        injection h1 with h5 h6 h7
        exact ⟨gx, cur, h5, h2, h3, fun i hi => h4 i (by omega)⟩
      have HLG : Hid (g < wr.heap.size ∧ (∀ j, va.ownBlock = some j → j < wr.heap.size) ∧ w.heap.size ≤ wr.heap.size) := ⟨hA.lp.lt, fun j hj => hA.lp.rowLt hj, hBw.size⟩
      rw [hlen]
      clear hev hA hBw hb4 hR4
      go_wp2_with fail
      go_loopw [69] (fun i wz => ∃ (i' : Nat), i' ≤ k ∧ i = .int .i64 (i' : Int) ∧ Lw 31 w.heap.size wz g va E ∧ Below w.heap.size w wz ∧ Hid (0 < k → ∃ gx cur, a4 = some ⟨gx, 0, none⟩ ∧ wr.heap.size ≤ gx ∧ wz.heap[gx]? = some (.cells cur 39 (0, 0)) ∧ ∀ i, i < k → ∃ t : Int, cur[i * 26 + 2]? = some (.int .i64 t))) (fun i _ => k - (intOf i).toNat)
      case atStart => exact ⟨0, Nat.zero_le _, rfl, hA4, hB4, HT⟩
      case round =>
        clear hA4 hB4 HT
        rename World => wz
        obtain ⟨i, hi, rfl, hA, hBz, HT⟩ := hrel
        by_cases hik : i < k
        · obtain ⟨gx, cur, rfl, hgx, hcu, htm⟩ := HT.out (by omega)
          obtain ⟨tm, ht⟩ := htm i hik
          have hix := fun W : World => index_ev W (b := gx) (off := 0) (k := i) (m := k) (c := c4) hik
          simp only [Nat.zero_add] at hix
          have hc : wz.cell? ⟨gx, i * 26 + 2, none⟩ = some (.int .i64 tm) := by rw [cell_of_row wz gx _ _ _ _ hcu, ht]
          have hfz : wz.frozen? ⟨gx, i * 26 + 2, none⟩ = false := frozen_of_row wz gx _ _ _ hcu
          have HALL : Hid (∀ u : Value, (∃ y : Int, u = .int .i64 y) → Lw 31 w.heap.size (wz.setCell ⟨gx, i * 26 + 2, none⟩ u) g va E ∧ Below w.heap.size w (wz.setCell ⟨gx, i * 26 + 2, none⟩ u) ∧ Hid (0 < k → ∃ gx' cur, some (⟨gx, 0, none⟩ : Addr) = some ⟨gx', 0, none⟩ ∧ wr.heap.size ≤ gx' ∧ (wz.setCell ⟨gx, i * 26 + 2, none⟩ u).heap[gx']? = some (.cells cur 39 (0, 0)) ∧ ∀ i, i < k → ∃ t : Int, cur[i * 26 + 2]? = some (.int .i64 t))) := by
            rintro u ⟨y, rfl⟩
            have ho' : ∀ j, j ≠ gx → (wz.setCell ⟨gx, i * 26 + 2, none⟩ (.int .i64 y)).heap[j]? = wz.heap[j]? := fun j hj => Below.heap_setCell _ _ _ j hj
            refine ⟨⟨hA.lp.kept (ho' g (by have := HLG.out.1; omega)) fun j hj => ho' j (by have := HLG.out.2.1 j hj; omega), hA.lo, hA.own⟩, hBz.setCell (p := ⟨gx, i * 26 + 2, none⟩) (by have := HLG.out.2.2; show _ ≤ gx; omega) _, fun _ => ⟨gx, _, rfl, hgx, heap_setCell_same wz gx _ _ _ _ hcu, fun j hj => ?_⟩⟩
            by_cases hji : j = i
            · subst hji
              have hlt : j * 26 + 2 < cur.size := (Array.getElem?_eq_some_iff.1 ht).1
              exact ⟨y, by simp [hlt]⟩
            · obtain ⟨t2, ht2⟩ := htm j hj
              exact ⟨t2, by rw [Array.getElem?_setIfInBounds_ne (by omega)]; exact ht2⟩
          clear hA hBz HT hcu htm ht hgx
          go_wp2
          go_roundw
          case rel => exact ⟨i + 1, by omega, by go_num, HALL.out _ ⟨_, rfl⟩⟩
          case measure => simp [intOf]; omega
        · obtain rfl : i = k := by omega
          have hev := pevents_any _ E (by omega) wz hA.lp.lp
          go_wp2_with fail
          refine Calls.mono hev ?_
          rintro e w5 ⟨r5, rfl, hR5, hb5⟩
          obtain ⟨a5, c5, rfl, hE5⟩ := hR5.evs hwE
          have hB5 := hBz.trans (hb5.mono hBz.size)
          have hSm := same_yes a5 ao i c5 cap E w5 (by rw [← hlen]; exact (by rw [hlen] at hE5 ⊢; exact hE5)) (hE.below hB5 (Nat.le_refl _)) (by omega)
          rw [hlen]
          have HB5 : Hid (Below w.heap.size w w5) := hB5
          clear hev hR5 hb5 hE5 hB5 hA hBz HT
          go_wp2_with fail
          refine Calls.mono hSm ?_
          rintro e w6 ⟨rfl, hb6⟩
          have HB6 : Hid (Below w.heap.size w w6) := HB5.out.trans (hb6.mono HB5.out.size)
          clear hSm hb6 HB5
          go_wp2
          go_ret
          exact ⟨rfl, HB6.out⟩
theorem lnil_walk (o : Po) (ho : WidePo o) (ao : Option Addr) (len cap : Nat) (E : List Ev) (w : World) (hE : Evs w ao len cap E) : Calls Try.prog 6 #[.agg (pol o).toArray, .slice ao len cap] w fun e w' => e = .returned (.bool true) ∧ Below w.heap.size w w' := by
  by_cases hl : 200 < len
  · exact lnil_far o ao len cap w hl
  · exact lnil_go o ho ao len cap E w hE hl
end Go.Proofs.Yteanpepmncgagaa
