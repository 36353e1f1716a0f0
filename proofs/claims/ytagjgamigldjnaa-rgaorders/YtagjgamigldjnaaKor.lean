/-
  RgaOrders: each list's order, its items, each place's anchor are those that the document says.
-/
import Derived.Test.YtagjgamigldjnaaKwk
namespace Go.Proofs.Ytagjgamigldjnaa
set_option maxRecDepth 100000
open Go.RowKit

set_option maxHeartbeats 4000000 in
theorem korders_walk (ao : Option Addr) (m c : Nat) (E : List Ev) (key : List UInt8) (at' : Int) (w : World) (hE : Evs w ao m c E) :
    Calls Try.prog 3 #[.slice ao m c, .string (sb key), .int .i64 at'] w fun e w' => e = .returned (.bool true) ∧ Below w.heap.size w w' := by
  have HE : Aside (Evs w ao m c E) := hE
  have hwide : Hid (∀ e ∈ E, Wide e) := hE.wide
  have hlen := hE.len
  clear hE
  go_enter Try.func3, Try.ntmps3
  go_wp2_with fail
  refine (awake_any w).mono ?_
  rintro e w1 ⟨rfl, hb1⟩
  have hE1 := HE.out.below hb1 (Nat.le_refl _)
  have HB1 : Hid (Below w.heap.size w w1) := hb1
  clear hb1
  go_wp2_with fail
  refine (few_any ao m c E w1 hE1).mono ?_
  rintro e w2 ⟨t, rfl, hfew, hw2⟩
  obtain rfl := hw2.symm
  clear hw2
  cases t with
  | false =>
    go_wp2_with fail
    refine (awake_any w1).mono ?_
    rintro e w3 ⟨rfl, hb3⟩
    have HB3 : Hid (Below w.heap.size w w3) := HB1.out.trans (hb3.mono HB1.out.size)
    clear hb3 HB1 hE1
    go_wp2
    go_ret
    exact ⟨rfl, HB3.out⟩
  | true =>
    have hm : m ≤ 60 := hfew rfl
    clear hfew
    go_wp2_with fail
    refine (anchor_any ao m c E key at' w1 hE1 (by omega)).mono ?_
    rintro e w3 ⟨rfl, hb3⟩
    have hE3 := hE1.below hb3 (Nat.le_refl _)
    have HB3 : Hid (Below w.heap.size w w3) := HB1.out.trans (hb3.mono HB1.out.size)
    obtain ⟨A, hA⟩ : ∃ A, anchE (itemsE key E) at' = A := ⟨_, rfl⟩
    rw [hA]
    have HA : Hid (anchE (itemsE key E) at' = A) := hA
    have hZ : LiesD (w3.alloc (.cells (dotc 0 0) 26)) w3.heap.size 0 0 := heap_alloc_new w3 _
    have hB4 : Below w3.heap.size w3 ((w3.alloc (.cells (dotc 0 0) 26)).setRow w3.heap.size (dotc A.1.1 A.1.2)) := below_setRow ((Below.refl _ _).alloc (Nat.le_refl _) _) (Nat.le_refl _) _
    have HS4 : Aside (LiesD ((w3.alloc (.cells (dotc 0 0) 26)).setRow w3.heap.size (dotc A.1.1 A.1.2)) w3.heap.size A.1.1 A.1.2 ∧ Evs ((w3.alloc (.cells (dotc 0 0) 26)).setRow w3.heap.size (dotc A.1.1 A.1.2)) ao m c E ∧ Below w.heap.size w ((w3.alloc (.cells (dotc 0 0) 26)).setRow w3.heap.size (dotc A.1.1 A.1.2))) := ⟨hZ.row _ _, hE3.below hB4 (Nat.le_refl _), HB3.out.trans (hB4.mono HB3.out.size)⟩
    clear hb3 hB4 hE3 HB3 HB1 hE1 hA
    go_upto_region 4 with (refine store_dot rfl rfl rfl rfl hZ ?_)
    change Code.wp _ _ _ _ ((w3.alloc (.cells (dotc 0 0) 26)).setRow w3.heap.size (dotc A.1.1 A.1.2))
    generalize (w3.alloc (.cells (dotc 0 0) 26)).setRow w3.heap.size (dotc A.1.1 A.1.2) = W4 at HS4 ⊢
    clear hZ
    generalize w3.heap.size = D1 at *
    go_wp2_with fail
    refine (ranchor_any ao m c E key at' W4 HS4.out.2.1 (by omega)).mono ?_
    rintro e w5 ⟨rfl, hb5⟩
    rw [HA.out]
    have hZ : LiesD (w5.alloc (.cells (dotc 0 0) 26)) w5.heap.size 0 0 := heap_alloc_new w5 _
    have hB6 : Below w5.heap.size w5 ((w5.alloc (.cells (dotc 0 0) 26)).setRow w5.heap.size (dotc A.1.1 A.1.2)) := below_setRow ((Below.refl _ _).alloc (Nat.le_refl _) _) (Nat.le_refl _) _
    have hD5 := HS4.out.1.below hb5 HS4.out.1.lt
    have HS6 : Aside (LiesD ((w5.alloc (.cells (dotc 0 0) 26)).setRow w5.heap.size (dotc A.1.1 A.1.2)) w5.heap.size A.1.1 A.1.2 ∧ LiesD ((w5.alloc (.cells (dotc 0 0) 26)).setRow w5.heap.size (dotc A.1.1 A.1.2)) D1 A.1.1 A.1.2 ∧ Evs ((w5.alloc (.cells (dotc 0 0) 26)).setRow w5.heap.size (dotc A.1.1 A.1.2)) ao m c E ∧ Below w.heap.size w ((w5.alloc (.cells (dotc 0 0) 26)).setRow w5.heap.size (dotc A.1.1 A.1.2))) := ⟨hZ.row _ _, hD5.below hB6 hD5.lt, (HS4.out.2.1.below hb5 (Nat.le_refl _)).below hB6 (Nat.le_refl _), (HS4.out.2.2.trans (hb5.mono HS4.out.2.2.size)).trans (hB6.mono (Nat.le_trans HS4.out.2.2.size hb5.size))⟩
    clear hb5 hB6 hD5 HS4
    go_upto_region 5 with (refine store_dot rfl rfl rfl rfl hZ ?_)
    change Code.wp _ _ _ _ ((w5.alloc (.cells (dotc 0 0) 26)).setRow w5.heap.size (dotc A.1.1 A.1.2))
    generalize (w5.alloc (.cells (dotc 0 0) 26)).setRow w5.heap.size (dotc A.1.1 A.1.2) = W6 at HS6 ⊢
    clear hZ
    generalize w5.heap.size = D2 at *
    go_wp2_with fail
    refine (order_any ao m c E key W6 HS6.out.2.2.1 (by omega)).mono ?_
    rintro e w7 ⟨v7, rfl, hR7, hb7⟩
    obtain ⟨a7, c7, hv7, hE7⟩ := hR7.evs (fun e he => hwide.out e (mem_nodes.1 (mem_orderE.1 he)).1)
    subst hv7
    have HS7 : Aside (LiesD w7 D2 A.1.1 A.1.2 ∧ LiesD w7 D1 A.1.1 A.1.2 ∧ Evs w7 ao m c E ∧ Below w.heap.size w w7 ∧ Evs w7 a7 (orderE key E).length c7 (orderE key E)) := ⟨HS6.out.1.below hb7 HS6.out.1.lt, HS6.out.2.1.below hb7 HS6.out.2.1.lt, HS6.out.2.2.1.below hb7 (Nat.le_refl _), HS6.out.2.2.2.trans (hb7.mono HS6.out.2.2.2.size), hE7⟩
    clear hR7 hb7 hE7 HS6
    go_wp2_with fail
    refine (rorder_any ao m c E key w7 HS7.out.2.2.1 (by omega)).mono ?_
    rintro e w8 ⟨v8, rfl, hR8, hb8⟩
    obtain ⟨a8, c8, hv8, hE8⟩ := hR8.evs (fun e he => hwide.out e (mem_nodes.1 (mem_orderE.1 he)).1)
    subst hv8
    have HS8 : Aside (LiesD w8 D2 A.1.1 A.1.2 ∧ LiesD w8 D1 A.1.1 A.1.2 ∧ Evs w8 ao m c E ∧ Below w.heap.size w w8 ∧ Evs w8 a7 (orderE key E).length c7 (orderE key E) ∧ Evs w8 a8 (orderE key E).length c8 (orderE key E)) := ⟨HS7.out.1.below hb8 HS7.out.1.lt, HS7.out.2.1.below hb8 HS7.out.2.1.lt, HS7.out.2.2.1.below hb8 (Nat.le_refl _), HS7.out.2.2.2.1.trans (hb8.mono HS7.out.2.2.2.1.size), HS7.out.2.2.2.2.below hb8 (Nat.le_refl _), hE8⟩
    have hol : (orderE key E).length ≤ 1000 := by rw [orderE_len]; have := nodes_len key E; omega
    clear hR8 hb8 hE8 HS7
    go_wp2_with fail
    refine (same_yes a7 a8 _ c7 c8 (orderE key E) w8 HS8.out.2.2.2.2.1 HS8.out.2.2.2.2.2 (by omega)).mono ?_
    rintro e w9 ⟨rfl, hb9⟩
    have HS9 : Aside (LiesD w9 D2 A.1.1 A.1.2 ∧ LiesD w9 D1 A.1.1 A.1.2 ∧ Evs w9 ao m c E ∧ Below w.heap.size w w9) := ⟨HS8.out.1.below hb9 HS8.out.1.lt, HS8.out.2.1.below hb9 HS8.out.2.1.lt, HS8.out.2.2.1.below hb9 (Nat.le_refl _), HS8.out.2.2.2.1.trans (hb9.mono HS8.out.2.2.2.1.size)⟩
    clear hb9 HS8 hol
    go_wp2_with fail
    refine (items_any ao m c E key w9 HS9.out.2.2.1 (by omega)).mono ?_
    rintro e w10 ⟨v10, rfl, hR10, hb10⟩
    obtain ⟨a10, c10, hv10, hE10⟩ := hR10.evs (fun e he => hwide.out e (mem_items.1 he).1.1)
    subst hv10
    have HS10 : Aside (LiesD w10 D2 A.1.1 A.1.2 ∧ LiesD w10 D1 A.1.1 A.1.2 ∧ Evs w10 ao m c E ∧ Below w.heap.size w w10 ∧ Evs w10 a10 (itemsE key E).length c10 (itemsE key E)) := ⟨HS9.out.1.below hb10 HS9.out.1.lt, HS9.out.2.1.below hb10 HS9.out.2.1.lt, HS9.out.2.2.1.below hb10 (Nat.le_refl _), HS9.out.2.2.2.trans (hb10.mono HS9.out.2.2.2.size), hE10⟩
    clear hR10 hb10 hE10 HS9
    go_wp2_with fail
    refine (ritems_any ao m c E key w10 HS10.out.2.2.1 (by omega)).mono ?_
    rintro e w11 ⟨v11, rfl, hR11, hb11⟩
    obtain ⟨a11, c11, hv11, hE11⟩ := hR11.evs (fun e he => hwide.out e (mem_items.1 he).1.1)
    subst hv11
    have HS11 : Aside (LiesD w11 D2 A.1.1 A.1.2 ∧ LiesD w11 D1 A.1.1 A.1.2 ∧ Below w.heap.size w w11 ∧ Evs w11 a10 (itemsE key E).length c10 (itemsE key E) ∧ Evs w11 a11 (itemsE key E).length c11 (itemsE key E)) := ⟨HS10.out.1.below hb11 HS10.out.1.lt, HS10.out.2.1.below hb11 HS10.out.2.1.lt, HS10.out.2.2.2.1.trans (hb11.mono HS10.out.2.2.2.1.size), HS10.out.2.2.2.2.below hb11 (Nat.le_refl _), hE11⟩
    have hil := items_len key E
    clear hR11 hb11 hE11 HS10
    go_wp2_with fail
    refine (same_yes a10 a11 _ c10 c11 (itemsE key E) w11 HS11.out.2.2.2.1 HS11.out.2.2.2.2 (by omega)).mono ?_
    rintro e w12 ⟨rfl, hb12⟩
    have hD2 := (HS11.out.1.below hb12 HS11.out.1.lt).range
    have hD1 := (HS11.out.2.1.below hb12 HS11.out.2.1.lt).range
    have HB12 : Hid (Below w.heap.size w w12) := HS11.out.2.2.1.trans (hb12.mono HS11.out.2.2.1.size)
    clear hb12 HS11 hil
    go_wp2_with (first | refine load_dot_at rfl rfl rfl hD1 ?_ | refine load_dot_at rfl rfl rfl hD2 ?_ | refine wpl_exK rfl (exec_bin rfl rfl rfl (eqGuard_dt w12 A.1.1 A.1.2 A.1.1 A.1.2) (eql_dt w12 (decide_eq_true ⟨rfl, rfl⟩))) ?_)
    go_ret
    exact ⟨rfl, HB12.out⟩
end Go.Proofs.Ytagjgamigldjnaa
