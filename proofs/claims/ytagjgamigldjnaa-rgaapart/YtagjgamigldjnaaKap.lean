/-
  RgaApart: events of other keys play no part.
-/
import Derived.Test.YtagjgamigldjnaaKwk
namespace Go.Proofs.Ytagjgamigldjnaa
set_option maxRecDepth 100000
open Go.RowKit

theorem nodes_own (key : List UInt8) (l : List Ev) : nodesE key (ofKeyE key l) = nodesE key l := by
  unfold nodesE ofKeyE nodeE
  rw [List.filter_filter]
  congr 1
  funext e
  cases decide (e.key = key) <;> simp
theorem order_own (key : List UInt8) (l : List Ev) : orderE key (ofKeyE key l) = orderE key l := by
  unfold orderE
  rw [nodes_own]
theorem live_own {key : List UInt8} {l : List Ev} {e : Ev} (hk : e.key = key) : isLive (ofKeyE key l) e = isLive l e := by
  unfold isLive
  congr 2
  rw [Bool.eq_iff_iff, List.any_eq_true, List.any_eq_true]
  constructor
  · rintro ⟨b, hb, he⟩
    exact ⟨b, (List.mem_filter.1 hb).1, he⟩
  · rintro ⟨b, hb, he⟩
    exact ⟨b, List.mem_filter.2 ⟨hb, by rw [ends_key he, hk]; simp⟩, he⟩
theorem items_own (key : List UInt8) (l : List Ev) : itemsE key (ofKeyE key l) = itemsE key l := by
  unfold itemsE
  rw [order_own]
  exact List.filter_congr fun e he => live_own (mem_nodes.1 (mem_orderE.1 he)).2.2
set_option maxHeartbeats 4000000 in
theorem kapart_walk (ao : Option Addr) (m c : Nat) (E : List Ev) (key : List UInt8) (w : World) (hE : Evs w ao m c E) :
    Calls Try.prog 8 #[.slice ao m c, .string (sb key)] w fun e w' => e = .returned (.bool true) ∧ Below w.heap.size w w' := by
  have HE : Aside (Evs w ao m c E) := hE
  have hwide : Hid (∀ e ∈ E, Wide e) := hE.wide
  have hlen := hE.len
  clear hE
  go_enter Try.func8, Try.ntmps8
  go_wp2_with fail
  refine (awake_any w).mono ?_
  rintro e w1 ⟨rfl, hb1⟩
  have hE1 := HE.out.below hb1 (Nat.le_refl _)
  have HB1 : Hid (Below w.heap.size w w1) := hb1
  clear hb1 HE
  go_wp2_with fail
  refine (few_any ao m c E w1 hE1).mono ?_
  rintro e w2 ⟨t, rfl, hfew, hw2⟩
  obtain rfl := hw2.symm
  clear hw2
  cases t with
  | false =>
    go_wp2_with fail
    refine (awake_any w1).mono ?_
    rintro e w3 ⟨rfl, hb3⟩
    have HB3 : Hid (Below w.heap.size w w3) := HB1.out.trans (hb3.mono HB1.out.size)
    clear hb3
    go_wp2
    go_ret
    exact ⟨rfl, HB3.out⟩
  | true =>
    have hm : m ≤ 60 := hfew rfl
    clear hfew
    have HE1 : Aside (Evs w1 ao m c E) := hE1
    clear hE1
    have H0 : Aside (Row w1 w1.heap.size (.slice none 0 0) (keyTo key E 0) ∧ Below w1.heap.size w1 w1) := ⟨row_nil _ _, Below.refl _ _⟩
    go_wp2
    go_loopg [5, 17] m (fun kx s5 s17 wr => ∃ i : Nat, s17 = .int .i64 i ∧ i ≤ m ∧ m - i ≤ kx ∧ Aside (Row wr w1.heap.size s5 (keyTo key E i) ∧ Below w1.heap.size w1 wr))
    case atStart => exact ⟨0, rfl, Nat.zero_le _, by omega, H0⟩
    case round =>
      clear H0
      obtain ⟨i, rfl, him, hkx, HS⟩ := hrel
      by_cases hlt : i < m
      · have hltz : (i : Int) < (m : Int) := by omega
        obtain ⟨b, off, u, rfl, hui, hu, hr, hbl⟩ := (HE1.out.below HS.out.2 (Nat.le_refl _)).at hlt
        have hu16 := hu.1
        have hix := fun W : World => index_ev W (b := b) (off := off) (k := i) (m := m) (c := c) hlt
        have c20 := range_key hr hu16
        have hkb := sb_beq u.key key
        by_cases hk : u.key = key
        · have HSN : Hid (keyTo key E (i + 1) = keyTo key E i ++ [u]) := by show _ = _; rw [keyTo_succ hui, if_pos hk]
          have hRow : Row (wr.alloc (.cells (evc u) 41)) w1.heap.size u5 (keyTo key E i) := HS.out.1.below ((Below.refl _ _).alloc (Nat.le_refl _) _) (Nat.le_refl _)
          have hF : Evs (wr.alloc (.cells (evc u) 41)) (some ⟨wr.heap.size, 0, none⟩) 1 1 [u] := evs_single _ _ u hu (liesE_new wr u)
          have hll := keyTo_len key E i
          have hle : w1.heap.size ≤ (wr.alloc (.cells (evc u) 41)).heap.size := by have := HS.out.2.size; simp; omega
          have HB3 : Hid (Below w1.heap.size w1 (wr.alloc (.cells (evc u) 41))) := HS.out.2.alloc HS.out.2.size _
          rw [decide_eq_true hk] at hkb
          clear HS hk hui
          go_wp2_with (first | refine load_ev_mid rfl rfl rfl hr hu16 ?_ | refine build_ev1 rfl rfl rfl hu16 ?_ | refine wpList_appE rfl _ _ rfl w1.heap.size _ (keyTo key E i) rfl hRow _ 1 1 [u] rfl hF (by omega) hle ?_)
          intro v4 w4 hR4 hg4 ho4
          have HS4 : Aside (Row w4 w1.heap.size v4 (keyTo key E (i + 1)) ∧ Below w1.heap.size w1 w4) := ⟨by rw [HSN.out]; exact hR4, HB3.out.grown hg4 hle hRow.own⟩
          clear hR4 hg4 ho4 hRow hF HB3 HSN hll hle hkb c20 hr hix
          go_wp2
          go_roundg (m - (i + 1))
          case measure => omega
          case rel => exact ⟨i + 1, by go_num, by omega, Nat.le_refl _, HS4⟩
        · have HS4 : Aside (Row wr w1.heap.size u5 (keyTo key E (i + 1)) ∧ Below w1.heap.size w1 wr) := ⟨by rw [keyTo_succ hui, if_neg hk]; exact HS.out.1, HS.out.2⟩
          rw [decide_eq_false hk] at hkb
          clear HS hk hui hr
          go_wp2
          go_roundg (m - (i + 1))
          case measure => omega
          case rel => exact ⟨i + 1, by go_num, by omega, Nat.le_refl _, HS4⟩
      · obtain rfl : i = m := by omega
        have hltz : ¬ (i : Int) < (i : Int) := by omega
        obtain ⟨w3, hw3⟩ : ∃ x : World, x = wr := ⟨_, rfl⟩
        subst hw3
        have HR : Aside (Row w3 w1.heap.size u5 (ofKeyE key E) ∧ Below w1.heap.size w1 w3) := by
          have := HS.out
          rw [keyTo, List.take_of_length_le (by omega)] at this
          exact this
        clear HS
        obtain ⟨a3, c3, hv3, hE3⟩ := HR.out.1.evs (fun e he => hwide.out e (mem_ofKey he))
        subst hv3
        have hol := ofKey_len key E
        have HS3 : Aside (Evs w3 ao i c E ∧ Evs w3 a3 (ofKeyE key E).length c3 (ofKeyE key E) ∧ Below w.heap.size w w3) := ⟨HE1.out.below HR.out.2 (Nat.le_refl _), hE3, HB1.out.trans (HR.out.2.mono HB1.out.size)⟩
        clear HR hE3
        generalize (ofKeyE key E).length = q at *
        have HO : Hid (orderE key (ofKeyE key E) = orderE key E) := order_own key E
        have HI : Hid (itemsE key (ofKeyE key E) = itemsE key E) := items_own key E
        generalize ofKeyE key E = T at *
        go_wp2_with fail
        refine (order_any ao i c E key w3 HS3.out.1 (by omega)).mono ?_
        rintro e w4 ⟨v4, rfl, hR4, hb4⟩
        obtain ⟨a4, c4, hv4, hE4⟩ := hR4.evs (fun e he => hwide.out e (mem_nodes.1 (mem_orderE.1 he)).1)
        subst hv4
        have HS4 : Aside (Evs w4 ao i c E ∧ Evs w4 a3 q c3 T ∧ Below w.heap.size w w4 ∧ Evs w4 a4 (orderE key E).length c4 (orderE key E)) := ⟨HS3.out.1.below hb4 (Nat.le_refl _), HS3.out.2.1.below hb4 (Nat.le_refl _), HS3.out.2.2.trans (hb4.mono HS3.out.2.2.size), hE4⟩
        clear hR4 hb4 hE4 HS3
        go_wp2_with fail
        have hcon := order_any a3 q c3 T key w4 HS4.out.2.1 (by omega)
        rw [HO.out] at hcon
        refine hcon.mono ?_
        rintro e w5 ⟨v5, rfl, hR5, hb5⟩
        obtain ⟨a5, c5, hv5, hE5⟩ := hR5.evs (fun e he => hwide.out e (mem_nodes.1 (mem_orderE.1 he)).1)
        subst hv5
        have HS5 : Aside (Evs w5 ao i c E ∧ Evs w5 a3 q c3 T ∧ Below w.heap.size w w5 ∧ Evs w5 a4 (orderE key E).length c4 (orderE key E) ∧ Evs w5 a5 (orderE key E).length c5 (orderE key E)) := ⟨HS4.out.1.below hb5 (Nat.le_refl _), HS4.out.2.1.below hb5 (Nat.le_refl _), HS4.out.2.2.1.trans (hb5.mono HS4.out.2.2.1.size), HS4.out.2.2.2.below hb5 (Nat.le_refl _), hE5⟩
        have hll : (orderE key E).length ≤ 1000 := by rw [orderE_len]; have := nodes_len key E; omega
        clear hR5 hb5 hE5 HS4 hcon
        go_wp2_with fail
        refine (same_yes a4 a5 _ c4 c5 (orderE key E) w5 HS5.out.2.2.2.1 HS5.out.2.2.2.2 (by omega)).mono ?_
        rintro e w6 ⟨rfl, hb6⟩
        have HS6 : Aside (Evs w6 ao i c E ∧ Evs w6 a3 q c3 T ∧ Below w.heap.size w w6) := ⟨HS5.out.1.below hb6 (Nat.le_refl _), HS5.out.2.1.below hb6 (Nat.le_refl _), HS5.out.2.2.1.trans (hb6.mono HS5.out.2.2.1.size)⟩
        clear hb6 HS5 hll
        go_wp2_with fail
        refine (items_any ao i c E key w6 HS6.out.1 (by omega)).mono ?_
        rintro e w7 ⟨v7, rfl, hR7, hb7⟩
        obtain ⟨a7, c7, hv7, hE7⟩ := hR7.evs (fun e he => hwide.out e (mem_items.1 he).1.1)
        subst hv7
        have HS7 : Aside (Evs w7 a3 q c3 T ∧ Below w.heap.size w w7 ∧ Evs w7 a7 (itemsE key E).length c7 (itemsE key E)) := ⟨HS6.out.2.1.below hb7 (Nat.le_refl _), HS6.out.2.2.trans (hb7.mono HS6.out.2.2.size), hE7⟩
        clear hR7 hb7 hE7 HS6
        go_wp2_with fail
        have hcon := items_any a3 q c3 T key w7 HS7.out.1 (by omega)
        rw [HI.out] at hcon
        refine hcon.mono ?_
        rintro e w8 ⟨v8, rfl, hR8, hb8⟩
        obtain ⟨a8, c8, hv8, hE8⟩ := hR8.evs (fun e he => hwide.out e (mem_items.1 he).1.1)
        subst hv8
        have HS8 : Aside (Below w.heap.size w w8 ∧ Evs w8 a7 (itemsE key E).length c7 (itemsE key E) ∧ Evs w8 a8 (itemsE key E).length c8 (itemsE key E)) := ⟨HS7.out.2.1.trans (hb8.mono HS7.out.2.1.size), HS7.out.2.2.below hb8 (Nat.le_refl _), hE8⟩
        have hil := items_len key E
        clear hR8 hb8 hE8 HS7 hcon
        go_wp2_with fail
        refine (same_yes a7 a8 _ c7 c8 (itemsE key E) w8 HS8.out.2.1 HS8.out.2.2 (by omega)).mono ?_
        rintro e w9 ⟨rfl, hb9⟩
        have HB9 : Hid (Below w.heap.size w w9) := HS8.out.1.trans (hb9.mono HS8.out.1.size)
        clear hb9 HS8
        go_wp2
        go_ret
        exact ⟨rfl, HB9.out⟩
end Go.Proofs.Ytagjgamigldjnaa
