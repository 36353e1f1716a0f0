/-
  RgaOrder: the order of events with unlike dots plays no part.
-/
import Derived.Test.YtagjgamigldjnaaKwk
import Derived.Test.YtagjgamigldjnaaLun
import Derived.Test.YtagjgamigldjnaaKpe
namespace Go.Proofs.Ytagjgamigldjnaa
set_option maxRecDepth 100000
open Go.RowKit

def turnE (E : List Ev) (m k j : Nat) : List Ev := (((List.range m).drop j).reverse).map fun i => (E[(i + k) % m]?).getD zv
theorem turn_end (E : List Ev) (m k : Nat) : turnE E m k m = [] := by
  rw [turnE, List.drop_of_length_le (by simp)]
  rfl
theorem turn_step {E : List Ev} {m k j : Nat} {u : Ev} (hj : j < m) (hu : E[(j + k) % m]? = some u) : turnE E m k j = turnE E m k (j + 1) ++ [u] := by
  rw [turnE, turnE, List.drop_eq_getElem_cons (by simpa using hj), List.reverse_cons, List.map_append, List.map_singleton]
  simp [hu]
theorem turn_len {E : List Ev} {m k j : Nat} : (turnE E m k j).length = m - j := by simp [turnE]
theorem turn_perm {E : List Ev} {m k : Nat} (hm : E.length = m) (hk : k < m) : (turnE E m k 0).Perm E := by
  have e : (List.range m).map (fun i => (E[(i + k) % m]?).getD zv) = E.drop k ++ E.take k := by
    apply List.ext_getElem
    · simp; omega
    · intro i h1 h2
      rw [List.length_map, List.length_range] at h1
      rw [List.getElem_map, List.getElem_range]
      by_cases hi : i + k < m
      · rw [Nat.mod_eq_of_lt hi, List.getElem?_eq_getElem (by omega), Option.getD_some, List.getElem_append_left (by simp; omega), List.getElem_drop]
        congr 1
        omega
      · have : (i + k) % m = i + k - m := by rw [Nat.mod_eq_sub_mod (by omega), Nat.mod_eq_of_lt (by omega)]
        rw [this, List.getElem?_eq_getElem (by omega), Option.getD_some, List.getElem_append_right (by simp; omega), List.getElem_take]
        congr 1
        simp
        omega
  have h1 : (turnE E m k 0).Perm ((List.range m).map (fun i => (E[(i + k) % m]?).getD zv)) := by
    rw [turnE, List.drop_zero]
    exact (List.reverse_perm _).map _
  refine h1.trans ?_
  rw [e]
  refine List.perm_append_comm.trans ?_
  rw [List.take_append_drop]
theorem cut_rem (cut : Int) (m : Nat) (hm : 0 < m) (h : (Lit.int .u64 cut).wf = true) : ∃ k : Nat, cut.tmod (m : Int) = (k : Int) ∧ k < m := by
  have h0 : 0 ≤ cut := by
    simp [Lit.wf, IntKind.min, IntKind.max, IntKind.signed] at h
    omega
  rw [Int.tmod_eq_emod_of_nonneg h0]
  have h1 := Int.emod_nonneg cut (show (m : Int) ≠ 0 by omega)
  have h2 := Int.emod_lt_of_pos cut (show (0 : Int) < (m : Int) by omega)
  exact ⟨(cut % (m : Int)).toNat, by omega, by omega⟩
theorem turn_wide {E : List Ev} {m k : Nat} (hm : E.length = m) (hk : k < m) (h : ∀ e ∈ E, Wide e) : ∀ e ∈ turnE E m k 0, Wide e := fun e he => h e ((turn_perm hm hk).mem_iff.1 he)
set_option maxHeartbeats 4000000 in
theorem korder_walk (ao : Option Addr) (m c : Nat) (E : List Ev) (key : List UInt8) (cut : Int) (hcut : (Lit.int .u64 cut).wf = true) (w : World) (hE : Evs w ao m c E) :
    Calls Try.prog 4 #[.slice ao m c, .string (sb key), .int .u64 cut] w fun e w' => e = .returned (.bool true) ∧ Below w.heap.size w w' := by
  have hcut' : Hid ((Lit.int .u64 cut).wf = true) := hcut
  clear hcut
  have HE : Aside (Evs w ao m c E) := hE
  have hwide : Hid (∀ e ∈ E, Wide e) := hE.wide
  have hlen := hE.len
  clear hE
  go_enter Try.func4, Try.ntmps4
  go_wp2_with fail
  refine (awake_any w).mono ?_
  rintro e w1 ⟨rfl, hb1⟩
  have hE1 := HE.out.below hb1 (Nat.le_refl _)
  have HB1 : Hid (Below w.heap.size w w1) := hb1
  clear hb1 HE
  go_wp2_with fail
  refine (few_any ao m c E w1 hE1).mono ?_
  rintro e w2 ⟨t, rfl, hfew, hw2⟩
  obtain rfl := hw2.symm
  clear hw2
  cases t with
  | false =>
    go_wp2_with fail
    refine (awake_any w1).mono ?_
    rintro e w3 ⟨rfl, hb3⟩
    have HB3 : Hid (Below w.heap.size w w3) := HB1.out.trans (hb3.mono HB1.out.size)
    clear hb3
    go_wp2
    go_ret
    exact ⟨rfl, HB3.out⟩
  | true =>
    have hm : m ≤ 60 := hfew rfl
    clear hfew
    go_wp2_with fail
    refine (unlike_any ao m c E w1 hE1 (by omega)).mono ?_
    rintro e w2 ⟨t, rfl, hun, hb2⟩
    have HE1 : Aside (Evs w2 ao m c E) := hE1.below hb2 (Nat.le_refl _)
    have HB2 : Hid (Below w.heap.size w w2) := HB1.out.trans (hb2.mono HB1.out.size)
    clear hb2 hE1 HB1
    cases t with
    | false =>
      go_wp2_with fail
      refine (awake_any w2).mono ?_
      rintro e w3 ⟨rfl, hb3⟩
      have HB3 : Hid (Below w.heap.size w w3) := HB2.out.trans (hb3.mono HB2.out.size)
      clear hb3
      go_wp2
      go_ret
      exact ⟨rfl, HB3.out⟩
    | true =>
      have HU : Hid (Unlike E) := hun rfl
      clear hun
      by_cases hm0 : m = 0
      · have hm0z : (m : Int) = 0 := by omega
        subst hm0
        go_wp2_with fail
        refine (awake_any w2).mono ?_
        rintro e w3 ⟨rfl, hb3⟩
        have HB3 : Hid (Below w.heap.size w w3) := HB2.out.trans (hb3.mono HB2.out.size)
        clear hb3
        go_wp2
        go_ret
        exact ⟨rfl, HB3.out⟩
      · have hm0z : ¬ (m : Int) = 0 := by omega
        have hm0b : ((m : Int) == 0) = false := beq_false_of_ne hm0z
        have hm1 : 0 < m := by omega
        obtain ⟨k, hk, hkm⟩ := cut_rem cut m hm1 hcut'.out
        have H0 : Aside (Row w2 w2.heap.size (.slice none 0 0) (turnE E m k m) ∧ Below w2.heap.size w2 w2) := ⟨by rw [turn_end]; exact row_nil _ _, Below.refl _ _⟩
        go_wp2
        go_loopg [8, 9] m (fun kx s8 s9 wr => ∃ j : Nat, s9 = .int .i64 ((j : Int) - 1) ∧ j ≤ m ∧ j ≤ kx ∧ Aside (Row wr w2.heap.size s8 (turnE E m k j) ∧ Below w2.heap.size w2 wr))
        case atStart => exact ⟨m, rfl, Nat.le_refl _, Nat.le_refl _, H0⟩
        case round =>
          clear H0
          obtain ⟨j, rfl, hjm, hkx, HS⟩ := hrel
          rcases j with _ | j
          · have HO : Hid (orderE key (turnE E m k 0) = orderE key E) := (order_same (turn_perm hlen hkm).symm HU.out).symm
            have HI : Hid (itemsE key (turnE E m k 0) = itemsE key E) := (items_same (turn_perm hlen hkm).symm HU.out).symm
            have hol : (turnE E m k 0).length ≤ m := by rw [turn_len]; omega
            obtain ⟨a3, c3, hv3, hE3⟩ := HS.out.1.evs (turn_wide hlen hkm hwide.out)
            subst hv3
            obtain ⟨w3, hw3⟩ : ∃ x : World, x = wr := ⟨_, rfl⟩
            subst hw3
            have HS3 : Aside (Evs w3 ao m c E ∧ Evs w3 a3 (turnE E m k 0).length c3 (turnE E m k 0) ∧ Below w.heap.size w w3) := ⟨HE1.out.below HS.out.2 (Nat.le_refl _), hE3, HB2.out.trans (HS.out.2.mono HB2.out.size)⟩
            clear HS hE3 hk hm0z hm0b hkx hcut'
            generalize turnE E m k 0 = T at *
            generalize T.length = q at *
            go_wp2_with fail
            refine (order_any ao m c E key w3 HS3.out.1 (by omega)).mono ?_
            rintro e w4 ⟨v4, rfl, hR4, hb4⟩
            obtain ⟨a4, c4, hv4, hE4⟩ := hR4.evs (fun e he => hwide.out e (mem_nodes.1 (mem_orderE.1 he)).1)
            subst hv4
            have HS4 : Aside (Evs w4 ao m c E ∧ Evs w4 a3 q c3 T ∧ Below w.heap.size w w4 ∧ Evs w4 a4 (orderE key E).length c4 (orderE key E)) := ⟨HS3.out.1.below hb4 (Nat.le_refl _), HS3.out.2.1.below hb4 (Nat.le_refl _), HS3.out.2.2.trans (hb4.mono HS3.out.2.2.size), hE4⟩
            clear hR4 hb4 hE4 HS3
            go_wp2_with fail
            have hcon := order_any a3 q c3 T key w4 HS4.out.2.1 (by omega)
            rw [HO.out] at hcon
            refine hcon.mono ?_
            rintro e w5 ⟨v5, rfl, hR5, hb5⟩
            obtain ⟨a5, c5, hv5, hE5⟩ := hR5.evs (fun e he => hwide.out e (mem_nodes.1 (mem_orderE.1 he)).1)
            subst hv5
            have HS5 : Aside (Evs w5 ao m c E ∧ Evs w5 a3 q c3 T ∧ Below w.heap.size w w5 ∧ Evs w5 a4 (orderE key E).length c4 (orderE key E) ∧ Evs w5 a5 (orderE key E).length c5 (orderE key E)) := ⟨HS4.out.1.below hb5 (Nat.le_refl _), HS4.out.2.1.below hb5 (Nat.le_refl _), HS4.out.2.2.1.trans (hb5.mono HS4.out.2.2.1.size), HS4.out.2.2.2.below hb5 (Nat.le_refl _), hE5⟩
            have hll : (orderE key E).length ≤ 1000 := by rw [orderE_len]; have := nodes_len key E; omega
            clear hR5 hb5 hE5 HS4 hcon
            go_wp2_with fail
            refine (same_yes a4 a5 _ c4 c5 (orderE key E) w5 HS5.out.2.2.2.1 HS5.out.2.2.2.2 (by omega)).mono ?_
            rintro e w6 ⟨rfl, hb6⟩
            have HS6 : Aside (Evs w6 ao m c E ∧ Evs w6 a3 q c3 T ∧ Below w.heap.size w w6) := ⟨HS5.out.1.below hb6 (Nat.le_refl _), HS5.out.2.1.below hb6 (Nat.le_refl _), HS5.out.2.2.1.trans (hb6.mono HS5.out.2.2.1.size)⟩
            clear hb6 HS5 hll
            go_wp2_with fail
            refine (items_any ao m c E key w6 HS6.out.1 (by omega)).mono ?_
            rintro e w7 ⟨v7, rfl, hR7, hb7⟩
            obtain ⟨a7, c7, hv7, hE7⟩ := hR7.evs (fun e he => hwide.out e (mem_items.1 he).1.1)
            subst hv7
            have HS7 : Aside (Evs w7 a3 q c3 T ∧ Below w.heap.size w w7 ∧ Evs w7 a7 (itemsE key E).length c7 (itemsE key E)) := ⟨HS6.out.2.1.below hb7 (Nat.le_refl _), HS6.out.2.2.trans (hb7.mono HS6.out.2.2.size), hE7⟩
            clear hR7 hb7 hE7 HS6
            go_wp2_with fail
            have hcon := items_any a3 q c3 T key w7 HS7.out.1 (by omega)
            rw [HI.out] at hcon
            refine hcon.mono ?_
            rintro e w8 ⟨v8, rfl, hR8, hb8⟩
            obtain ⟨a8, c8, hv8, hE8⟩ := hR8.evs (fun e he => hwide.out e (mem_items.1 he).1.1)
            subst hv8
            have HS8 : Aside (Below w.heap.size w w8 ∧ Evs w8 a7 (itemsE key E).length c7 (itemsE key E) ∧ Evs w8 a8 (itemsE key E).length c8 (itemsE key E)) := ⟨HS7.out.2.1.trans (hb8.mono HS7.out.2.1.size), HS7.out.2.2.below hb8 (Nat.le_refl _), hE8⟩
            have hil := items_len key E
            clear hR8 hb8 hE8 HS7 hcon
            go_wp2_with fail
            refine (same_yes a7 a8 _ c7 c8 (itemsE key E) w8 HS8.out.2.1 HS8.out.2.2 (by omega)).mono ?_
            rintro e w9 ⟨rfl, hb9⟩
            have HB9 : Hid (Below w.heap.size w w9) := HS8.out.1.trans (hb9.mono HS8.out.1.size)
            clear hb9 HS8
            go_wp2
            go_ret
            exact ⟨rfl, HB9.out⟩
          · have hj1 : (((j + 1 : Nat) : Int) - 1) = (j : Int) := by omega
            rw [hj1]
            have hjlt : j < m := by omega
            obtain ⟨q, hq⟩ : ∃ q, q = (j + k) % m := ⟨_, rfl⟩
            have hqm : q < m := by rw [hq]; exact Nat.mod_lt _ hm1
            have hqz : (q : Int) < (m : Int) := by omega
            have hrem : ((j : Int) + (k : Int)).tmod (m : Int) = (q : Int) := by
              rw [hq, Int.tmod_eq_emod_of_nonneg (by omega), Int.natCast_emod, Int.natCast_add]
            obtain ⟨b, off, u, rfl, hui, hu, hr, hbl⟩ := (HE1.out.below HS.out.2 (Nat.le_refl _)).at hqm
            have hu16 := hu.1
            have hix := fun W : World => index_ev W (b := b) (off := off) (k := q) (m := m) (c := c) hqm
            have HSN : Hid (turnE E m k j = turnE E m k (j + 1) ++ [u]) := turn_step hjlt (by rw [← hq]; exact hui)
            have hRow : Row (wr.alloc (.cells (evc u) 41)) w2.heap.size u8 (turnE E m k (j + 1)) := HS.out.1.below ((Below.refl _ _).alloc (Nat.le_refl _) _) (Nat.le_refl _)
            have hF : Evs (wr.alloc (.cells (evc u) 41)) (some ⟨wr.heap.size, 0, none⟩) 1 1 [u] := evs_single _ _ u hu (liesE_new wr u)
            have hll : (turnE E m k (j + 1)).length ≤ m := by rw [turn_len]; omega
            have hle : w2.heap.size ≤ (wr.alloc (.cells (evc u) 41)).heap.size := by have := HS.out.2.size; simp; omega
            have HB3 : Hid (Below w2.heap.size w2 (wr.alloc (.cells (evc u) 41))) := HS.out.2.alloc HS.out.2.size _
            clear HS hq hj1 hbl
            generalize turnE E m k (j + 1) = R at *
            go_wp2_with (first | refine load_ev_mid rfl rfl rfl hr hu16 ?_ | refine build_ev1 rfl rfl rfl hu16 ?_ | refine wpList_appE rfl _ _ rfl w2.heap.size _ R rfl hRow _ 1 1 [u] rfl hF (by omega) hle ?_)
            intro v4 w4 hR4 hg4 ho4
            have HS4 : Aside (Row w4 w2.heap.size v4 (turnE E m k j) ∧ Below w2.heap.size w2 w4) := ⟨by rw [HSN.out]; exact hR4, HB3.out.grown hg4 hle hRow.own⟩
            clear hR4 hg4 ho4 hRow hF HB3 HSN hll hle hr hix
            go_wp2
            go_roundg j
            case measure => omega
            case rel => exact ⟨j, rfl, by omega, Nat.le_refl _, HS4⟩
end Go.Proofs.Ytagjgamigldjnaa
