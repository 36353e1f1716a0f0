/-
  What Items comes to, and Anchor.
-/
import Derived.Test.YtagjgamigldjnaaGm
namespace Go.Proofs.Ytagjgamigldjnaa
set_option maxRecDepth 100000
open Go.RowKit

/-! ### what is live, by its dot -/
theorem ends_dot {b x y : Ev} (hx : x.kind = 9) (hy : y.kind = 9) (hk : x.key = y.key) (hr : x.r = y.r) (hn : x.n = y.n) : endsE b x = endsE b y := by
  unfold endsE coversE hits
  rw [hx, hy, hk, hr, hn]
  simp
theorem live_dot {l : List Ev} {x y : Ev} (hx : x.kind = 9) (hy : y.kind = 9) (hk : x.key = y.key) (hr : x.r = y.r) (hn : x.n = y.n) : isLive l x = isLive l y := by
  unfold isLive
  rw [hx, hy]
  congr 2
  congr 1
  funext b
  exact ends_dot hx hy hk hr hn
theorem bad_live {key : List UInt8} {l : List Ev} {u : Ev} (hu : u ∈ orderE key l) : (!bad (setF (dotsE (nodesE key (allE l)))) u) = isLive l u := by
  obtain ⟨h1, h2, h3⟩ := mem_nodes.1 (mem_orderE.1 hu)
  unfold bad setF
  rw [Bool.not_not]
  by_cases h : (u.r, u.n) ∈ dotsE (nodesE key (allE l))
  · rw [if_pos h]
    obtain ⟨x, hx, e⟩ := List.mem_map.1 h
    obtain ⟨g1, g2, g3⟩ := mem_nodes.1 hx
    obtain ⟨g4, g5⟩ := all_mem.1 g1
    simp only [Prod.mk.injEq] at e
    rw [live_dot h2 g2 (h3.trans g3.symm) e.1.symm e.2.symm, g5]
    rfl
  · rw [if_neg h]
    cases hl : isLive l u
    · rfl
    · exact absurd (List.mem_map.2 ⟨u, mem_nodes.2 ⟨all_mem.2 ⟨h1, hl⟩, h2, h3⟩, rfl⟩) h
theorem items_is (key : List UInt8) (l : List Ev) : (orderE key l).filter (fun u => !bad (setF (dotsE (nodesE key (allE l)))) u) = itemsE key l := List.filter_congr fun _ hu => bad_live hu
theorem items_len (key : List UInt8) (l : List Ev) : (itemsE key l).length ≤ l.length := by
  refine Nat.le_trans (List.length_filter_le _ _) ?_
  rw [orderE_len]
  exact nodes_len key l
theorem mem_items {key : List UInt8} {l : List Ev} {e : Ev} : e ∈ itemsE key l ↔ (e ∈ l ∧ e.kind = 9 ∧ e.key = key) ∧ isLive l e = true := by
  unfold itemsE
  rw [List.mem_filter, mem_orderE, mem_nodes]
set_option maxHeartbeats 4000000 in
theorem items_any (ao : Option Addr) (m c : Nat) (E : List Ev) (key : List UInt8) (w : World) (hE : Evs w ao m c E) (hm : m ≤ 1000) :
    Calls Try.prog 16 #[.slice ao m c, .string (sb key)] w fun e w' => ∃ v, e = .returned v ∧ Row w' w.heap.size v (itemsE key E) ∧ Below w.heap.size w w' := by
  have hlen := hE.len
  have hwide : Hid (∀ e ∈ E, Wide e) := hE.wide
  have HE : Aside (Evs w ao m c E) := hE
  go_enter Try.func16, Try.ntmps16
  go_wp2_with fail
  refine (livedots_any ao m c E key w hE hm).mono ?_
  rintro e w1 ⟨rfl, hM1, hb1⟩
  have hB2 : Below w1.heap.size w1 (w1.alloc (.cells #[.map (some w.heap.size)] 52)) := (Below.refl _ _).alloc (Nat.le_refl _) _
  have hT : Thr (w1.alloc (.cells #[.map (some w.heap.size)] 52)) w1.heap.size w.heap.size (setF (dotsE (nodesE key (allE E)))) := ⟨cell_of_one (heap_alloc_new w1 _), hM1.below hB2 hM1.lt, setF_unit _⟩
  have HB2 : Hid (Below w.heap.size w (w1.alloc (.cells #[.map (some w.heap.size)] 52))) := hb1.trans (hB2.mono hb1.size)
  have hE2 := HE.out.below HB2.out (Nat.le_refl _)
  have hs2 : w.heap.size < w1.heap.size ∧ w1.heap.size < (w1.alloc (.cells #[.map (some w.heap.size)] 52)).heap.size := ⟨hM1.lt, by simp⟩
  clear hM1 hb1 hB2 hE HE
  go_wp2_with fail
  generalize w1.alloc (.cells #[.map (some w.heap.size)] 52) = W at hT HB2 hE2 hs2 ⊢
  refine (order_any ao m c E key W hE2 hm).mono ?_
  rintro e w3 ⟨v3, rfl, hR3, hb3⟩
  have hT3 := hT.below hb3
  have hl3 : (orderE key E).length ≤ 1000 := by rw [orderE_len]; have := nodes_len key E; omega
  have hcon := delf_any W.heap.size v3 (orderE key E) w1.heap.size w.heap.size _ w3 hR3 (fun e he => hwide.out e (mem_nodes.1 (mem_orderE.1 he)).1) hl3 hT3 hb3.size (fun g hg => by have := (hR3.lt g hg).1; omega)
  rw [items_is] at hcon
  have HC : Hid _ := hcon
  have HB3 : Hid (Below w.heap.size w w3 ∧ w.heap.size ≤ W.heap.size) := ⟨HB2.out.trans (hb3.mono HB2.out.size), HB2.out.size⟩
  clear hcon hT hT3 hR3 hb3 hE2 HB2
  go_wp2_with fail
  refine Calls.mono HC.out ?_
  rintro e w4 ⟨v4, rfl, hR4, hb4⟩
  have HF : Hid (Row w4 w.heap.size v4 (itemsE key E) ∧ Below w.heap.size w w4) := ⟨hR4.lower HB3.out.2, HB3.out.1.trans (hb4.mono HB3.out.2)⟩
  clear hR4 hb4 HC HB3
  go_wp2
  go_ret
  exact ⟨_, rfl, HF.out⟩
/-- A place's anchor. -/
def anchE (L : List Ev) (at' : Int) : (Int × Int) × Int := if at' = 0 then ((0, 0), 0) else if at' < 0 ∨ (L.length : Int) < at' then ((0, 0), 7) else (((L.getD (at'.toNat - 1) zv).r, (L.getD (at'.toNat - 1) zv).n), 0)
set_option maxHeartbeats 4000000 in
theorem anchor_any (ao : Option Addr) (m c : Nat) (E : List Ev) (key : List UInt8) (at' : Int) (w : World) (hE : Evs w ao m c E) (hm : m ≤ 1000) :
    Calls Try.prog 11 #[.slice ao m c, .string (sb key), .int .i64 at'] w fun e w' => e = .returned (.tuple #[.agg (dotc (anchE (itemsE key E) at').1.1 (anchE (itemsE key E) at').1.2), .int .i64 (anchE (itemsE key E) at').2]) ∧ Below w.heap.size w w' := by
  have hZ : LiesD (w.alloc (.cells (dotc 0 0) 26)) w.heap.size 0 0 := heap_alloc_new w _
  have hB1 : Below w.heap.size w (w.alloc (.cells (dotc 0 0) 26)) := (Below.refl _ _).alloc (Nat.le_refl _) _
  have hE1 := hE.below hB1 (Nat.le_refl _)
  have hwide : Hid (∀ e ∈ E, Wide e) := hE.wide
  have hlen := hE.len
  have HB1 : Hid (Below w.heap.size w (w.alloc (.cells (dotc 0 0) 26))) := hB1
  clear hE hB1
  by_cases h0 : at' = 0
  · have HA : Hid (anchE (itemsE key E) at' = ((0, 0), 0)) := by show _ = _; unfold anchE; rw [if_pos h0]
    subst h0
    go_enter Try.func11, Try.ntmps11
    go_wp2_with (refine store_dot rfl rfl rfl rfl hZ ?_)
    exact ret_dot2 rfl rfl rfl rfl (hZ.row 0 0) ⟨by rw [HA.out]; rfl, below_setRow HB1.out (Nat.le_refl _) _⟩
  · have h0b : (at' == 0) = false := beq_false_of_ne h0
    go_enter Try.func11, Try.ntmps11
    go_wp2_with fail
    refine (items_any ao m c E key _ hE1 hm).mono ?_
    rintro e w1 ⟨v1, rfl, hR1, hb1⟩
    obtain ⟨a1, c1, hv1, hE2⟩ := hR1.evs (fun e he => hwide.out e (mem_items.1 he).1.1)
    subst hv1
    obtain ⟨L, hL⟩ : ∃ L, itemsE key E = L := ⟨_, rfl⟩
    have HL : Hid (itemsE key E = L) := hL
    have hLl : L.length ≤ 1000 := by rw [← hL]; have := items_len key E; omega
    rw [hL] at hE2 ⊢
    have hZ1 : LiesD w1 w.heap.size 0 0 := hZ.below hb1 hZ.lt
    have HB2 : Hid (Below w.heap.size w w1) := HB1.out.trans (hb1.mono HB1.out.size)
    have HE2 : Aside (Evs w1 a1 L.length c1 L) := hE2
    clear hR1 hb1 hZ hE1 HB1 hL hE2
    generalize L.length = q at HE2 hLl ⊢
    by_cases hlo : at' < 0
    · have HA : Hid (anchE L at' = ((0, 0), 7)) := by show _ = _; unfold anchE; rw [if_neg h0, if_pos (.inl hlo)]
      go_wp2_with (refine store_dot rfl rfl rfl rfl hZ1 ?_)
      exact ret_dot2 rfl rfl rfl rfl (hZ1.row 0 0) ⟨by rw [HL.out, HA.out]; rfl, below_setRow HB2.out (Nat.le_refl _) _⟩
    · by_cases hhi : (q : Int) < at'
      · have HA : Hid (anchE L at' = ((0, 0), 7)) := by show _ = _; unfold anchE; rw [if_neg h0, if_pos (.inr (by rw [HE2.out.len]; exact hhi))]
        go_wp2_with (refine store_dot rfl rfl rfl rfl hZ1 ?_)
        exact ret_dot2 rfl rfl rfl rfl (hZ1.row 0 0) ⟨by rw [HL.out, HA.out]; rfl, below_setRow HB2.out (Nat.le_refl _) _⟩
      · obtain ⟨k, rfl⟩ : ∃ k : Nat, at' = ((k + 1 : Nat) : Int) := ⟨at'.toNat - 1, by omega⟩
        have hkq : k < q := by omega
        obtain ⟨b, off, u, rfl, hui, hu, hr, hbl⟩ := HE2.out.at hkq
        have HA : Hid (anchE L ((k + 1 : Nat) : Int) = ((u.r, u.n), 0)) := by
          show _ = _
          unfold anchE
          rw [if_neg (by omega), if_neg (by rw [HE2.out.len]; omega), Int.toNat_natCast, Nat.add_sub_cancel, List.getD_eq_getElem?_getD, hui]
          rfl
        have hsub := fun W : World => sub_oneK W k (by omega)
        have hix := fun W : World => index_ev W (b := b) (off := off) (k := k) (m := q) (c := c1) hkq
        have hld := load_dt hr
        simp only [Nat.add_zero] at hld
        have hlo' : ¬ ((k + 1 : Nat) : Int) < 0 := by omega
        have hhi' : ¬ (q : Int) < ((k + 1 : Nat) : Int) := by omega
        clear hr hui
        go_wp2_with (first | refine wpl_exK rfl (exec_bin rfl rfl rfl (eqGuard_ik _) (hsub _)) ?_ | refine wpl_exK rfl (exec_load rfl rfl hld) ?_ | refine store_dot rfl rfl rfl rfl hZ1 ?_)
        exact ret_dot2 rfl rfl rfl rfl (hZ1.row _ _) ⟨by rw [HL.out, HA.out]; rfl, below_setRow HB2.out (Nat.le_refl _) _⟩
end Go.Proofs.Ytagjgamigldjnaa
