/-
  What the reference's Items and Anchor come to.
-/
import Derived.Test.YtagjgamigldjnaaKun
import Derived.Test.YtagjgamigldjnaaRen
namespace Go.Proofs.Ytagjgamigldjnaa
set_option maxRecDepth 100000
open Go.RowKit

theorem enters_rends (xs : Array Value) (w : World) : (callFunc 28 xs).run Try.prog w = .ok (.enter 28 xs) w := enters Try.func28 (by kernel_rfl) (by kernel_rfl) xs w
def anyTo (E : List Ev) (u : Ev) (j : Nat) : Bool := (E.take j).any (fun b => endsE b u)
theorem anyTo_succ {E : List Ev} {u x : Ev} {j : Nat} (h : E[j]? = some x) : anyTo E u (j + 1) = (anyTo E u j || endsE x u) := by
  unfold anyTo
  rw [take_snoc h, List.any_append]
  simp
theorem anyTo_all {E : List Ev} {u : Ev} {j : Nat} (h : E.length ≤ j) (hk : u.kind = 9) : anyTo E u j = !(isLive E u) := by
  unfold anyTo isLive
  rw [List.take_of_length_le h, hk, Bool.not_and, Bool.not_not]
  rfl
def liveToA (E A : List Ev) (i : Nat) : List Ev := (A.take i).filter (isLive E)
theorem liveToA_succ {E A : List Ev} {i : Nat} {u : Ev} (h : A[i]? = some u) : liveToA E A (i + 1) = if isLive E u then liveToA E A i ++ [u] else liveToA E A i := by
  unfold liveToA
  rw [take_snoc h, List.filter_append, List.filter_cons]
  split <;> simp
theorem liveToA_len (E A : List Ev) (i : Nat) : (liveToA E A i).length ≤ i := by
  unfold liveToA
  have := List.length_filter_le (isLive E) (A.take i)
  rw [List.length_take] at this
  omega
set_option maxHeartbeats 4000000 in
theorem ritems_any (ao : Option Addr) (m c : Nat) (E : List Ev) (key : List UInt8) (w : World) (hE : Evs w ao m c E) (hm : m ≤ 1000) :
    Calls Try.prog 17 #[.slice ao m c, .string (sb key)] w fun e w' => ∃ v, e = .returned v ∧ Row w' w.heap.size v (itemsE key E) ∧ Below w.heap.size w w' := by
  have hlen := hE.len
  have hwide : Hid (∀ e ∈ E, Wide e) := hE.wide
  have HE0 : Aside (Evs w ao m c E) := hE
  go_enter Try.func17, Try.ntmps17
  go_wp2_with fail
  refine (rorder_any ao m c E key w hE hm).mono ?_
  rintro e w1 ⟨v1, rfl, hR1, hb1⟩
  obtain ⟨a3, c3, hv1, hE1⟩ := hR1.evs (fun e he => hwide.out e (mem_nodes.1 (mem_orderE.1 he)).1)
  subst hv1
  have hkind : Hid (∀ e ∈ orderE key E, e.kind = 9) := fun e he => (mem_nodes.1 (mem_orderE.1 he)).2.1
  have HIt : Hid (itemsE key E = (orderE key E).filter (isLive E)) := rfl
  have hAl : (orderE key E).length ≤ 1000 := by rw [orderE_len]; have := nodes_len key E; omega
  generalize orderE key E = A at *
  obtain ⟨q, hq⟩ : ∃ q, A.length = q := ⟨_, rfl⟩
  rw [hq] at hE1 hAl ⊢
  have HQ : Hid (A.length = q) := hq
  have HEA : Aside (Evs w1 a3 q c3 A) := hE1
  have HE1 : Aside (Evs w1 ao m c E) := HE0.out.below hb1 (Nat.le_refl _)
  have HB1 : Hid (Below w.heap.size w w1) := hb1
  have H0 : Aside (Row w1 w1.heap.size (.slice none 0 0) (liveToA E A 0) ∧ Below w1.heap.size w1 w1) := ⟨row_nil _ _, Below.refl _ _⟩
  clear hR1 hb1 hE1 hE HE0 hq
  go_wp2
  go_loopg [5, 15] q (fun kx s5 s15 wr => ∃ i : Nat, s15 = .int .i64 i ∧ i ≤ q ∧ q - i ≤ kx ∧ Aside (Row wr w1.heap.size s5 (liveToA E A i) ∧ Below w1.heap.size w1 wr))
  case atStart => exact ⟨0, rfl, Nat.zero_le _, by omega, H0⟩
  case round =>
    clear H0
    obtain ⟨i, rfl, hiq', hkx, HS⟩ := hrel
    by_cases hiq : i < q
    · have hltz : (i : Int) < (q : Int) := by omega
      obtain ⟨b3, off3, u, rfl, hui, hu, hru0, hbu0⟩ := HEA.out.at hiq
      have hu16 := hu.1
      have hk9 : Hid (u.kind = 9) := hkind.out u (List.mem_of_getElem? hui)
      have HSN : Hid (liveToA E A (i + 1) = if isLive E u then liveToA E A i ++ [u] else liveToA E A i) := liveToA_succ hui
      obtain ⟨w2, hw2⟩ : ∃ x : World, x = wr := ⟨_, rfl⟩
      subst hw2
      have H1 : Aside (Below w2.heap.size w2 w2 ∧ anyTo E u 0 = false) := ⟨Below.refl _ _, rfl⟩
      clear hui
      go_wp2
      go_loopg [8, 20] m (fun kx s8 s20 wr2 => ∃ k : Nat, s20 = .int .i64 k ∧ s8 = .bool (anyTo E u k) ∧ k ≤ m ∧ m - k ≤ kx ∧ Aside (Below w2.heap.size w2 wr2))
      case atStart => exact ⟨0, rfl, by rw [H1.out.2], Nat.zero_le _, by omega, H1.out.1⟩
      case round =>
        clear H1
        obtain ⟨k, rfl, rfl, hkm', hkx2, HT⟩ := hrel
        by_cases hkm : k < m
        · have hltz2 : (k : Int) < (m : Int) := by omega
          have hBw : Below w1.heap.size w1 wr := HS.out.2.trans (HT.out.mono HS.out.2.size)
          obtain ⟨b, off, x, rfl, hxk, hx, hrx, hbx⟩ := (HE1.out.below hBw (Nat.le_refl _)).at hkm
          have hx16 := hx.1
          have hru := range_below hru0 hBw hbu0
          have hbu : b3 < wr.heap.size := Nat.lt_of_lt_of_le hbu0 hBw.size
          have HAn : Hid (anyTo E u (k + 1) = (anyTo E u k || endsE x u)) := anyTo_succ hxk
          clear hBw hxk
          generalize anyTo E u k = t at *
          cases t with
          | true =>
            go_upto_region 10 with (fail)
            refine wp_region_noPanic ?_
            refine wp_region_held_drew (S := fun W' : World => W'.rangeAt b (off + k * 26) (evl x) ∧ W'.rangeAt b3 (off3 + i * 26) (evl u)) (by kernel_rfl) ⟨hrx, hru⟩ (fun hHeld => ?_)
            refine wpAnyH_take (i := 0) (oi := { dst := some 23, op := _, type := _, pos := _, after := _, guard := _ }) (v := .bool true) rfl (by kernel_rfl) (by kernel_rfl) (by kernel_rfl) (fun _ _ _ h => h) (Or.inl ⟨by rfl, ?_⟩) (by assumption) ?_
            · intro w9 hSw
              exact exec_move rfl rfl
            simp only [Act.put, List.setIfInBounds_toArray, List.set_cons_zero, List.set_cons_succ]
            refine wpAnyH_take (i := 1) (oi := { dst := some 24, op := _, type := _, pos := _, after := _, guard := _ }) (v := .bool true) rfl (by kernel_rfl) (by kernel_rfl) (by kernel_rfl) (fun _ _ _ h => h) (Or.inl ⟨by rfl, ?_⟩) (by assumption) ?_
            · intro w9 hSw
              exact exec_move rfl rfl
            simp only [Act.put, List.setIfInBounds_toArray, List.set_cons_zero, List.set_cons_succ]
            refine wpAnyH_take (i := 2) (oi := { dst := some 25, op := _, type := _, pos := _, after := _, guard := _ }) (v := undef) rfl (by kernel_rfl) (by kernel_rfl) (by kernel_rfl) (fun _ _ _ h => h) (Or.inr ⟨by rfl, rfl⟩) (by assumption) ?_
            simp only [Act.put, List.setIfInBounds_toArray, List.set_cons_zero, List.set_cons_succ]
            refine wpAnyH_take (i := 3) (oi := { dst := some 26, op := _, type := _, pos := _, after := _, guard := _ }) (v := undef) rfl (by kernel_rfl) (by kernel_rfl) (by kernel_rfl) (fun _ _ _ h => h) (Or.inr ⟨by rfl, rfl⟩) (by assumption) ?_
            simp only [Act.put, List.setIfInBounds_toArray, List.set_cons_zero, List.set_cons_succ]
            refine wpAnyH_take (i := 4) (oi := { dst := some 27, op := _, type := _, pos := _, after := _, guard := _ }) (v := undef) rfl (by kernel_rfl) (by kernel_rfl) (by kernel_rfl) (fun _ _ _ h => h) (Or.inr ⟨by rfl, rfl⟩) (by assumption) ?_
            simp only [Act.put, List.setIfInBounds_toArray, List.set_cons_zero, List.set_cons_succ]
            refine wpAnyH_take (i := 5) (oi := { dst := some 28, op := _, type := _, pos := _, after := _, guard := _ }) (v := undef) rfl (by kernel_rfl) (by kernel_rfl) (by kernel_rfl) (fun _ _ _ h => h) (Or.inr ⟨by rfl, rfl⟩) (by assumption) ?_
            simp only [Act.put, List.setIfInBounds_toArray, List.set_cons_zero, List.set_cons_succ]
            refine wpAnyH_take (i := 6) (oi := { dst := some 29, op := _, type := _, pos := _, after := _, guard := _ }) (v := undef) rfl (by kernel_rfl) (by kernel_rfl) (by kernel_rfl) (fun _ _ _ h => h) (Or.inr ⟨by rfl, rfl⟩) (by assumption) ?_
            simp only [Act.put, List.setIfInBounds_toArray, List.set_cons_zero, List.set_cons_succ]
            refine wpAnyH_take (i := 7) (oi := { dst := some 30, op := _, type := _, pos := _, after := _, guard := _ }) (v := undef) rfl (by kernel_rfl) (by kernel_rfl) (by kernel_rfl) (fun _ _ _ h => h) (Or.inr ⟨by rfl, rfl⟩) (by assumption) ?_
            simp only [Act.put, List.setIfInBounds_toArray, List.set_cons_zero, List.set_cons_succ]
            refine wpAnyH_take (i := 8) (oi := { dst := some 31, op := _, type := _, pos := _, after := _, guard := _ }) (v := undef) rfl (by kernel_rfl) (by kernel_rfl) (by kernel_rfl) (fun _ _ _ h => h) (Or.inr ⟨by rfl, rfl⟩) (by assumption) ?_
            simp only [Act.put, List.setIfInBounds_toArray, List.set_cons_zero, List.set_cons_succ]
            refine wpAnyH_take (i := 9) (oi := { dst := some 32, op := _, type := _, pos := _, after := _, guard := _ }) (v := undef) rfl (by kernel_rfl) (by kernel_rfl) (by kernel_rfl) (fun _ _ _ h => h) (Or.inr ⟨by rfl, rfl⟩) (by assumption) ?_
            simp only [Act.put, List.setIfInBounds_toArray, List.set_cons_zero, List.set_cons_succ]
            refine wpAnyH_take (i := 10) (oi := { dst := some 33, op := _, type := _, pos := _, after := _, guard := _ }) (v := undef) rfl (by kernel_rfl) (by kernel_rfl) (by kernel_rfl) (fun _ _ _ h => h) (Or.inr ⟨by rfl, rfl⟩) (by assumption) ?_
            simp only [Act.put, List.setIfInBounds_toArray, List.set_cons_zero, List.set_cons_succ]
            refine wpAnyH_take (i := 11) (oi := { dst := some 34, op := _, type := _, pos := _, after := _, guard := _ }) (v := .bool true) rfl (by kernel_rfl) (by kernel_rfl) (by kernel_rfl) (fun _ _ _ h => h) (Or.inl ⟨by rfl, ?_⟩) (by assumption) ?_
            · intro w9 hSw
              exact exec_pick (b := true) rfl rfl rfl rfl
            simp only [Act.put, List.setIfInBounds_toArray, List.set_cons_zero, List.set_cons_succ]
            refine wpAnyH_take (i := 12) (oi := { dst := some 8, op := _, type := _, pos := _, after := _, guard := _ }) (v := .bool true) rfl (by kernel_rfl) (by kernel_rfl) (by kernel_rfl) (fun _ _ _ h => h) (Or.inl ⟨by rfl, ?_⟩) (by assumption) ?_
            · intro w9 hSw
              exact exec_assign rfl rfl
            simp only [Act.put, List.setIfInBounds_toArray, List.set_cons_zero, List.set_cons_succ]
            refine wpAnyH_done (by kernel_rfl) ?_ _
            refine NoPanic.normal ?_
            clear hHeld
            have HT2 : Aside (Below w2.heap.size w2 wr.drew) := HT.out.drew
            clear HT hrx hru
            have HAn2 : Hid (anyTo E u (k + 1) = true) := by show _ = _; rw [HAn.out]; rfl
            clear HAn
            go_wp2
            go_roundg (m - (k + 1))
            case measure => omega
            case rel => exact ⟨k + 1, by go_num, by rw [HAn2.out], by omega, Nat.le_refl _, HT2⟩
          | false =>
            go_upto_region 10 with (fail)
            refine wp_region_noPanic ?_
            refine wp_region_held_drew (S := fun W' : World => W'.rangeAt b (off + k * 26) (evl x) ∧ W'.rangeAt b3 (off3 + i * 26) (evl u)) (by kernel_rfl) ⟨hrx, hru⟩ (fun hHeld => ?_)
            refine wpAnyH_take (i := 0) (oi := { dst := some 23, op := _, type := _, pos := _, after := _, guard := _ }) (v := .bool false) rfl (by kernel_rfl) (by kernel_rfl) (by kernel_rfl) (fun _ _ _ h => h) (Or.inl ⟨by rfl, ?_⟩) (by assumption) ?_
            · intro w9 hSw
              exact exec_move rfl rfl
            simp only [Act.put, List.setIfInBounds_toArray, List.set_cons_zero, List.set_cons_succ]
            refine wpAnyH_take (i := 1) (oi := { dst := some 24, op := _, type := _, pos := _, after := _, guard := _ }) (v := .bool false) rfl (by kernel_rfl) (by kernel_rfl) (by kernel_rfl) (fun _ _ _ h => h) (Or.inl ⟨by rfl, ?_⟩) (by assumption) ?_
            · intro w9 hSw
              exact exec_move rfl rfl
            simp only [Act.put, List.setIfInBounds_toArray, List.set_cons_zero, List.set_cons_succ]
            refine wpAnyH_take (i := 2) (oi := { dst := some 25, op := _, type := _, pos := _, after := _, guard := _ }) (v := .slice (some ⟨b, off, none⟩) m c) rfl (by kernel_rfl) (by kernel_rfl) (by kernel_rfl) (fun _ _ _ h => h) (Or.inl ⟨by rfl, ?_⟩) (by assumption) ?_
            · intro w9 hSw
              exact exec_move rfl rfl
            simp only [Act.put, List.setIfInBounds_toArray, List.set_cons_zero, List.set_cons_succ]
            refine wpAnyH_take (i := 3) (oi := { dst := some 26, op := _, type := _, pos := _, after := _, guard := _ }) (v := .int .i64 (k : Int)) rfl (by kernel_rfl) (by kernel_rfl) (by kernel_rfl) (fun _ _ _ h => h) (Or.inl ⟨by rfl, ?_⟩) (by assumption) ?_
            · intro w9 hSw
              exact exec_move rfl rfl
            simp only [Act.put, List.setIfInBounds_toArray, List.set_cons_zero, List.set_cons_succ]
            refine wpAnyH_take (i := 4) (oi := { dst := some 27, op := _, type := _, pos := _, after := _, guard := _ }) (v := .pointer (some ⟨b, off + k * 26, none⟩)) rfl (by kernel_rfl) (by kernel_rfl) (by kernel_rfl) (fun _ _ _ h => h) (Or.inl ⟨by rfl, ?_⟩) (by assumption) ?_
            · intro w9 hSw
              exact exec_index rfl rfl rfl (index_ev w9 hkm)
            simp only [Act.put, List.setIfInBounds_toArray, List.set_cons_zero, List.set_cons_succ]
            refine wpAnyH_take (i := 5) (oi := { dst := some 28, op := _, type := _, pos := _, after := _, guard := _ }) (v := .agg (evc x)) rfl (by kernel_rfl) (by kernel_rfl) (by kernel_rfl) (fun _ _ _ h => h) (Or.inl ⟨by rfl, ?_⟩) (by assumption) ?_
            · intro w9 hSw
              exact exec_load (ad := ⟨b, off + k * 26, none⟩) rfl rfl (load_part hSw.1 hx16)
            simp only [Act.put, List.setIfInBounds_toArray, List.set_cons_zero, List.set_cons_succ]
            refine wpAnyH_take (i := 6) (oi := { dst := some 29, op := _, type := _, pos := _, after := _, guard := _ }) (v := .slice (some ⟨b3, off3, none⟩) q c3) rfl (by kernel_rfl) (by kernel_rfl) (by kernel_rfl) (fun _ _ _ h => h) (Or.inl ⟨by rfl, ?_⟩) (by assumption) ?_
            · intro w9 hSw
              exact exec_move rfl rfl
            simp only [Act.put, List.setIfInBounds_toArray, List.set_cons_zero, List.set_cons_succ]
            refine wpAnyH_take (i := 7) (oi := { dst := some 30, op := _, type := _, pos := _, after := _, guard := _ }) (v := .int .i64 (i : Int)) rfl (by kernel_rfl) (by kernel_rfl) (by kernel_rfl) (fun _ _ _ h => h) (Or.inl ⟨by rfl, ?_⟩) (by assumption) ?_
            · intro w9 hSw
              exact exec_move rfl rfl
            simp only [Act.put, List.setIfInBounds_toArray, List.set_cons_zero, List.set_cons_succ]
            refine wpAnyH_take (i := 8) (oi := { dst := some 31, op := _, type := _, pos := _, after := _, guard := _ }) (v := .pointer (some ⟨b3, off3 + i * 26, none⟩)) rfl (by kernel_rfl) (by kernel_rfl) (by kernel_rfl) (fun _ _ _ h => h) (Or.inl ⟨by rfl, ?_⟩) (by assumption) ?_
            · intro w9 hSw
              exact exec_index rfl rfl rfl (index_ev w9 hiq)
            simp only [Act.put, List.setIfInBounds_toArray, List.set_cons_zero, List.set_cons_succ]
            refine wpAnyH_take (i := 9) (oi := { dst := some 32, op := _, type := _, pos := _, after := _, guard := _ }) (v := .agg (evc u)) rfl (by kernel_rfl) (by kernel_rfl) (by kernel_rfl) (fun _ _ _ h => h) (Or.inl ⟨by rfl, ?_⟩) (by assumption) ?_
            · intro w9 hSw
              exact exec_load (ad := ⟨b3, off3 + i * 26, none⟩) rfl rfl (load_part hSw.2 hu16)
            simp only [Act.put, List.setIfInBounds_toArray, List.set_cons_zero, List.set_cons_succ]
            clear hHeld
            refine wpAnyH_ready (rs := [10]) (by kernel_rfl) (by simp) ?_
            refine AllReadyH.cons (o := { dst := some 33, op := _, type := _, pos := _, after := _, guard := _ }) rfl (fun K hK => ?_) AllReadyH.nil
            rw [if_pos (by rfl)]
            refine wp_callL (xs := [.tmp 28, .tmp 32]) (vs := [.agg (evc x), .agg (evc u)]) rfl rfl (enters_rends _ _) (rends_any x u hx16 hu16 _) ?_
            rintro e w5 ⟨rfl, hb5⟩
            refine ⟨_, rfl, ?_⟩
            have hr1' := range_below (w := wr.drew) hrx hb5 hbx
            have hr2' := range_below (w := wr.drew) hru hb5 hbu
            refine hK.out _ _ ⟨hr1', hr2'⟩ (fun hHeld => ?_)
            clear hK K
            simp only [Act.put, List.setIfInBounds_toArray, List.set_cons_zero, List.set_cons_succ]
            refine wpAnyH_take (i := 11) (oi := { dst := some 34, op := _, type := _, pos := _, after := _, guard := _ }) (v := .bool (endsE x u)) rfl (by kernel_rfl) (by kernel_rfl) (by kernel_rfl) (fun _ _ _ h => h) (Or.inl ⟨by rfl, ?_⟩) (by assumption) ?_
            · intro w9 hSw
              exact exec_pick (b := false) rfl rfl rfl rfl
            simp only [Act.put, List.setIfInBounds_toArray, List.set_cons_zero, List.set_cons_succ]
            refine wpAnyH_take (i := 12) (oi := { dst := some 8, op := _, type := _, pos := _, after := _, guard := _ }) (v := .bool (endsE x u)) rfl (by kernel_rfl) (by kernel_rfl) (by kernel_rfl) (fun _ _ _ h => h) (Or.inl ⟨by rfl, ?_⟩) (by assumption) ?_
            · intro w9 hSw
              exact exec_assign rfl rfl
            simp only [Act.put, List.setIfInBounds_toArray, List.set_cons_zero, List.set_cons_succ]
            refine wpAnyH_done (by kernel_rfl) ?_ _
            refine NoPanic.normal ?_
            clear hHeld
            have HT2 : Aside (Below w2.heap.size w2 w5) := HT.out.drew.trans (hb5.mono HT.out.drew.size)
            clear hb5 HT hrx hru hr1' hr2'
            have HAn2 : Hid (anyTo E u (k + 1) = endsE x u) := by show _ = _; rw [HAn.out]; rfl
            clear HAn
            go_wp2
            go_roundg (m - (k + 1))
            case measure => omega
            case rel => exact ⟨k + 1, by go_num, by rw [HAn2.out], by omega, Nat.le_refl _, HT2⟩
        · obtain rfl : k = m := by omega
          have hltz2 : ¬ (k : Int) < (k : Int) := by omega
          have hBw : Below w1.heap.size w1 wr := HS.out.2.trans (HT.out.mono HS.out.2.size)
          have HRw : Aside (Row wr w1.heap.size u5 (liveToA E A i)) := HS.out.1.below HT.out (Nat.le_refl _)
          have HBw : Hid (Below w1.heap.size w1 wr) := hBw
          have hru := range_below hru0 hBw hbu0
          have hAa : anyTo E u k = !(isLive E u) := anyTo_all (by omega) hk9.out
          rw [hAa]
          have hix := fun W : World => index_ev W (b := b3) (off := off3) (k := i) (m := q) (c := c3) hiq
          clear HS HT hAa hBw hru0
          cases hl : isLive E u with
          | true =>
            rw [hl] at HSN
            have hRow : Row (wr.alloc (.cells (evc u) 41)) w1.heap.size u5 (liveToA E A i) := HRw.out.below ((Below.refl _ _).alloc (Nat.le_refl _) _) (Nat.le_refl _)
            have hF : Evs (wr.alloc (.cells (evc u) 41)) (some ⟨wr.heap.size, 0, none⟩) 1 1 [u] := evs_single _ _ u hu (liesE_new wr u)
            have hll := liveToA_len E A i
            have hle : w1.heap.size ≤ (wr.alloc (.cells (evc u) 41)).heap.size := by have := HBw.out.size; simp; omega
            have HB3 : Hid (Below w1.heap.size w1 (wr.alloc (.cells (evc u) 41))) := HBw.out.alloc HBw.out.size _
            clear HRw HBw hl
            go_wp2_with (first | refine load_ev_mid rfl rfl rfl hru hu16 ?_ | refine build_ev1 rfl rfl rfl hu16 ?_ | refine wpList_appE rfl _ _ rfl w1.heap.size _ (liveToA E A i) rfl hRow _ 1 1 [u] rfl hF (by omega) hle ?_)
            intro v4 w4 hR4 hg4 ho4
            have HS4 : Aside (Row w4 w1.heap.size v4 (liveToA E A (i + 1)) ∧ Below w1.heap.size w1 w4) := ⟨by rw [HSN.out]; exact hR4, HB3.out.grown hg4 hle hRow.own⟩
            clear hR4 hg4 ho4 hRow hF HB3 HSN hll hle hru hix
            go_wp2
            go_roundg (q - (i + 1))
            case measure => omega
            case rel => exact ⟨i + 1, by go_num, by omega, Nat.le_refl _, HS4⟩
          | false =>
            rw [hl] at HSN
            have HS4 : Aside (Row wr w1.heap.size u5 (liveToA E A (i + 1)) ∧ Below w1.heap.size w1 wr) := ⟨by rw [HSN.out]; exact HRw.out, HBw.out⟩
            clear HRw HBw hl HSN hru hix
            go_wp2
            go_roundg (q - (i + 1))
            case measure => omega
            case rel => exact ⟨i + 1, by go_num, by omega, Nat.le_refl _, HS4⟩
    · obtain rfl : i = q := by omega
      have hltz : ¬ (i : Int) < (i : Int) := by omega
      have HF : Hid (Row wr w.heap.size u5 (itemsE key E) ∧ Below w.heap.size w wr) := by
        have h1 := HS.out.1
        unfold liveToA at h1
        rw [List.take_of_length_le (by rw [HQ.out]; exact Nat.le_refl _)] at h1
        exact ⟨by rw [HIt.out]; exact h1.lower HB1.out.size, HB1.out.trans (HS.out.2.mono HB1.out.size)⟩
      clear HS
      go_wp2
      go_ret
      exact ⟨_, rfl, HF.out⟩
set_option maxHeartbeats 4000000 in
theorem ranchor_any (ao : Option Addr) (m c : Nat) (E : List Ev) (key : List UInt8) (at' : Int) (w : World) (hE : Evs w ao m c E) (hm : m ≤ 1000) :
    Calls Try.prog 12 #[.slice ao m c, .string (sb key), .int .i64 at'] w fun e w' => e = .returned (.tuple #[.agg (dotc (anchE (itemsE key E) at').1.1 (anchE (itemsE key E) at').1.2), .int .i64 (anchE (itemsE key E) at').2]) ∧ Below w.heap.size w w' := by
  have hZ : LiesD (w.alloc (.cells (dotc 0 0) 26)) w.heap.size 0 0 := heap_alloc_new w _
  have hB1 : Below w.heap.size w (w.alloc (.cells (dotc 0 0) 26)) := (Below.refl _ _).alloc (Nat.le_refl _) _
  have hE1 := hE.below hB1 (Nat.le_refl _)
  have hwide : Hid (∀ e ∈ E, Wide e) := hE.wide
  have hlen := hE.len
  have HB1 : Hid (Below w.heap.size w (w.alloc (.cells (dotc 0 0) 26))) := hB1
  clear hE hB1
  go_enter Try.func12, Try.ntmps12
  go_wp2_with fail
  refine (ritems_any ao m c E key _ hE1 hm).mono ?_
  rintro e w1 ⟨v1, rfl, hR1, hb1⟩
  obtain ⟨a1, c1, hv1, hE2⟩ := hR1.evs (fun e he => hwide.out e (mem_items.1 he).1.1)
  subst hv1
  obtain ⟨L, hL⟩ : ∃ L, itemsE key E = L := ⟨_, rfl⟩
  have HL : Hid (itemsE key E = L) := hL
  have hLl : L.length ≤ 1000 := by rw [← hL]; have := items_len key E; omega
  rw [hL] at hE2 ⊢
  have hZ1 : LiesD w1 w.heap.size 0 0 := hZ.below hb1 hZ.lt
  have HB2 : Hid (Below w.heap.size w w1) := HB1.out.trans (hb1.mono HB1.out.size)
  have HE2 : Aside (Evs w1 a1 L.length c1 L) := hE2
  clear hR1 hb1 hZ hE1 HB1 hL hE2
  generalize L.length = q at HE2 hLl ⊢
  by_cases hlo : at' < 0
  · have HA : Hid (anchE L at' = ((0, 0), 7)) := by show _ = _; unfold anchE; rw [if_neg (by omega), if_pos (.inl hlo)]
    go_wp2_with (refine store_dot rfl rfl rfl rfl hZ1 ?_)
    exact ret_dot2 rfl rfl rfl rfl (hZ1.row 0 0) ⟨by rw [HL.out, HA.out]; rfl, below_setRow HB2.out (Nat.le_refl _) _⟩
  · by_cases hhi : (q : Int) < at'
    · have HA : Hid (anchE L at' = ((0, 0), 7)) := by show _ = _; unfold anchE; rw [if_neg (by omega), if_pos (.inr (by rw [HE2.out.len]; exact hhi))]
      go_wp2_with (refine store_dot rfl rfl rfl rfl hZ1 ?_)
      exact ret_dot2 rfl rfl rfl rfl (hZ1.row 0 0) ⟨by rw [HL.out, HA.out]; rfl, below_setRow HB2.out (Nat.le_refl _) _⟩
    · by_cases h0 : at' = 0
      · have HA : Hid (anchE L at' = ((0, 0), 0)) := by show _ = _; unfold anchE; rw [if_pos h0]
        subst h0
        go_wp2_with (refine store_dot rfl rfl rfl rfl hZ1 ?_)
        exact ret_dot2 rfl rfl rfl rfl (hZ1.row 0 0) ⟨by rw [HL.out, HA.out]; rfl, below_setRow HB2.out (Nat.le_refl _) _⟩
      · obtain ⟨k, rfl⟩ : ∃ k : Nat, at' = ((k + 1 : Nat) : Int) := ⟨at'.toNat - 1, by omega⟩
        have hkq : k < q := by omega
        obtain ⟨b, off, u, rfl, hui, hu, hr, hbl⟩ := HE2.out.at hkq
        have HA : Hid (anchE L ((k + 1 : Nat) : Int) = ((u.r, u.n), 0)) := by
          show _ = _
          unfold anchE
          rw [if_neg (by omega), if_neg (by rw [HE2.out.len]; omega), Int.toNat_natCast, Nat.add_sub_cancel, List.getD_eq_getElem?_getD, hui]
          rfl
        have hsub := fun W : World => sub_oneK W k (by omega)
        have hix := fun W : World => index_ev W (b := b) (off := off) (k := k) (m := q) (c := c1) hkq
        have hld := load_dt hr
        simp only [Nat.add_zero] at hld
        have hlo' : ¬ ((k + 1 : Nat) : Int) < 0 := by omega
        have hhi' : ¬ (q : Int) < ((k + 1 : Nat) : Int) := by omega
        have h0b : (((k + 1 : Nat) : Int) == 0) = false := beq_false_of_ne (by omega)
        clear hr hui
        go_wp2_with (first | refine wpl_exK rfl (exec_bin rfl rfl rfl (eqGuard_ik _) (hsub _)) ?_ | refine wpl_exK rfl (exec_load rfl rfl hld) ?_ | refine store_dot rfl rfl rfl rfl hZ1 ?_)
        exact ret_dot2 rfl rfl rfl rfl (hZ1.row _ _) ⟨by rw [HL.out, HA.out]; rfl, below_setRow HB2.out (Nat.le_refl _) _⟩
end Go.Proofs.Ytagjgamigldjnaa
