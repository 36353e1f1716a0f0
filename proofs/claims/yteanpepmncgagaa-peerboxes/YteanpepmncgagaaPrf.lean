/-
  What the reference's For and Trim come to.
-/
import Derived.Test.YteanpepmncgagaaPtr
namespace Go.Proofs.Yteanpepmncgagaa
set_option maxRecDepth 100000
open Go.RowKit

theorem enters_rhas' (xs : Array Value) (w : World) : (callFunc 22 xs).run Try.prog w = .ok (.enter 22 xs) w := enters Try.func22 (by kernel_rfl) (by kernel_rfl) xs w
theorem tr_ne : (29 : TypeId) ≠ 39 := by decide
theorem field_r0 (w : World) (g : Nat) : (Instr.fieldAt 29 (.pointer (some ⟨g, 0, none⟩)) 0).run Try.prog w = .ok (.pointer (some ⟨g, 0, none⟩)) w := by kernel_rfl
set_option maxHeartbeats 4000000 in
theorem rtrim_any (g : Nat) (lv : Value) (E : List Ev) (x : List Int) (hx : x.length = 16) (hm : E.length ≤ 1000) (w : World) (h : Lp 29 w g lv E) : Calls Try.prog 16 #[.pointer (some ⟨g, 0, none⟩), .agg (vals x)] w fun ex w' => ex = .returned (.int .i64 ((E.length - (trimE E x).length : Nat) : Int)) ∧ ∃ v', Lp 29 w' g v' (trimE E x) ∧ Tn g lv.ownBlock v'.ownBlock w w' := by
  have hb0 : Below w.heap.size w (w.alloc (.cells (vals x) 35)) := (Below.refl _ w).alloc (Nat.le_refl _) _
  have hV0 := lies_new w x
  have hL0 := h.below hb0 (Nat.le_refl _)
  have hl0 := hV0.lt
  have hgw := h.lt
  generalize hW0 : w.alloc (.cells (vals x) 35) = W0 at *
  have HB0 : Hid (Below w.heap.size w W0) := hb0
  obtain ⟨ao, c, hv, hE⟩ := hL0.val
  have HL : Hid (Lp 29 W0 g lv E) := hL0
  have HV : Hid (lv = .slice ao E.length c) := hv
  have hc := hL0.c0
  rw [hv] at hc
  have HE : Aside (Evs W0 ao E.length c E) := hE
  have H0 : Aside (Row W0 W0.heap.size (.slice none 0 0) (trimE (E.take 0) x) ∧ Lies W0 w.heap.size x ∧ Below W0.heap.size W0 W0) := ⟨row_nil _ _, hV0, Below.refl _ _⟩
  have HLT : Hid (w.heap.size < W0.heap.size ∧ g < W0.heap.size) := ⟨hl0, hL0.lt⟩
  clear hv hE hL0 hV0 hb0 h hl0
  go_enter Try.func16, Try.ntmps16
  go_wp2
  go_loopg [5, 13] E.length (fun kx s5 s13 wr => ∃ i : Nat, s13 = .int .i64 i ∧ i ≤ E.length ∧ E.length - i ≤ kx ∧ Aside (Row wr W0.heap.size s5 (trimE (E.take i) x) ∧ Lies wr w.heap.size x ∧ Below W0.heap.size W0 wr))
  case atStart => exact ⟨0, rfl, Nat.zero_le _, by omega, H0⟩
  case round =>
    clear H0 hW0
    obtain ⟨i, rfl, him, hkx, HS⟩ := hrel
    have hcr : wr.cell? ⟨g, 0, none⟩ = some (.slice ao E.length c) := (HS.out.2.2.cell HLT.out.2).trans hc
    by_cases hlt : i < E.length
    · have hltz : (i : Int) < (E.length : Int) := by omega
      obtain ⟨b, off, u, rfl, hui, hu, hr, hbl⟩ := (HE.out.below HS.out.2.2 (Nat.le_refl _)).at hlt
      have hu16 := hu.1
      have hrd : wr.drew.rangeAt b (off + i * 26) (evl u) := hr
      have hcd : wr.drew.cell? ⟨g, 0, none⟩ = some (.slice (some ⟨b, off, none⟩) E.length c) := hcr
      have hVd : Lies wr.drew w.heap.size x := HS.out.2.1
      have hbl : b < wr.drew.heap.size := hbl
      have hR1 : Row wr.drew W0.heap.size u5 (trimE (E.take i) x) := HS.out.1
      have hB1 : Below W0.heap.size W0 wr.drew := HS.out.2.2.drew
      clear HS hcr hr
      go_wp2_with fail
      refine wp_region_noPanic ?_
      refine wp_region_held_drew (S := fun W' : World => W'.rangeAt b (off + i * 26) (evl u) ∧ W'.cell? ⟨g, 0, none⟩ = some (.slice (some ⟨b, off, none⟩) E.length c) ∧ Lies W' w.heap.size x) (by kernel_rfl) ⟨hrd, hcd, hVd⟩ (fun hHeld => ?_)
      refine wpAnyH_take (i := 0) (oi := { dst := some 16, op := _, type := _, pos := _, after := _, guard := _ }) (v := .agg (vals x)) rfl (by kernel_rfl) (by kernel_rfl) (by kernel_rfl) (fun _ _ _ h => h) (Or.inl ⟨by rfl, ?_⟩) (by assumption) ?_
      · intro w9 hSw
        exact y_load rfl rfl (load_v hSw.2.2 hx)
      simp only [Act.put, List.setIfInBounds_toArray, List.set_cons_zero, List.set_cons_succ]
      refine wpAnyH_take (i := 1) (oi := { dst := some 17, op := _, type := _, pos := _, after := _, guard := _ }) (v := .pointer (some ⟨g, 0, none⟩)) rfl (by kernel_rfl) (by kernel_rfl) (by kernel_rfl) (fun _ _ _ h => h) (Or.inl ⟨by rfl, ?_⟩) (by assumption) ?_
      · intro w9 hSw
        exact y_move rfl rfl
      simp only [Act.put, List.setIfInBounds_toArray, List.set_cons_zero, List.set_cons_succ]
      refine wpAnyH_take (i := 2) (oi := { dst := some 18, op := _, type := _, pos := _, after := _, guard := _ }) (v := .pointer (some ⟨g, 0, none⟩)) rfl (by kernel_rfl) (by kernel_rfl) (by kernel_rfl) (fun _ _ _ h => h) (Or.inl ⟨by rfl, ?_⟩) (by assumption) ?_
      · intro w9 hSw
        exact y_nil rfl rfl
      simp only [Act.put, List.setIfInBounds_toArray, List.set_cons_zero, List.set_cons_succ]
      refine wpAnyH_take (i := 3) (oi := { dst := some 19, op := _, type := _, pos := _, after := _, guard := _ }) (v := .pointer (some ⟨g, 0, none⟩)) rfl (by kernel_rfl) (by kernel_rfl) (by kernel_rfl) (fun _ _ _ h => h) (Or.inl ⟨by rfl, ?_⟩) (by assumption) ?_
      · intro w9 hSw
        exact y_field rfl rfl (field_r0 _ _)
      simp only [Act.put, List.setIfInBounds_toArray, List.set_cons_zero, List.set_cons_succ]
      refine wpAnyH_take (i := 4) (oi := { dst := some 20, op := _, type := _, pos := _, after := _, guard := _ }) (v := .slice (some ⟨b, off, none⟩) E.length c) rfl (by kernel_rfl) (by kernel_rfl) (by kernel_rfl) (fun _ _ _ h => h) (Or.inl ⟨by rfl, ?_⟩) (by assumption) ?_
      · intro w9 hSw
        exact y_load rfl rfl (load_evs hSw.2.1)
      simp only [Act.put, List.setIfInBounds_toArray, List.set_cons_zero, List.set_cons_succ]
      refine wpAnyH_take (i := 5) (oi := { dst := some 21, op := _, type := _, pos := _, after := _, guard := _ }) (v := .int .i64 (i : Int)) rfl (by kernel_rfl) (by kernel_rfl) (by kernel_rfl) (fun _ _ _ h => h) (Or.inl ⟨by rfl, ?_⟩) (by assumption) ?_
      · intro w9 hSw
        exact y_move rfl rfl
      simp only [Act.put, List.setIfInBounds_toArray, List.set_cons_zero, List.set_cons_succ]
      refine wpAnyH_take (i := 6) (oi := { dst := some 22, op := _, type := _, pos := _, after := _, guard := _ }) (v := .pointer (some ⟨b, off + i * 26, none⟩)) rfl (by kernel_rfl) (by kernel_rfl) (by kernel_rfl) (fun _ _ _ h => h) (Or.inl ⟨by rfl, ?_⟩) (by assumption) ?_
      · intro w9 hSw
        exact y_index rfl rfl rfl (index_ev _ hlt)
      simp only [Act.put, List.setIfInBounds_toArray, List.set_cons_zero, List.set_cons_succ]
      refine wpAnyH_take (i := 7) (oi := { dst := some 23, op := _, type := _, pos := _, after := _, guard := _ }) (v := .pointer (some ⟨b, off + i * 26 + 0, none⟩)) rfl (by kernel_rfl) (by kernel_rfl) (by kernel_rfl) (fun _ _ _ h => h) (Or.inl ⟨by rfl, ?_⟩) (by assumption) ?_
      · intro w9 hSw
        exact y_field rfl rfl (field_e0 _ _ _)
      simp only [Act.put, List.setIfInBounds_toArray, List.set_cons_zero, List.set_cons_succ]
      refine wpAnyH_take (i := 8) (oi := { dst := some 24, op := _, type := _, pos := _, after := _, guard := _ }) (v := .agg (dotc u.r u.n)) rfl (by kernel_rfl) (by kernel_rfl) (by kernel_rfl) (fun _ _ _ h => h) (Or.inl ⟨by rfl, ?_⟩) (by assumption) ?_
      · intro w9 hSw
        exact y_load rfl rfl (load_dt hSw.1)
      simp only [Act.put, List.setIfInBounds_toArray, List.set_cons_zero, List.set_cons_succ]
      clear hHeld
      refine wpAnyH_ready (rs := [9]) (by kernel_rfl) (by simp) ?_
      refine AllReadyH.cons (o := { dst := some 25, op := _, type := _, pos := _, after := _, guard := _ }) rfl (fun K hK => ?_) AllReadyH.nil
      rw [if_pos (by rfl)]
      refine y_call (f := 22) (xs := [.tmp 16, .tmp 24]) (vs := [.agg (vals x), .agg (dotc u.r u.n)]) rfl rfl (enters_rhas' _ _) (rhas_any x u.r u.n hx wr.drew) ?_
      rintro ex w2 ⟨rfl, hb2⟩
      refine ⟨_, rfl, ?_⟩
      have hrd2 := range_below hrd hb2 hbl
      have hVd2 := hVd.below hb2 hVd.lt
      have hcd2 : w2.cell? ⟨g, 0, none⟩ = some (.slice (some ⟨b, off, none⟩) E.length c) := (hb2.cell (World.block_lt_of_cell? _ _ hcd)).trans hcd
      refine hK.out _ _ ⟨hrd2, hcd2, hVd2⟩ (fun hHeld => ?_)
      clear hK K
      simp only [Act.put, List.setIfInBounds_toArray, List.set_cons_zero, List.set_cons_succ]
      refine wpAnyH_take (i := 10) (oi := { dst := some 26, op := _, type := _, pos := _, after := _, guard := _ }) (v := .bool (!hasv x u.r u.n)) rfl (by kernel_rfl) (by kernel_rfl) (by kernel_rfl) (fun _ _ _ h => h) (Or.inl ⟨by rfl, ?_⟩) (by assumption) ?_
      · intro w9 hSw
        exact y_not rfl rfl
      simp only [Act.put, List.setIfInBounds_toArray, List.set_cons_zero, List.set_cons_succ]
      refine wpAnyH_done (by kernel_rfl) ?_ _
      refine NoPanic.normal ?_
      clear hHeld
      have hR2 := hR1.below hb2 (Nat.le_refl _)
      have hB2 := hB1.trans (hb2.mono hB1.size)
      clear hR1 hB1 hrd hcd hVd hb2
      have hix := fun W : World => index_ev W (b := b) (off := off) (k := i) (m := E.length) (c := c) hlt
      have HSN := trim_step (v := x) hui
      cases hh : hasv x u.r u.n
      · rw [hh, if_pos rfl] at HSN
        have HSN : Hid _ := HSN
        have hwide : ∀ e ∈ trimE (E.take i) x, Wide e := fun e he => HE.out.wide e (List.mem_of_mem_take (trim_mem he))
        have hll := trim_len (E.take i) x
        rw [List.length_take] at hll
        have hba : Below w2.heap.size w2 (w2.alloc (.cells (evc u) 39)) := (Below.refl _ _).alloc (Nat.le_refl _) _
        have hRow : Row (w2.alloc (.cells (evc u) 39)) W0.heap.size u5 (trimE (E.take i) x) := hR2.below hba (Nat.le_refl _)
        have hF : Evs (w2.alloc (.cells (evc u) 39)) (some ⟨w2.heap.size, 0, none⟩) 1 1 [u] := evs_single _ _ u hu (liesE_new w2 u)
        have hle : W0.heap.size ≤ (w2.alloc (.cells (evc u) 39)).heap.size := by have := hB2.size; simp; omega
        have HV4 : Hid (Lies (w2.alloc (.cells (evc u) 39)) w.heap.size x) := hVd2.below hba hVd2.lt
        have HB4 : Hid (Below W0.heap.size W0 (w2.alloc (.cells (evc u) 39))) := hB2.trans (hba.mono hB2.size)
        have hlim : (trimE (E.take i) x).length + 1 ≤ 1048576 := by omega
        clear hR2 hB2 hVd2 hba hwide hh hll
        go_wp2_with (first | refine load_ev_mid rfl rfl rfl hrd2 hu16 ?_ | refine build_ev1 rfl rfl rfl hu16 ?_ | refine wpList_appE rfl _ _ rfl W0.heap.size _ (trimE (E.take i) x) rfl hRow _ 1 1 [u] rfl hF hlim hle ?_)
        intro v4 w4 hR4 hg4 ho4
        have HSF : Aside (Row w4 W0.heap.size v4 (trimE (E.take (i + 1)) x) ∧ Lies w4 w.heap.size x ∧ Below W0.heap.size W0 w4) :=
          ⟨by rw [HSN.out]; exact hR4, (hg4.block w.heap.size HV4.out.lt (fun e1 => by have := hRow.own _ e1.symm; have := HLT.out.1; omega)).trans HV4.out, HB4.out.grown hg4 hle hRow.own⟩
        clear hR4 hg4 ho4 hRow hF HB4 HSN hle hlim HV4 hrd2 hcd2 hix
        go_wp2
        go_roundg (E.length - (i + 1))
        case measure => omega
        case rel => exact ⟨i + 1, by go_num, by omega, Nat.le_refl _, HSF⟩
      · rw [hh, if_neg (by decide), List.append_nil] at HSN
        have HSF : Aside (Row w2 W0.heap.size u5 (trimE (E.take (i + 1)) x) ∧ Lies w2 w.heap.size x ∧ Below W0.heap.size W0 w2) := ⟨by rw [HSN]; exact hR2, hVd2, hB2⟩
        clear hR2 hB2 hVd2 hrd2 hcd2 HSN hix hh
        go_wp2
        go_roundg (E.length - (i + 1))
        case measure => omega
        case rel => exact ⟨i + 1, by go_num, by omega, Nat.le_refl _, HSF⟩
    · obtain rfl : i = E.length := by omega
      have hR := HS.out.1
      rw [List.take_of_length_le (Nat.le_refl _)] at hR
      have hwd : ∀ e ∈ trimE E x, Wide e := fun e he => HE.out.wide e (trim_mem he)
      obtain ⟨a2, c2, rfl, -⟩ := hR.evs hwd
      have hB := HS.out.2.2
      have hc2 : wr.heap[g]? = some (.cells #[lv] 29 (0, 0)) := (hB.block g HLT.out.2).trans HL.out.cell
      obtain ⟨hst, hL3⟩ := set_log hc2 tr_ne (hR.lower (Nat.zero_le _)) hwd
      have hlen := trim_len E x
      have HT : Hid (Lp 29 (wr.setCell ⟨g, 0, none⟩ (.slice a2 (trimE E x).length c2)) g (.slice a2 (trimE E x).length c2) (trimE E x) ∧ Tn g lv.ownBlock (Value.slice a2 (trimE E x).length c2).ownBlock w (wr.setCell ⟨g, 0, none⟩ (.slice a2 (trimE E x).length c2))) := by
        refine ⟨hL3, hB.os.trans HB0.out.os, hB.tape.trans HB0.out.tape, hB.output.trans HB0.out.output, ?_, fun k hk hkg hkv => ?_, fun k hk => .inr ?_⟩
        · have := HB0.out.size
          have := hB.size
          rw [size_setC]; omega
        · rw [Below.heap_setCell wr ⟨g, 0, none⟩ _ k hkg, hB.block k (Nat.lt_of_lt_of_le hk HB0.out.size), HB0.out.block k hk]
        · have := hR.own k hk
          have := HB0.out.size
          omega
      clear hR hc2 hL3 HL hwd HS hB hc
      obtain ⟨n2, hn2⟩ : ∃ n2, (trimE E x).length = n2 := ⟨_, rfl⟩
      obtain ⟨n1, hn1⟩ : ∃ n1, E.length = n1 := ⟨_, rfl⟩
      have HN : Hid ((trimE E x).length = n2 ∧ E.length = n1) := ⟨hn2, hn1⟩
      rw [hn2] at hst HT hlen
      rw [hn1] at hlen hm hcr
      generalize hw3 : wr.setCell ⟨g, 0, none⟩ (.slice a2 n2 c2) = w3 at *
      have hw : IntKind.i64.wrap ((n1 : Int) - (n2 : Int)) = ((n1 - n2 : Nat) : Int) := by simp [IntKind.wrap, IntKind.signed, IntKind.bits]; omega
      rw [hn1, hn2]
      clear hw3 hlen HV him hkx hlt
      go_wp2_with (refine wpList_storeR (ty := 27) (x := .tmp 49) (y := .tmp 47) (ad := ⟨g, 0, none⟩) (v := .slice a2 n2 c2) (w' := w3) rfl rfl rfl rfl hst ?_)
      go_ret
      exact ⟨by rw [HN.out.1, HN.out.2]; rfl, _, HT.out.1, HT.out.2⟩
end Go.Proofs.Yteanpepmncgagaa
