/-
  MemberTells: the walk.
-/
import Derived.Test.YtlbjdokfnammfaaMwk
namespace Go.Proofs.Ytlbjdokfnammfaa
set_option maxRecDepth 100000
open Go.RowKit Go.Sort

theorem enters_mhas (xs : Array Value) (w : World) : (callFunc 13 xs).run Try.prog w = .ok (.enter 13 xs) w := enters Try.func13 (by kernel_rfl) (by kernel_rfl) xs w
theorem enters_mdots (xs : Array Value) (w : World) : (callFunc 11 xs).run Try.prog w = .ok (.enter 11 xs) w := enters Try.func11 (by kernel_rfl) (by kernel_rfl) xs w
theorem enters_rmdots (xs : Array Value) (w : World) : (callFunc 12 xs).run Try.prog w = .ok (.enter 12 xs) w := enters Try.func12 (by kernel_rfl) (by kernel_rfl) xs w
theorem enters_ldots (xs : Array Value) (w : World) : (callFunc 10 xs).run Try.prog w = .ok (.enter 10 xs) w := enters Try.func10 (by kernel_rfl) (by kernel_rfl) xs w
theorem index_st (w : World) {b off k m c : Nat} (hk : k < m) : (Instr.indexAt 25 (.slice (some ⟨b, off, none⟩) m c) (.int .i64 (k : Int))).run Try.prog w = .ok (.pointer (some ⟨b, off + k, none⟩)) w := by
  have hk' : (k : Int) < (m : Int) := by omega
  have hs : (Try.prog.info? 9).map (·.size) = some 1 := by kernel_rfl
  have ht : Try.prog.underlying 25 = some (.slice 9) := Try.underlying25
  go_simp
theorem load_st {w : World} {g k : Nat} {v : ByteArray} (h : w.cell? ⟨g, k, none⟩ = some (.string v)) : (loadVar 9 ⟨g, k, none⟩).run Try.prog w = .ok (.string v) w := by
  have h3 : Try.prog.underlying 9 = some .string := by kernel_rfl
  simp [loadVar, isAgg, run_underlying h3, Sem.run_bind, h]
theorem exec_notb {o : Oper} {a : Act} {w : World} {t : TypeId} {x : Operand} {b : Bool} (ho : o.op = .unOp .not t x) (hx : a.eval x = .bool b) : (execOp a.eval o).run Try.prog w = .ok (.value (.bool !b)) w := by
  unfold execOp
  simp only [ho, hx]
  rfl
/-- What is so far of the members. -/
theorem mem_take {R : List (List UInt8)} {k : Nat} {x s : List UInt8} (h : R[k]? = some x) : decide (s ∈ R.take (k + 1)) = (decide (s ∈ R.take k) || decide (x = s)) := by
  rw [List.take_add_one, h, Bool.eq_iff_iff]
  simp only [Option.toList_some, List.mem_append, List.mem_singleton, decide_eq_true_eq, Bool.or_eq_true]
  exact or_congr Iff.rfl eq_comm
set_option maxHeartbeats 4000000 in
theorem mtells_walk (ao : Option Addr) (m c : Nat) (E : List Ev) (s : List UInt8) (w : World) (hE : Evs w ao m c E) :
    Calls Try.prog 3 #[.slice ao m c, .string (sb s)] w fun e w' => e = .returned (.bool true) ∧ Below w.heap.size w w' := by
  go_enter Try.func3, Try.ntmps3
  go_wp2_with fail
  refine (awake_any w).mono ?_
  rintro e w1 ⟨rfl, hb1⟩
  have HS1 : Aside (Evs w1 ao m c E ∧ Below w.heap.size w w1) := ⟨hE.below hb1 (Nat.le_refl _), hb1⟩
  clear hb1 hE
  go_wp2_with fail
  refine (few_any ao m c E w1 HS1.out.1).mono ?_
  rintro e w2 ⟨t, rfl, ht, hb2⟩
  have HS2 : Aside (Evs w2 ao m c E ∧ Below w.heap.size w w2) := ⟨HS1.out.1.below hb2 (Nat.le_refl _), HS1.out.2.trans (hb2.mono HS1.out.2.size)⟩
  clear hb2 HS1
  cases t with
  | false =>
    clear ht
    go_wp2_with fail
    refine (awake_any w2).mono ?_
    rintro e w3 ⟨rfl, hb3⟩
    have HB3 : Hid (Below w.heap.size w w3) := HS2.out.2.trans (hb3.mono HS2.out.2.size)
    clear hb3 HS2
    go_wp2
    go_ret
    exact ⟨rfl, HB3.out⟩
  | true =>
    obtain ⟨hm, hf⟩ := ht rfl
    have HFD : Aside (∀ e ∈ E, e.field.length ≤ 1000) := hf
    clear ht hf
    go_wp2_with fail
    refine (rmall_any ao m c E w2 HS2.out.1 (by omega)).mono ?_
    rintro e w3 ⟨v3, R, rfl, hR3, hst, hmem, hRl, hb3⟩
    obtain ⟨a3, c3, rfl, hT3⟩ := hR3.tl
    have HS3 : Aside (Evs w3 ao m c E ∧ TL w3 a3 R ∧ Below w.heap.size w w3) := ⟨HS2.out.1.below hb3 (Nat.le_refl _), hT3, HS2.out.2.trans (hb3.mono HS2.out.2.size)⟩
    have HM : Hid (R.Pairwise (· < ·) ∧ ∀ z, z ∈ R ↔ z ∈ fldE E) := ⟨hst, hmem⟩
    clear hR3 hT3 hb3 HS2 hst hmem
    go_wp2_with fail
    refine (mall_any ao m c E w3 HS3.out.1 (by omega) HFD.out).mono ?_
    rintro e w4 ⟨v4, R4, rfl, hR4, hst4, hmem4, -, hb4⟩
    obtain rfl : R4 = R := strict_one _ _ hst4 HM.out.1 (fun z => by rw [hmem4, HM.out.2])
    obtain ⟨a4, c4, rfl, hT4⟩ := hR4.tl
    have HS4 : Aside (Evs w4 ao m c E ∧ TL w4 a3 R4 ∧ TL w4 a4 R4 ∧ Below w.heap.size w w4) := ⟨HS3.out.1.below hb4 (Nat.le_refl _), HS3.out.2.1.below hb4 (Nat.le_refl _), hT4, HS3.out.2.2.trans (hb4.mono HS3.out.2.2.size)⟩
    clear hR4 hT4 hb4 HS3 hst4 hmem4
    have HTY : Hid (Calls Try.prog 8 #[.slice a4 R4.length c4, .slice a3 R4.length c3] w4 fun e w' => e = .returned (.bool true) ∧ Below w4.heap.size w4 w') := texts_yes a4 a3 c4 c3 R4 w4 HS4.out.2.2.1 HS4.out.2.1 (by omega)
    obtain ⟨n, hn⟩ : ∃ n, n = R4.length := ⟨_, rfl⟩
    have HN : Hid (n = R4.length) := hn
    rw [← hn] at HTY hRl ⊢
    clear hn
    go_wp2_with fail
    refine Calls.mono HTY.out ?_
    rintro e w5 ⟨rfl, hb5⟩
    have HS5 : Aside (Evs w5 ao m c E ∧ TL w5 a3 R4 ∧ Below w.heap.size w w5) := ⟨HS4.out.1.below hb5 (Nat.le_refl _), HS4.out.2.1.below hb5 (Nat.le_refl _), HS4.out.2.2.2.trans (hb5.mono HS4.out.2.2.2.size)⟩
    clear HTY HS4 hb5
    go_wp2_with fail
    refine (mdots_any ao m c E s w5 HS5.out.1 (by omega)).mono ?_
    rintro e w6 ⟨v6, D6, rfl, hR6, hst6, hmem6, hl6, hb6⟩
    obtain ⟨a6, c6, rfl, hD6⟩ := hR6.dl
    have HS6 : Aside (Evs w6 ao m c E ∧ TL w6 a3 R4 ∧ DL w6 a6 D6 ∧ Below w.heap.size w w6) := ⟨HS5.out.1.below hb6 (Nat.le_refl _), HS5.out.2.1.below hb6 (Nat.le_refl _), hD6, HS5.out.2.2.trans (hb6.mono HS5.out.2.2.size)⟩
    have HM6 : Hid (StrD D6 ∧ ∀ z, z ∈ D6 ↔ z ∈ dtE E s) := ⟨hst6, hmem6⟩
    clear hR6 hst6 hmem6 hb6 hD6 HS5
    go_wp2_with fail
    refine (rmdots_any ao m c E s w6 HS6.out.1 (by omega)).mono ?_
    rintro e w7 ⟨v7, D7, rfl, hR7, hst7, hmem7, -, hb7⟩
    obtain rfl : D7 = D6 := strD_one _ _ hst7 HM6.out.1 (fun z => by rw [hmem7, HM6.out.2])
    obtain ⟨a7, c7, rfl, hD7⟩ := hR7.dl
    have HLD : Hid (Calls Try.prog 10 #[.slice a6 D7.length c6, .slice a7 D7.length c7] w7 fun e w' => e = .returned (.bool true) ∧ Below w7.heap.size w7 w') := ldots_yes a6 a7 c6 c7 D7 w7 (HS6.out.2.2.1.below hb7 (Nat.le_refl _)) hD7 (by omega)
    have HS7 : Aside (Evs w7 ao m c E ∧ TL w7 a3 R4 ∧ Below w.heap.size w w7) := ⟨HS6.out.1.below hb7 (Nat.le_refl _), HS6.out.2.1.below hb7 (Nat.le_refl _), HS6.out.2.2.2.trans (hb7.mono HS6.out.2.2.2.size)⟩
    clear hR7 hst7 hmem7 hb7 hD7 HS6 HM6
    generalize D7.length = l7 at *
    go_wp2_with fail
    refine Calls.mono HLD.out ?_
    rintro e w8 ⟨rfl, hb8⟩
    have HS8 : Aside (Evs w8 ao m c E ∧ TL w8 a3 R4 ∧ Below w.heap.size w w8) := ⟨HS7.out.1.below hb8 (Nat.le_refl _), HS7.out.2.1.below hb8 (Nat.le_refl _), HS7.out.2.2.trans (hb8.mono HS7.out.2.2.size)⟩
    have H0 : Hid (decide (s ∈ R4.take 0) = false) := decide_eq_false (by simp)
    clear HLD HS7 hb8
    go_wp2
    go_loopg [6, 35] n (fun kx s6 s35 wr => ∃ (k : Nat) (b : Bool), s35 = .int .i64 (k : Int) ∧ s6 = .bool b ∧ k ≤ n ∧ n - k ≤ kx ∧ Hid (decide (s ∈ R4.take k) = b) ∧ Aside (Evs wr ao m c E ∧ TL wr a3 R4 ∧ Below w.heap.size w wr))
    case atStart => exact ⟨0, false, rfl, rfl, Nat.zero_le _, by omega, H0, HS8⟩
    case round =>
      clear H0 HS8
      obtain ⟨k, b, rfl, rfl, hk, hkx, HT, HS⟩ := hrel
      by_cases hkn : k < n
      · have hkz : (k : Int) < (n : Int) := by omega
        obtain ⟨x, hx⟩ : ∃ x, R4[k]? = some x := ⟨_, List.getElem?_eq_getElem (by have := HN.out; omega)⟩
        obtain ⟨g, rfl, cx⟩ := HS.out.2.1 k x hx
        have hix := fun W : World => index_st W (b := g) (off := 0) (k := k) (m := n) (c := c3) hkn
        simp only [Nat.zero_add] at hix
        have hkb := sb_beq x s
        have HH : Hid (hasE E x = true) := (hasE_iff E x).2 ((HM.out.2 x).1 (List.mem_of_getElem? hx))
        have HT2 : Hid (decide (s ∈ R4.take (k + 1)) = (b || decide (x = s))) := by show _ = _; rw [mem_take hx, HT.out]
        have HC : Hid (∀ W, Below wr.heap.size wr W → Evs W ao m c E ∧ W.cell? ⟨g, k, none⟩ = some (.string (sb x)) ∧ TL W (some ⟨g, 0, none⟩) R4 ∧ Below w.heap.size w W) := fun W hb => ⟨HS.out.1.below hb (Nat.le_refl _), (hb.cell (World.block_lt_of_cell? wr _ cx)).trans cx, HS.out.2.1.below hb (Nat.le_refl _), HS.out.2.2.trans (hb.mono HS.out.2.2.size)⟩
        obtain ⟨q, hq⟩ : ∃ q, decide (x = s) = q := ⟨_, rfl⟩
        rw [hq] at hkb HT2
        clear hx HT HS hq
        cases b with
        | true =>
          rw [Bool.true_or] at HT2
          go_upto_region 11 with (fail)
          refine wp_region_noPanic ?_
          refine wp_region_held_drew (S := fun W' : World => Below wr.heap.size wr W') (by kernel_rfl) ((Below.refl _ wr).drew) (fun hHeld => ?_)
          have hb0 : Below wr.heap.size wr wr.drew := (Below.refl _ wr).drew
          refine wpAnyH_take (i := 0) (oi := { dst := some 47, op := _, type := _, pos := _, after := _, guard := _ }) (v := .slice ao m c) rfl (by kernel_rfl) (by kernel_rfl) (by kernel_rfl) (fun _ _ _ h => h) (Or.inl ⟨by rfl, ?_⟩) (by assumption) ?_
          · intro w9 hSw
            exact exec_move rfl rfl
          simp only [Act.put, List.setIfInBounds_toArray, List.set_cons_zero, List.set_cons_succ]
          refine wpAnyH_take (i := 1) (oi := { dst := some 48, op := _, type := _, pos := _, after := _, guard := _ }) (v := .slice (some ⟨g, 0, none⟩) n c3) rfl (by kernel_rfl) (by kernel_rfl) (by kernel_rfl) (fun _ _ _ h => h) (Or.inl ⟨by rfl, ?_⟩) (by assumption) ?_
          · intro w9 hSw
            exact exec_move rfl rfl
          simp only [Act.put, List.setIfInBounds_toArray, List.set_cons_zero, List.set_cons_succ]
          refine wpAnyH_take (i := 2) (oi := { dst := some 49, op := _, type := _, pos := _, after := _, guard := _ }) (v := .int .i64 (k : Int)) rfl (by kernel_rfl) (by kernel_rfl) (by kernel_rfl) (fun _ _ _ h => h) (Or.inl ⟨by rfl, ?_⟩) (by assumption) ?_
          · intro w9 hSw
            exact exec_move rfl rfl
          simp only [Act.put, List.setIfInBounds_toArray, List.set_cons_zero, List.set_cons_succ]
          refine wpAnyH_take (i := 3) (oi := { dst := some 50, op := _, type := _, pos := _, after := _, guard := _ }) (v := .pointer (some ⟨g, k, none⟩)) rfl (by kernel_rfl) (by kernel_rfl) (by kernel_rfl) (fun _ _ _ h => h) (Or.inl ⟨by rfl, ?_⟩) (by assumption) ?_
          · intro w9 hSw
            exact exec_index rfl rfl rfl (hix w9)
          simp only [Act.put, List.setIfInBounds_toArray, List.set_cons_zero, List.set_cons_succ]
          refine wpAnyH_take (i := 4) (oi := { dst := some 51, op := _, type := _, pos := _, after := _, guard := _ }) (v := .string (sb x)) rfl (by kernel_rfl) (by kernel_rfl) (by kernel_rfl) (fun _ _ _ h => h) (Or.inl ⟨by rfl, ?_⟩) (by assumption) ?_
          · intro w9 hSw
            exact exec_load (ad := ⟨g, k, none⟩) rfl rfl (load_st (HC.out w9 hSw).2.1)
          simp only [Act.put, List.setIfInBounds_toArray, List.set_cons_zero, List.set_cons_succ]
          refine wpAnyH_ready (rs := [5]) (by kernel_rfl) (by simp) ?_
          refine AllReadyH.cons (o := { dst := some 52, op := _, type := _, pos := _, after := _, guard := _ }) rfl (fun K hK => ?_) AllReadyH.nil
          rw [if_pos (by rfl)]
          refine wp_callL (xs := [.tmp 47, .tmp 51]) (vs := [.slice ao m c, .string (sb x)]) rfl rfl (enters_mhas _ _) (mhas_any ao m c E x wr.drew (HC.out _ hb0).1 (by omega)) ?_
          rintro e wc1 ⟨rfl, hbc1⟩
          have hb1 := (hb0.trans (hbc1.mono hb0.size))
          rw [HH.out]
          clear hbc1 hb0
          refine ⟨_, rfl, ?_⟩
          refine hK.out _ _ hb1 (fun hHeld => ?_)
          clear hK K
          simp only [Act.put, List.setIfInBounds_toArray, List.set_cons_zero, List.set_cons_succ]
          refine wpAnyH_take (i := 6) (oi := { dst := some 53, op := _, type := _, pos := _, after := _, guard := _ }) (v := .bool false) rfl (by kernel_rfl) (by kernel_rfl) (by kernel_rfl) (fun _ _ _ h => h) (Or.inl ⟨by rfl, ?_⟩) (by assumption) ?_
          · intro w9 hSw
            exact exec_notb (b := true) rfl rfl
          simp only [Act.put, List.setIfInBounds_toArray, List.set_cons_zero, List.set_cons_succ]
          refine wpAnyH_take (i := 7) (oi := { dst := some 54, op := _, type := _, pos := _, after := _, guard := _ }) (v := .bool false) rfl (by kernel_rfl) (by kernel_rfl) (by kernel_rfl) (fun _ _ _ h => h) (Or.inl ⟨by rfl, ?_⟩) (by assumption) ?_
          · intro w9 hSw
            exact exec_move rfl rfl
          simp only [Act.put, List.setIfInBounds_toArray, List.set_cons_zero, List.set_cons_succ]
          refine wpAnyH_take (i := 8) (oi := { dst := some 55, op := _, type := _, pos := _, after := _, guard := _ }) (v := .slice ao m c) rfl (by kernel_rfl) (by kernel_rfl) (by kernel_rfl) (fun _ _ _ h => h) (Or.inl ⟨by rfl, ?_⟩) (by assumption) ?_
          · intro w9 hSw
            exact exec_move rfl rfl
          simp only [Act.put, List.setIfInBounds_toArray, List.set_cons_zero, List.set_cons_succ]
          refine wpAnyH_take (i := 9) (oi := { dst := some 56, op := _, type := _, pos := _, after := _, guard := _ }) (v := .slice (some ⟨g, 0, none⟩) n c3) rfl (by kernel_rfl) (by kernel_rfl) (by kernel_rfl) (fun _ _ _ h => h) (Or.inl ⟨by rfl, ?_⟩) (by assumption) ?_
          · intro w9 hSw
            exact exec_move rfl rfl
          simp only [Act.put, List.setIfInBounds_toArray, List.set_cons_zero, List.set_cons_succ]
          refine wpAnyH_take (i := 10) (oi := { dst := some 57, op := _, type := _, pos := _, after := _, guard := _ }) (v := .int .i64 (k : Int)) rfl (by kernel_rfl) (by kernel_rfl) (by kernel_rfl) (fun _ _ _ h => h) (Or.inl ⟨by rfl, ?_⟩) (by assumption) ?_
          · intro w9 hSw
            exact exec_move rfl rfl
          simp only [Act.put, List.setIfInBounds_toArray, List.set_cons_zero, List.set_cons_succ]
          refine wpAnyH_take (i := 11) (oi := { dst := some 58, op := _, type := _, pos := _, after := _, guard := _ }) (v := .pointer (some ⟨g, k, none⟩)) rfl (by kernel_rfl) (by kernel_rfl) (by kernel_rfl) (fun _ _ _ h => h) (Or.inl ⟨by rfl, ?_⟩) (by assumption) ?_
          · intro w9 hSw
            exact exec_index rfl rfl rfl (hix w9)
          simp only [Act.put, List.setIfInBounds_toArray, List.set_cons_zero, List.set_cons_succ]
          refine wpAnyH_take (i := 12) (oi := { dst := some 59, op := _, type := _, pos := _, after := _, guard := _ }) (v := .string (sb x)) rfl (by kernel_rfl) (by kernel_rfl) (by kernel_rfl) (fun _ _ _ h => h) (Or.inl ⟨by rfl, ?_⟩) (by assumption) ?_
          · intro w9 hSw
            exact exec_load (ad := ⟨g, k, none⟩) rfl rfl (load_st (HC.out w9 hSw).2.1)
          simp only [Act.put, List.setIfInBounds_toArray, List.set_cons_zero, List.set_cons_succ]
          refine wpAnyH_take (i := 14) (oi := { dst := some 61, op := _, type := _, pos := _, after := _, guard := _ }) (v := .slice ao m c) rfl (by kernel_rfl) (by kernel_rfl) (by kernel_rfl) (fun _ _ _ h => h) (Or.inl ⟨by rfl, ?_⟩) (by assumption) ?_
          · intro w9 hSw
            exact exec_move rfl rfl
          simp only [Act.put, List.setIfInBounds_toArray, List.set_cons_zero, List.set_cons_succ]
          refine wpAnyH_take (i := 15) (oi := { dst := some 62, op := _, type := _, pos := _, after := _, guard := _ }) (v := .slice (some ⟨g, 0, none⟩) n c3) rfl (by kernel_rfl) (by kernel_rfl) (by kernel_rfl) (fun _ _ _ h => h) (Or.inl ⟨by rfl, ?_⟩) (by assumption) ?_
          · intro w9 hSw
            exact exec_move rfl rfl
          simp only [Act.put, List.setIfInBounds_toArray, List.set_cons_zero, List.set_cons_succ]
          refine wpAnyH_take (i := 16) (oi := { dst := some 63, op := _, type := _, pos := _, after := _, guard := _ }) (v := .int .i64 (k : Int)) rfl (by kernel_rfl) (by kernel_rfl) (by kernel_rfl) (fun _ _ _ h => h) (Or.inl ⟨by rfl, ?_⟩) (by assumption) ?_
          · intro w9 hSw
            exact exec_move rfl rfl
          simp only [Act.put, List.setIfInBounds_toArray, List.set_cons_zero, List.set_cons_succ]
          refine wpAnyH_take (i := 17) (oi := { dst := some 64, op := _, type := _, pos := _, after := _, guard := _ }) (v := .pointer (some ⟨g, k, none⟩)) rfl (by kernel_rfl) (by kernel_rfl) (by kernel_rfl) (fun _ _ _ h => h) (Or.inl ⟨by rfl, ?_⟩) (by assumption) ?_
          · intro w9 hSw
            exact exec_index rfl rfl rfl (hix w9)
          simp only [Act.put, List.setIfInBounds_toArray, List.set_cons_zero, List.set_cons_succ]
          refine wpAnyH_take (i := 18) (oi := { dst := some 65, op := _, type := _, pos := _, after := _, guard := _ }) (v := .string (sb x)) rfl (by kernel_rfl) (by kernel_rfl) (by kernel_rfl) (fun _ _ _ h => h) (Or.inl ⟨by rfl, ?_⟩) (by assumption) ?_
          · intro w9 hSw
            exact exec_load (ad := ⟨g, k, none⟩) rfl rfl (load_st (HC.out w9 hSw).2.1)
          simp only [Act.put, List.setIfInBounds_toArray, List.set_cons_zero, List.set_cons_succ]
          refine wpAnyH_ready (rs := [13]) (by kernel_rfl) (by simp) ?_
          refine AllReadyH.cons (o := { dst := some 60, op := _, type := _, pos := _, after := _, guard := _ }) rfl (fun K hK => ?_) AllReadyH.nil
          rw [if_pos (by rfl)]
          refine wp_callL (xs := [.tmp 55, .tmp 59]) (vs := [.slice ao m c, .string (sb x)]) rfl rfl (enters_mdots _ _) (mdots_any ao m c E x wc1 (HC.out _ hb1).1 (by omega)) ?_
          rintro e wc3 ⟨v3, D3, rfl, hR3, hst3, hmem3, hl3, hbc3⟩
          obtain ⟨a3, c9, rfl, hD3⟩ := hR3.dl
          have hb3 := (hb1.trans (hbc3.mono hb1.size))
          clear hbc3 hb1 hR3
          refine ⟨_, rfl, ?_⟩
          refine hK.out _ _ hb3 (fun hHeld => ?_)
          clear hK K
          simp only [Act.put, List.setIfInBounds_toArray, List.set_cons_zero, List.set_cons_succ]
          refine wpAnyH_ready (rs := [19]) (by kernel_rfl) (by simp) ?_
          refine AllReadyH.cons (o := { dst := some 66, op := _, type := _, pos := _, after := _, guard := _ }) rfl (fun K hK => ?_) AllReadyH.nil
          rw [if_pos (by rfl)]
          refine wp_callL (xs := [.tmp 61, .tmp 65]) (vs := [.slice ao m c, .string (sb x)]) rfl rfl (enters_rmdots _ _) (rmdots_any ao m c E x wc3 (HC.out _ hb3).1 (by omega)) ?_
          rintro e wc4 ⟨v4, D4, rfl, hR4, hst4, hmem4, -, hbc4⟩
          obtain rfl : D4 = D3 := strD_one _ _ hst4 hst3 (fun z => by rw [hmem4, hmem3])
          obtain ⟨a4, c8, rfl, hD4⟩ := hR4.dl
          have hb4 := (hb3.trans (hbc4.mono hb3.size))
          have hD5 := hD3.below hbc4 (Nat.le_refl _)
          clear hbc4 hb3 hR4 hst4 hst3 hmem4 hmem3 hD3
          refine ⟨_, rfl, ?_⟩
          refine hK.out _ _ hb4 (fun hHeld => ?_)
          clear hK K
          simp only [Act.put, List.setIfInBounds_toArray, List.set_cons_zero, List.set_cons_succ]
          refine wpAnyH_ready (rs := [20]) (by kernel_rfl) (by simp) ?_
          refine AllReadyH.cons (o := { dst := some 67, op := _, type := _, pos := _, after := _, guard := _ }) rfl (fun K hK => ?_) AllReadyH.nil
          rw [if_pos (by rfl)]
          refine wp_callL (xs := [.tmp 60, .tmp 66]) (vs := [.slice a3 D4.length c9, .slice a4 D4.length c8]) rfl rfl (enters_ldots _ _) (ldots_yes a3 a4 c9 c8 D4 wc4 hD5 hD4 (by omega)) ?_
          rintro e wc5 ⟨rfl, hbc5⟩
          have hb5 := (hb4.trans (hbc5.mono hb4.size))
          clear hbc5 hb4 hD4 hD5
          refine ⟨_, rfl, ?_⟩
          refine hK.out _ _ hb5 (fun hHeld => ?_)
          clear hK K
          simp only [Act.put, List.setIfInBounds_toArray, List.set_cons_zero, List.set_cons_succ]
          refine wpAnyH_take (i := 21) (oi := { dst := some 68, op := _, type := _, pos := _, after := _, guard := _ }) (v := .bool false) rfl (by kernel_rfl) (by kernel_rfl) (by kernel_rfl) (fun _ _ _ h => h) (Or.inl ⟨by rfl, ?_⟩) (by assumption) ?_
          · intro w9 hSw
            exact exec_notb (b := true) rfl rfl
          simp only [Act.put, List.setIfInBounds_toArray, List.set_cons_zero, List.set_cons_succ]
          refine wpAnyH_take (i := 22) (oi := { dst := some 69, op := _, type := _, pos := _, after := _, guard := _ }) (v := .bool false) rfl (by kernel_rfl) (by kernel_rfl) (by kernel_rfl) (fun _ _ _ h => h) (Or.inl ⟨by rfl, ?_⟩) (by assumption) ?_
          · intro w9 hSw
            exact exec_pick (b := false) rfl rfl rfl rfl
          simp only [Act.put, List.setIfInBounds_toArray, List.set_cons_zero, List.set_cons_succ]
          refine wpAnyH_done (by kernel_rfl) ?_ _
          refine NoPanic.normal ?_
          clear hHeld
          have HS9 := HC.out _ hb5
          have HS9' : Aside (Evs wc5 ao m c E ∧ TL wc5 (some ⟨g, 0, none⟩) R4 ∧ Below w.heap.size w wc5) := ⟨HS9.1, HS9.2.2⟩
          clear HS9 HC hb5 hix cx HH hkb
          go_wp2
          go_roundg (n - (k + 1))
          case measure => omega
          case rel => exact ⟨k + 1, true, by go_num, rfl, by omega, Nat.le_refl _, HT2, HS9'⟩
        | false =>
          rw [Bool.false_or] at HT2
          go_upto_region 11 with (fail)
          refine wp_region_noPanic ?_
          refine wp_region_held_drew (S := fun W' : World => Below wr.heap.size wr W') (by kernel_rfl) ((Below.refl _ wr).drew) (fun hHeld => ?_)
          have hb0 : Below wr.heap.size wr wr.drew := (Below.refl _ wr).drew
          refine wpAnyH_take (i := 0) (oi := { dst := some 47, op := _, type := _, pos := _, after := _, guard := _ }) (v := .slice ao m c) rfl (by kernel_rfl) (by kernel_rfl) (by kernel_rfl) (fun _ _ _ h => h) (Or.inl ⟨by rfl, ?_⟩) (by assumption) ?_
          · intro w9 hSw
            exact exec_move rfl rfl
          simp only [Act.put, List.setIfInBounds_toArray, List.set_cons_zero, List.set_cons_succ]
          refine wpAnyH_take (i := 1) (oi := { dst := some 48, op := _, type := _, pos := _, after := _, guard := _ }) (v := .slice (some ⟨g, 0, none⟩) n c3) rfl (by kernel_rfl) (by kernel_rfl) (by kernel_rfl) (fun _ _ _ h => h) (Or.inl ⟨by rfl, ?_⟩) (by assumption) ?_
          · intro w9 hSw
            exact exec_move rfl rfl
          simp only [Act.put, List.setIfInBounds_toArray, List.set_cons_zero, List.set_cons_succ]
          refine wpAnyH_take (i := 2) (oi := { dst := some 49, op := _, type := _, pos := _, after := _, guard := _ }) (v := .int .i64 (k : Int)) rfl (by kernel_rfl) (by kernel_rfl) (by kernel_rfl) (fun _ _ _ h => h) (Or.inl ⟨by rfl, ?_⟩) (by assumption) ?_
          · intro w9 hSw
            exact exec_move rfl rfl
          simp only [Act.put, List.setIfInBounds_toArray, List.set_cons_zero, List.set_cons_succ]
          refine wpAnyH_take (i := 3) (oi := { dst := some 50, op := _, type := _, pos := _, after := _, guard := _ }) (v := .pointer (some ⟨g, k, none⟩)) rfl (by kernel_rfl) (by kernel_rfl) (by kernel_rfl) (fun _ _ _ h => h) (Or.inl ⟨by rfl, ?_⟩) (by assumption) ?_
          · intro w9 hSw
            exact exec_index rfl rfl rfl (hix w9)
          simp only [Act.put, List.setIfInBounds_toArray, List.set_cons_zero, List.set_cons_succ]
          refine wpAnyH_take (i := 4) (oi := { dst := some 51, op := _, type := _, pos := _, after := _, guard := _ }) (v := .string (sb x)) rfl (by kernel_rfl) (by kernel_rfl) (by kernel_rfl) (fun _ _ _ h => h) (Or.inl ⟨by rfl, ?_⟩) (by assumption) ?_
          · intro w9 hSw
            exact exec_load (ad := ⟨g, k, none⟩) rfl rfl (load_st (HC.out w9 hSw).2.1)
          simp only [Act.put, List.setIfInBounds_toArray, List.set_cons_zero, List.set_cons_succ]
          refine wpAnyH_ready (rs := [5]) (by kernel_rfl) (by simp) ?_
          refine AllReadyH.cons (o := { dst := some 52, op := _, type := _, pos := _, after := _, guard := _ }) rfl (fun K hK => ?_) AllReadyH.nil
          rw [if_pos (by rfl)]
          refine wp_callL (xs := [.tmp 47, .tmp 51]) (vs := [.slice ao m c, .string (sb x)]) rfl rfl (enters_mhas _ _) (mhas_any ao m c E x wr.drew (HC.out _ hb0).1 (by omega)) ?_
          rintro e wc1 ⟨rfl, hbc1⟩
          have hb1 := (hb0.trans (hbc1.mono hb0.size))
          rw [HH.out]
          clear hbc1 hb0
          refine ⟨_, rfl, ?_⟩
          refine hK.out _ _ hb1 (fun hHeld => ?_)
          clear hK K
          simp only [Act.put, List.setIfInBounds_toArray, List.set_cons_zero, List.set_cons_succ]
          refine wpAnyH_take (i := 6) (oi := { dst := some 53, op := _, type := _, pos := _, after := _, guard := _ }) (v := .bool false) rfl (by kernel_rfl) (by kernel_rfl) (by kernel_rfl) (fun _ _ _ h => h) (Or.inl ⟨by rfl, ?_⟩) (by assumption) ?_
          · intro w9 hSw
            exact exec_notb (b := true) rfl rfl
          simp only [Act.put, List.setIfInBounds_toArray, List.set_cons_zero, List.set_cons_succ]
          refine wpAnyH_take (i := 7) (oi := { dst := some 54, op := _, type := _, pos := _, after := _, guard := _ }) (v := .bool false) rfl (by kernel_rfl) (by kernel_rfl) (by kernel_rfl) (fun _ _ _ h => h) (Or.inl ⟨by rfl, ?_⟩) (by assumption) ?_
          · intro w9 hSw
            exact exec_move rfl rfl
          simp only [Act.put, List.setIfInBounds_toArray, List.set_cons_zero, List.set_cons_succ]
          refine wpAnyH_take (i := 8) (oi := { dst := some 55, op := _, type := _, pos := _, after := _, guard := _ }) (v := .slice ao m c) rfl (by kernel_rfl) (by kernel_rfl) (by kernel_rfl) (fun _ _ _ h => h) (Or.inl ⟨by rfl, ?_⟩) (by assumption) ?_
          · intro w9 hSw
            exact exec_move rfl rfl
          simp only [Act.put, List.setIfInBounds_toArray, List.set_cons_zero, List.set_cons_succ]
          refine wpAnyH_take (i := 9) (oi := { dst := some 56, op := _, type := _, pos := _, after := _, guard := _ }) (v := .slice (some ⟨g, 0, none⟩) n c3) rfl (by kernel_rfl) (by kernel_rfl) (by kernel_rfl) (fun _ _ _ h => h) (Or.inl ⟨by rfl, ?_⟩) (by assumption) ?_
          · intro w9 hSw
            exact exec_move rfl rfl
          simp only [Act.put, List.setIfInBounds_toArray, List.set_cons_zero, List.set_cons_succ]
          refine wpAnyH_take (i := 10) (oi := { dst := some 57, op := _, type := _, pos := _, after := _, guard := _ }) (v := .int .i64 (k : Int)) rfl (by kernel_rfl) (by kernel_rfl) (by kernel_rfl) (fun _ _ _ h => h) (Or.inl ⟨by rfl, ?_⟩) (by assumption) ?_
          · intro w9 hSw
            exact exec_move rfl rfl
          simp only [Act.put, List.setIfInBounds_toArray, List.set_cons_zero, List.set_cons_succ]
          refine wpAnyH_take (i := 11) (oi := { dst := some 58, op := _, type := _, pos := _, after := _, guard := _ }) (v := .pointer (some ⟨g, k, none⟩)) rfl (by kernel_rfl) (by kernel_rfl) (by kernel_rfl) (fun _ _ _ h => h) (Or.inl ⟨by rfl, ?_⟩) (by assumption) ?_
          · intro w9 hSw
            exact exec_index rfl rfl rfl (hix w9)
          simp only [Act.put, List.setIfInBounds_toArray, List.set_cons_zero, List.set_cons_succ]
          refine wpAnyH_take (i := 12) (oi := { dst := some 59, op := _, type := _, pos := _, after := _, guard := _ }) (v := .string (sb x)) rfl (by kernel_rfl) (by kernel_rfl) (by kernel_rfl) (fun _ _ _ h => h) (Or.inl ⟨by rfl, ?_⟩) (by assumption) ?_
          · intro w9 hSw
            exact exec_load (ad := ⟨g, k, none⟩) rfl rfl (load_st (HC.out w9 hSw).2.1)
          simp only [Act.put, List.setIfInBounds_toArray, List.set_cons_zero, List.set_cons_succ]
          refine wpAnyH_take (i := 14) (oi := { dst := some 61, op := _, type := _, pos := _, after := _, guard := _ }) (v := .slice ao m c) rfl (by kernel_rfl) (by kernel_rfl) (by kernel_rfl) (fun _ _ _ h => h) (Or.inl ⟨by rfl, ?_⟩) (by assumption) ?_
          · intro w9 hSw
            exact exec_move rfl rfl
          simp only [Act.put, List.setIfInBounds_toArray, List.set_cons_zero, List.set_cons_succ]
          refine wpAnyH_take (i := 15) (oi := { dst := some 62, op := _, type := _, pos := _, after := _, guard := _ }) (v := .slice (some ⟨g, 0, none⟩) n c3) rfl (by kernel_rfl) (by kernel_rfl) (by kernel_rfl) (fun _ _ _ h => h) (Or.inl ⟨by rfl, ?_⟩) (by assumption) ?_
          · intro w9 hSw
            exact exec_move rfl rfl
          simp only [Act.put, List.setIfInBounds_toArray, List.set_cons_zero, List.set_cons_succ]
          refine wpAnyH_take (i := 16) (oi := { dst := some 63, op := _, type := _, pos := _, after := _, guard := _ }) (v := .int .i64 (k : Int)) rfl (by kernel_rfl) (by kernel_rfl) (by kernel_rfl) (fun _ _ _ h => h) (Or.inl ⟨by rfl, ?_⟩) (by assumption) ?_
          · intro w9 hSw
            exact exec_move rfl rfl
          simp only [Act.put, List.setIfInBounds_toArray, List.set_cons_zero, List.set_cons_succ]
          refine wpAnyH_take (i := 17) (oi := { dst := some 64, op := _, type := _, pos := _, after := _, guard := _ }) (v := .pointer (some ⟨g, k, none⟩)) rfl (by kernel_rfl) (by kernel_rfl) (by kernel_rfl) (fun _ _ _ h => h) (Or.inl ⟨by rfl, ?_⟩) (by assumption) ?_
          · intro w9 hSw
            exact exec_index rfl rfl rfl (hix w9)
          simp only [Act.put, List.setIfInBounds_toArray, List.set_cons_zero, List.set_cons_succ]
          refine wpAnyH_take (i := 18) (oi := { dst := some 65, op := _, type := _, pos := _, after := _, guard := _ }) (v := .string (sb x)) rfl (by kernel_rfl) (by kernel_rfl) (by kernel_rfl) (fun _ _ _ h => h) (Or.inl ⟨by rfl, ?_⟩) (by assumption) ?_
          · intro w9 hSw
            exact exec_load (ad := ⟨g, k, none⟩) rfl rfl (load_st (HC.out w9 hSw).2.1)
          simp only [Act.put, List.setIfInBounds_toArray, List.set_cons_zero, List.set_cons_succ]
          refine wpAnyH_ready (rs := [13]) (by kernel_rfl) (by simp) ?_
          refine AllReadyH.cons (o := { dst := some 60, op := _, type := _, pos := _, after := _, guard := _ }) rfl (fun K hK => ?_) AllReadyH.nil
          rw [if_pos (by rfl)]
          refine wp_callL (xs := [.tmp 55, .tmp 59]) (vs := [.slice ao m c, .string (sb x)]) rfl rfl (enters_mdots _ _) (mdots_any ao m c E x wc1 (HC.out _ hb1).1 (by omega)) ?_
          rintro e wc3 ⟨v3, D3, rfl, hR3, hst3, hmem3, hl3, hbc3⟩
          obtain ⟨a3, c9, rfl, hD3⟩ := hR3.dl
          have hb3 := (hb1.trans (hbc3.mono hb1.size))
          clear hbc3 hb1 hR3
          refine ⟨_, rfl, ?_⟩
          refine hK.out _ _ hb3 (fun hHeld => ?_)
          clear hK K
          simp only [Act.put, List.setIfInBounds_toArray, List.set_cons_zero, List.set_cons_succ]
          refine wpAnyH_ready (rs := [19]) (by kernel_rfl) (by simp) ?_
          refine AllReadyH.cons (o := { dst := some 66, op := _, type := _, pos := _, after := _, guard := _ }) rfl (fun K hK => ?_) AllReadyH.nil
          rw [if_pos (by rfl)]
          refine wp_callL (xs := [.tmp 61, .tmp 65]) (vs := [.slice ao m c, .string (sb x)]) rfl rfl (enters_rmdots _ _) (rmdots_any ao m c E x wc3 (HC.out _ hb3).1 (by omega)) ?_
          rintro e wc4 ⟨v4, D4, rfl, hR4, hst4, hmem4, -, hbc4⟩
          obtain rfl : D4 = D3 := strD_one _ _ hst4 hst3 (fun z => by rw [hmem4, hmem3])
          obtain ⟨a4, c8, rfl, hD4⟩ := hR4.dl
          have hb4 := (hb3.trans (hbc4.mono hb3.size))
          have hD5 := hD3.below hbc4 (Nat.le_refl _)
          clear hbc4 hb3 hR4 hst4 hst3 hmem4 hmem3 hD3
          refine ⟨_, rfl, ?_⟩
          refine hK.out _ _ hb4 (fun hHeld => ?_)
          clear hK K
          simp only [Act.put, List.setIfInBounds_toArray, List.set_cons_zero, List.set_cons_succ]
          refine wpAnyH_ready (rs := [20]) (by kernel_rfl) (by simp) ?_
          refine AllReadyH.cons (o := { dst := some 67, op := _, type := _, pos := _, after := _, guard := _ }) rfl (fun K hK => ?_) AllReadyH.nil
          rw [if_pos (by rfl)]
          refine wp_callL (xs := [.tmp 60, .tmp 66]) (vs := [.slice a3 D4.length c9, .slice a4 D4.length c8]) rfl rfl (enters_ldots _ _) (ldots_yes a3 a4 c9 c8 D4 wc4 hD5 hD4 (by omega)) ?_
          rintro e wc5 ⟨rfl, hbc5⟩
          have hb5 := (hb4.trans (hbc5.mono hb4.size))
          clear hbc5 hb4 hD4 hD5
          refine ⟨_, rfl, ?_⟩
          refine hK.out _ _ hb5 (fun hHeld => ?_)
          clear hK K
          simp only [Act.put, List.setIfInBounds_toArray, List.set_cons_zero, List.set_cons_succ]
          refine wpAnyH_take (i := 21) (oi := { dst := some 68, op := _, type := _, pos := _, after := _, guard := _ }) (v := .bool false) rfl (by kernel_rfl) (by kernel_rfl) (by kernel_rfl) (fun _ _ _ h => h) (Or.inl ⟨by rfl, ?_⟩) (by assumption) ?_
          · intro w9 hSw
            exact exec_notb (b := true) rfl rfl
          simp only [Act.put, List.setIfInBounds_toArray, List.set_cons_zero, List.set_cons_succ]
          refine wpAnyH_take (i := 22) (oi := { dst := some 69, op := _, type := _, pos := _, after := _, guard := _ }) (v := .bool false) rfl (by kernel_rfl) (by kernel_rfl) (by kernel_rfl) (fun _ _ _ h => h) (Or.inl ⟨by rfl, ?_⟩) (by assumption) ?_
          · intro w9 hSw
            exact exec_pick (b := false) rfl rfl rfl rfl
          simp only [Act.put, List.setIfInBounds_toArray, List.set_cons_zero, List.set_cons_succ]
          refine wpAnyH_done (by kernel_rfl) ?_ _
          refine NoPanic.normal ?_
          clear hHeld
          have HS9 := HC.out _ hb5
          have HS9' : Aside (Evs wc5 ao m c E ∧ TL wc5 (some ⟨g, 0, none⟩) R4 ∧ Below w.heap.size w wc5) := ⟨HS9.1, HS9.2.2⟩
          clear HS9 HC hb5 hix cx HH hkb
          go_wp2
          go_roundg (n - (k + 1))
          case measure => omega
          case rel => exact ⟨k + 1, q, by go_num, rfl, by omega, Nat.le_refl _, HT2, HS9'⟩
      · obtain rfl : n = k := by omega
        have HT2 : Hid (hasE E s = b) := by
          have h1 := HT.out
          rw [List.take_of_length_le (by have := HN.out; omega)] at h1
          show _ = _
          rw [← h1, Bool.eq_iff_iff, hasE_iff, ← HM.out.2, decide_eq_true_eq]
        clear HT
        go_wp2_with fail
        refine (mhas_any ao m c E s wr HS.out.1 (by omega)).mono ?_
        rintro e w9 ⟨rfl, hb9⟩
        have HB9 : Hid (Below w.heap.size w w9) := HS.out.2.2.trans (hb9.mono HS.out.2.2.size)
        rw [HT2.out]
        clear HS hb9 HT2
        cases b <;> (go_wp2; go_ret; exact ⟨rfl, HB9.out⟩)
end Go.Proofs.Ytlbjdokfnammfaa
