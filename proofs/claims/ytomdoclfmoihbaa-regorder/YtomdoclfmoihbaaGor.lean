/-
  RegOrder: the walk.
-/
import Derived.Test.YtomdoclfmoihbaaGte
namespace Go.Proofs.Ytomdoclfmoihbaa
set_option maxRecDepth 100000
open Go.RowKit

def turnE (E : List Ev) (m k j : Nat) : List Ev := (((List.range m).drop j).reverse).map fun i => (E[(i + k) % m]?).getD zv
theorem turn_end (E : List Ev) (m k : Nat) : turnE E m k m = [] := by
  rw [turnE, List.drop_of_length_le (by simp)]
  rfl
theorem turn_step {E : List Ev} {m k j : Nat} {u : Ev} (hj : j < m) (hu : E[(j + k) % m]? = some u) : turnE E m k j = turnE E m k (j + 1) ++ [u] := by
  rw [turnE, turnE, List.drop_eq_getElem_cons (by simpa using hj), List.reverse_cons, List.map_append, List.map_singleton]
  simp [hu]
theorem turn_len {E : List Ev} {m k j : Nat} : (turnE E m k j).length = m - j := by simp [turnE]
theorem turn_perm {E : List Ev} {m k : Nat} (hm : E.length = m) (hk : k < m) : (turnE E m k 0).Perm E := by
  have e : (List.range m).map (fun i => (E[(i + k) % m]?).getD zv) = E.drop k ++ E.take k := by
    apply List.ext_getElem
    · simp; omega
    · intro i h1 h2
      rw [List.length_map, List.length_range] at h1
      rw [List.getElem_map, List.getElem_range]
      by_cases hi : i + k < m
      · rw [Nat.mod_eq_of_lt hi, List.getElem?_eq_getElem (by omega), Option.getD_some, List.getElem_append_left (by simp; omega), List.getElem_drop]
        congr 1
        omega
      · have : (i + k) % m = i + k - m := by rw [Nat.mod_eq_sub_mod (by omega), Nat.mod_eq_of_lt (by omega)]
        rw [this, List.getElem?_eq_getElem (by omega), Option.getD_some, List.getElem_append_right (by simp; omega), List.getElem_take]
        congr 1
        simp
        omega
  have h1 : (turnE E m k 0).Perm ((List.range m).map (fun i => (E[(i + k) % m]?).getD zv)) := by
    rw [turnE, List.drop_zero]
    exact (List.reverse_perm _).map _
  refine h1.trans ?_
  rw [e]
  refine List.perm_append_comm.trans ?_
  rw [List.take_append_drop]
theorem cut_rem (cut : Int) (m : Nat) (hm : 0 < m) (h : (Lit.int .u64 cut).wf = true) : ∃ k : Nat, cut.tmod (m : Int) = (k : Int) ∧ k < m := by
  have h0 : 0 ≤ cut := by
    simp [Lit.wf, IntKind.min, IntKind.max, IntKind.signed] at h
    omega
  rw [Int.tmod_eq_emod_of_nonneg h0]
  have h1 := Int.emod_nonneg cut (show (m : Int) ≠ 0 by omega)
  have h2 := Int.emod_lt_of_pos cut (show (0 : Int) < (m : Int) by omega)
  exact ⟨(cut % (m : Int)).toNat, by omega, by omega⟩
theorem turn_wide {E : List Ev} {m k : Nat} (hm : E.length = m) (hk : k < m) (h : ∀ e ∈ E, Wide e) : ∀ e ∈ turnE E m k 0, Wide e := fun e he => h e ((turn_perm hm hk).mem_iff.1 he)
theorem unlike_snoc {E : List Ev} {i : Nat} {x : Ev} (h : Unlike (E.take i)) (hx : E[i]? = some x) (hn : ∀ q y, q < i → E[q]? = some y → ¬ sameDot x y) : Unlike (E.take (i + 1)) := by
  unfold Unlike at *
  rw [take_snoc hx, List.pairwise_append]
  refine ⟨h, List.pairwise_singleton _ _, fun a ha b hb => ?_⟩
  rw [List.mem_singleton.1 hb]
  obtain ⟨q, hq⟩ := List.getElem?_of_mem ha
  have hql : q < i := by
    have := (List.getElem?_eq_some_iff.1 hq).1
    rw [List.length_take] at this
    omega
  rw [List.getElem?_take_of_lt hql] at hq
  intro hs
  exact hn q a hql hq ⟨hs.1.symm, hs.2.symm⟩
set_option maxHeartbeats 4000000 in
theorem gorder_walk (ao : Option Addr) (m c : Nat) (E : List Ev) (cut : Int) (hcut : (Lit.int .u64 cut).wf = true) (w : World) (hE : Evs w ao m c E) :
    Calls Try.prog 4 #[.slice ao m c, .int .u64 cut] w fun e w' => e = .returned (.bool true) ∧ Below w.heap.size w w' := by
  have hlen := hE.len
  have HE : Aside (Evs w ao m c E) := hE
  have hwd : Hid (∀ e ∈ E, Wide e) := hE.wide
  have hcut' : Hid ((Lit.int .u64 cut).wf = true) := hcut
  clear hE hcut
  go_enter Try.func4, Try.ntmps4
  go_wp2_with fail
  refine (awake_any w).mono ?_
  rintro e w1 ⟨rfl, hb1⟩
  have HB1 : Hid (Below w.heap.size w w1) := hb1
  clear hb1
  by_cases hbig : 300 < m ∨ m = 0
  · have key : Calls Try.prog 7 #[] w1 fun e w' => e = .returned (.bool true) ∧ Below w.heap.size w w' := (awake_any w1).mono fun e w' ⟨h1, h2⟩ => ⟨h1, HB1.out.trans (h2.mono HB1.out.size)⟩
    have HK : Hid (Calls Try.prog 7 #[] w1 fun e w' => e = .returned (.bool true) ∧ Below w.heap.size w w') := key
    clear key HB1
    by_cases h1 : 300 < m
    · have hz : (300 : Int) < (m : Int) := by omega
      go_wp2_with fail
      refine Calls.mono HK.out ?_
      rintro e w2 ⟨rfl, hb2⟩
      have HB2 : Hid (Below w.heap.size w w2) := hb2
      clear hb2
      go_wp2
      go_ret
      exact ⟨rfl, HB2.out⟩
    · obtain rfl : m = 0 := by omega
      go_wp2_with fail
      refine Calls.mono HK.out ?_
      rintro e w2 ⟨rfl, hb2⟩
      have HB2 : Hid (Below w.heap.size w w2) := hb2
      clear hb2
      go_wp2
      go_ret
      exact ⟨rfl, HB2.out⟩
  · have hm : m ≤ 300 := by omega
    have hpos : 0 < m := by omega
    have hz : ¬ (300 : Int) < (m : Int) := by omega
    have hmz : ((m : Int) == 0) = false := by simp; omega
    have hmz' : (m : Int) ≠ 0 := by omega
    clear hbig
    have H0 : Aside (Unlike (E.take 0) ∧ Below w.heap.size w w1) := ⟨List.Pairwise.nil, HB1.out⟩
    clear HB1
    go_wp2
    go_loopg [33] m (fun kx s33 wr => ∃ i : Nat, s33 = .int .i64 i ∧ i ≤ m ∧ m - i ≤ kx ∧ Aside (Unlike (E.take i) ∧ Below w.heap.size w wr))
    case atStart => exact ⟨0, rfl, Nat.zero_le _, by omega, H0⟩
    case round =>
      clear H0
      obtain ⟨i, rfl, him, hkO, HS⟩ := hrel
      by_cases hlt : i < m
      · have hltz : (i : Int) < (m : Int) := by omega
        obtain ⟨b1, o1, x, rfl, hx, hwx, -, -⟩ := (HE.out.below HS.out.2 (Nat.le_refl _)).at hlt
        go_wp2
        go_loopg [6] i (fun kx s6 wr2 => ∃ j : Nat, s6 = .int .i64 j ∧ j ≤ i ∧ i - j ≤ kx ∧ Aside ((∀ q y, q < j → E[q]? = some y → ¬ sameDot x y) ∧ Below w.heap.size w wr2))
        case atStart => exact ⟨0, rfl, Nat.zero_le _, by omega, ⟨fun q y h => by omega, HS.out.2⟩⟩
        case round =>
          obtain ⟨j, rfl, hji, hkx, HJ⟩ := hrel
          by_cases hjl : j < i
          · have hjz : (j : Int) < (i : Int) := by omega
            have hjm : j < m := by omega
            obtain ⟨b1', o1', y, hb1', hy, hwy, hr2, hl2⟩ := (HE.out.below HJ.out.2 (Nat.le_refl _)).at hjm
            obtain ⟨b1'', o1'', x', hb1'', hx', -, hr1, hl1⟩ := (HE.out.below HJ.out.2 (Nat.le_refl _)).at hlt
            obtain rfl : x = x' := by rw [hx] at hx'; exact Option.some.inj hx'
            simp only [Option.some.injEq, Addr.mk.injEq, and_true] at hb1' hb1''
            obtain ⟨rfl, rfl⟩ := hb1'
            obtain ⟨rfl, rfl⟩ := hb1''
            by_cases hs : x.r = y.r ∧ x.n = y.n
            · have hd : decide (x.r = y.r ∧ x.n = y.n) = true := decide_eq_true hs
              have HB : Hid (Below w.heap.size w wr.drew) := HJ.out.2.drew
              go_wp2_with fail
              refine wp_region_noPanic ?_
              refine wp_region_held_drew (S := fun W' : World => W'.rangeAt b1 (o1 + i * 26) (evl x) ∧ W'.rangeAt b1 (o1 + j * 26) (evl y)) (by kernel_rfl) ⟨hr1, hr2⟩ (fun hHeld => ?_)
              refine wpAnyH_take (i := 0) (oi := { dst := some 41, op := _, type := _, pos := _, after := _, guard := _ }) (v := .slice (some ⟨b1, o1, none⟩) m c) rfl (by kernel_rfl) (by kernel_rfl) (by kernel_rfl) (fun _ _ _ h => h) (Or.inl ⟨by rfl, ?_⟩) (by assumption) ?_
              · intro w9 hSw
                exact exec_move rfl rfl
              simp only [Act.put, List.setIfInBounds_toArray, List.set_cons_zero, List.set_cons_succ]
              refine wpAnyH_take (i := 1) (oi := { dst := some 42, op := _, type := _, pos := _, after := _, guard := _ }) (v := .int .i64 (i : Int)) rfl (by kernel_rfl) (by kernel_rfl) (by kernel_rfl) (fun _ _ _ h => h) (Or.inl ⟨by rfl, ?_⟩) (by assumption) ?_
              · intro w9 hSw
                exact exec_move rfl rfl
              simp only [Act.put, List.setIfInBounds_toArray, List.set_cons_zero, List.set_cons_succ]
              refine wpAnyH_take (i := 2) (oi := { dst := some 43, op := _, type := _, pos := _, after := _, guard := _ }) (v := .pointer (some ⟨b1, o1 + i * 26, none⟩)) rfl (by kernel_rfl) (by kernel_rfl) (by kernel_rfl) (fun _ _ _ h => h) (Or.inl ⟨by rfl, ?_⟩) (by assumption) ?_
              · intro w9 hSw
                exact exec_index rfl rfl rfl (index_ev w9 hlt)
              simp only [Act.put, List.setIfInBounds_toArray, List.set_cons_zero, List.set_cons_succ]
              refine wpAnyH_take (i := 3) (oi := { dst := some 44, op := _, type := _, pos := _, after := _, guard := _ }) (v := .pointer (some ⟨b1, o1 + i * 26 + 0, none⟩)) rfl (by kernel_rfl) (by kernel_rfl) (by kernel_rfl) (fun _ _ _ h => h) (Or.inl ⟨by rfl, ?_⟩) (by assumption) ?_
              · intro w9 hSw
                exact exec_field rfl rfl (fun w => field_e0 w _ _)
              simp only [Act.put, List.setIfInBounds_toArray, List.set_cons_zero, List.set_cons_succ]
              refine wpAnyH_take (i := 4) (oi := { dst := some 45, op := _, type := _, pos := _, after := _, guard := _ }) (v := .agg (dotc x.r x.n)) rfl (by kernel_rfl) (by kernel_rfl) (by kernel_rfl) (fun _ _ _ h => h) (Or.inl ⟨by rfl, ?_⟩) (by assumption) ?_
              · intro w9 hSw
                exact exec_load (ad := ⟨b1, o1 + i * 26 + 0, none⟩) rfl rfl (load_dt hSw.1)
              simp only [Act.put, List.setIfInBounds_toArray, List.set_cons_zero, List.set_cons_succ]
              refine wpAnyH_take (i := 5) (oi := { dst := some 46, op := _, type := _, pos := _, after := _, guard := _ }) (v := .slice (some ⟨b1, o1, none⟩) m c) rfl (by kernel_rfl) (by kernel_rfl) (by kernel_rfl) (fun _ _ _ h => h) (Or.inl ⟨by rfl, ?_⟩) (by assumption) ?_
              · intro w9 hSw
                exact exec_move rfl rfl
              simp only [Act.put, List.setIfInBounds_toArray, List.set_cons_zero, List.set_cons_succ]
              refine wpAnyH_take (i := 6) (oi := { dst := some 47, op := _, type := _, pos := _, after := _, guard := _ }) (v := .int .i64 (j : Int)) rfl (by kernel_rfl) (by kernel_rfl) (by kernel_rfl) (fun _ _ _ h => h) (Or.inl ⟨by rfl, ?_⟩) (by assumption) ?_
              · intro w9 hSw
                exact exec_move rfl rfl
              simp only [Act.put, List.setIfInBounds_toArray, List.set_cons_zero, List.set_cons_succ]
              refine wpAnyH_take (i := 7) (oi := { dst := some 48, op := _, type := _, pos := _, after := _, guard := _ }) (v := .pointer (some ⟨b1, o1 + j * 26, none⟩)) rfl (by kernel_rfl) (by kernel_rfl) (by kernel_rfl) (fun _ _ _ h => h) (Or.inl ⟨by rfl, ?_⟩) (by assumption) ?_
              · intro w9 hSw
                exact exec_index rfl rfl rfl (index_ev w9 hjm)
              simp only [Act.put, List.setIfInBounds_toArray, List.set_cons_zero, List.set_cons_succ]
              refine wpAnyH_take (i := 8) (oi := { dst := some 49, op := _, type := _, pos := _, after := _, guard := _ }) (v := .pointer (some ⟨b1, o1 + j * 26 + 0, none⟩)) rfl (by kernel_rfl) (by kernel_rfl) (by kernel_rfl) (fun _ _ _ h => h) (Or.inl ⟨by rfl, ?_⟩) (by assumption) ?_
              · intro w9 hSw
                exact exec_field rfl rfl (fun w => field_e0 w _ _)
              simp only [Act.put, List.setIfInBounds_toArray, List.set_cons_zero, List.set_cons_succ]
              refine wpAnyH_take (i := 9) (oi := { dst := some 50, op := _, type := _, pos := _, after := _, guard := _ }) (v := .agg (dotc y.r y.n)) rfl (by kernel_rfl) (by kernel_rfl) (by kernel_rfl) (fun _ _ _ h => h) (Or.inl ⟨by rfl, ?_⟩) (by assumption) ?_
              · intro w9 hSw
                exact exec_load (ad := ⟨b1, o1 + j * 26 + 0, none⟩) rfl rfl (load_dt hSw.2)
              simp only [Act.put, List.setIfInBounds_toArray, List.set_cons_zero, List.set_cons_succ]
              refine wpAnyH_take (i := 10) (oi := { dst := some 51, op := _, type := _, pos := _, after := _, guard := _ }) (v := .bool true) rfl (by kernel_rfl) (by kernel_rfl) (by kernel_rfl) (fun _ _ _ h => h) (Or.inl ⟨by rfl, ?_⟩) (by assumption) ?_
              · intro w9 hSw
                exact exec_bin rfl rfl rfl (eqGuard_dt w9 _ _ _ _) (eql_dt w9 hd)
              simp only [Act.put, List.setIfInBounds_toArray, List.set_cons_zero, List.set_cons_succ]
              refine wpAnyH_done (by kernel_rfl) ?_ _
              refine NoPanic.normal ?_
              clear hHeld
              clear hr1 hr2 hs hd
              go_wp2
              go_ret
              exact ⟨rfl, HB.out⟩
            · have hd : decide (x.r = y.r ∧ x.n = y.n) = false := decide_eq_false hs
              have HJ2 : Aside ((∀ q y, q < j + 1 → E[q]? = some y → ¬ sameDot x y) ∧ Below w.heap.size w wr.drew) := by
                refine ⟨fun q z hq hz => ?_, HJ.out.2.drew⟩
                by_cases hqj : q < j
                · exact HJ.out.1 q z hqj hz
                · obtain rfl : q = j := by omega
                  rw [hy] at hz
                  obtain rfl := Option.some.inj hz
                  exact hs
              go_wp2_with fail
              refine wp_region_noPanic ?_
              refine wp_region_held_drew (S := fun W' : World => W'.rangeAt b1 (o1 + i * 26) (evl x) ∧ W'.rangeAt b1 (o1 + j * 26) (evl y)) (by kernel_rfl) ⟨hr1, hr2⟩ (fun hHeld => ?_)
              refine wpAnyH_take (i := 0) (oi := { dst := some 41, op := _, type := _, pos := _, after := _, guard := _ }) (v := .slice (some ⟨b1, o1, none⟩) m c) rfl (by kernel_rfl) (by kernel_rfl) (by kernel_rfl) (fun _ _ _ h => h) (Or.inl ⟨by rfl, ?_⟩) (by assumption) ?_
              · intro w9 hSw
                exact exec_move rfl rfl
              simp only [Act.put, List.setIfInBounds_toArray, List.set_cons_zero, List.set_cons_succ]
              refine wpAnyH_take (i := 1) (oi := { dst := some 42, op := _, type := _, pos := _, after := _, guard := _ }) (v := .int .i64 (i : Int)) rfl (by kernel_rfl) (by kernel_rfl) (by kernel_rfl) (fun _ _ _ h => h) (Or.inl ⟨by rfl, ?_⟩) (by assumption) ?_
              · intro w9 hSw
                exact exec_move rfl rfl
              simp only [Act.put, List.setIfInBounds_toArray, List.set_cons_zero, List.set_cons_succ]
              refine wpAnyH_take (i := 2) (oi := { dst := some 43, op := _, type := _, pos := _, after := _, guard := _ }) (v := .pointer (some ⟨b1, o1 + i * 26, none⟩)) rfl (by kernel_rfl) (by kernel_rfl) (by kernel_rfl) (fun _ _ _ h => h) (Or.inl ⟨by rfl, ?_⟩) (by assumption) ?_
              · intro w9 hSw
                exact exec_index rfl rfl rfl (index_ev w9 hlt)
              simp only [Act.put, List.setIfInBounds_toArray, List.set_cons_zero, List.set_cons_succ]
              refine wpAnyH_take (i := 3) (oi := { dst := some 44, op := _, type := _, pos := _, after := _, guard := _ }) (v := .pointer (some ⟨b1, o1 + i * 26 + 0, none⟩)) rfl (by kernel_rfl) (by kernel_rfl) (by kernel_rfl) (fun _ _ _ h => h) (Or.inl ⟨by rfl, ?_⟩) (by assumption) ?_
              · intro w9 hSw
                exact exec_field rfl rfl (fun w => field_e0 w _ _)
              simp only [Act.put, List.setIfInBounds_toArray, List.set_cons_zero, List.set_cons_succ]
              refine wpAnyH_take (i := 4) (oi := { dst := some 45, op := _, type := _, pos := _, after := _, guard := _ }) (v := .agg (dotc x.r x.n)) rfl (by kernel_rfl) (by kernel_rfl) (by kernel_rfl) (fun _ _ _ h => h) (Or.inl ⟨by rfl, ?_⟩) (by assumption) ?_
              · intro w9 hSw
                exact exec_load (ad := ⟨b1, o1 + i * 26 + 0, none⟩) rfl rfl (load_dt hSw.1)
              simp only [Act.put, List.setIfInBounds_toArray, List.set_cons_zero, List.set_cons_succ]
              refine wpAnyH_take (i := 5) (oi := { dst := some 46, op := _, type := _, pos := _, after := _, guard := _ }) (v := .slice (some ⟨b1, o1, none⟩) m c) rfl (by kernel_rfl) (by kernel_rfl) (by kernel_rfl) (fun _ _ _ h => h) (Or.inl ⟨by rfl, ?_⟩) (by assumption) ?_
              · intro w9 hSw
                exact exec_move rfl rfl
              simp only [Act.put, List.setIfInBounds_toArray, List.set_cons_zero, List.set_cons_succ]
              refine wpAnyH_take (i := 6) (oi := { dst := some 47, op := _, type := _, pos := _, after := _, guard := _ }) (v := .int .i64 (j : Int)) rfl (by kernel_rfl) (by kernel_rfl) (by kernel_rfl) (fun _ _ _ h => h) (Or.inl ⟨by rfl, ?_⟩) (by assumption) ?_
              · intro w9 hSw
                exact exec_move rfl rfl
              simp only [Act.put, List.setIfInBounds_toArray, List.set_cons_zero, List.set_cons_succ]
              refine wpAnyH_take (i := 7) (oi := { dst := some 48, op := _, type := _, pos := _, after := _, guard := _ }) (v := .pointer (some ⟨b1, o1 + j * 26, none⟩)) rfl (by kernel_rfl) (by kernel_rfl) (by kernel_rfl) (fun _ _ _ h => h) (Or.inl ⟨by rfl, ?_⟩) (by assumption) ?_
              · intro w9 hSw
                exact exec_index rfl rfl rfl (index_ev w9 hjm)
              simp only [Act.put, List.setIfInBounds_toArray, List.set_cons_zero, List.set_cons_succ]
              refine wpAnyH_take (i := 8) (oi := { dst := some 49, op := _, type := _, pos := _, after := _, guard := _ }) (v := .pointer (some ⟨b1, o1 + j * 26 + 0, none⟩)) rfl (by kernel_rfl) (by kernel_rfl) (by kernel_rfl) (fun _ _ _ h => h) (Or.inl ⟨by rfl, ?_⟩) (by assumption) ?_
              · intro w9 hSw
                exact exec_field rfl rfl (fun w => field_e0 w _ _)
              simp only [Act.put, List.setIfInBounds_toArray, List.set_cons_zero, List.set_cons_succ]
              refine wpAnyH_take (i := 9) (oi := { dst := some 50, op := _, type := _, pos := _, after := _, guard := _ }) (v := .agg (dotc y.r y.n)) rfl (by kernel_rfl) (by kernel_rfl) (by kernel_rfl) (fun _ _ _ h => h) (Or.inl ⟨by rfl, ?_⟩) (by assumption) ?_
              · intro w9 hSw
                exact exec_load (ad := ⟨b1, o1 + j * 26 + 0, none⟩) rfl rfl (load_dt hSw.2)
              simp only [Act.put, List.setIfInBounds_toArray, List.set_cons_zero, List.set_cons_succ]
              refine wpAnyH_take (i := 10) (oi := { dst := some 51, op := _, type := _, pos := _, after := _, guard := _ }) (v := .bool false) rfl (by kernel_rfl) (by kernel_rfl) (by kernel_rfl) (fun _ _ _ h => h) (Or.inl ⟨by rfl, ?_⟩) (by assumption) ?_
              · intro w9 hSw
                exact exec_bin rfl rfl rfl (eqGuard_dt w9 _ _ _ _) (eql_dt w9 hd)
              simp only [Act.put, List.setIfInBounds_toArray, List.set_cons_zero, List.set_cons_succ]
              refine wpAnyH_done (by kernel_rfl) ?_ _
              refine NoPanic.normal ?_
              clear hHeld
              clear hr1 hr2 hs hd HJ
              go_wp2
              go_roundg (i - (j + 1))
              case measure => omega
              case rel => exact ⟨j + 1, by go_num, by omega, Nat.le_refl _, HJ2⟩
          · obtain rfl : j = i := by omega
            have HS2 : Aside (Unlike (E.take (j + 1)) ∧ Below w.heap.size w wr) := ⟨unlike_snoc HS.out.1 hx HJ.out.1, HJ.out.2⟩
            clear HS HJ
            go_wp2
            go_roundg (m - (j + 1))
            case measure => omega
            case rel => exact ⟨j + 1, by go_num, by omega, Nat.le_refl _, HS2⟩
      · obtain rfl : i = m := by omega
        have HU : Hid (Unlike E) := by
          have := HS.out.1
          rw [List.take_of_length_le (by omega)] at this
          exact this
        obtain ⟨k, hk, hkm⟩ := cut_rem cut i hpos hcut'.out
        have H3 : Aside (Row wr w.heap.size (.slice none 0 0) (turnE E i k i) ∧ Below w.heap.size w wr) := ⟨by rw [turn_end]; exact row_nil _ _, HS.out.2⟩
        clear HS
        go_wp2
        go_loopg [8, 9] i (fun kx s8 s9 wz => ∃ j : Nat, s9 = .int .i64 ((j : Int) - 1) ∧ j ≤ i ∧ j ≤ kx ∧ Aside (Row wz w.heap.size s8 (turnE E i k j) ∧ Below w.heap.size w wz))
        case atStart => exact ⟨i, rfl, Nat.le_refl _, Nat.le_refl _, H3⟩
        case round =>
          clear H3
          obtain ⟨j, rfl, hjm, hkx, HS⟩ := hrel
          rcases j with _ | j
          · have hmem : ∀ x, x ∈ turnE E i k 0 ↔ x ∈ E := fun x => (turn_perm hlen hkm).mem_iff
            have HT1 : Hid (latL anyE (turnE E i k 0) = latL anyE E) := lat_same HU.out hmem
            have HT2 : Hid (latL setE (turnE E i k 0) = latL setE E) := lat_same HU.out hmem
            have hwT : Hid (∀ e ∈ turnE E i k 0, Wide e) := turn_wide hlen hkm hwd.out
            have hTl : (turnE E i k 0).length ≤ 1000 := by rw [turn_len]; omega
            have hf : (orz (latL anyE E)).deps.length = 16 := (orz_wide hwd.out).1
            obtain ⟨aT, cT, hvT, hET⟩ := HS.out.1.evs hwT.out
            have HT4 : Aside (Evs wr ao i c E ∧ Evs wr aT (turnE E i k 0).length cT (turnE E i k 0) ∧ Below w.heap.size w wr) := ⟨HE.out.below HS.out.2 (Nat.le_refl _), hET, HS.out.2⟩
            subst hvT
            clear HS hET hk hmz hmz' hkx hmem hwT HE
            generalize turnE E i k 0 = T at *
            obtain ⟨f, HF⟩ : ∃ f, Hid (orz (latL anyE E) = f) := ⟨_, show _ = _ from rfl⟩
            obtain ⟨t, HT⟩ : ∃ t, Hid ((latL anyE E).isSome = t) := ⟨_, show _ = _ from rfl⟩
            obtain ⟨g, HG⟩ : ∃ g, Hid ((orz (latL setE E)).value = g) := ⟨_, show _ = _ from rfl⟩
            obtain ⟨s, HW⟩ : ∃ s, Hid ((latL setE E).isSome = s) := ⟨_, show _ = _ from rfl⟩
            rw [HF.out] at hf
            go_wp2_with fail
            refine (glatest_any ao i c E wr HT4.out.1 (by omega)).mono ?_
            rintro e w5 ⟨rfl, hb5⟩
            have HS5 : Aside (Evs w5 ao i c E ∧ Evs w5 aT T.length cT T ∧ Below w.heap.size w w5) := ⟨HT4.out.1.below hb5 (Nat.le_refl _), HT4.out.2.1.below hb5 (Nat.le_refl _), HT4.out.2.2.trans (hb5.mono HT4.out.2.2.size)⟩
            clear HT4 hb5
            rw [HF.out, HT.out]
            have hzc := liesE_new w5 zv
            have hBc : Below w5.heap.size w5 ((w5.alloc (.cells (evc zv) 31)).setRow w5.heap.size (evc f)) := below_setRow ((Below.refl _ _).alloc (Nat.le_refl _) _) (Nat.le_refl _) _
            have HSc : Aside (LiesE ((w5.alloc (.cells (evc zv) 31)).setRow w5.heap.size (evc f)) w5.heap.size f ∧ Evs ((w5.alloc (.cells (evc zv) 31)).setRow w5.heap.size (evc f)) ao i c E ∧ Evs ((w5.alloc (.cells (evc zv) 31)).setRow w5.heap.size (evc f)) aT T.length cT T ∧ Below w.heap.size w ((w5.alloc (.cells (evc zv) 31)).setRow w5.heap.size (evc f))) := ⟨hzc.row f, HS5.out.1.below hBc (Nat.le_refl _), HS5.out.2.1.below hBc (Nat.le_refl _), HS5.out.2.2.trans (hBc.mono HS5.out.2.2.size)⟩
            clear hBc
            go_upto_region 19 with (refine store_ev rfl rfl rfl rfl hzc hf rfl ?_)
            change Code.wp _ _ _ _ ((w5.alloc (.cells (evc zv) 31)).setRow w5.heap.size (evc f))
            clear hzc
            generalize ((w5.alloc (.cells (evc zv) 31)).setRow w5.heap.size (evc f)) = W1 at *
            generalize w5.heap.size = D at *
            go_wp2_with fail
            refine (glatest_any aT T.length cT T W1 HSc.out.2.2.1 hTl).mono ?_
            rintro e w6 ⟨rfl, hb6⟩
            have HS6 : Aside (LiesE w6 D f ∧ Evs w6 ao i c E ∧ Evs w6 aT T.length cT T ∧ Below w.heap.size w w6) := ⟨HSc.out.1.below hb6 HSc.out.1.lt, HSc.out.2.1.below hb6 (Nat.le_refl _), HSc.out.2.2.1.below hb6 (Nat.le_refl _), HSc.out.2.2.2.trans (hb6.mono HSc.out.2.2.2.size)⟩
            clear hb6 HSc
            rw [HT1.out, HF.out, HT.out]
            have hzc := liesE_new w6 zv
            have hBc : Below w6.heap.size w6 ((w6.alloc (.cells (evc zv) 31)).setRow w6.heap.size (evc f)) := below_setRow ((Below.refl _ _).alloc (Nat.le_refl _) _) (Nat.le_refl _) _
            have HSc : Aside (LiesE ((w6.alloc (.cells (evc zv) 31)).setRow w6.heap.size (evc f)) w6.heap.size f ∧ LiesE ((w6.alloc (.cells (evc zv) 31)).setRow w6.heap.size (evc f)) D f ∧ Evs ((w6.alloc (.cells (evc zv) 31)).setRow w6.heap.size (evc f)) ao i c E ∧ Evs ((w6.alloc (.cells (evc zv) 31)).setRow w6.heap.size (evc f)) aT T.length cT T ∧ Below w.heap.size w ((w6.alloc (.cells (evc zv) 31)).setRow w6.heap.size (evc f))) := ⟨hzc.row f, HS6.out.1.below hBc HS6.out.1.lt, HS6.out.2.1.below hBc (Nat.le_refl _), HS6.out.2.2.1.below hBc (Nat.le_refl _), HS6.out.2.2.2.trans (hBc.mono HS6.out.2.2.2.size)⟩
            clear hBc
            go_upto_region 20 with (refine store_ev rfl rfl rfl rfl hzc hf rfl ?_)
            change Code.wp _ _ _ _ ((w6.alloc (.cells (evc zv) 31)).setRow w6.heap.size (evc f))
            clear hzc
            generalize ((w6.alloc (.cells (evc zv) 31)).setRow w6.heap.size (evc f)) = W2 at *
            generalize w6.heap.size = G at *
            go_wp2_with fail
            refine (gvalue_any ao i c E W2 HSc.out.2.2.1 (by omega)).mono ?_
            rintro e w7 ⟨rfl, hb7⟩
            have HS7 : Aside (LiesE w7 G f ∧ LiesE w7 D f ∧ Evs w7 aT T.length cT T ∧ Below w.heap.size w w7) := ⟨HSc.out.1.below hb7 HSc.out.1.lt, HSc.out.2.1.below hb7 HSc.out.2.1.lt, HSc.out.2.2.2.1.below hb7 (Nat.le_refl _), HSc.out.2.2.2.2.trans (hb7.mono HSc.out.2.2.2.2.size)⟩
            clear hb7 HSc
            rw [HG.out, HW.out]
            go_wp2_with fail
            refine (gvalue_any aT T.length cT T w7 HS7.out.2.2.1 hTl).mono ?_
            rintro e w8 ⟨rfl, hb8⟩
            have L1 := HS7.out.1.below hb8 HS7.out.1.lt
            have L2 := HS7.out.2.1.below hb8 HS7.out.2.1.lt
            have HB8 : Hid (Below w.heap.size w w8) := HS7.out.2.2.2.trans (hb8.mono HS7.out.2.2.2.size)
            clear hb8 HS7
            rw [HT2.out, HG.out, HW.out]
            have hq := eql_same f hf
            have hpl := plain_ev
            go_wp2_with (first | refine load_ev rfl rfl rfl L1 hf ?_ | refine load_ev rfl rfl rfl L2 hf ?_)
            go_ret
            exact ⟨rfl, HB8.out⟩
          · have hj1 : (((j + 1 : Nat) : Int) - 1) = (j : Int) := by omega
            rw [hj1]
            have hjlt : j < i := by omega
            obtain ⟨q, hq⟩ : ∃ q, q = (j + k) % i := ⟨_, rfl⟩
            have hqm : q < i := by rw [hq]; exact Nat.mod_lt _ hpos
            have hqz : (q : Int) < (i : Int) := by omega
            have hrem : ((j : Int) + (k : Int)).tmod (i : Int) = (q : Int) := by
              rw [hq, Int.tmod_eq_emod_of_nonneg (by omega), Int.natCast_emod, Int.natCast_add]
            obtain ⟨b, off, u, rfl, hui, hu, hr, hbl⟩ := (HE.out.below HS.out.2 (Nat.le_refl _)).at hqm
            have hu16 := hu.1
            have hix := fun W : World => index_ev W (b := b) (off := off) (k := q) (m := i) (c := c) hqm
            have HSN : Hid (turnE E i k j = turnE E i k (j + 1) ++ [u]) := turn_step hjlt (by rw [← hq]; exact hui)
            have hRow : Row (wr.alloc (.cells (evc u) 31)) w.heap.size u8 (turnE E i k (j + 1)) := HS.out.1.below ((Below.refl _ _).alloc (Nat.le_refl _) _) (Nat.le_refl _)
            have hF : Evs (wr.alloc (.cells (evc u) 31)) (some ⟨wr.heap.size, 0, none⟩) 1 1 [u] := evs_single _ _ u hu (liesE_new wr u)
            have hll : (turnE E i k (j + 1)).length ≤ i := by rw [turn_len]; omega
            have hle : w.heap.size ≤ (wr.alloc (.cells (evc u) 31)).heap.size := by have := HS.out.2.size; simp; omega
            have HB3 : Hid (Below w.heap.size w (wr.alloc (.cells (evc u) 31))) := HS.out.2.alloc HS.out.2.size _
            clear HS hq hj1 hbl
            generalize turnE E i k (j + 1) = R at *
            go_wp2_with (first | refine load_ev_mid rfl rfl rfl hr hu16 ?_ | refine build_ev1 rfl rfl rfl hu16 ?_ | refine wpList_appE rfl _ _ rfl w.heap.size _ R rfl hRow _ 1 1 [u] rfl hF (by omega) hle ?_)
            intro v4 w4 hR4 hg4 ho4
            have HS4 : Aside (Row w4 w.heap.size v4 (turnE E i k j) ∧ Below w.heap.size w w4) := ⟨by rw [HSN.out]; exact hR4, HB3.out.grown hg4 hle hRow.own⟩
            clear hR4 hg4 ho4 hRow hF HB3 HSN hll hle hr hix
            go_wp2
            go_roundg j
            case measure => omega
            case rel => exact ⟨j, rfl, by omega, Nat.le_refl _, HS4⟩
end Go.Proofs.Ytomdoclfmoihbaa
