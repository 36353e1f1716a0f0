/-
  CrcChecks: any bytes have the check that the document says, and are sealed and opened, or not, as it says. For every input.
-/
import Derived.Test.YtcgnfmfnngbpcaaRsl
import Derived.Test.YtcgnfmfnngbpcaaRgn
namespace Go.Proofs.Ytcgnfmfnngbpcaa
open Go.RowKit

theorem Bytes.drewn {w : World} {ao : Option Addr} {m c : Nat} {l : List UInt8} (h : Bytes w ao m c l) : Bytes w.drew ao m c l := h.below (drawn w 1) (Nat.le_refl _)

theorem conv_any {w : World} {ao : Option Addr} {m c : Nat} {t : ByteArray} (h : Bytes w ao m c t.data.toList) :
    (convert 23 9 (.slice ao m c)).run Try.prog w = .ok (.string t) w := by
  cases ao with
  | none =>
    obtain ⟨rfl, rfl⟩ := h.none rfl
    have ht : t = ByteArray.empty := by
      have h0 : t.data.toList = [] := List.eq_nil_of_length_eq_zero h.len
      obtain ⟨d⟩ := t
      have : d = #[] := Array.toList_inj.1 h0
      rw [this]; rfl
    rw [ht, run_convert_bytes_string w 23 9 5 _ 0 0 Try.underlying23 Try.underlying5 Try.underlying9]
    simp [Conv.bytesToString]
  | some ad =>
    have hl := h.len
    subst hl
    refine run_convert_bytes_back w 23 9 5 ad c t.data.toList Try.underlying23 Try.underlying5 Try.underlying9 ?_
    intro j hj
    refine h.cells ad rfl j _ ?_
    rw [bs, List.getElem?_map, List.getElem?_eq_getElem hj]
    rfl

theorem conv_seal {w : World} {base g n : Nat} {b : ByteArray} (h : w.ownsRow base 5 1 (.slice (some ⟨g, 0, none⟩) n n) n (bs (Ck.sealed b.data.toList))) :
    (convert 23 9 (.slice (some ⟨g, 0, none⟩) n n)).run Try.prog w = .ok (.string (stx b)) w := by
  have h1 := Bytes.own h
  rw [← stx_list] at h1
  exact conv_any h1

/-- What Open answers of a text's bytes. -/
def fine (b : ByteArray) : Bool := decide (2 ≤ b.size) && decide (Ck.crc (b.data.toList.take (b.size - 2)) = Ck.word (b.data.toList.getD (b.size - 2) 0) (b.data.toList.getD (b.size - 1) 0))
def inner (b : ByteArray) : ByteArray := if fine b then b.extract 0 (b.size - 2) else ByteArray.empty

theorem open_text (ao : Option Addr) (c : Nat) (b : ByteArray) (w : World) (hb : Bytes w ao b.size c b.data.toList) (hm : b.size ≤ 5000) (hc : c ≤ maxLen) :
    Calls Try.prog 9 #[.slice ao b.size c] w fun e w' => ∃ ao' m' c', e = .returned (.tuple #[.slice ao' m' c', .bool (fine b)]) ∧ Bytes w' ao' m' c' (inner b).data.toList ∧ Below w.heap.size w w' := by
  by_cases h2 : 2 ≤ b.size
  · by_cases h : Ck.crc (b.data.toList.take (b.size - 2)) = Ck.word (b.data.toList.getD (b.size - 2) 0) (b.data.toList.getD (b.size - 1) 0)
    · have hf : fine b = true := by rw [fine, decide_eq_true h2, decide_eq_true h]; rfl
      refine (open_yes ao b.size c _ w hb (by omega) h2 h).mono ?_
      rintro e w' ⟨g, rfl, hown, hbel⟩
      refine ⟨_, _, _, by rw [hf], ?_, hbel⟩
      rw [inner, hf, if_pos rfl, ext_list]
      exact Bytes.own hown
    · have hf : fine b = false := by rw [fine, decide_eq_false h, Bool.and_false]
      refine (open_no ao b.size c _ w hb (by unfold maxLen; omega) hc h2 h).mono ?_
      rintro e w' ⟨rfl, hbel⟩
      refine ⟨none, 0, 0, by rw [hf], ?_, hbel⟩
      rw [inner, hf, if_neg (by simp)]
      exact Bytes.nil _
  · have hf : fine b = false := by rw [fine, decide_eq_false h2, Bool.false_and]
    refine (open_few ao b.size c w (by omega)).mono ?_
    rintro e w' ⟨rfl, rfl⟩
    refine ⟨none, 0, 0, by rw [hf], ?_, Below.refl _ _⟩
    rw [inner, hf, if_neg (by simp)]
    exact Bytes.nil _

theorem ropen_text (b : ByteArray) (hm : b.size ≤ 5000) (w : World) :
    Calls Try.prog 10 #[.string b] w fun e w' => e = .returned (.tuple #[.string (inner b), .bool (fine b)]) ∧ Below w.heap.size w w' := by
  by_cases h2 : 2 ≤ b.size
  · by_cases h : Ck.crc (b.data.toList.take (b.size - 2)) = Ck.word (b.data.toList.getD (b.size - 2) 0) (b.data.toList.getD (b.size - 1) 0)
    · have hf : fine b = true := by rw [fine, decide_eq_true h2, decide_eq_true h]; rfl
      rw [inner, hf, if_pos rfl]
      rw [show b.size - 1 = b.size - 2 + 1 by omega] at h
      exact ropen_yes b (b.size - 2) (by omega) (by omega) h w
    · have hf : fine b = false := by rw [fine, decide_eq_false h, Bool.and_false]
      rw [inner, hf, if_neg (by simp)]
      rw [show b.size - 1 = b.size - 2 + 1 by omega] at h
      exact ropen_no b (b.size - 2) (by omega) (by omega) h w
  · have hf : fine b = false := by rw [fine, decide_eq_false h2, Bool.false_and]
    rw [inner, hf, if_neg (by simp)]
    refine (ropen_few b (by omega) w).mono ?_
    rintro e w' ⟨rfl, rfl⟩
    exact ⟨rfl, Below.refl _ _⟩

set_option maxHeartbeats 1000000 in
theorem checks_walk (b : ByteArray) (hb : b.size ≤ maxLen) (w : World) :
    Calls Try.prog 3 #[.string b] w fun e w' => e = .returned (.bool true) ∧ Below w.heap.size w w' := by
  have hbm := hb
  unfold maxLen at hbm
  by_cases h : b.size ≤ 5000
  · have hgt : ¬ (5000 : Int) < (b.size : Int) := by omega
    go_enter Try.func3, Try.ntmps3
    go_wp2_with fail
    refine (awake_any _).mono ?_
    rintro e w1 ⟨rfl, hb1⟩
    obtain ⟨cap, w2, hcv, hB2, hcap, hb2, hz2⟩ := conv_bytes b w1 hb
    go_wp2_with fail
    refine (open_text _ _ _ _ hB2 h hcap).mono ?_
    rintro e w2a ⟨ao, mI, cI, rfl, hI0, hb2a⟩
    go_wp2_with fail
    refine (ropen_text b h _).mono ?_
    rintro e w3 ⟨rfl, hb3⟩
    have hI := hI0.below hb3 (Nat.le_refl _)
    have s1 : Below w.heap.size w w2 := hb1.trans (hb2.mono hb1.size)
    have s2 := s1.trans (hb2a.mono s1.size)
    have s3 := s2.trans (hb3.mono s2.size)
    clear hcv hB2 hcap hb2 hz2 hI0 hb2a hb3 hb1 s1 s2
    generalize inner b = t at *
    generalize fine b = ok at *
    have z1 := stx_size b
    go_wp2_with fail
    refine wp_region_noPanic ?_
    refine wp_region_held_drew (S := fun w0 => Bytes w0 ao mI cI t.data.toList) (by kernel_rfl) hI.drewn (fun hHeld => ?_)
    refine wpAnyH_take (i := 0) (oi := { dst := some 26, op := _, type := _, pos := _, after := _, guard := _ }) (v := ?_) rfl (by kernel_rfl) (by kernel_rfl) (by kernel_rfl) (fun _ _ _ h => h) (Or.inl ⟨by rfl, ?_⟩) (by assumption) ?_
    rotate_left
    · intro w hSw
      go_simp <;> with_reducible rfl
    simp only [Act.put, List.setIfInBounds_toArray, List.set_cons_zero, List.set_cons_succ]
    refine wpAnyH_take (i := 4) (oi := { dst := some 30, op := _, type := _, pos := _, after := _, guard := _ }) (v := ?_) rfl (by kernel_rfl) (by kernel_rfl) (by kernel_rfl) (fun _ _ _ h => h) (Or.inl ⟨by rfl, ?_⟩) (by assumption) ?_
    rotate_left
    · intro w hSw
      go_simp <;> with_reducible rfl
    simp only [Act.put, List.setIfInBounds_toArray, List.set_cons_zero, List.set_cons_succ]
    obtain ⟨cap4, w4, hrun, hby4, -, hb4, -⟩ := conv_bytes b w3.drew (by unfold maxLen; omega)
    have hof := of_any _ _ _ _ _ hby4 (by unfold maxLen; omega)
    have hrof := fun W => rof_any b (by unfold maxLen; omega) W
    have hn : (Ck.crc b.data.toList).toNat < 65536 := (Ck.crc b.data.toList).isLt
    generalize (Ck.crc b.data.toList).toNat = n at hof hrof hn
    have hwr : IntKind.i64.wrap (n : Int) = (n : Int) := by rw [IntKind.wrap_i64]; omega
    have Hof : Hid _ := hof
    have Hrof : ∀ W, Hid _ := hrof
    clear hof hrof
    refine wpAnyH_ready (rs := [1]) (by kernel_rfl) (by simp) ?_
    refine AllReadyH.cons (o := { dst := some 27, op := _, type := _, pos := _, after := _, guard := _ }) rfl (fun K hK => ?_) AllReadyH.nil
    go_simp
    have hI4 := hI.drewn.below hb4 (Nat.le_refl _)
    refine hK.out _ _ (hI4) (fun hHeld => ?_)
    clear hK K
    clear hrun
    refine wpAnyH_ready (rs := [2]) (by kernel_rfl) (by simp) ?_
    refine AllReadyH.cons (o := { dst := some 28, op := _, type := _, pos := _, after := _, guard := _ }) rfl (fun K hK => ?_) AllReadyH.nil
    go_simp
    refine Calls.mono Hof.out ?_
    rintro e w5 ⟨rfl, hw⟩
    obtain rfl := hw.symm
    refine hK.out _ _ (hI4) (fun hHeld => ?_)
    clear hK K
    refine wpAnyH_take (i := 3) (oi := { dst := some 29, op := _, type := _, pos := _, after := _, guard := _ }) (v := ?_) rfl (by kernel_rfl) (by kernel_rfl) (by kernel_rfl) (fun _ _ _ h => h) (Or.inl ⟨by rfl, ?_⟩) (by assumption) ?_
    rotate_left
    · intro w hSw
      go_simp <;> with_reducible rfl
    simp only [Act.put, List.setIfInBounds_toArray, List.set_cons_zero, List.set_cons_succ]
    refine wpAnyH_ready (rs := [5]) (by kernel_rfl) (by simp) ?_
    refine AllReadyH.cons (o := { dst := some 31, op := _, type := _, pos := _, after := _, guard := _ }) rfl (fun K hK => ?_) AllReadyH.nil
    go_simp
    refine Calls.mono (Hrof _).out ?_
    rintro e w5 ⟨rfl, hw⟩
    obtain rfl := hw.symm
    refine hK.out _ _ (hI4) (fun hHeld => ?_)
    clear hK K
    clear Hof Hrof
    refine wpAnyH_take (i := 6) (oi := { dst := some 32, op := _, type := _, pos := _, after := _, guard := _ }) (v := ?_) rfl (by kernel_rfl) (by kernel_rfl) (by kernel_rfl) (fun _ _ _ h => h) (Or.inl ⟨by rfl, ?_⟩) (by assumption) ?_
    rotate_left
    · intro w hSw
      go_simp <;> with_reducible rfl
    simp only [Act.put, List.setIfInBounds_toArray, List.set_cons_zero, List.set_cons_succ]
    refine wpAnyH_take (i := 7) (oi := { dst := some 33, op := _, type := _, pos := _, after := _, guard := _ }) (v := ?_) rfl (by kernel_rfl) (by kernel_rfl) (by kernel_rfl) (fun _ _ _ h => h) (Or.inl ⟨by rfl, ?_⟩) (by assumption) ?_
    rotate_left
    · intro w hSw
      go_simp <;> with_reducible rfl
    simp only [Act.put, List.setIfInBounds_toArray, List.set_cons_zero, List.set_cons_succ]
    refine wpAnyH_take (i := 8) (oi := { dst := some 34, op := _, type := _, pos := _, after := _, guard := _ }) (v := ?_) rfl (by kernel_rfl) (by kernel_rfl) (by kernel_rfl) (fun _ _ _ h => h) (Or.inl ⟨by rfl, ?_⟩) (by assumption) ?_
    rotate_left
    · intro w hSw
      go_simp <;> with_reducible rfl
    simp only [Act.put, List.setIfInBounds_toArray, List.set_cons_zero, List.set_cons_succ]
    refine wpAnyH_take (i := 12) (oi := { dst := some 38, op := _, type := _, pos := _, after := _, guard := _ }) (v := ?_) rfl (by kernel_rfl) (by kernel_rfl) (by kernel_rfl) (fun _ _ _ h => h) (Or.inl ⟨by rfl, ?_⟩) (by assumption) ?_
    rotate_left
    · intro w hSw
      go_simp <;> with_reducible rfl
    simp only [Act.put, List.setIfInBounds_toArray, List.set_cons_zero, List.set_cons_succ]
    obtain ⟨cap6, w6, hrun, hby6, -, hb6, -⟩ := conv_bytes b w4 (by unfold maxLen; omega)
    refine wpAnyH_ready (rs := [9]) (by kernel_rfl) (by simp) ?_
    refine AllReadyH.cons (o := { dst := some 35, op := _, type := _, pos := _, after := _, guard := _ }) rfl (fun K hK => ?_) AllReadyH.nil
    go_simp
    have hI6 := hI4.below hb6 (Nat.le_refl _)
    refine hK.out _ _ (hI6) (fun hHeld => ?_)
    clear hK K
    clear hrun
    refine wpAnyH_ready (rs := [10]) (by kernel_rfl) (by simp) ?_
    refine AllReadyH.cons (o := { dst := some 36, op := _, type := _, pos := _, after := _, guard := _ }) rfl (fun K hK => ?_) AllReadyH.nil
    go_simp
    refine (seal_any _ _ _ _ _ hby6 (by omega)).mono ?_
    rintro e w7 ⟨gS, rfl, hS, hb7⟩
    have hI7 := hI6.below hb7 (Nat.le_refl _)
    refine hK.out _ _ (hI7) (fun hHeld => ?_)
    clear hK K
    refine held_more (S' := fun w0 => Bytes w0 ao mI cI t.data.toList ∧ w0.ownsRow w6.heap.size 5 1 (.slice (some ⟨gS, 0, none⟩) (b.size + 2) (b.size + 2)) (b.size + 2) (bs (Ck.sealed b.data.toList))) (fun _ h => h.1) _ _ _ _ ?_
    have hS7 := And.intro hI7 hS
    refine wpAnyH_take (i := 11) (oi := { dst := some 37, op := _, type := _, pos := _, after := _, guard := _ }) (v := ?_) rfl (by kernel_rfl) (by kernel_rfl) (by kernel_rfl) (fun _ _ _ h => h) (Or.inl ⟨by rfl, ?_⟩) (by assumption) ?_
    rotate_left
    · intro w hSw
      have hc := conv_seal hSw.2
      go_simp <;> with_reducible rfl
    simp only [Act.put, List.setIfInBounds_toArray, List.set_cons_zero, List.set_cons_succ]
    refine wpAnyH_ready (rs := [13]) (by kernel_rfl) (by simp) ?_
    refine AllReadyH.cons (o := { dst := some 39, op := _, type := _, pos := _, after := _, guard := _ }) rfl (fun K hK => ?_) AllReadyH.nil
    go_simp
    refine (rseal_any b h _).mono ?_
    rintro e w8 ⟨rfl, hb8⟩
    have hS8 := And.intro (hI7.below hb8 (Nat.le_refl _)) (own_below hS hb8)
    refine hK.out _ _ (hS8) (fun hHeld => ?_)
    clear hK K
    refine wpAnyH_take (i := 14) (oi := { dst := some 40, op := _, type := _, pos := _, after := _, guard := _ }) (v := ?_) rfl (by kernel_rfl) (by kernel_rfl) (by kernel_rfl) (fun _ _ _ h => h) (Or.inl ⟨by rfl, ?_⟩) (by assumption) ?_
    rotate_left
    · intro w hSw
      go_simp <;> with_reducible rfl
    simp only [Act.put, List.setIfInBounds_toArray, List.set_cons_zero, List.set_cons_succ]
    refine wpAnyH_take (i := 15) (oi := { dst := some 41, op := _, type := _, pos := _, after := _, guard := _ }) (v := ?_) rfl (by kernel_rfl) (by kernel_rfl) (by kernel_rfl) (fun _ _ _ h => h) (Or.inl ⟨by rfl, ?_⟩) (by assumption) ?_
    rotate_left
    · intro w hSw
      go_simp <;> with_reducible rfl
    simp only [Act.put, List.setIfInBounds_toArray, List.set_cons_zero, List.set_cons_succ]
    refine wpAnyH_take (i := 16) (oi := { dst := some 42, op := _, type := _, pos := _, after := _, guard := _ }) (v := ?_) rfl (by kernel_rfl) (by kernel_rfl) (by kernel_rfl) (fun _ _ _ h => h) (Or.inl ⟨by rfl, ?_⟩) (by assumption) ?_
    rotate_left
    · intro w hSw
      go_simp <;> with_reducible rfl
    simp only [Act.put, List.setIfInBounds_toArray, List.set_cons_zero, List.set_cons_succ]
    refine wpAnyH_take (i := 17) (oi := { dst := some 43, op := _, type := _, pos := _, after := _, guard := _ }) (v := ?_) rfl (by kernel_rfl) (by kernel_rfl) (by kernel_rfl) (fun _ _ _ h => h) (Or.inl ⟨by rfl, ?_⟩) (by assumption) ?_
    rotate_left
    · intro w hSw
      go_simp <;> with_reducible rfl
    simp only [Act.put, List.setIfInBounds_toArray, List.set_cons_zero, List.set_cons_succ]
    refine wpAnyH_take (i := 18) (oi := { dst := some 44, op := _, type := _, pos := _, after := _, guard := _ }) (v := ?_) rfl (by kernel_rfl) (by kernel_rfl) (by kernel_rfl) (fun _ _ _ h => h) (Or.inl ⟨by rfl, ?_⟩) (by assumption) ?_
    rotate_left
    · intro w hSw
      have hc := conv_any hSw.1
      go_simp <;> with_reducible rfl
    simp only [Act.put, List.setIfInBounds_toArray, List.set_cons_zero, List.set_cons_succ]
    refine wpAnyH_take (i := 19) (oi := { dst := some 45, op := _, type := _, pos := _, after := _, guard := _ }) (v := ?_) rfl (by kernel_rfl) (by kernel_rfl) (by kernel_rfl) (fun _ _ _ h => h) (Or.inl ⟨by rfl, ?_⟩) (by assumption) ?_
    rotate_left
    · intro w hSw
      go_simp <;> with_reducible rfl
    simp only [Act.put, List.setIfInBounds_toArray, List.set_cons_zero, List.set_cons_succ]
    refine wpAnyH_take (i := 20) (oi := { dst := some 46, op := _, type := _, pos := _, after := _, guard := _ }) (v := ?_) rfl (by kernel_rfl) (by kernel_rfl) (by kernel_rfl) (fun _ _ _ h => h) (Or.inl ⟨by rfl, ?_⟩) (by assumption) ?_
    rotate_left
    · intro w hSw
      go_simp <;> with_reducible rfl
    simp only [Act.put, List.setIfInBounds_toArray, List.set_cons_zero, List.set_cons_succ]
    refine wpAnyH_take (i := 21) (oi := { dst := some 47, op := _, type := _, pos := _, after := _, guard := _ }) (v := ?_) rfl (by kernel_rfl) (by kernel_rfl) (by kernel_rfl) (fun _ _ _ h => h) (Or.inl ⟨by rfl, ?_⟩) (by assumption) ?_
    rotate_left
    · intro w hSw
      go_simp <;> with_reducible rfl
    simp only [Act.put, List.setIfInBounds_toArray, List.set_cons_zero, List.set_cons_succ]
    refine wpAnyH_take (i := 22) (oi := { dst := some 48, op := _, type := _, pos := _, after := _, guard := _ }) (v := ?_) rfl (by kernel_rfl) (by kernel_rfl) (by kernel_rfl) (fun _ _ _ h => h) (Or.inl ⟨by rfl, ?_⟩) (by assumption) ?_
    rotate_left
    · intro w hSw
      go_simp <;> with_reducible rfl
    simp only [Act.put, List.setIfInBounds_toArray, List.set_cons_zero, List.set_cons_succ]
    refine wpAnyH_take (i := 23) (oi := { dst := some 49, op := _, type := _, pos := _, after := _, guard := _ }) (v := ?_) rfl (by kernel_rfl) (by kernel_rfl) (by kernel_rfl) (fun _ _ _ h => h) (Or.inl ⟨by rfl, ?_⟩) (by assumption) ?_
    rotate_left
    · intro w hSw
      go_simp <;> with_reducible rfl
    simp only [Act.put, List.setIfInBounds_toArray, List.set_cons_zero, List.set_cons_succ]
    refine wpAnyH_take (i := 24) (oi := { dst := some 50, op := _, type := _, pos := _, after := _, guard := _ }) (v := ?_) rfl (by kernel_rfl) (by kernel_rfl) (by kernel_rfl) (fun _ _ _ h => h) (Or.inl ⟨by rfl, ?_⟩) (by assumption) ?_
    rotate_left
    · intro w hSw
      go_simp <;> with_reducible rfl
    simp only [Act.put, List.setIfInBounds_toArray, List.set_cons_zero, List.set_cons_succ]
    refine wpAnyH_take (i := 25) (oi := { dst := some 51, op := _, type := _, pos := _, after := _, guard := _ }) (v := ?_) rfl (by kernel_rfl) (by kernel_rfl) (by kernel_rfl) (fun _ _ _ h => h) (Or.inl ⟨by rfl, ?_⟩) (by assumption) ?_
    rotate_left
    · intro w hSw
      go_simp <;> with_reducible rfl
    simp only [Act.put, List.setIfInBounds_toArray, List.set_cons_zero, List.set_cons_succ]
    refine wpAnyH_take (i := 26) (oi := { dst := some 52, op := _, type := _, pos := _, after := _, guard := _ }) (v := ?_) rfl (by kernel_rfl) (by kernel_rfl) (by kernel_rfl) (fun _ _ _ h => h) (Or.inl ⟨by rfl, ?_⟩) (by assumption) ?_
    rotate_left
    · intro w hSw
      go_simp <;> with_reducible rfl
    simp only [Act.put, List.setIfInBounds_toArray, List.set_cons_zero, List.set_cons_succ]
    refine wpAnyH_take (i := 27) (oi := { dst := some 2, op := _, type := _, pos := _, after := _, guard := _ }) (v := ?_) rfl (by kernel_rfl) (by kernel_rfl) (by kernel_rfl) (fun _ _ _ h => h) (Or.inl ⟨by rfl, ?_⟩) (by assumption) ?_
    rotate_left
    · intro w hSw
      go_simp <;> with_reducible rfl
    simp only [Act.put, List.setIfInBounds_toArray, List.set_cons_zero, List.set_cons_succ]
    refine wpAnyH_done (by kernel_rfl) ?_ _
    refine NoPanic.normal ?_
    go_wp2
    go_ret
    have s4 := s3.drew.trans (hb4.mono s3.size)
    have s6 := s4.trans (hb6.mono s4.size)
    have s7 := s6.trans (hb7.mono s6.size)
    exact ⟨rfl, s7.trans (hb8.mono s7.size)⟩
  · have hgt : (5000 : Int) < (b.size : Int) := by omega
    go_enter Try.func3, Try.ntmps3
    go_wp2_with fail
    refine (awake_any _).mono ?_
    rintro e w1 ⟨rfl, hb1⟩
    go_wp2_with fail
    refine (awake_any _).mono ?_
    rintro e w2 ⟨rfl, hb2⟩
    go_wp2
    go_ret
    exact ⟨rfl, hb1.trans (hb2.mono hb1.size)⟩
end Go.Proofs.Ytcgnfmfnngbpcaa
