/-
  What Encode comes to: an event's bytes, if it can be.
-/
import Derived.Test.YthdhnilfkpbmpaaPop
import Derived.Test.YthdhnilfkpbmpaaRig
namespace Go.Proofs.Ythdhnilfkpbmpaa
set_option maxRecDepth 100000

open Go.RowKit

theorem okev_parts {e : Ev} (h : okev e = true) : placeE e = true ∧ 0 ≤ e.t ∧ e.t ≤ 1152921504606846975 ∧ iskindE e.kind = true ∧ e.key ≠ [] ∧ textsE e = true ∧ numE e.num = true ∧ sameO e (used e) = true ∧ refE e = true := by
  simp only [okev, opE, Bool.and_eq_true, decide_eq_true_eq] at h
  obtain ⟨h1, h2, h3, ⟨h4, h5, h6, h7, h8⟩, h9⟩ := h
  exact ⟨h1, h2, h3, h4, h5, h6, h7, h8, h9⟩
theorem place_parts {e : Ev} (h : placeE e = true) : fine e.deps = true ∧ okdot e.r e.n = true ∧ e.n = e.deps.getD e.r.toNat 0 + 1 := by
  have h' : withE e.deps e.r e.n = 0 := of_decide_eq_true h
  unfold withE at h'
  split at h'
  · rename_i hh
    rw [Bool.and_eq_true] at hh
    split at h'
    · rename_i h3
      exact ⟨hh.1, hh.2, h3⟩
    · omega
  · omega
theorem dot_nn {r n : Int} (h : okdot r n = true) : Nn r ∧ Nn n := by
  obtain ⟨h0, h1, h2, h3⟩ := of_decide_eq_true h
  exact ⟨⟨h0, by omega⟩, ⟨by omega, by omega⟩⟩
theorem has_nn {v : List Int} {r n : Int} (h : hasv v r n = true) : Nn r ∧ Nn n := by
  rw [hasv, Bool.and_eq_true] at h
  exact dot_nn h.1
theorem fine_nn {v : List Int} (h : fine v = true) : ∀ x ∈ v, Nn x := by
  intro x hx
  have := List.all_eq_true.1 h x hx
  have := of_decide_eq_true this
  exact ⟨this.1, by omega⟩

/-- AN EVENT THAT CAN BE FITS. -/
theorem okev_fits {e : Ev} (hl : e.deps.length = 16) (h : okev e = true) : Fits e := by
  obtain ⟨h1, h2, h3, h4, h5, h6, h7, h8, h9⟩ := okev_parts h
  obtain ⟨p1, p2, p3⟩ := place_parts h1
  obtain ⟨d1, d2⟩ := dot_nn p2
  obtain ⟨k1, k2⟩ := of_decide_eq_true h4
  obtain ⟨t1, t2, t3⟩ := of_decide_eq_true h6
  obtain ⟨n1, n2⟩ := of_decide_eq_true h7
  obtain ⟨-, -, s3, s4, s5, s6, s7⟩ := (sameO_iff e (used e)).1 h8
  have uf : usesF e.kind = false → e.field = [] := fun hu => by rw [s3]; show (if usesF e.kind = true then _ else _) = _; rw [hu]; rfl
  have uv : usesV e.kind = false → e.value = [] := fun hu => by rw [s4]; show (if usesV e.kind = true then _ else _) = _; rw [hu]; rfl
  have un : usesN e.kind = false → e.num = 0 := fun hu => by rw [s5]; show (if usesN e.kind = true then _ else _) = _; rw [hu]; rfl
  have ur : usesR e.kind = false → e.rr = 0 ∧ e.rn = 0 := fun hu => by
    constructor
    · rw [s6]; show (if usesR e.kind = true then _ else _) = _; rw [hu]; rfl
    · rw [s7]; show (if usesR e.kind = true then _ else _) = _; rw [hu]; rfl
  have rr : Nn e.rr ∧ Nn e.rn := by
    rcases Bool.eq_false_or_eq_true (usesR e.kind) with hu | hu
    · unfold refE at h9
      split at h9
      · exact has_nn h9
      · split at h9
        · rw [Bool.or_eq_true] at h9
          rcases h9 with h9 | h9
          · obtain ⟨z1, z2⟩ := of_decide_eq_true h9
            rw [z1, z2]
            unfold Nn
            omega
          · exact has_nn h9
        · have := of_decide_eq_true hu
          omega
    · obtain ⟨z1, z2⟩ := ur hu
      rw [z1, z2]
      unfold Nn
      omega
  exact ⟨d1, d2, ⟨h2, by omega⟩, hl, fine_nn p1, ⟨k1, k2⟩, t1, ⟨t2, uf⟩, ⟨t3, uv⟩, ⟨⟨by omega, by omega⟩, un⟩, ⟨rr.1, rr.2, ur⟩⟩

theorem evb_parts (e : Ev) : evb e = [] ++ nm e.r ++ nm e.n ++ nm e.t ++ ns e.deps ++ opb e := by
  simp only [evb, opb, List.append_assoc, List.nil_append]
theorem ns_succ (d : List Int) (k : Nat) (hk : k < d.length) : ns (d.take (k + 1)) = ns (d.take k) ++ nm (d.getD k 0) := by
  unfold ns
  rw [List.take_succ_eq_append_getElem hk, List.flatMap_append, List.flatMap_singleton]
  simp [List.getD, hk]
theorem ns_len : ∀ d : List Int, (ns d).length ≤ 10 * d.length
  | [] => by simp [ns]
  | x :: d => by
    have h1 := ns_len d
    have h2 := nm_le x
    have e : ns (x :: d) = nm x ++ ns d := by simp [ns]
    rw [e, List.length_append, List.length_cons]; omega

set_option maxHeartbeats 1000000 in
theorem encode_no (e : Ev) (hl : e.deps.length = 16) (lk : Room e) (h : okev e = false) (w : World) : Calls Try.prog 36 #[.agg (evc e)] w fun e' w' => e' = .returned (.tuple #[.slice none 0 0, .int .i64 1]) ∧ Below w.heap.size w w' := by
  obtain ⟨hE, hB⟩ := boxedE w e
  have H0 : Hid (Below w.heap.size w (w.alloc (.cells (evc e) 30))) := hB
  have HK : Hid _ := h
  clear hB h
  go_enter Try.func36, Try.ntmps36
  go_wp2_with (refine load_ev rfl rfl rfl hE hl ?_)
  refine (eright_any e hl lk _).mono ?_
  rintro e1 w1 ⟨rfl, hb1⟩
  have H1 : Hid (Below w.heap.size w w1) := H0.out.trans (hb1.mono H0.out.size)
  clear hE hb1 H0
  rw [HK.out]
  go_wp2
  go_ret2
  exact ⟨rfl, H1.out⟩

set_option maxHeartbeats 1000000 in
theorem encode_ok (e : Ev) (hl : e.deps.length = 16) (lk : Room e) (h : okev e = true) (w : World) : Calls Try.prog 36 #[.agg (evc e)] w fun e' w' =>
    ∃ g c, e' = .returned (.tuple #[.slice (some ⟨g, 0, none⟩) (evb e).length c, .int .i64 0]) ∧ Bytes w' (some ⟨g, 0, none⟩) (evb e).length c (evb e) ∧ c ≤ maxLen ∧ Below w.heap.size w w' := by
  obtain ⟨hE, hB⟩ := boxedE w e
  have H0 : Hid (Below w.heap.size w (w.alloc (.cells (evc e) 30))) := hB
  have HK : Hid _ := h
  have hf := okev_fits hl h
  obtain ⟨q2, Q2⟩ : ∃ q, Hid ([] ++ nm e.r ++ nm e.n = q) := ⟨[] ++ nm e.r ++ nm e.n, rfl⟩
  obtain ⟨q3, Q3⟩ : ∃ q, Hid (q2 ++ nm e.t = q) := ⟨_, rfl⟩
  obtain ⟨q5, Q5⟩ : ∃ q, Hid (q3 ++ ns e.deps ++ opb e = q) := ⟨_, rfl⟩
  have Q6 : Hid (evb e = q5) := by
    show _ = _
    rw [evb_parts, ← Q5.out, ← Q3.out, ← Q2.out]
  have L2 : q2.length ≤ 20 := by
    have := nm_le e.r
    have := nm_le e.n
    rw [← Q2.out, List.length_append, List.length_append, List.length_nil]; omega
  have L3 : q3.length ≤ 30 := by
    have := nm_le e.t
    rw [← Q3.out, List.length_append]; omega
  have K2 : Hid (∀ W, Calls Try.prog 42 #[.slice none 0 0, .agg (dotc e.r e.n)] W fun e' w' => Out W w' e' q2) := fun W => by
    rw [← Q2.out]; exact putdot_any none 0 [] e.r e.n W (Bytes.nil W) (by simp) hf.r hf.n
  have K3 : Hid (∀ W ao c, Bytes W ao q2.length c q2 → Calls Try.prog 43 #[.slice ao q2.length c, .int .i64 e.t] W fun e' w' => Out W w' e' q3) := fun W ao c h => by
    rw [← Q3.out]; exact putnumber_any ao c q2 e.t W h (by omega) hf.t
  have LN : Hid (∀ k, k ≤ 16 → (q3 ++ ns (e.deps.take k)).length ≤ 190) := fun k hk => by
    have := ns_len (e.deps.take k)
    rw [List.length_take] at this
    rw [List.length_append]; omega
  have K4 : Hid (∀ k, k < 16 → ∀ W ao c, Bytes W ao (q3 ++ ns (e.deps.take k)).length c (q3 ++ ns (e.deps.take k)) → Calls Try.prog 43 #[.slice ao (q3 ++ ns (e.deps.take k)).length c, .int .i64 (e.deps.getD k 0)] W fun e' w' => Out W w' e' (q3 ++ ns (e.deps.take (k + 1)))) := fun k hk W ao c h => by
    have hkl : k < e.deps.length := by omega
    rw [ns_succ _ _ hkl, ← List.append_assoc]
    refine putnumber_any ao c _ _ W h (Nat.le_trans (LN.out k (by omega)) (by omega)) (hf.deps _ ?_)
    simp [List.getD, hkl]
  have K5 : Hid (∀ W ao c, Bytes W ao (q3 ++ ns (e.deps.take 16)).length c (q3 ++ ns (e.deps.take 16)) → Calls Try.prog 44 #[.slice ao (q3 ++ ns (e.deps.take 16)).length c, .agg (opc e)] W fun e' w' => Out W w' e' q5) := fun W ao c h => by
    have h16 := LN.out 16 (Nat.le_refl _)
    have et : e.deps.take 16 = e.deps := List.take_of_length_le (by omega)
    rw [et] at h h16 ⊢
    rw [← Q5.out]
    exact putop_any ao c _ e W h (by omega) hf
  have Z0 : Hid (q3 = q3 ++ ns (e.deps.take 0)) := by show _ = _; simp [ns]
  rw [Q6.out]
  clear hB h hf L2 L3 LN Q2 Q3 Q5 Q6
  go_enter Try.func36, Try.ntmps36
  go_wp2_with (refine load_ev rfl rfl rfl hE hl ?_)
  refine (eright_any e hl lk _).mono ?_
  rintro e1 w1 ⟨rfl, hb1⟩
  have hE1 := hE.below hb1 hE.lt
  have H1 : Hid (Below w.heap.size w w1) := H0.out.trans (hb1.mono H0.out.size)
  clear hE hb1 H0
  rw [HK.out]
  have hd := hE1.dot
  go_wp2_with (refine load_dot_at rfl rfl rfl hd ?_)
  refine Calls.mono (K2.out _) ?_
  rintro e2 w2 ⟨g2, c2, rfl, b2, m2, hb2⟩
  have hE2 := hE1.below hb2 hE1.lt
  have H2 : Hid (Below w.heap.size w w2) := H1.out.trans (hb2.mono H1.out.size)
  have Y2 : Hid _ := b2
  clear hE1 hd hb2 H1 b2 m2
  have ct := hE2.c2
  go_wp2_with fail
  refine Calls.mono (K3.out _ _ _ Y2.out) ?_
  rintro e3 w3 ⟨g3, c3, rfl, b3, m3, hb3⟩
  have hE3 := hE2.below hb3 hE2.lt
  have H3 : Hid (Below w.heap.size w w3) := H2.out.trans (hb3.mono H2.out.size)
  have Y3 : Hid _ := b3
  have M3 : Hid _ := m3
  clear hE2 ct hb3 H2 b3 m3 Y2
  have hd := hE3.deps hl
  go_wp2_with (refine load_vec_at rfl rfl rfl hd hl ?_)
  go_loopw [4, 19] (fun s i wr => ∃ (k g c : Nat), k ≤ 16 ∧ i = .int .i64 (k : Int) ∧ s = .slice (some ⟨g, 0, none⟩) (q3 ++ ns (e.deps.take k)).length c ∧ Bytes wr (some ⟨g, 0, none⟩) (q3 ++ ns (e.deps.take k)).length c (q3 ++ ns (e.deps.take k)) ∧ c ≤ maxLen ∧ LiesE wr w.heap.size e ∧ Below w.heap.size w wr) (fun _ i _ => 16 - (intOf i).toNat)
  case atStart =>
    refine ⟨0, g3, c3, by omega, rfl, ?_, ?_, M3.out, hE3, H3.out⟩
    · rw [← Z0.out]
    · rw [← Z0.out]; exact Y3.out
  case round =>
    obtain ⟨k, g, c, hk, rfl, rfl, hY, hM, hE, hB⟩ := hrel
    have HB : Hid (Below w.heap.size w wr) := hB
    have HE : Hid (LiesE wr w.heap.size e) := hE
    have HM : Hid _ := hM
    have ho := hE.op hl
    clear hE3 H3 Y3 M3 hd hB hE hM
    by_cases h : k < 16
    · have KK : Hid _ := K4.out k h wr _ c hY
      have hi := run_index_vec wr e.deps k hl h
      clear hY
      generalize q3 ++ ns (e.deps.take k) = p at *
      generalize e.deps.getD k 0 = x at *
      go_wp2_with fail
      refine Calls.mono KK.out ?_
      rintro e4 w4 ⟨g4, c4, rfl, b4, m4, hb4⟩
      have hE4 : Hid (LiesE w4 w.heap.size e) := HE.out.below hb4 HE.out.lt
      have H4 : Hid (Below w.heap.size w w4) := HB.out.trans (hb4.mono HB.out.size)
      have Y4 : Hid _ := b4
      have M4 : Hid _ := m4
      clear b4 m4 hb4 HE HB hi ho
      go_wp2
      go_roundw
      case rel => exact ⟨k + 1, g4, c4, by omega, by go_num, by rw [List.length_append], Y4.out, M4.out, hE4.out, H4.out⟩
      case measure => simp [intOf]; omega
    · obtain rfl : k = 16 := by omega
      have KK : Hid _ := K5.out wr _ c hY
      clear hY
      generalize q3 ++ ns (e.deps.take 16) = p at *
      go_wp2_with (refine load_op_at rfl rfl rfl ho ?_)
      refine Calls.mono KK.out ?_
      rintro e4 w4 ⟨g4, c4, rfl, b4, m4, hb4⟩
      have H4 : Hid (Below w.heap.size w w4) := HB.out.trans (hb4.mono HB.out.size)
      have Y4 : Hid _ := b4
      have M4 : Hid _ := m4
      clear b4 m4 hb4 HE HB ho
      go_wp2
      go_ret2
      exact ⟨g4, c4, rfl, Y4.out, M4.out, H4.out⟩
end Go.Proofs.Ythdhnilfkpbmpaa
