/-
  What slices.IndexFunc comes to over inTurn's function; what slices.Delete comes to at one place.
-/
import Derived.Test.YthpkpmcccpfabaaQms
import Derived.Laws.CopyRow
namespace Go.Proofs.Ythpkpmcccpfabaa
set_option maxRecDepth 100000
open Go.RowKit

theorem fields_ev {e : Ev} (he : e.deps.length = 16) : xl (eit e) = .int .i64 e.r :: .int .i64 e.n :: evl e := by
  show _ :: _ :: (evX e).l = _
  rw [evX_l he]; rfl
/-- An item's event. -/
theorem load_it2 {w : World} {g o : Nat} {e : Ev} (h : w.rangeAt g o (xl (eit e))) (he : e.deps.length = 16) : (loadVar 44 ⟨g, o + 2, none⟩).run Try.prog w = .ok (.agg (evc e)) w := by
  have hr : w.rangeAt g (o + 2) (evl e) := fun j u hu => by
    have := h (j + 2) u (by rw [fields_ev he, List.getElem?_cons_succ, List.getElem?_cons_succ]; exact hu)
    rw [show o + 2 + j = o + (j + 2) by omega]; exact this
  exact run_loadVar_mid (P := Try.prog) w g (o + 2) 44 _ _ hr Try.underlying44 rfl (size26 e he)
theorem field_it1 (w : World) (g o : Nat) : (Instr.fieldAt 74 (.pointer (some ⟨g, o, none⟩)) 1).run Try.prog w = .ok (.pointer (some ⟨g, o + 2, none⟩)) w := by go_simp
set_option maxHeartbeats 400000 in
theorem inturnf_any (e : Ev) (v : List Int) (hw : Wide e) (hd : okdot e.r e.n = true) (hv : v.length = 16) (Bv : Nat) (w : World) (hV : Lies w Bv v) :
    Calls Try.prog 34 #[.agg (xc (eit e)), .pointer (some ⟨Bv, 0, none⟩)] w fun ex w' => ex = .returned (.bool (mayE e v)) ∧ Below w.heap.size w w' := by
  have he16 := hw.1
  have hb : Below w.heap.size w (w.alloc (.cells (xc (eit e)) 74)) := (Below.refl _ w).alloc (Nat.le_refl _) _
  have hx := heap_alloc_new w (.cells (xc (eit e)) 74)
  have hV1 := hV.alloc (.cells (xc (eit e)) 74)
  generalize hWw : w.alloc (.cells (xc (eit e)) 74) = W at *
  have hr : W.rangeAt w.heap.size 0 (xl (eit e)) := fun j u hu => by
    rw [Nat.zero_add, cell_of_row W _ j _ _ _ hx]
    simpa [xc] using hu
  have hld := load_it2 hr he16
  have hfl := field_it1 W w.heap.size 0
  rw [Nat.zero_add] at hld hfl
  have hlv := load_v hV1 hv
  have hM := maysee_any e v hw hd hv W
  clear hr hx hV hV1
  go_enter Try.func34, Try.ntmps34
  go_wp2_with (first
    | (refine wpList_loadR (ty := 44) (x := .tmp 4) (ad := ⟨w.heap.size, 2, none⟩) (v := .agg (evc e)) rfl rfl rfl hld ?_)
    | (refine wpList_loadR (ty := 40) (x := .tmp 1) (ad := ⟨Bv, 0, none⟩) (v := .agg (vals v)) rfl rfl rfl hlv ?_))
  refine Calls.mono hM ?_
  rintro ex w1 ⟨rfl, hb1⟩
  go_wp2
  go_ret
  exact ⟨rfl, hb.trans (hb1.mono hb.size)⟩
/-- The first place of one that may be seen, or -1. -/
def idxQ (S : List Ev) (v : List Int) : Int := match S.findIdx? (fun e => mayE e v) with
  | none => -1
  | some k => (k : Int)
theorem ld_it {w : World} {g off : Nat} {e : Ev} (h : w.rangeAt g off (xl (eit e))) : (loadVar 74 ⟨g, off, none⟩).run Try.prog w = .ok (.agg (xc (eit e))) w := E.ld_mid h
theorem index_it (w : World) {b k m c : Nat} (hk : k < m) : (Instr.indexAt 60 (.slice (some ⟨b, 0, none⟩) m c) (.int .i64 (k : Int))).run Try.prog w = .ok (.pointer (some ⟨b, k * 28, none⟩)) w := by
  have hk' : (k : Int) < (m : Int) := by omega
  go_simp
/-- Items that events are. -/
abbrev Ws (w : World) (base : Nat) (v : Value) (S : List Ev) : Prop := E.Rw 74 w base v (S.map eit)
theorem Ws.atq {w : World} {base : Nat} {v : Value} {S : List Ev} (h : Ws w base v S) {k : Nat} (hk : k < S.length) : ∃ g cap e, v = .slice (some ⟨g, 0, none⟩) S.length cap ∧ S.length ≤ cap ∧ S[k]? = some e ∧ base ≤ g ∧ g < w.heap.size ∧ w.rangeAt g (k * 28) (xl (eit e)) ∧ ∃ cur, w.heap[g]? = some (.cells cur 74 (0, 0)) := by
  obtain ⟨g, cap, i, h1, h2, h3, h4, h5, h6, h7⟩ := E.Rw.atx h (k := k) (by rw [List.length_map]; exact hk)
  rw [List.length_map] at h1 h2
  obtain ⟨e, he⟩ : ∃ e, S[k]? = some e := ⟨_, List.getElem?_eq_getElem hk⟩
  rw [List.getElem?_map, he] at h3
  have : eit e = i := by simpa using h3
  subst this
  exact ⟨g, cap, e, h1, h2, he, h4, h5, h6, h7⟩
set_option maxHeartbeats 1000000 in
theorem qindex_any (S : List Ev) (v : List Int) (hS : ∀ e ∈ S, Wide e ∧ okdot e.r e.n = true) (hv : v.length = 16) (Bv base : Nat) (vw : Value) (w : World) (hrow : Ws w base vw S) (hV : Lies w Bv v) :
    Calls Try.prog 33 #[vw, .func (.func 34) #[] #[.pointer (some ⟨Bv, 0, none⟩)]] w fun e w' => e = .returned (.int .i64 (idxQ S v)) ∧ Below w.heap.size w w' := by
  obtain ⟨ao, cap, hvv, hnc, hcm⟩ := E.Rw.val hrow
  rw [List.length_map] at hvv hnc
  have hcm' : S.length ≤ 9223372036854775807 := by unfold maxLen at hcm; omega
  obtain ⟨n, hn⟩ : ∃ n, S.length = n := ⟨_, rfl⟩
  have hv0 := hvv
  rw [hn] at hv0 hcm'
  rw [hv0]
  go_enter Try.func33, Try.ntmps33
  go_wp2
  go_loopw [8] (fun c wr => ∃ k : Nat, k ≤ n ∧ c = .int .i64 (k : Int) ∧ (∀ j, j < k → ∀ i, S[j]? = some i → mayE i v = false) ∧ Below w.heap.size w wr) (fun c _ => n - (intOf c).toNat)
  case atStart => exact ⟨0, Nat.zero_le _, rfl, fun j hj => absurd hj (Nat.not_lt_zero _), Below.refl _ _⟩
  case round =>
    obtain ⟨k, hk, rfl, hno, hB⟩ := hrel
    have hR : Ws wr base vw S := hrow.below hB (Nat.le_refl _)
    have hVr : Lies wr Bv v := hV.below hB hV.lt
    by_cases hlt : k < n
    · have hlt' : (k : Int) < (n : Int) := by omega
      obtain ⟨g, cap', e, hv', -, hi, hbg, hgl, hrg, -⟩ := hR.atq (k := k) (by omega)
      rw [hvv] at hv'
      simp only [Value.slice.injEq] at hv'
      obtain ⟨rfl, -, rfl⟩ := hv'
      have hld := ld_it hrg
      obtain ⟨hwe, hde⟩ := hS e (List.mem_of_getElem? hi)
      have hc := inturnf_any e v hwe hde hv Bv wr hVr
      rcases Bool.eq_false_or_eq_true (mayE e v) with hpi | hpi
      · have hf : S.findIdx? (fun e => mayE e v) = some k := by
          rw [List.findIdx?_eq_some_iff_getElem]
          obtain ⟨h1, h2⟩ := List.getElem?_eq_some_iff.1 hi
          refine ⟨h1, by rw [h2]; exact hpi, fun j hj => ?_⟩
          have := hno j hj _ (List.getElem?_eq_getElem (by omega))
          simpa using this
        have HR : Hid (idxQ S v = (k : Int)) := show idxQ S v = (k : Int) from (by unfold idxQ; rw [hf])
        rw [hpi] at hc
        clear hno hrow hvv hf hR hrg hS hVr hV
        go_wp2_with (first | (refine wpList_loadR (ty := 74) (x := .tmp 14) (ad := ⟨g, k * 28, none⟩) (v := .agg (xc (eit e))) rfl rfl rfl hld ?_))
        refine Calls.mono hc ?_
        rintro ex w2 ⟨rfl, hb2⟩
        have HB2 : Hid (Below w.heap.size w w2) := hB.trans (hb2.mono hB.size)
        go_wp2
        go_ret
        exact ⟨by rw [HR.out]; rfl, HB2.out⟩
      · rw [hpi] at hc
        have hno' : Hid (∀ j, j < k + 1 → ∀ i, S[j]? = some i → mayE i v = false) := fun j hj x hx => by
          by_cases e1 : j = k
          · subst e1; rw [hi] at hx; cases hx; exact hpi
          · exact hno j (by omega) x hx
        clear hno hR hrg hrow hS hVr
        go_wp2_with (first | (refine wpList_loadR (ty := 74) (x := .tmp 14) (ad := ⟨g, k * 28, none⟩) (v := .agg (xc (eit e))) rfl rfl rfl hld ?_))
        refine Calls.mono hc ?_
        rintro ex w2 ⟨rfl, hb2⟩
        have HB2 : Hid (Below w.heap.size w w2) := hB.trans (hb2.mono hB.size)
        go_wp2
        go_roundw
        case rel => exact ⟨k + 1, by omega, by go_num, hno'.out, HB2.out⟩
        case measure => simp [intOf]; omega
    · have hlt' : ¬ (k : Int) < (n : Int) := by omega
      have hf : S.findIdx? (fun e => mayE e v) = none := by
        rw [List.findIdx?_eq_none_iff]
        intro x hx
        obtain ⟨j, hj⟩ := List.getElem?_of_mem hx
        exact hno j (by have := (List.getElem?_eq_some_iff.1 hj).1; omega) x hj
      have HR : Hid (idxQ S v = -1) := show idxQ S v = -1 from (by unfold idxQ; rw [hf])
      clear hno hf hR hrow hS hVr
      go_wp2
      go_ret
      exact ⟨by rw [HR.out]; rfl, hB⟩
end Go.Proofs.Ythpkpmcccpfabaa
