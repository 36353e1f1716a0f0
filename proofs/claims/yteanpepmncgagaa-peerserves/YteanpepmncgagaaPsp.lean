/-
  What is told may be seen, plainly; rows of vectors; what PeerServes keeps.
-/
import Derived.Test.YteanpepmncgagaaPsm
import Derived.Laws.AppendOwn
namespace Go.Proofs.Yteanpepmncgagaa
set_option maxRecDepth 100000
open Go.RowKit

def V (L : List Ev) (t : Nat) : List Int := vs (L.take t) zeros
/-- Each may be seen behind those ahead of it. -/
def Chn (L : List Ev) : Prop := ∀ i x, L[i]? = some x → mayE x (V L i) = true ∧ okdot x.r x.n = true
section
variable {L : List Ev}
theorem V_zero : V L 0 = zeros := rfl
theorem V_len (t : Nat) : (V L t).length = 16 := vs_length _ _
theorem V_succ {t : Nat} {x : Ev} (h : L[t]? = some x) : V L (t + 1) = seeV (V L t) x := by
  unfold V; rw [take_snoc h, vs_snoc]
theorem V_end {t : Nat} (h : L.length ≤ t) : V L (t + 1) = V L t := by
  unfold V; rw [List.take_of_length_le (by omega), List.take_of_length_le h]
theorem okdot_r {r n : Int} (h : okdot r n = true) : r.toNat < 16 := by
  obtain ⟨h0, h1, -, -⟩ := of_decide_eq_true h
  omega
theorem V_step (hC : Chn L) (t j : Nat) : (V L t).getD j 0 ≤ (V L (t + 1)).getD j 0 := by
  cases h : L[t]? with
  | none => rw [V_end (by simpa using h)]; exact Int.le_refl _
  | some x => rw [V_succ h]; exact see_mono (hC t x h).1 j
theorem V_mono (hC : Chn L) {s t : Nat} (h : s ≤ t) (j : Nat) : (V L s).getD j 0 ≤ (V L t).getD j 0 := by
  induction t with
  | zero => obtain rfl : s = 0 := by omega
            exact Int.le_refl _
  | succ t ih =>
    by_cases he : s = t + 1
    · subst he; exact Int.le_refl _
    · exact Int.le_trans (ih (by omega)) (V_step hC t j)
theorem V_hit (hC : Chn L) {i : Nat} {x : Ev} (h : L[i]? = some x) : (V L (i + 1)).getD x.r.toNat 0 = x.n := by
  rw [V_succ h, seeV_getD, if_pos ⟨rfl, by rw [V_len]; exact okdot_r (hC i x h).2⟩]
theorem has_iff (hC : Chn L) {i t : Nat} {x : Ev} (h : L[i]? = some x) : hasv (V L t) x.r x.n = decide (i < t) := by
  have hd := (hC i x h).2
  unfold hasv
  rw [hd, Bool.true_and]
  by_cases hit : i < t
  · rw [decide_eq_true hit]
    refine decide_eq_true ?_
    have := V_mono hC (show i + 1 ≤ t by omega) x.r.toNat
    rw [V_hit hC h] at this
    exact this
  · rw [decide_eq_false hit]
    refine decide_eq_false ?_
    have h1 := V_mono hC (show t ≤ i by omega) x.r.toNat
    have h2 := mayE_num (hC i x h).1
    omega
theorem for_mid (hC : Chn L) {j n : Nat} : L.filter (tellE (V L j) (V L n)) = (L.take n).drop j := by
  have hp : ∀ i x, L[i]? = some x → tellE (V L j) (V L n) x = (decide (i < n) && !decide (i < j)) := fun i x h => by
    unfold tellE; rw [has_iff hC h, has_iff hC h]
  have hL : L = (L.take n).take j ++ ((L.take n).drop j ++ L.drop n) := by rw [← List.append_assoc, List.take_append_drop, List.take_append_drop]
  have e1 : ((L.take n).take j).filter (tellE (V L j) (V L n)) = [] := by
    rw [List.filter_eq_nil_iff]
    intro x hx
    obtain ⟨i, hi⟩ := List.getElem?_of_mem hx
    have hil := (List.getElem?_eq_some_iff.1 hi).1
    rw [List.length_take, List.length_take] at hil
    rw [List.getElem?_take_of_lt (by omega), List.getElem?_take_of_lt (by omega)] at hi
    rw [hp i x hi, decide_eq_true (show i < j by omega)]
    simp
  have e2 : ((L.take n).drop j).filter (tellE (V L j) (V L n)) = (L.take n).drop j := by
    rw [List.filter_eq_self]
    intro x hx
    obtain ⟨i, hi⟩ := List.getElem?_of_mem hx
    rw [List.getElem?_drop] at hi
    have hil := (List.getElem?_eq_some_iff.1 hi).1
    rw [List.length_take] at hil
    rw [List.getElem?_take_of_lt (by omega)] at hi
    rw [hp _ x hi, decide_eq_true (show j + i < n by omega), decide_eq_false (show ¬ j + i < j by omega)]
    rfl
  have e3 : (L.drop n).filter (tellE (V L j) (V L n)) = [] := by
    rw [List.filter_eq_nil_iff]
    intro x hx
    obtain ⟨i, hi⟩ := List.getElem?_of_mem hx
    rw [List.getElem?_drop] at hi
    rw [hp _ x hi, decide_eq_false (show ¬ n + i < n by omega)]
    simp
  conv => lhs; rw [hL]
  rw [List.filter_append, List.filter_append, ← hL, e1, e2, e3, List.nil_append, List.append_nil]
/-- What For tells. -/
theorem for_serve (hC : Chn L) {j n : Nat} (m : Nat) : forE L (V L j) (V L n) (m : Int) = (L.take (min (j + m) n)).drop j := by
  unfold forE
  rw [for_mid hC, Int.toNat_natCast, List.take_drop, List.take_take]
theorem serve_at {j m n i : Nat} {x : Ev} (h : ((L.take (min (j + m) n)).drop j)[i]? = some x) : L[j + i]? = some x := by
  rw [List.getElem?_drop] at h
  have hl := (List.getElem?_eq_some_iff.1 h).1
  rw [List.length_take] at hl
  rwa [List.getElem?_take_of_lt (by omega)] at h
theorem zeros_get0 (i : Nat) : zeros.getD i 0 = 0 := by
  have e : zeros = List.replicate 16 0 := rfl
  rw [e, List.getD_eq_getElem?_getD, List.getElem?_replicate]
  split <;> rfl
theorem V_fit (hC : Chn L) (t : Nat) : Fit (V L t) := by
  induction t with
  | zero => intro j; rw [V_zero, zeros_get0]; omega
  | succ t ih =>
    cases h : L[t]? with
    | none => rw [V_end (by simpa using h)]; exact ih
    | some x =>
      rw [V_succ h]
      intro j
      rw [seeV_getD]
      obtain ⟨-, -, h2, h3⟩ := of_decide_eq_true (hC t x h).2
      split
      · constructor <;> omega
      · exact ih j
theorem chn_snoc {x : Ev} (hC : Chn L) (h : mayE x (V L L.length) = true) (hd : okdot x.r x.n = true) : Chn (L ++ [x]) := fun i y hy => by
  by_cases hi : i < L.length
  · rw [List.getElem?_append_left hi] at hy
    have e : V (L ++ [x]) i = V L i := by unfold V; rw [List.take_append_of_le_length (by omega)]
    rw [e]; exact hC i y hy
  · have hil : i < (L ++ [x]).length := (List.getElem?_eq_some_iff.1 hy).1
    rw [List.length_append] at hil
    simp only [List.length_singleton] at hil
    obtain rfl : i = L.length := by omega
    rw [List.getElem?_append_right (Nat.le_refl _), Nat.sub_self] at hy
    obtain rfl : x = y := by simpa using hy
    have e : V (L ++ [x]) L.length = V L L.length := by unfold V; rw [List.take_append_of_le_length (Nat.le_refl _)]
    rw [e]; exact ⟨h, hd⟩
theorem V_snoc (x : Ev) : V (L ++ [x]) (L.length + 1) = seeV (V L L.length) x := by
  unfold V
  rw [List.take_of_length_le (by simp), vs_append, List.take_of_length_le (Nat.le_refl _)]
  rfl
/-- All vectors from nothing on. -/
def Vs (L : List Ev) : List (List Int) := (List.range (L.length + 1)).map (V L)
theorem Vs_len : (Vs L).length = L.length + 1 := by simp [Vs]
theorem Vs_get {t : Nat} (h : t ≤ L.length) : (Vs L)[t]? = some (V L t) := by simp [Vs, show t < L.length + 1 by omega]
theorem Vs_snoc (x : Ev) : Vs (L ++ [x]) = Vs L ++ [V (L ++ [x]) (L.length + 1)] := by
  unfold Vs
  rw [List.length_append, List.length_singleton, List.range_succ, List.map_append]
  congr 1
  apply List.map_congr_left
  intro t ht
  rw [List.mem_range] at ht
  unfold V
  rw [List.take_append_of_le_length (by omega)]
end
/-! Rows of vectors. -/
def vvs (U : List (List Int)) : List Value := U.flatMap fun l => l.map (Value.int .i64)
theorem vvs_length : ∀ {U : List (List Int)}, (∀ l ∈ U, l.length = 16) → (vvs U).length = U.length * 16
  | [], _ => rfl
  | l :: U, h => by
    have ih := vvs_length (U := U) (fun x hx => h x (by simp [hx]))
    have e1 : vvs (l :: U) = l.map (Value.int .i64) ++ vvs U := by simp [vvs]
    rw [e1, List.length_append, ih, List.length_map, h l (by simp), List.length_cons]; omega
theorem vvs_append (U W : List (List Int)) : vvs (U ++ W) = vvs U ++ vvs W := by simp [vvs]
theorem vvs_one (U : List (List Int)) : ∀ u ∈ vvs U, u.oneCell' = true := by
  intro u hu
  obtain ⟨l, -, h⟩ := List.mem_flatMap.1 hu
  obtain ⟨x, -, rfl⟩ := List.mem_map.1 h
  rfl
theorem vvs_at : ∀ {U : List (List Int)}, (∀ l ∈ U, l.length = 16) → ∀ (i : Nat) (l : List Int), U[i]? = some l → ∀ (j : Nat) (v : Value), (l.map (Value.int .i64))[j]? = some v → (vvs U)[i * 16 + j]? = some v
  | [], _, i, l, hi, j, v, hv => by simp at hi
  | x :: U, h, i, l, hi, j, v, hv => by
    have h1 : (x.map (Value.int .i64)).length = 16 := by rw [List.length_map]; exact h x (by simp)
    have e1 : vvs (x :: U) = x.map (Value.int .i64) ++ vvs U := by simp [vvs]
    cases i with
    | zero =>
      have : x = l := by simpa using hi
      subst this
      have hj : j < 16 := by have := (List.getElem?_eq_some_iff.1 hv).1; omega
      rw [e1, Nat.zero_mul, Nat.zero_add, List.getElem?_append_left (by omega)]
      exact hv
    | succ i =>
      rw [e1, List.getElem?_append_right (by omega), h1, show (i + 1) * 16 + j - 16 = i * 16 + j by omega]
      exact vvs_at (fun y hy => h y (by simp [hy])) i l (by simpa using hi) j v hv
/-- A row of vectors of the program's own. -/
abbrev RV (w : World) (base : Nat) (v : Value) (U : List (List Int)) : Prop := w.ownsRow base 35 16 v U.length (vvs U)
section
variable {w w' : World} {base : Nat} {v : Value} {U : List (List Int)}
theorem RV.block (h : RV w base v U) {k : Nat} (hk : v.ownBlock = some k) : base ≤ k ∧ ∃ cur, w.heap[k]? = some (.cells cur 35 (0, 0)) := by
  rcases h.2 with ⟨rfl, -⟩ | ⟨g, cap, cur, rfl, hb, hg, rest⟩
  · cases hk
  · simp only [Value.ownBlock, Option.some.injEq] at hk
    subst hk
    exact ⟨hb, cur, hg⟩
theorem RV.lt (h : RV w base v U) {k : Nat} (hk : v.ownBlock = some k) : k < w.heap.size := by
  obtain ⟨-, cur, hc⟩ := h.block hk
  exact (Array.getElem?_eq_some_iff.1 hc).1
theorem RV.kept (h : RV w base v U) (hb : ∀ k, v.ownBlock = some k → w'.heap[k]? = w.heap[k]?) : RV w' base v U := by
  refine ⟨h.1, ?_⟩
  rcases h.2 with hn | ⟨g, cap, cur, e, hbg, hg, rest⟩
  · exact .inl hn
  · exact .inr ⟨g, cap, cur, e, hbg, (hb g (by rw [e]; rfl)).trans hg, rest⟩
theorem RV.below {B : Nat} (h : RV w base v U) (hb : Below B w w') (hB : w.heap.size ≤ B) : RV w' base v U := h.kept fun k hk => hb.block k (by have := h.lt hk; omega)
theorem RV.at (h : RV w base v U) (hU : ∀ l ∈ U, l.length = 16) {i : Nat} {l : List Int} (hi : U[i]? = some l) : ∃ g c, v = .slice (some ⟨g, 0, none⟩) U.length c ∧ base ≤ g ∧ w.rangeAt g (i * 16) (l.map (Value.int .i64)) ∧ g < w.heap.size := by
  rcases h.2 with ⟨rfl, h0⟩ | ⟨g, cap, cur, rfl, hb, hg, hnc, hcm, hcs, htake⟩
  · have := (List.getElem?_eq_some_iff.1 hi).1
    omega
  · have hil := (List.getElem?_eq_some_iff.1 hi).1
    have hl := hU l (List.mem_of_getElem? hi)
    refine ⟨g, cap, rfl, hb, fun j u hu => ?_, (Array.getElem?_eq_some_iff.1 hg).1⟩
    have hj : j < 16 := by have := (List.getElem?_eq_some_iff.1 hu).1; rw [List.length_map, hl] at this; exact this
    have h1 := vvs_at hU i l hi j u hu
    rw [← htake, List.getElem?_take_of_lt (by omega), Array.getElem?_toList] at h1
    rw [cell_of_row w g _ _ _ _ hg, h1]
theorem RV.val (h : RV w base v U) : ∃ a c, v = .slice a U.length c := by
  rcases h.2 with ⟨rfl, h0⟩ | ⟨g, cap, cur, rfl, -⟩
  · exact ⟨none, 0, by rw [h0]⟩
  · exact ⟨_, _, rfl⟩
end
theorem vv_info : ∃ i, Try.prog.info? 35 = some i ∧ i.zero = some (.agg (vals zeros)) ∧ i.size = 16 ∧ i.bytes = 128 := by
  have h : (Try.prog.info? 35).map (fun i => (i.zero, i.size, i.bytes)) = some (some (.agg (vals zeros)), 16, 128) := by kernel_rfl
  cases hi : Try.prog.info? 35 with
  | none => rw [hi] at h; cases h
  | some i =>
    rw [hi] at h
    simp only [Option.map_some, Option.some.injEq, Prod.mk.injEq] at h
    exact ⟨i, rfl, h.1, h.2.1, h.2.2⟩
theorem rv_build (w : World) (l : List Int) (hl : l.length = 16) : (Instr.buildSlice 50 1 #[(0, .agg (vals l))]).run Try.prog w = .ok (.slice (some ⟨w.heap.size, 0, none⟩) 1 1) (w.alloc (.cells (vals l) 35)) := by
  obtain ⟨i0, hi, hz0, hz1, hz2⟩ := vv_info
  refine run_buildSlice w 50 35 1 _ (vals l) i0 _ Try.underlying50 hi hz0 (by rw [hz1]; decide) (by rw [hz1]; decide) ?_
  rw [hz1]
  have := Great.fill_whole (s := 16) (by omega) [.agg (vals l)] ((Array.range (1 * 16)).map ((Value.agg (vals zeros)).cells[· % (Value.agg (vals zeros)).cells.size]!)) (by
    intro v hv
    rw [List.mem_singleton.1 hv]
    show (vals l).size = 16
    rw [vals_size, hl]) (by simp)
  refine Eq.trans this ?_
  simp [Value.cells]
/-- One vector more. -/
theorem rv_push {w : World} {base : Nat} {v : Value} {U : List (List Int)} {l : List Int} (ty : TypeId) (h : RV w base v U) (hl : l.length = 16) (hm : U.length ≤ 1000) (hb : base ≤ w.heap.size) :
    ∃ v' w', (Builtin.append_ #[50, 50] ty #[v, .slice (some ⟨w.heap.size, 0, none⟩) 1 1]).run Try.prog (w.alloc (.cells (vals l) 35)) = .ok v' w' ∧ RV w' base v' (U ++ [l]) ∧ (w.alloc (.cells (vals l) 35)).grownBy w' v.ownBlock := by
  obtain ⟨i0, hi, hz0, hz1, hz2⟩ := vv_info
  have hb1 : Below w.heap.size w (w.alloc (.cells (vals l) 35)) := (Below.refl _ w).alloc (Nat.le_refl _) _
  have hnew := lies_new w l
  have e1 : vvs [l] = l.map (Value.int .i64) := by simp [vvs]
  obtain ⟨v', w', hr, h2, h3, -⟩ := run_append_own (P := Try.prog) (w.alloc (.cells (vals l) 35)) base 50 ty 35 i0 (.agg (vals zeros)) 16 i0.bytes Try.underlying50 hi hz0 hz1 rfl (by show (vals zeros).size = 16; rfl) (by omega) v U.length (vvs U) (h.below hb1 (Nat.le_refl _)) ⟨w.heap.size, 0, none⟩ 1 1 (vvs [l]) (by rw [e1, List.length_map, hl]) (fun j u hu => by
    rw [e1] at hu
    rw [Addr.add_mid, Nat.zero_add, cell_of_row _ w.heap.size j _ _ _ hnew, vals, List.getElem?_toArray]
    exact hu) (vvs_one [l]) (by unfold maxLen; omega) (by rw [hz2]; omega) (Nat.le_trans hb hb1.size)
  refine ⟨v', w', hr, ?_, h3⟩
  rw [RV, vvs_append, List.length_append]
  exact h2
end Go.Proofs.Yteanpepmncgagaa
