/-
  What slices.Delete comes to at one place of a row.
-/
import Derived.Test.YthpkpmcccpfabaaQix
import Derived.Test.YthpkpmcccpfabaaYdee
namespace Go.Proofs.Ythpkpmcccpfabaa.E
set_option maxRecDepth 100000
open Go.RowKit

section
variable {o : Oper} {a : Act} {w w' : World} {K : Act → World → Prop} {Q : Exit → Act → World → Prop} {x y : Operand} {v p q : Value} {ty t1 t2 : TypeId}
theorem y_slice {lo hi mx : Option Operand} (ho : o.op = .slice ty x lo hi mx) (hx : a.eval x = p) (hr : (Instr.sliceAt ty p (lo.map a.eval) (hi.map a.eval) (mx.map a.eval)).run Try.prog w = .ok v w) : (execOp a.eval o).run Try.prog w = .ok (.value v) w := by
  unfold execOp; simp only [ho, hx, Sem.run_bind, hr, Result.andThen_ok, Sem.run_pure]
theorem y_app (ho : o.op = .call { callee := .builtin .append, args := #[x, y], argTypes := #[t1, t2] }) (hx : a.eval x = p) (hy : a.eval y = q) (hr : (Builtin.append_ #[t1, t2] o.type #[p, q]).run Try.prog w = .ok v w') (h : K (a.put o.dst v) w') : o.wp Try.prog a w K Q := by
  unfold Oper.wp execOp
  simp only [ho, resolve, invoke, builtin, Sem.run_bind, Sem.run_pure, Result.andThen_ok, List.map_toArray, List.map_cons, List.map_nil, hx, hy, hr]
  exact h
end
theorem xs_take {k : Nat} (R : List (It (Cx k))) (a : Nat) (ha : a ≤ R.length) : xs (R.take a) = (xs R).take (a * (k + 2)) := by
  have := xs_append (R.take a) (R.drop a)
  rw [List.take_append_drop] at this
  have hL : (xs (R.take a)).length = a * (k + 2) := by rw [xs_length, List.length_take, Nat.min_eq_left (by omega)]
  rw [this, ← hL, List.take_left]
theorem xs_drop {k : Nat} (R : List (It (Cx k))) (a : Nat) (ha : a ≤ R.length) : xs (R.drop a) = (xs R).drop (a * (k + 2)) := by
  have := xs_append (R.take a) (R.drop a)
  rw [List.take_append_drop] at this
  have hL : (xs (R.take a)).length = a * (k + 2) := by rw [xs_length, List.length_take, Nat.min_eq_left (by omega)]
  rw [this, ← hL, List.drop_left]
/-- A beginning of a row. -/
theorem Rw.cut {w : World} {base g n cap a : Nat} {R : List (It (Cx 26))} (h : Rw 74 w base (.slice (some ⟨g, 0, none⟩) n cap) R) (ha : a ≤ n) : Rw 74 w base (.slice (some ⟨g, 0, none⟩) a cap) (R.take a) := by
  rcases h.2 with ⟨hv, -⟩ | ⟨g', cap', cur, hv, hbg, hg, hn, hc, hcs, htk⟩
  · cases hv
  · simp only [Value.slice.injEq, Option.some.injEq, Addr.mk.injEq, and_true] at hv
    obtain ⟨rfl, rfl, rfl⟩ := hv
    refine ⟨by rw [xs_length], .inr ⟨g, cap, cur, by rw [List.length_take, Nat.min_eq_left (by omega)], hbg, hg, by rw [List.length_take]; omega, hc, hcs, ?_⟩⟩
    rw [List.length_take, Nat.min_eq_left (by omega), xs_take R a ha, ← htk, List.take_take]
    congr 1
    omega
/-- What lies behind a row is cleared. -/
theorem Rw.clearPast {w : World} {base g a cap d : Nat} {R : List (It (Cx 26))} (h : Rw 74 w base (.slice (some ⟨g, 0, none⟩) a cap) R) (ha : a + (d + 1) ≤ cap) :
    ∃ w', (∀ ty c, (Builtin.clear_ #[60] ty #[.slice (some ⟨g, a * 28, none⟩) (d + 1) c]).run Try.prog w = .ok (.tuple #[]) w') ∧ Rw 74 w' base (.slice (some ⟨g, 0, none⟩) a cap) R ∧ w.grownBy w' (some g) := by
  rcases h.2 with ⟨hv, -⟩ | ⟨g', cap', cur, hv, hbg, hg, hn, hc, hcs, htk⟩
  · cases hv
  · simp only [Value.slice.injEq, Option.some.injEq, Addr.mk.injEq, and_true] at hv
    obtain ⟨rfl, rfl, rfl⟩ := hv
    have hzs : (#[Value.int IntKind.i64 0, Value.int IntKind.i64 0, Value.int IntKind.i64 0, Value.int IntKind.i64 0, Value.int IntKind.i64 0, Value.int IntKind.i64 0, Value.int IntKind.i64 0, Value.int IntKind.i64 0, Value.int IntKind.i64 0, Value.int IntKind.i64 0, Value.int IntKind.i64 0, Value.int IntKind.i64 0, Value.int IntKind.i64 0, Value.int IntKind.i64 0, Value.int IntKind.i64 0, Value.int IntKind.i64 0, Value.int IntKind.i64 0, Value.int IntKind.i64 0, Value.int IntKind.i64 0, Value.int IntKind.i64 0, Value.int IntKind.i64 0, Value.int IntKind.i64 0, Value.string { data := #[] }, Value.string { data := #[] }, Value.string { data := #[] }, Value.int IntKind.i64 0, Value.int IntKind.i64 0, Value.int IntKind.i64 0] : Array Value).size = 28 := rfl
    have hzo : ∀ u ∈ (#[Value.int IntKind.i64 0, Value.int IntKind.i64 0, Value.int IntKind.i64 0, Value.int IntKind.i64 0, Value.int IntKind.i64 0, Value.int IntKind.i64 0, Value.int IntKind.i64 0, Value.int IntKind.i64 0, Value.int IntKind.i64 0, Value.int IntKind.i64 0, Value.int IntKind.i64 0, Value.int IntKind.i64 0, Value.int IntKind.i64 0, Value.int IntKind.i64 0, Value.int IntKind.i64 0, Value.int IntKind.i64 0, Value.int IntKind.i64 0, Value.int IntKind.i64 0, Value.int IntKind.i64 0, Value.int IntKind.i64 0, Value.int IntKind.i64 0, Value.int IntKind.i64 0, Value.string { data := #[] }, Value.string { data := #[] }, Value.string { data := #[] }, Value.int IntKind.i64 0, Value.int IntKind.i64 0, Value.int IntKind.i64 0] : Array Value), u.oneCell' = true := by
      have h1 := xc_one (⟨0, 0, zx⟩ : It (Cx 26))
      rw [zx_cells, Array.all_eq_true_iff_forall_mem] at h1
      exact h1
    have hzl : (Builtin.zeroCells #[Value.int IntKind.i64 0, Value.int IntKind.i64 0, Value.int IntKind.i64 0, Value.int IntKind.i64 0, Value.int IntKind.i64 0, Value.int IntKind.i64 0, Value.int IntKind.i64 0, Value.int IntKind.i64 0, Value.int IntKind.i64 0, Value.int IntKind.i64 0, Value.int IntKind.i64 0, Value.int IntKind.i64 0, Value.int IntKind.i64 0, Value.int IntKind.i64 0, Value.int IntKind.i64 0, Value.int IntKind.i64 0, Value.int IntKind.i64 0, Value.int IntKind.i64 0, Value.int IntKind.i64 0, Value.int IntKind.i64 0, Value.int IntKind.i64 0, Value.int IntKind.i64 0, Value.string { data := #[] }, Value.string { data := #[] }, Value.string { data := #[] }, Value.int IntKind.i64 0, Value.int IntKind.i64 0, Value.int IntKind.i64 0] (d + 1)).toList.length = (d + 1) * 28 := by simp [Builtin.zeroCells]
    have hone : ∀ u ∈ (Builtin.zeroCells #[Value.int IntKind.i64 0, Value.int IntKind.i64 0, Value.int IntKind.i64 0, Value.int IntKind.i64 0, Value.int IntKind.i64 0, Value.int IntKind.i64 0, Value.int IntKind.i64 0, Value.int IntKind.i64 0, Value.int IntKind.i64 0, Value.int IntKind.i64 0, Value.int IntKind.i64 0, Value.int IntKind.i64 0, Value.int IntKind.i64 0, Value.int IntKind.i64 0, Value.int IntKind.i64 0, Value.int IntKind.i64 0, Value.int IntKind.i64 0, Value.int IntKind.i64 0, Value.int IntKind.i64 0, Value.int IntKind.i64 0, Value.int IntKind.i64 0, Value.int IntKind.i64 0, Value.string { data := #[] }, Value.string { data := #[] }, Value.string { data := #[] }, Value.int IntKind.i64 0, Value.int IntKind.i64 0, Value.int IntKind.i64 0] (d + 1)).toList, u.oneCell' = true := by
      generalize hZ : (#[Value.int IntKind.i64 0, Value.int IntKind.i64 0, Value.int IntKind.i64 0, Value.int IntKind.i64 0, Value.int IntKind.i64 0, Value.int IntKind.i64 0, Value.int IntKind.i64 0, Value.int IntKind.i64 0, Value.int IntKind.i64 0, Value.int IntKind.i64 0, Value.int IntKind.i64 0, Value.int IntKind.i64 0, Value.int IntKind.i64 0, Value.int IntKind.i64 0, Value.int IntKind.i64 0, Value.int IntKind.i64 0, Value.int IntKind.i64 0, Value.int IntKind.i64 0, Value.int IntKind.i64 0, Value.int IntKind.i64 0, Value.int IntKind.i64 0, Value.int IntKind.i64 0, Value.string { data := #[] }, Value.string { data := #[] }, Value.string { data := #[] }, Value.int IntKind.i64 0, Value.int IntKind.i64 0, Value.int IntKind.i64 0] : Array Value) = Z0 at hzs hzo
      intro u hu
      simp only [Builtin.zeroCells, Array.toList_map, List.mem_map] at hu
      obtain ⟨j, -, rfl⟩ := hu
      have hlt : j % Z0.size < Z0.size := Nat.mod_lt _ (by omega)
      rw [getElem!_pos Z0 _ hlt]
      exact hzo _ (Array.getElem_mem hlt)
    obtain ⟨Z, hZ⟩ : ∃ Z, (Builtin.zeroCells #[Value.int IntKind.i64 0, Value.int IntKind.i64 0, Value.int IntKind.i64 0, Value.int IntKind.i64 0, Value.int IntKind.i64 0, Value.int IntKind.i64 0, Value.int IntKind.i64 0, Value.int IntKind.i64 0, Value.int IntKind.i64 0, Value.int IntKind.i64 0, Value.int IntKind.i64 0, Value.int IntKind.i64 0, Value.int IntKind.i64 0, Value.int IntKind.i64 0, Value.int IntKind.i64 0, Value.int IntKind.i64 0, Value.int IntKind.i64 0, Value.int IntKind.i64 0, Value.int IntKind.i64 0, Value.int IntKind.i64 0, Value.int IntKind.i64 0, Value.int IntKind.i64 0, Value.string { data := #[] }, Value.string { data := #[] }, Value.string { data := #[] }, Value.int IntKind.i64 0, Value.int IntKind.i64 0, Value.int IntKind.i64 0] (d + 1)).toList = Z := ⟨_, rfl⟩
    rw [hZ] at hzl hone
    have hst := run_storeCells_at Try.prog g (R.length * 28) 74 Z 0 cur w hg (by rw [hzl, hcs]; omega) hone
    rw [Nat.add_zero] at hst
    refine ⟨w.setRow g (cur.toList.take (R.length * 28) ++ Z ++ cur.toList.drop (R.length * 28 + Z.length)).toArray, fun ty c => ?_, ⟨by rw [xs_length], .inr ⟨g, cap, _, rfl, hbg, setRow_heap w g _ _ _ _ hg, hn, hc, ?_, ?_⟩⟩, grown_row _ _ _⟩
    · simp only [Builtin.clear_, Value.cells]
      simp [hZ]
      rw [hst]
      simp
    · simp [hzl, hcs]; omega
    · have hl0 : cur.toList.length = cap * 28 := by rw [Array.length_toList, hcs]
      have hl : R.length * 28 ≤ cur.toList.length := by omega
      rw [List.append_assoc, List.take_append_of_le_length (by rw [List.length_take]; omega), List.take_take, Nat.min_self]
      exact htk
theorem erase_cat {α : Type} (S : List α) (k : Nat) : S.take k ++ S.drop (k + 1) = S.eraseIdx k := (List.eraseIdx_eq_take_drop_succ S k).symm
theorem slice_hi (w : World) {g n cap k : Nat} (hk : k ≤ cap) : (Instr.sliceAt 60 (.slice (some ⟨g, 0, none⟩) n cap) none (some (.int .i64 (k : Int))) none).run Try.prog w = .ok (.slice (some ⟨g, 0, none⟩) k cap) w := by
  have h2 : (k : Int) ≤ (cap : Int) := by omega
  go_simp
/-- Where a piece from a place on lies. -/
def fromQ (g cap k : Nat) : Addr := if cap = k then ⟨g, 0, none⟩ else ⟨g, k * 28, none⟩
theorem slice_lo (w : World) {g n cap k : Nat} (hk : k ≤ n) : (Instr.sliceAt 60 (.slice (some ⟨g, 0, none⟩) n cap) (some (.int .i64 (k : Int))) none none).run Try.prog w = .ok (.slice (some (fromQ g cap k)) (n - k) (cap - k)) w := by
  have h0 : (0 : Int) ≤ (k : Int) := by omega
  have h1 : (k : Int) ≤ (n : Int) := by omega
  unfold fromQ
  by_cases hc : cap = k
  · go_simp
  · go_simp
theorem slice_lohi (w : World) {g n cap k m : Nat} (hk : k ≤ m) (hm : m ≤ cap) (hc : ¬ cap = k) : (Instr.sliceAt 60 (.slice (some ⟨g, 0, none⟩) n cap) (some (.int .i64 (k : Int))) (some (.int .i64 (m : Int))) none).run Try.prog w = .ok (.slice (some ⟨g, k * 28, none⟩) (m - k) (cap - k)) w := by
  have h0 : (0 : Int) ≤ (k : Int) := by omega
  have h1 : (k : Int) ≤ (m : Int) := by omega
  have h2 : (m : Int) ≤ (cap : Int) := by omega
  go_simp
set_option maxHeartbeats 1000000 in
theorem qdelete_any (S : List (It (Cx 26))) (k : Nat) (hk : k < S.length) (base : Nat) (vw : Value) (w : World) (hrow : Rw 74 w base vw S) :
    Calls Try.prog 36 #[vw, .int .i64 (k : Int), .int .i64 ((k : Int) + 1)] w fun ex w' => ∃ v', ex = .returned v' ∧ Rw 74 w' base v' (S.eraseIdx k) ∧ w.grownBy w' vw.ownBlock ∧ v'.ownBlock = vw.ownBlock := by
  obtain ⟨g, cap, i, hv, hnc, hi, hbg, hgl, hrg, cur, hcur⟩ := hrow.atx hk
  have hcm : cap ≤ 9223372036854775807 := by
    rcases hrow.2 with ⟨hv', -⟩ | ⟨g', cap', cur', hv', -, -, -, hc, -⟩
    · rw [hv] at hv'; cases hv'
    · rw [hv] at hv'; simp only [Value.slice.injEq] at hv'; unfold maxLen at hc; omega
  subst hv
  obtain ⟨n, hn⟩ : ∃ n, S.length = n := ⟨_, rfl⟩
  rw [hn] at hrow hnc hk ⊢
  have hcut := hrow.cut (a := k) (by omega)
  obtain ⟨i0, hi0, hz0, hz1, hz2⟩ := info_parts elB.hi
  have hnews : ∀ j u, (xs (S.drop (k + 1)))[j]? = some u → w.drew.cell? ((fromQ g cap (k + 1)).add j) = some u := fun j u hu => by
    have hjl := (List.getElem?_eq_some_iff.1 hu).1
    rw [xs_length, List.length_drop] at hjl
    have hne : ¬ cap = k + 1 := by intro e; have : S.length - (k + 1) = 0 := by omega
                                   rw [this] at hjl; omega
    unfold fromQ
    rw [if_neg hne, Addr.add_mid]
    rw [xs_drop S (k + 1) (by omega), List.getElem?_drop] at hu
    have := hrow.cells (g := g) rfl _ _ hu
    rw [Addr.add_mid, Nat.zero_add] at this
    exact this
  have hln : k + (n - (k + 1)) = n - 1 := by omega
  have hcut' : w.drew.ownsRow base 74 28 (.slice (some ⟨g, 0, none⟩) k cap) k (xs (S.take k)) := by
    have := hcut
    rw [Rw, List.length_take, Nat.min_eq_left (by omega)] at this
    exact this
  have happ : ∀ ty, ∃ w1, (Builtin.append_ #[60, 60] ty #[.slice (some ⟨g, 0, none⟩) k cap, .slice (some (fromQ g cap (k + 1))) (n - (k + 1)) (cap - (k + 1))]).run Try.prog w.drew = .ok (.slice (some ⟨g, 0, none⟩) (n - 1) cap) w1 ∧ Rw 74 w1 base (.slice (some ⟨g, 0, none⟩) (n - 1) cap) (S.eraseIdx k) ∧ w.drew.grownBy w1 (some g) := fun ty => by
    obtain ⟨w1, h1, h2, h3⟩ := run_append_fits (P := Try.prog) w.drew base 60 ty 74 i0 28 elB.ht hi0 hz1 g k cap (xs (S.take k)) hcut' (fromQ g cap (k + 1)) (n - (k + 1)) (cap - (k + 1)) (xs (S.drop (k + 1))) (by rw [xs_length, List.length_drop, hn]) hnews (xs_one _) (by omega)
    rw [hln] at h1 h2
    refine ⟨w1, h1, ?_, h3⟩
    have hel : (S.eraseIdx k).length = n - 1 := by rw [List.length_eraseIdx_of_lt (by omega), hn]
    rw [Rw, hel, ← erase_cat, xs_append]
    exact h2
  obtain ⟨w1, ha1, hr1, hg1⟩ := happ 60
  obtain ⟨w2, hcl, hr2, hg2⟩ := hr1.clearPast (d := 0) (by omega)
  have HR : Hid (Rw 74 w2 base (.slice (some ⟨g, 0, none⟩) (n - 1) cap) (S.eraseIdx k)) := hr2
  have HG : Hid (w.grownBy w2 (some g)) := ⟨hg2.os.trans hg1.os, hg2.tape.trans hg1.tape, hg2.output.trans hg1.output, Nat.le_trans hg1.size hg2.size, fun j hj hne => (hg2.block j (Nat.lt_of_lt_of_le hj hg1.size) hne).trans (hg1.block j hj hne)⟩
  have hsh := fun W : World => slice_hi W (g := g) (n := n) (cap := cap) (k := k) (by omega)
  have hsl := fun W : World => slice_lo W (g := g) (n := n) (cap := cap) (k := k + 1) (by omega)
  have hlh := fun W : World => slice_lohi W (g := g) (n := n - 1) (cap := cap) (k := n - 1) (m := n) (by omega) hnc (by omega)
  have hk1 : ((k : Int) + 1) = ((k + 1 : Nat) : Int) := by omega
  rw [hk1]
  have hn1 : n - (n - 1) = 1 := by omega
  rw [hn1] at hlh
  have q0 : (0 : Int) ≤ (k : Int) := by omega
  have q1 : (k : Int) ≤ ((k + 1 : Nat) : Int) := by omega
  have q2 : ((k + 1 : Nat) : Int) ≤ (n : Int) := by omega
  have q3 : (n : Int) ≤ (cap : Int) := by omega
  have q4 : ¬ (k : Int) = ((k + 1 : Nat) : Int) := by omega
  have q5 : ((k : Int) == ((k + 1 : Nat) : Int)) = false := by simp; omega
  clear hr1 hr2 hg1 hg2 hcut hcut' happ hnews hrow hrg hcur hi hk1
  go_enter Try.func36, Try.ntmps36
  go_wp2_with fail
  refine wp_region_noPanic ?_
  refine wp_region_held_drew (S := fun W' : World => True) (by kernel_rfl) trivial (fun hHeld => ?_)
  refine wpAnyH_take (i := 0) (oi := { dst := some 20, op := _, type := _, pos := _, after := _, guard := _ }) (v := .slice (some ⟨g, 0, none⟩) n cap) rfl (by kernel_rfl) (by kernel_rfl) (by kernel_rfl) (fun _ _ _ h => h) (Or.inl ⟨by rfl, ?_⟩) (by assumption) ?_
  · intro w9 hSw
    exact y_move rfl rfl
  simp only [Act.put, List.setIfInBounds_toArray, List.set_cons_zero, List.set_cons_succ]
  refine wpAnyH_take (i := 1) (oi := { dst := some 21, op := _, type := _, pos := _, after := _, guard := _ }) (v := .int .i64 (k : Int)) rfl (by kernel_rfl) (by kernel_rfl) (by kernel_rfl) (fun _ _ _ h => h) (Or.inl ⟨by rfl, ?_⟩) (by assumption) ?_
  · intro w9 hSw
    exact y_move rfl rfl
  simp only [Act.put, List.setIfInBounds_toArray, List.set_cons_zero, List.set_cons_succ]
  refine wpAnyH_take (i := 2) (oi := { dst := some 22, op := _, type := _, pos := _, after := _, guard := _ }) (v := .slice (some ⟨g, 0, none⟩) k cap) rfl (by kernel_rfl) (by kernel_rfl) (by kernel_rfl) (fun _ _ _ h => h) (Or.inl ⟨by rfl, ?_⟩) (by assumption) ?_
  · intro w9 hSw
    exact y_slice rfl rfl (hsh _)
  simp only [Act.put, List.setIfInBounds_toArray, List.set_cons_zero, List.set_cons_succ]
  refine wpAnyH_take (i := 3) (oi := { dst := some 23, op := _, type := _, pos := _, after := _, guard := _ }) (v := .slice (some ⟨g, 0, none⟩) n cap) rfl (by kernel_rfl) (by kernel_rfl) (by kernel_rfl) (fun _ _ _ h => h) (Or.inl ⟨by rfl, ?_⟩) (by assumption) ?_
  · intro w9 hSw
    exact y_move rfl rfl
  simp only [Act.put, List.setIfInBounds_toArray, List.set_cons_zero, List.set_cons_succ]
  refine wpAnyH_take (i := 4) (oi := { dst := some 24, op := _, type := _, pos := _, after := _, guard := _ }) (v := .int .i64 ((k + 1 : Nat) : Int)) rfl (by kernel_rfl) (by kernel_rfl) (by kernel_rfl) (fun _ _ _ h => h) (Or.inl ⟨by rfl, ?_⟩) (by assumption) ?_
  · intro w9 hSw
    exact y_move rfl rfl
  simp only [Act.put, List.setIfInBounds_toArray, List.set_cons_zero, List.set_cons_succ]
  refine wpAnyH_take (i := 5) (oi := { dst := some 25, op := _, type := _, pos := _, after := _, guard := _ }) (v := .slice (some (fromQ g cap (k + 1))) (n - (k + 1)) (cap - (k + 1))) rfl (by kernel_rfl) (by kernel_rfl) (by kernel_rfl) (fun _ _ _ h => h) (Or.inl ⟨by rfl, ?_⟩) (by assumption) ?_
  · intro w9 hSw
    exact y_slice rfl rfl (hsl _)
  simp only [Act.put, List.setIfInBounds_toArray, List.set_cons_zero, List.set_cons_succ]
  clear hHeld
  refine wpAnyH_ready (rs := [6]) (by kernel_rfl) (by simp) ?_
  refine AllReadyH.cons (o := { dst := some 26, op := _, type := _, pos := _, after := _, guard := _ }) rfl (fun K hK => ?_) AllReadyH.nil
  rw [if_pos (by rfl)]
  refine y_app (t1 := 60) (t2 := 60) (x := .tmp 22) (y := .tmp 25) rfl rfl rfl ha1 ?_
  refine hK.out _ _ trivial (fun hHeld => ?_)
  clear hK K
  simp only [Act.put, List.setIfInBounds_toArray, List.set_cons_zero, List.set_cons_succ]
  refine wpAnyH_take (i := 7) (oi := { dst := some 0, op := _, type := _, pos := _, after := _, guard := _ }) (v := .slice (some ⟨g, 0, none⟩) (n - 1) cap) rfl (by kernel_rfl) (by kernel_rfl) (by kernel_rfl) (fun _ _ _ h => h) (Or.inl ⟨by rfl, ?_⟩) (by assumption) ?_
  · intro w9 hSw
    exact y_assign rfl rfl
  simp only [Act.put, List.setIfInBounds_toArray, List.set_cons_zero]
  refine wpAnyH_done (by kernel_rfl) ?_ _
  refine NoPanic.normal ?_
  clear hHeld
  go_wp2_with fail
  go_ret
  exact ⟨_, rfl, HR.out, HG.out, rfl⟩
end Go.Proofs.Ythpkpmcccpfabaa.E
