/-
  A list of calls that came in: an event and a vector each.
-/
import Derived.Test.YthpkpmcccpfabaaQonH
import Derived.Deep.Slices
import Derived.Test.YthpkpmcccpfabaaQroG
namespace Go.Proofs.Ythpkpmcccpfabaa
set_option maxRecDepth 100000
open Go.RowKit

/-- One call. -/
structure IsOp (w : World) (b k : Nat) (o : Ev × List Int) : Prop where
  ev : w.rangeAt b k (evl o.1)
  vec : w.rangeAt b (k + 26) (o.2.map (Value.int .i64))
  wide : Wide o.1
  len : o.2.length = 16
  fit : Fit o.2
def Lops (w : World) (a : Option Addr) (len : Nat) (O : Nat → Ev × List Int) : Prop :=
  len ≤ maxLen ∧ (len = 0 ∨ ∃ b off, a = some ⟨b, off, none⟩ ∧ b < w.heap.size ∧ ∀ i, i < len → IsOp w b (off + i * 42) (O i))
section
variable {H : Type} {enc : TypeId × Value → H} {w : World} {base : Nat} {spare : Nat → Bool} {held : Bool} {fuel : Nat} {L : List Value} {x : DataW H × List MemPlace}
theorem vecw_in (h : DataW.trod enc Try.prog w base spare held fuel 40 L = some x) : ∀ i, i < 16 → ∃ n, L[i]? = some (.int .i64 n) ∧ (Lit.int .i64 n).wf = true := by
  have hu : Try.prog.underlying 40 = some (.array 16 3) := by kernel_rfl
  obtain ⟨xs, m, -, -, -, hlx, hget⟩ := DataW.trod_array hu h
  intro i hi
  have := hget i hi
  have c1 : Try.prog.cellsOf 3 = 1 := by kernel_rfl
  rw [c1, List.getElem?_eq_getElem (by omega : i < xs.length)] at this
  obtain ⟨y, hy⟩ : ∃ y, DataW.trod enc Try.prog w base spare held m 3 ((L.drop (i * 1)).take 1) = some y := ⟨_, this⟩
  obtain ⟨n, h1, -, h2⟩ := DataW.trod_int Try.underlying3 hy
  refine ⟨n, ?_, h2⟩
  have h3 : ((L.drop (i * 1)).take 1)[0]? = some (.int .i64 n) := by rw [h1]; rfl
  rw [List.getElem?_take_of_lt (by omega), List.getElem?_drop, Nat.mul_one, Nat.add_zero] at h3
  exact h3
theorem wf_fit {n : Int} (h : (Lit.int .i64 n).wf = true) : -9223372036854775808 ≤ n ∧ n ≤ 9223372036854775807 := by
  have h1 : IntKind.i64.min = -9223372036854775808 := by decide
  have h2 : IntKind.i64.max = 9223372036854775807 := by decide
  simp only [Lit.wf, h1, h2, Bool.and_eq_true, decide_eq_true_eq] at h
  exact h
theorem lop_in (h : DataW.trod enc Try.prog w base spare held fuel 46 L = some x) : ∃ o : Ev × List Int, Wide o.1 ∧ o.2.length = 16 ∧ Fit o.2 ∧ (∀ (j : Nat) (u : Value), (evl o.1)[j]? = some u → L[j]? = some u) ∧ ∀ (j : Nat) (u : Value), (o.2.map (Value.int .i64))[j]? = some u → L[26 + j]? = some u := by
  have hu : Try.prog.underlying 46 = some (.struct (Try.prog.fieldsOf 46)) := by kernel_rfl
  obtain ⟨m, hm⟩ := open_field (ts := [(44, 0), (40, 26)]) hu (by kernel_rfl) h
  obtain ⟨y0, h0⟩ := hm 0 _ rfl
  obtain ⟨y1, h1⟩ := hm 1 _ rfl
  obtain ⟨e, hw, he⟩ := ev_in h0
  have hv := vecw_in h1
  have hv' : ∀ i, i < 16 → ∃ n, L[26 + i]? = some (.int .i64 n) ∧ (Lit.int .i64 n).wf = true := fun i hi => by
    obtain ⟨n, h2, h3⟩ := hv i hi
    exact ⟨n, in_at h2, h3⟩
  obtain ⟨f, hf⟩ := @Go.Deep.choose_lt Int ⟨0⟩ _ _ hv'
  refine ⟨(e, (List.range 16).map f), hw, by simp, fun j => ?_, fun j u hj => ?_, fun j u hj => ?_⟩
  · by_cases hj : j < 16
    · have := wf_fit (hf j hj).2
      simpa [List.getD, hj] using this
    · simp [List.getD, hj]
  · have hj26 : j < 26 := by have := (List.getElem?_eq_some_iff.1 hj).1; rw [evl_length e hw.1] at this; exact this
    have := he j u hj
    have h4 : L[0 + j]? = some u := in_at (a := 0) (c := j) this
    rwa [Nat.zero_add] at h4
  · have hj16 : j < 16 := by have := (List.getElem?_eq_some_iff.1 hj).1; simpa using this
    rw [(hf j hj16).1]
    simpa [hj16] using hj
end
section
variable {H : Type} {enc : TypeId × Value → H}
theorem open_lops {w : World} {a : Option Addr} {len cap : Nat} {d : DataW H} {ps : List MemPlace} (h : DataW.Trod enc Try.prog w 0 (fun _ => true) true 22 (.slice a len cap) d ps) : ∃ O, Lops w a len O := by
  obtain ⟨fuel, hf⟩ := h
  have ce : Try.prog.cellsOf 46 = 42 := by kernel_rfl
  rcases Go.Deep.open_slice Try.underlying22 hf with ⟨hcs, _⟩ | ⟨x, l, c, m, n, D, Pl, hcs, hb, hl, hm, hmm, hx, hall⟩
  · simp [Value.cells] at hcs
    exact ⟨fun _ => (zv, []), by rw [hcs.2.1]; exact Nat.zero_le _, .inl hcs.2.1⟩
  · simp [Value.cells] at hcs
    obtain ⟨rfl, rfl, rfl⟩ := hcs
    simp only [if_true] at hmm
    subst hmm
    have key : ∀ i, i < m → ∃ o : Ev × List Int, Wide o.1 ∧ o.2.length = 16 ∧ Fit o.2 ∧ (∀ (j : Nat) (u : Value), (evl o.1)[j]? = some u → w.cell? (x.add (i * 42 + j)) = some u) ∧ ∀ (j : Nat) (u : Value), (o.2.map (Value.int .i64))[j]? = some u → w.cell? (x.add (i * 42 + (26 + j))) = some u := by
      intro i hi
      obtain ⟨cs', h1, h2⟩ := hall i hi
      rw [ce] at h1
      obtain ⟨_, hlen, hcell⟩ := World.cells?_some h1
      obtain ⟨o, h3, h4, h5, h6, h7⟩ := lop_in h2
      refine ⟨o, h3, h4, h5, fun j u hu => ?_, fun j u hu => ?_⟩
      · have hj : j < 26 := by have := (List.getElem?_eq_some_iff.1 hu).1; rw [evl_length _ h3.1] at this; exact this
        have := hcell j (by omega)
        rw [Go.Deep.add_add] at this
        rw [this]
        exact h6 j u hu
      · have hj : j < 16 := by have := (List.getElem?_eq_some_iff.1 hu).1; rw [List.length_map, h4] at this; exact this
        have := hcell (26 + j) (by omega)
        rw [Go.Deep.add_add] at this
        rw [this]
        exact h7 j u hu
    obtain ⟨O, hO⟩ := @Go.Deep.choose_lt (Ev × List Int) ⟨(zv, [])⟩ _ _ key
    refine ⟨O, by omega, ?_⟩
    by_cases h0 : len = 0
    · exact .inl h0
    · right
      obtain ⟨b, off, spot⟩ := x
      have h00 := (hO 0 (by omega)).2.2.2.1 0 _ rfl
      have hs : spot = none := by simpa [Addr.add] using World.cell?_spot h00
      subst hs
      refine ⟨b, off, rfl, ?_, fun i hi => ?_⟩
      · exact World.block_lt_of_cell? w _ (by rw [Addr.add_lit] at h00; exact h00)
      · obtain ⟨h1, h2, h3, h4, h5⟩ := hO i (by omega)
        refine ⟨fun j u hu => ?_, fun j u hu => ?_, h1, h2, h3⟩
        · have := h4 j u hu
          rw [Addr.add_lit, ← Nat.add_assoc] at this
          exact this
        · have := h5 j u hu
          rw [Addr.add_lit, show off + (i * 42 + (26 + j)) = off + i * 42 + 26 + j by omega] at this
          exact this
end
end Go.Proofs.Ythpkpmcccpfabaa

namespace Go.Proofs.Ythpkpmcccpfabaa
set_option maxRecDepth 100000
set_option maxRecDepth 100000
open Go.RowKit

theorem run_same_ev (w : World) (e : Ev) (hl : e.deps.length = 16) : (Op.equalIn 10000 44 (.agg (evc e)) (.agg (evc e))).run Try.prog w = .ok true w := by
  have h := run_equalIn_ev w 9996 e e hl hl
  rw [(sameE_iff e e).2 rfl] at h
  exact h
theorem run_neq_alike (w : World) (e : Ev) (hl : e.deps.length = 16) : (binOp .neq 44 (.agg (evc e)) (.agg (evc e))).run Try.prog w = .ok (.bool false) w := by
  have h := run_same_ev w e hl
  simp only [binOp]
  simp [Op.equal, Op.maxDepth, h]
set_option maxHeartbeats 1000000 in
theorem same_yes (a1 a2 : Option Addr) (m c1 c2 : Nat) (E : List Ev) (w : World) (h1 : Evs w a1 m c1 E) (h2 : Evs w a2 m c2 E) (hm : m ≤ 1048576) :
    Calls Try.prog 10 #[.slice a1 m c1, .slice a2 m c2] w fun e w' => e = .returned (.bool true) ∧ Below w.heap.size w w' := by
  go_enter Try.func10, Try.ntmps10
  go_wp2_with fail
  go_loopw [13] (fun i wr => ∃ k : Nat, k ≤ m ∧ i = .int .i64 (k : Int) ∧ Below w.heap.size w wr) (fun i _ => m - (intOf i).toNat)
  case atStart => exact ⟨0, Nat.zero_le _, rfl, Below.refl _ _⟩
  case round =>
    obtain ⟨k, hk, rfl, hB⟩ := hrel
    by_cases hkm : k < m
    · obtain ⟨b1, o1, x, rfl, hx, hwx, r1, -⟩ := h1.at hkm
      obtain ⟨b2, o2, x', rfl, hx', -, r2, -⟩ := h2.at hkm
      obtain rfl : x = x' := by rw [hx] at hx'; exact Option.some.inj hx'
      have r1' : wr.drew.rangeAt b1 (o1 + k * 26) (evl x) := fun j v hv => by
        have := r1 j v hv
        exact (hB.cell (World.block_lt_of_cell? w _ this)).trans this
      have r2' : wr.drew.rangeAt b2 (o2 + k * 26) (evl x) := fun j v hv => by
        have := r2 j v hv
        exact (hB.cell (World.block_lt_of_cell? w _ this)).trans this
      have hl := hwx.1
      have hk1 : k < m := hkm
      have hk2 : k < m := hkm
      clear h1 h2 r1 r2
      go_upto_region 6 with (fail)
      refine wp_region_noPanic ?_
      refine wp_region_held_drew (S := fun W' : World => W'.rangeAt b1 (o1 + k * 26) (evl x) ∧ W'.rangeAt b2 (o2 + k * 26) (evl x)) (by kernel_rfl) ⟨r1', r2'⟩ (fun hHeld => ?_)
      refine wpAnyH_take (i := 0) (oi := { dst := some 16, op := _, type := _, pos := _, after := _, guard := _ }) (v := ?_) rfl (by kernel_rfl) (by kernel_rfl) (by kernel_rfl) (fun _ _ _ h => h) (Or.inl ⟨by rfl, ?_⟩) (by assumption) ?_
      rotate_left
      · intro w hSw
        go_simp <;> with_reducible rfl
      simp only [Act.put, List.setIfInBounds_toArray, List.set_cons_zero, List.set_cons_succ]
      refine wpAnyH_take (i := 1) (oi := { dst := some 17, op := _, type := _, pos := _, after := _, guard := _ }) (v := ?_) rfl (by kernel_rfl) (by kernel_rfl) (by kernel_rfl) (fun _ _ _ h => h) (Or.inl ⟨by rfl, ?_⟩) (by assumption) ?_
      rotate_left
      · intro w hSw
        go_simp <;> with_reducible rfl
      simp only [Act.put, List.setIfInBounds_toArray, List.set_cons_zero, List.set_cons_succ]
      refine wpAnyH_take (i := 2) (oi := { dst := some 18, op := _, type := _, pos := _, after := _, guard := _ }) (v := .pointer (some ⟨b1, o1 + k * 26, none⟩)) rfl (by kernel_rfl) (by kernel_rfl) (by kernel_rfl) (fun _ _ _ h => h) (Or.inl ⟨by rfl, ?_⟩) (by assumption) ?_
      · intro w9 hSw
        exact exec_index rfl rfl rfl (index_ev w9 hk1)
      simp only [Act.put, List.setIfInBounds_toArray, List.set_cons_zero, List.set_cons_succ]
      refine wpAnyH_take (i := 3) (oi := { dst := some 19, op := _, type := _, pos := _, after := _, guard := _ }) (v := .agg (evc x)) rfl (by kernel_rfl) (by kernel_rfl) (by kernel_rfl) (fun _ _ _ h => h) (Or.inl ⟨by rfl, ?_⟩) (by assumption) ?_
      · intro w9 hSw
        exact exec_load (ad := ⟨b1, o1 + k * 26, none⟩) rfl rfl (load_part hSw.1 hl)
      simp only [Act.put, List.setIfInBounds_toArray, List.set_cons_zero, List.set_cons_succ]
      refine wpAnyH_take (i := 4) (oi := { dst := some 20, op := _, type := _, pos := _, after := _, guard := _ }) (v := ?_) rfl (by kernel_rfl) (by kernel_rfl) (by kernel_rfl) (fun _ _ _ h => h) (Or.inl ⟨by rfl, ?_⟩) (by assumption) ?_
      rotate_left
      · intro w hSw
        go_simp <;> with_reducible rfl
      simp only [Act.put, List.setIfInBounds_toArray, List.set_cons_zero, List.set_cons_succ]
      refine wpAnyH_take (i := 5) (oi := { dst := some 21, op := _, type := _, pos := _, after := _, guard := _ }) (v := ?_) rfl (by kernel_rfl) (by kernel_rfl) (by kernel_rfl) (fun _ _ _ h => h) (Or.inl ⟨by rfl, ?_⟩) (by assumption) ?_
      rotate_left
      · intro w hSw
        go_simp <;> with_reducible rfl
      simp only [Act.put, List.setIfInBounds_toArray, List.set_cons_zero, List.set_cons_succ]
      refine wpAnyH_take (i := 6) (oi := { dst := some 22, op := _, type := _, pos := _, after := _, guard := _ }) (v := .pointer (some ⟨b2, o2 + k * 26, none⟩)) rfl (by kernel_rfl) (by kernel_rfl) (by kernel_rfl) (fun _ _ _ h => h) (Or.inl ⟨by rfl, ?_⟩) (by assumption) ?_
      · intro w9 hSw
        exact exec_index rfl rfl rfl (index_ev w9 hk2)
      simp only [Act.put, List.setIfInBounds_toArray, List.set_cons_zero, List.set_cons_succ]
      refine wpAnyH_take (i := 7) (oi := { dst := some 23, op := _, type := _, pos := _, after := _, guard := _ }) (v := .agg (evc x)) rfl (by kernel_rfl) (by kernel_rfl) (by kernel_rfl) (fun _ _ _ h => h) (Or.inl ⟨by rfl, ?_⟩) (by assumption) ?_
      · intro w9 hSw
        exact exec_load (ad := ⟨b2, o2 + k * 26, none⟩) rfl rfl (load_part hSw.2 hl)
      simp only [Act.put, List.setIfInBounds_toArray, List.set_cons_zero, List.set_cons_succ]
      refine wpAnyH_take (i := 8) (oi := { dst := some 24, op := _, type := _, pos := _, after := _, guard := _ }) (v := .bool false) rfl (by kernel_rfl) (by kernel_rfl) (by kernel_rfl) (fun _ _ _ h => h) (Or.inl ⟨by rfl, ?_⟩) (by assumption) ?_
      · intro w9 hSw
        exact exec_bin rfl rfl rfl (run_eqGuard_agg w9 _ _ _ _ _ _ plain_ev) (run_neq_alike w9 x hl)
      simp only [Act.put, List.setIfInBounds_toArray, List.set_cons_zero, List.set_cons_succ]
      refine wpAnyH_done (by kernel_rfl) ?_ _
      refine NoPanic.normal ?_
      go_wp2
      go_roundw
      case rel => exact ⟨k + 1, by omega, by go_num, hB.drew⟩
      case measure => simp [intOf]; omega
    · obtain rfl : k = m := by omega
      go_wp2
      go_ret
      exact ⟨rfl, hB⟩
end Go.Proofs.Ythpkpmcccpfabaa

namespace Go.Proofs.Ythpkpmcccpfabaa
set_option maxRecDepth 100000
open Go.RowKit

theorem Rf.tn {w w' : World} {gr g : Nat} {c : Value} {L S : List Ev} {m m' : Option Nat} (h : Rf w gr c L) (hB : Bf w g m S) (hne : gr ≠ g) (ht : Tn g m m' w w') : Rf w' gr c L := by
  refine ⟨(ht.block gr h.lt hne (hB.notMap h.blk)).trans h.blk, keepR h.row fun k hk => ?_⟩
  obtain ⟨cs, hb⟩ := hB
  rcases h.row.2 with ⟨rfl, -⟩ | ⟨g', cap, cur, rfl, -, hg', -⟩
  · cases hk
  · obtain rfl : g' = k := by simpa [Value.ownBlock] using hk
    refine ht.block g' (Array.getElem?_eq_some_iff.1 hg').1 ?_ (Bf.notMap ⟨cs, hb⟩ hg')
    rintro rfl
    rw [hb.blk] at hg'
    simp only [Option.some.injEq, Obj.cells.injEq] at hg'
    exact absurd hg'.2.1 (by decide)
theorem Bf.grow2 {w w' : World} {gr g : Nat} {c : Value} {L S : List Ev} {m : Option Nat} (h : Bf w g m S) (hR : Rf w gr c L) (hne : gr ≠ g) (hg : w.grownBy w' (some gr)) : Bf w' g m S := by
  have hn := h.notMap hR.blk
  obtain ⟨cs, hb⟩ := h
  refine ⟨cs, hb.kept fun k hk hkk => hg.block k hk ?_⟩
  rcases hkk with rfl | hkk
  · exact fun e => hne (Option.some.inj e).symm
  · intro e
    have := Option.some.inj e
    subst this
    exact hn hkk
/-- Both buffers, with the same events. -/
structure Lp (w : World) (g gr : Nat) (wr : World) (m : Option Nat) (c1 : Value) (S : List Ev) : Prop where
  below : Below w.heap.size w wr
  bf : Bf wr g m S
  rf : Rf wr gr c1 S
  lo : w.heap.size ≤ g ∧ w.heap.size ≤ gr ∧ gr ≠ g
  own : ∀ k, m = some k → w.heap.size ≤ k
theorem Lp.next {w : World} {g gr : Nat} {wr w' : World} {m : Option Nat} {c1 : Value} {S : List Ev} (h : Lp w g gr wr m c1 S) (hb : Below wr.heap.size wr w') : Lp w g gr w' m c1 S :=
  ⟨h.below.trans (hb.mono h.below.size), h.bf.below hb, h.rf.below hb, h.lo, h.own⟩
theorem index_lop (w : World) {b off k m c : Nat} (hk : k < m) : (Instr.indexAt 22 (.slice (some ⟨b, off, none⟩) m c) (.int .i64 (k : Int))).run Try.prog w = .ok (.pointer (some ⟨b, off + k * 42, none⟩)) w := by
  have hk' : (k : Int) < (m : Int) := by omega
  have hs : (Try.prog.info? 46).map (·.size) = some 42 := by kernel_rfl
  have ht : Try.prog.underlying 22 = some (.slice 46) := Try.underlying22
  go_simp
theorem field_l0 (w : World) (b k : Nat) : (Instr.fieldAt 46 (.pointer (some ⟨b, k, none⟩)) 0).run Try.prog w = .ok (.pointer (some ⟨b, k, none⟩)) w := by go_simp
theorem field_l1 (w : World) (b k : Nat) : (Instr.fieldAt 46 (.pointer (some ⟨b, k, none⟩)) 1).run Try.prog w = .ok (.pointer (some ⟨b, k + 26, none⟩)) w := by go_simp
theorem load_vm {w : World} {b k : Nat} {v : List Int} (h : w.rangeAt b k (v.map (Value.int .i64))) (hv : v.length = 16) : (loadVar 40 ⟨b, k, none⟩).run Try.prog w = .ok (.agg (vals v)) w :=
  run_loadVar_mid (P := Try.prog) w b k 40 _ _ h Try.underlying40 rfl (by rw [List.length_map, hv]; kernel_rfl)
theorem enters_roffer (xs : Array Value) (w : World) : (callFunc 12 xs).run Try.prog w = .ok (.enter 12 xs) w := enters Try.func12 (by kernel_rfl) (by kernel_rfl) xs w
theorem enters_same (xs : Array Value) (w : World) : (callFunc 10 xs).run Try.prog w = .ok (.enter 10 xs) w := enters Try.func10 (by kernel_rfl) (by kernel_rfl) xs w
theorem Off.one {S T T' A A' : List Ev} {e : Ev} {v u u' : List Int} (h : Off S e v T A u) (k : Off S e v T' A' u') : T = T' ∧ A = A' := by
  obtain ⟨L, h1, h2⟩ := h
  obtain ⟨L', k1, k2⟩ := k
  obtain ⟨rfl, rfl, rfl⟩ := h1.one k1
  exact ⟨rfl, h2.trans k2.symm⟩
theorem neq_ii (w : World) (n : Int) : (binOp .neq 3 (.int .i64 n) (.int .i64 n)).run Try.prog w = .ok (.bool false) w := by simp [go_sem]
theorem rf_new (w : World) : Rf (w.alloc (.cells #[.slice none 0 0] 29)) w.heap.size (.slice none 0 0) [] := ⟨heap_alloc_new w _, World.ownsRow_nil _ _ _ _⟩
set_option maxHeartbeats 8000000 in
theorem lplays_walk (ao : Option Addr) (m c : Nat) (O : Nat → Ev × List Int) (z : Bool) (w : World) (hO : Lops w ao m O) : Calls Try.prog 3 #[.slice ao m c, .bool z] w fun ex w' => ex = .returned (.bool true) ∧ Below w.heap.size w w' := by
  have hA := qawake_any w
  have hm63 : m ≤ 9223372036854775807 := by have := hO.1; unfold maxLen at this; omega
  by_cases hm : 150 < m
  · have hm' : (150 : Int) < (m : Int) := by omega
    clear hO
    go_enter Try.func3, Try.ntmps3
    go_wp2_with fail
    refine Calls.mono hA ?_
    rintro ex w1 ⟨rfl, hb1⟩
    have hA1 := qawake_any w1
    go_wp2_with fail
    refine Calls.mono hA1 ?_
    rintro ex w2 ⟨rfl, hb2⟩
    go_wp2
    go_ret
    exact ⟨rfl, hb1.trans (hb2.mono hb1.size)⟩
  have hm' : ¬ (150 : Int) < (m : Int) := by omega
  go_enter Try.func3, Try.ntmps3
  go_wp2_with fail
  refine Calls.mono hA ?_
  rintro ex w1 ⟨rfl, hb1⟩
  have hN := qnew_any w1
  have hF0 := bf_new w1
  have hb2 : Below w1.heap.size w1 (w1.alloc (.cells #[.map none] 34)) := (Below.refl _ _).alloc (Nat.le_refl _) _
  have hs2 := World.size_alloc w1 (.cells #[.map none] 34)
  generalize w1.alloc (.cells #[.map none] 34) = w2 at *
  obtain ⟨g0, hg0⟩ : ∃ g0, w1.heap.size = g0 := ⟨_, rfl⟩
  rw [hg0] at hN hF0 hs2
  have hgw : w.heap.size ≤ g0 := by rw [← hg0]; exact hb1.size
  have hb3 : Below w2.heap.size w2 (w2.alloc (.cells #[.slice none 0 0] 29)) := (Below.refl _ _).alloc (Nat.le_refl _) _
  have hR3 := rf_new w2
  have hs3 := World.size_alloc w2 (.cells #[.slice none 0 0] 29)
  rw [hs2] at hR3 hs3
  have HB3 : Hid (Below w.heap.size w (w2.alloc (.cells #[.slice none 0 0] 29))) := (hb1.trans (hb2.mono hb1.size)).trans (hb3.mono (by omega))
  have hF3 := hF0.below hb3
  have HU : Hid _ := hO
  cases z
  · have hL0 : Hid (Lp w g0 (g0 + 1) (w2.alloc (.cells #[.slice none 0 0] 29)) none (.slice none 0 0) []) := ⟨HB3.out, hF3, hR3, ⟨hgw, by omega, by omega⟩, fun k e => by cases e⟩
    have hne := fun W : World => eql_pb W ⟨g0, 0, none⟩
    clear hF0 hF3 hR3 hb1 hb2 hb3 hA HB3 hO
    go_wp2_with fail
    refine Calls.mono hN ?_
    rintro ex w2' ⟨rfl, hw2⟩
    obtain rfl := hw2.symm
    clear hN
    go_wp2_with fail
    generalize w2.alloc (.cells #[.slice none 0 0] 29) = W3 at *
    have hrel0 : Hid (∃ (i : Nat) (mm : Option Nat) (c1 : Value) (S : List Ev), i ≤ m ∧ Value.int .i64 0 = .int .i64 (i : Int) ∧ Lp w (g0) (g0 + 1) W3 mm c1 S ∧ Buf S ∧ ∀ x ∈ S, Wide x) := ⟨0, none, .slice none 0 0, [], Nat.zero_le _, rfl, hL0.out, Buf.nil, fun _ h => by simp at h⟩
    clear hL0
    go_loopw [26] (fun c26 wr => ∃ (i : Nat) (mm : Option Nat) (c1 : Value) (S : List Ev), i ≤ m ∧ c26 = .int .i64 (i : Int) ∧ Lp w (g0) (g0 + 1) wr mm c1 S ∧ Buf S ∧ ∀ x ∈ S, Wide x) (fun c26 _ => m - (intOf c26).toNat)
    case atStart => exact hrel0.out
    case round =>
      clear hrel0
      obtain ⟨i, mm, c1, S, hi, rfl, hL, hBS, hWS⟩ := hrel
      by_cases hlt : i < m
      · have hlt' : (i : Int) < (m : Int) := by omega
        obtain ⟨b, off, rfl, hbw, hop⟩ := HU.out.2.resolve_left (by omega)
        have hoi := hop i hlt
        obtain ⟨o, ho⟩ : ∃ o, O i = o := ⟨_, rfl⟩
        rw [ho] at hoi
        obtain ⟨e, v⟩ := o
        have hwe : Wide e := hoi.wide
        have he16 : e.deps.length = 16 := hwe.1
        have hv16 : v.length = 16 := hoi.len
        have hfit : Fit v := hoi.fit
        have hre : w.rangeAt b (off + i * 42) (evl e) := hoi.ev
        have hrv : w.rangeAt b (off + i * 42 + 26) (v.map (Value.int .i64)) := hoi.vec
        clear ho
        have hLd := hL.next (Below.refl _ _).drew
        have HL : Hid _ := hLd
        have hBd := hLd.below
        have hix := fun W : World => index_lop W (b := b) (off := off) (c := c) hlt
        have HBS : Hid _ := hBS
        have HWS : Hid _ := hWS
        clear hL hop hoi hLd hBS hWS
        go_upto_region 11 with fail
        go_cut [64] from 29 to 65 (fun v64 wz => v64 = .bool false ∧ Aside (∃ mm c1 S, Lp w (g0) (g0 + 1) wz mm c1 S ∧ Buf S ∧ ∀ x ∈ S, Wide x))
        case first =>
          refine wp_region_noPanic ?_
          refine wp_region_held_drew (S := fun W' : World => Below w.heap.size w W') (by kernel_rfl) hBd (fun hHeld => ?_)
          refine wpAnyH_take (i := 0) (oi := { dst := some 29, op := _, type := _, pos := _, after := _, guard := _ }) (v := .pointer (some ⟨g0, 0, none⟩)) rfl (by kernel_rfl) (by kernel_rfl) (by kernel_rfl) (fun _ _ _ h => h) (Or.inl ⟨by rfl, ?_⟩) (by assumption) ?_
          · intro w9 hSw
            exact y_move rfl rfl
          simp only [Act.put, List.setIfInBounds_toArray, List.set_cons_zero, List.set_cons_succ]
          refine wpAnyH_take (i := 1) (oi := { dst := some 30, op := _, type := _, pos := _, after := _, guard := _ }) (v := .slice (some ⟨b, off, none⟩) m c) rfl (by kernel_rfl) (by kernel_rfl) (by kernel_rfl) (fun _ _ _ h => h) (Or.inl ⟨by rfl, ?_⟩) (by assumption) ?_
          · intro w9 hSw
            exact y_move rfl rfl
          simp only [Act.put, List.setIfInBounds_toArray, List.set_cons_zero, List.set_cons_succ]
          refine wpAnyH_take (i := 2) (oi := { dst := some 31, op := _, type := _, pos := _, after := _, guard := _ }) (v := .int .i64 (i : Int)) rfl (by kernel_rfl) (by kernel_rfl) (by kernel_rfl) (fun _ _ _ h => h) (Or.inl ⟨by rfl, ?_⟩) (by assumption) ?_
          · intro w9 hSw
            exact y_move rfl rfl
          simp only [Act.put, List.setIfInBounds_toArray, List.set_cons_zero, List.set_cons_succ]
          refine wpAnyH_take (i := 3) (oi := { dst := some 32, op := _, type := _, pos := _, after := _, guard := _ }) (v := .pointer (some ⟨b, off + i * 42, none⟩)) rfl (by kernel_rfl) (by kernel_rfl) (by kernel_rfl) (fun _ _ _ h => h) (Or.inl ⟨by rfl, ?_⟩) (by assumption) ?_
          · intro w9 hSw
            exact y_index rfl rfl rfl (hix _)
          simp only [Act.put, List.setIfInBounds_toArray, List.set_cons_zero, List.set_cons_succ]
          refine wpAnyH_take (i := 4) (oi := { dst := some 33, op := _, type := _, pos := _, after := _, guard := _ }) (v := .pointer (some ⟨b, off + i * 42, none⟩)) rfl (by kernel_rfl) (by kernel_rfl) (by kernel_rfl) (fun _ _ _ h => h) (Or.inl ⟨by rfl, ?_⟩) (by assumption) ?_
          · intro w9 hSw
            exact y_field rfl rfl (field_l0 _ _ _)
          simp only [Act.put, List.setIfInBounds_toArray, List.set_cons_zero, List.set_cons_succ]
          refine wpAnyH_take (i := 5) (oi := { dst := some 34, op := _, type := _, pos := _, after := _, guard := _ }) (v := .agg (evc e)) rfl (by kernel_rfl) (by kernel_rfl) (by kernel_rfl) (fun _ _ _ h => h) (Or.inl ⟨by rfl, ?_⟩) (by assumption) ?_
          · intro w9 hSw
            exact y_load rfl rfl (load_em (range_below hre hSw hbw) he16)
          simp only [Act.put, List.setIfInBounds_toArray, List.set_cons_zero, List.set_cons_succ]
          refine wpAnyH_take (i := 6) (oi := { dst := some 35, op := _, type := _, pos := _, after := _, guard := _ }) (v := .slice (some ⟨b, off, none⟩) m c) rfl (by kernel_rfl) (by kernel_rfl) (by kernel_rfl) (fun _ _ _ h => h) (Or.inl ⟨by rfl, ?_⟩) (by assumption) ?_
          · intro w9 hSw
            exact y_move rfl rfl
          simp only [Act.put, List.setIfInBounds_toArray, List.set_cons_zero, List.set_cons_succ]
          refine wpAnyH_take (i := 7) (oi := { dst := some 36, op := _, type := _, pos := _, after := _, guard := _ }) (v := .int .i64 (i : Int)) rfl (by kernel_rfl) (by kernel_rfl) (by kernel_rfl) (fun _ _ _ h => h) (Or.inl ⟨by rfl, ?_⟩) (by assumption) ?_
          · intro w9 hSw
            exact y_move rfl rfl
          simp only [Act.put, List.setIfInBounds_toArray, List.set_cons_zero, List.set_cons_succ]
          refine wpAnyH_take (i := 8) (oi := { dst := some 37, op := _, type := _, pos := _, after := _, guard := _ }) (v := .pointer (some ⟨b, off + i * 42, none⟩)) rfl (by kernel_rfl) (by kernel_rfl) (by kernel_rfl) (fun _ _ _ h => h) (Or.inl ⟨by rfl, ?_⟩) (by assumption) ?_
          · intro w9 hSw
            exact y_index rfl rfl rfl (hix _)
          simp only [Act.put, List.setIfInBounds_toArray, List.set_cons_zero, List.set_cons_succ]
          refine wpAnyH_take (i := 9) (oi := { dst := some 38, op := _, type := _, pos := _, after := _, guard := _ }) (v := .pointer (some ⟨b, off + i * 42 + 26, none⟩)) rfl (by kernel_rfl) (by kernel_rfl) (by kernel_rfl) (fun _ _ _ h => h) (Or.inl ⟨by rfl, ?_⟩) (by assumption) ?_
          · intro w9 hSw
            exact y_field rfl rfl (field_l1 _ _ _)
          simp only [Act.put, List.setIfInBounds_toArray, List.set_cons_zero, List.set_cons_succ]
          refine wpAnyH_take (i := 10) (oi := { dst := some 39, op := _, type := _, pos := _, after := _, guard := _ }) (v := .agg (vals v)) rfl (by kernel_rfl) (by kernel_rfl) (by kernel_rfl) (fun _ _ _ h => h) (Or.inl ⟨by rfl, ?_⟩) (by assumption) ?_
          · intro w9 hSw
            exact y_load rfl rfl (load_vm (range_below hrv hSw hbw) hv16)
          simp only [Act.put, List.setIfInBounds_toArray, List.set_cons_zero, List.set_cons_succ]
          refine wpAnyH_take (i := 12) (oi := { dst := some 41, op := _, type := _, pos := _, after := _, guard := _ }) (v := .pointer (some ⟨g0 + 1, 0, none⟩)) rfl (by kernel_rfl) (by kernel_rfl) (by kernel_rfl) (fun _ _ _ h => h) (Or.inl ⟨by rfl, ?_⟩) (by assumption) ?_
          · intro w9 hSw
            exact y_move rfl rfl
          simp only [Act.put, List.setIfInBounds_toArray, List.set_cons_zero, List.set_cons_succ]
          refine wpAnyH_take (i := 13) (oi := { dst := some 42, op := _, type := _, pos := _, after := _, guard := _ }) (v := .slice (some ⟨b, off, none⟩) m c) rfl (by kernel_rfl) (by kernel_rfl) (by kernel_rfl) (fun _ _ _ h => h) (Or.inl ⟨by rfl, ?_⟩) (by assumption) ?_
          · intro w9 hSw
            exact y_move rfl rfl
          simp only [Act.put, List.setIfInBounds_toArray, List.set_cons_zero, List.set_cons_succ]
          refine wpAnyH_take (i := 14) (oi := { dst := some 43, op := _, type := _, pos := _, after := _, guard := _ }) (v := .int .i64 (i : Int)) rfl (by kernel_rfl) (by kernel_rfl) (by kernel_rfl) (fun _ _ _ h => h) (Or.inl ⟨by rfl, ?_⟩) (by assumption) ?_
          · intro w9 hSw
            exact y_move rfl rfl
          simp only [Act.put, List.setIfInBounds_toArray, List.set_cons_zero, List.set_cons_succ]
          refine wpAnyH_take (i := 15) (oi := { dst := some 44, op := _, type := _, pos := _, after := _, guard := _ }) (v := .pointer (some ⟨b, off + i * 42, none⟩)) rfl (by kernel_rfl) (by kernel_rfl) (by kernel_rfl) (fun _ _ _ h => h) (Or.inl ⟨by rfl, ?_⟩) (by assumption) ?_
          · intro w9 hSw
            exact y_index rfl rfl rfl (hix _)
          simp only [Act.put, List.setIfInBounds_toArray, List.set_cons_zero, List.set_cons_succ]
          refine wpAnyH_take (i := 16) (oi := { dst := some 45, op := _, type := _, pos := _, after := _, guard := _ }) (v := .pointer (some ⟨b, off + i * 42, none⟩)) rfl (by kernel_rfl) (by kernel_rfl) (by kernel_rfl) (fun _ _ _ h => h) (Or.inl ⟨by rfl, ?_⟩) (by assumption) ?_
          · intro w9 hSw
            exact y_field rfl rfl (field_l0 _ _ _)
          simp only [Act.put, List.setIfInBounds_toArray, List.set_cons_zero, List.set_cons_succ]
          refine wpAnyH_take (i := 17) (oi := { dst := some 46, op := _, type := _, pos := _, after := _, guard := _ }) (v := .agg (evc e)) rfl (by kernel_rfl) (by kernel_rfl) (by kernel_rfl) (fun _ _ _ h => h) (Or.inl ⟨by rfl, ?_⟩) (by assumption) ?_
          · intro w9 hSw
            exact y_load rfl rfl (load_em (range_below hre hSw hbw) he16)
          simp only [Act.put, List.setIfInBounds_toArray, List.set_cons_zero, List.set_cons_succ]
          refine wpAnyH_take (i := 18) (oi := { dst := some 47, op := _, type := _, pos := _, after := _, guard := _ }) (v := .slice (some ⟨b, off, none⟩) m c) rfl (by kernel_rfl) (by kernel_rfl) (by kernel_rfl) (fun _ _ _ h => h) (Or.inl ⟨by rfl, ?_⟩) (by assumption) ?_
          · intro w9 hSw
            exact y_move rfl rfl
          simp only [Act.put, List.setIfInBounds_toArray, List.set_cons_zero, List.set_cons_succ]
          refine wpAnyH_take (i := 19) (oi := { dst := some 48, op := _, type := _, pos := _, after := _, guard := _ }) (v := .int .i64 (i : Int)) rfl (by kernel_rfl) (by kernel_rfl) (by kernel_rfl) (fun _ _ _ h => h) (Or.inl ⟨by rfl, ?_⟩) (by assumption) ?_
          · intro w9 hSw
            exact y_move rfl rfl
          simp only [Act.put, List.setIfInBounds_toArray, List.set_cons_zero, List.set_cons_succ]
          refine wpAnyH_take (i := 20) (oi := { dst := some 49, op := _, type := _, pos := _, after := _, guard := _ }) (v := .pointer (some ⟨b, off + i * 42, none⟩)) rfl (by kernel_rfl) (by kernel_rfl) (by kernel_rfl) (fun _ _ _ h => h) (Or.inl ⟨by rfl, ?_⟩) (by assumption) ?_
          · intro w9 hSw
            exact y_index rfl rfl rfl (hix _)
          simp only [Act.put, List.setIfInBounds_toArray, List.set_cons_zero, List.set_cons_succ]
          refine wpAnyH_take (i := 21) (oi := { dst := some 50, op := _, type := _, pos := _, after := _, guard := _ }) (v := .pointer (some ⟨b, off + i * 42 + 26, none⟩)) rfl (by kernel_rfl) (by kernel_rfl) (by kernel_rfl) (fun _ _ _ h => h) (Or.inl ⟨by rfl, ?_⟩) (by assumption) ?_
          · intro w9 hSw
            exact y_field rfl rfl (field_l1 _ _ _)
          simp only [Act.put, List.setIfInBounds_toArray, List.set_cons_zero, List.set_cons_succ]
          refine wpAnyH_take (i := 22) (oi := { dst := some 51, op := _, type := _, pos := _, after := _, guard := _ }) (v := .agg (vals v)) rfl (by kernel_rfl) (by kernel_rfl) (by kernel_rfl) (fun _ _ _ h => h) (Or.inl ⟨by rfl, ?_⟩) (by assumption) ?_
          · intro w9 hSw
            exact y_load rfl rfl (load_vm (range_below hrv hSw hbw) hv16)
          simp only [Act.put, List.setIfInBounds_toArray, List.set_cons_zero, List.set_cons_succ]
          clear hHeld
          refine wpAnyH_ready (rs := [11]) (by kernel_rfl) (by simp) ?_
          refine AllReadyH.cons (o := { dst := some 40, op := _, type := _, pos := _, after := _, guard := _ }) rfl (fun K hK => ?_) AllReadyH.nil
          rw [if_pos (by rfl)]
          refine y_call (f := 11) (xs := [.tmp 29, .tmp 34, .tmp 39]) (vs := [.pointer (some ⟨g0, 0, none⟩), .agg (evc e), .agg (vals v)]) rfl rfl (enters_offer _ _) (offer_any (g0) mm S e v hwe hv16 wr.drew HL.out.bf HBS.out HWS.out) ?_
          rintro ex wp ⟨vp, Tp, Sp, up, mp, rfl, hOp, -, hrp, hBp, htp⟩
          refine ⟨_, rfl, ?_⟩
          have hLp : Below w.heap.size w wp := (Tn.low HL.out.below htp HL.out.below.size HL.out.lo.1 HL.out.own).1
          have hRp := HL.out.rf.tn HL.out.bf HL.out.lo.2.2 htp
          refine hK.out _ _ hLp (fun hHeld => ?_)
          clear hK K
          simp only [Act.put, List.setIfInBounds_toArray, List.set_cons_zero, List.set_cons_succ]
          clear hHeld
          refine wpAnyH_ready (rs := [23]) (by kernel_rfl) (by simp) ?_
          refine AllReadyH.cons (o := { dst := some 52, op := _, type := _, pos := _, after := _, guard := _ }) rfl (fun K hK => ?_) AllReadyH.nil
          rw [if_pos (by rfl)]
          refine y_call (f := 12) (xs := [.tmp 41, .tmp 46, .tmp 51]) (vs := [.pointer (some ⟨g0 + 1, 0, none⟩), .agg (evc e), .agg (vals v)]) rfl rfl (enters_roffer _ _) (roffer_any (g0 + 1) c1 S e v wp hRp HBS.out HWS.out hwe hv16 hfit) ?_
          rintro ex wq ⟨vq, Tq, Sq, cq, uq, rfl, hOq, hrq, hRq, hgq⟩
          refine ⟨_, rfl, ?_⟩
          obtain ⟨wF, hwF⟩ : ∃ wF, wq = wF := ⟨_, rfl⟩
          have hLF0 : Below w.heap.size w wq := hLp.grown hgq hLp.size (fun k e1 => by cases e1; exact HL.out.lo.2.1)
          have hgl : g0 + 1 < wr.drew.heap.size := HL.out.rf.lt
          have hrP : Row wq wr.drew.heap.size vp Tp := keepR hrp fun k hk => hgq.block k (World.ownsRow.lt hrp k hk).2 (fun e1 => by have := Row.own hrp k hk; cases e1; omega)
          have hrQ := hrq
          have hLF : Lp w (g0) (g0 + 1) wq mp cq Sp := ⟨hLF0, hBp.grow2 hRp HL.out.lo.2.2 hgq, by obtain ⟨-, h9⟩ := hOp.one hOq; rw [h9]; exact hRq, HL.out.lo, (Tn.low HL.out.below htp HL.out.below.size HL.out.lo.1 HL.out.own).2⟩
          refine hK.out _ _ hLF0 (fun hHeld => ?_)
          clear hK K
          simp only [Act.put, List.setIfInBounds_toArray, List.set_cons_zero, List.set_cons_succ]
          rw [hwF] at *
          clear hHeld
          obtain ⟨rfl, rfl⟩ := hOp.one hOq
          have hwT := (hOp.wide HWS.out hwe).1
          have hT64 := hOp.len HBS.out
          obtain ⟨ap, kp, hvp, hEp⟩ := hrP.evs hwT
          obtain ⟨aq, kq, hvq, hEq⟩ := hrQ.evs hwT
          subst hvp hvq
          have hSm := same_yes ap aq Tp.length kp kq Tp wF hEp hEq (by omega)
          refine wpAnyH_ready (rs := [24]) (by kernel_rfl) (by simp) ?_
          refine AllReadyH.cons (o := { dst := some 53, op := _, type := _, pos := _, after := _, guard := _ }) rfl (fun K hK => ?_) AllReadyH.nil
          rw [if_pos (by rfl)]
          refine y_call (f := 10) (xs := [.tmp 40, .tmp 52]) (vs := [.slice ap Tp.length kp, .slice aq Tp.length kq]) rfl rfl (enters_same _ _) hSm ?_
          rintro ex ws ⟨rfl, hbs⟩
          refine ⟨_, rfl, ?_⟩
          have hLs : Lp w (g0) (g0 + 1) ws mp cq Sp := hLF.next hbs
          refine hK.out _ _ hLs.below (fun hHeld => ?_)
          clear hK K
          simp only [Act.put, List.setIfInBounds_toArray, List.set_cons_zero, List.set_cons_succ]
          refine wpAnyH_take (i := 25) (oi := { dst := some 54, op := _, type := _, pos := _, after := _, guard := _ }) (v := .bool false) rfl (by kernel_rfl) (by kernel_rfl) (by kernel_rfl) (fun _ _ _ h => h) (Or.inl ⟨by rfl, ?_⟩) (by assumption) ?_
          · intro w9 hSw
            exact y_not rfl rfl rfl
          simp only [Act.put, List.setIfInBounds_toArray, List.set_cons_zero, List.set_cons_succ]
          refine wpAnyH_take (i := 26) (oi := { dst := some 55, op := _, type := _, pos := _, after := _, guard := _ }) (v := .bool false) rfl (by kernel_rfl) (by kernel_rfl) (by kernel_rfl) (fun _ _ _ h => h) (Or.inl ⟨by rfl, ?_⟩) (by assumption) ?_
          · intro w9 hSw
            exact y_move rfl rfl
          simp only [Act.put, List.setIfInBounds_toArray, List.set_cons_zero, List.set_cons_succ]
          refine wpAnyH_take (i := 27) (oi := { dst := some 56, op := _, type := _, pos := _, after := _, guard := _ }) (v := .pointer (some ⟨g0, 0, none⟩)) rfl (by kernel_rfl) (by kernel_rfl) (by kernel_rfl) (fun _ _ _ h => h) (Or.inl ⟨by rfl, ?_⟩) (by assumption) ?_
          · intro w9 hSw
            exact y_move rfl rfl
          simp only [Act.put, List.setIfInBounds_toArray, List.set_cons_zero, List.set_cons_succ]
          refine wpAnyH_take (i := 29) (oi := { dst := some 58, op := _, type := _, pos := _, after := _, guard := _ }) (v := .pointer (some ⟨g0 + 1, 0, none⟩)) rfl (by kernel_rfl) (by kernel_rfl) (by kernel_rfl) (fun _ _ _ h => h) (Or.inl ⟨by rfl, ?_⟩) (by assumption) ?_
          · intro w9 hSw
            exact y_move rfl rfl
          simp only [Act.put, List.setIfInBounds_toArray, List.set_cons_zero, List.set_cons_succ]
          refine wpAnyH_take (i := 30) (oi := { dst := some 59, op := _, type := _, pos := _, after := _, guard := _ }) (v := .pointer (some ⟨g0 + 1, 0, none⟩)) rfl (by kernel_rfl) (by kernel_rfl) (by kernel_rfl) (fun _ _ _ h => h) (Or.inl ⟨by rfl, ?_⟩) (by assumption) ?_
          · intro w9 hSw
            exact y_nil rfl rfl
          simp only [Act.put, List.setIfInBounds_toArray, List.set_cons_zero, List.set_cons_succ]
          refine wpAnyH_take (i := 31) (oi := { dst := some 60, op := _, type := _, pos := _, after := _, guard := _ }) (v := .pointer (some ⟨g0 + 1, 0, none⟩)) rfl (by kernel_rfl) (by kernel_rfl) (by kernel_rfl) (fun _ _ _ h => h) (Or.inl ⟨by rfl, ?_⟩) (by assumption) ?_
          · intro w9 hSw
            exact y_field rfl rfl (field_r _ _)
          simp only [Act.put, List.setIfInBounds_toArray, List.set_cons_zero, List.set_cons_succ]
          have hLn := qlen_any _ mp Sp ws hLs.bf
          obtain ⟨ac, kc, hcc, -⟩ := hLs.rf.val (hOp.wide HWS.out hwe).2
          have hll := load_rl hLs.rf.blk ⟨ac, Sp.length, kc, hcc⟩
          rw [hcc] at hll
          have hrelF : Aside (∃ mm c1 S, Lp w (g0) (g0 + 1) ws mm c1 S ∧ Buf S ∧ ∀ x ∈ S, Wide x) := ⟨mp, cq, Sp, hLs, hOp.buf HBS.out, (hOp.wide HWS.out hwe).2⟩
          clear hHeld
          refine wpAnyH_ready (rs := [28, 32]) (by kernel_rfl) (by simp) ?_
          refine AllReadyH.cons (o := { dst := some 57, op := _, type := _, pos := _, after := _, guard := _ }) rfl (fun K hK => ?_) ?_
          · rw [if_pos (by rfl)]
            refine y_call (f := 13) (xs := [.tmp 56]) (vs := [.pointer (some ⟨g0, 0, none⟩)]) rfl rfl (enters_qlen _ _) hLn ?_
            rintro ex wl ⟨rfl, hwl⟩
            obtain rfl := hwl.symm
            refine ⟨_, rfl, ?_⟩
            refine hK.out _ _ hLs.below (fun hHeld => ?_)
            clear hK K
            simp only [Act.put, List.setIfInBounds_toArray, List.set_cons_zero, List.set_cons_succ]
            clear hHeld
            refine wpAnyH_ready (rs := [32]) (by kernel_rfl) (by simp) ?_
            refine AllReadyH.cons (o := { dst := some 61, op := _, type := _, pos := _, after := _, guard := _ }) rfl (fun K hK => ?_) AllReadyH.nil
            rw [if_pos (by rfl)]
            refine y_ldw (ty := 27) (x := .tmp 60) (ad := ⟨g0 + 1, 0, none⟩) (v := .slice ac Sp.length kc) rfl rfl hll ?_
            refine hK.out _ _ hLs.below (fun hHeld => ?_)
            clear hK K
            simp only [Act.put, List.setIfInBounds_toArray, List.set_cons_zero, List.set_cons_succ]
            refine wpAnyH_take (i := 33) (oi := { dst := some 62, op := _, type := _, pos := _, after := _, guard := _ }) (v := .int .i64 (Sp.length : Int)) rfl (by kernel_rfl) (by kernel_rfl) (by kernel_rfl) (fun _ _ _ h => h) (Or.inl ⟨by rfl, ?_⟩) (by assumption) ?_
            · intro w9 hSw
              exact y_len rfl rfl
            simp only [Act.put, List.setIfInBounds_toArray, List.set_cons_zero, List.set_cons_succ]
            refine wpAnyH_take (i := 34) (oi := { dst := some 63, op := _, type := _, pos := _, after := _, guard := _ }) (v := .bool false) rfl (by kernel_rfl) (by kernel_rfl) (by kernel_rfl) (fun _ _ _ h => h) (Or.inl ⟨by rfl, ?_⟩) (by assumption) ?_
            · intro w9 hSw
              exact exec_bin rfl rfl rfl (eqGuard_ii _ _ _) (neq_ii _ _)
            simp only [Act.put, List.setIfInBounds_toArray, List.set_cons_zero, List.set_cons_succ]
            refine wpAnyH_take (i := 35) (oi := { dst := some 64, op := _, type := _, pos := _, after := _, guard := _ }) (v := .bool false) rfl (by kernel_rfl) (by kernel_rfl) (by kernel_rfl) (fun _ _ _ h => h) (Or.inl ⟨by rfl, ?_⟩) (by assumption) ?_
            · intro w9 hSw
              exact exec_pick (b := false) rfl rfl rfl rfl
            simp only [Act.put, List.setIfInBounds_toArray, List.set_cons_zero, List.set_cons_succ]
            refine wpAnyH_done (by kernel_rfl) ?_ _
            refine NoPanic.normal ?_
            clear hHeld
            go_wp2
            go_meet
            case rel => exact ⟨rfl, hrelF⟩
          refine AllReadyH.cons (o := { dst := some 61, op := _, type := _, pos := _, after := _, guard := _ }) rfl (fun K hK => ?_) AllReadyH.nil
          rw [if_pos (by rfl)]
          refine y_ldw (ty := 27) (x := .tmp 60) (ad := ⟨g0 + 1, 0, none⟩) (v := .slice ac Sp.length kc) rfl rfl hll ?_
          refine hK.out _ _ hLs.below (fun hHeld => ?_)
          clear hK K
          simp only [Act.put, List.setIfInBounds_toArray, List.set_cons_zero, List.set_cons_succ]
          refine wpAnyH_take (i := 33) (oi := { dst := some 62, op := _, type := _, pos := _, after := _, guard := _ }) (v := .int .i64 (Sp.length : Int)) rfl (by kernel_rfl) (by kernel_rfl) (by kernel_rfl) (fun _ _ _ h => h) (Or.inl ⟨by rfl, ?_⟩) (by assumption) ?_
          · intro w9 hSw
            exact y_len rfl rfl
          simp only [Act.put, List.setIfInBounds_toArray, List.set_cons_zero, List.set_cons_succ]
          clear hHeld
          refine wpAnyH_ready (rs := [28]) (by kernel_rfl) (by simp) ?_
          refine AllReadyH.cons (o := { dst := some 57, op := _, type := _, pos := _, after := _, guard := _ }) rfl (fun K hK => ?_) AllReadyH.nil
          rw [if_pos (by rfl)]
          refine y_call (f := 13) (xs := [.tmp 56]) (vs := [.pointer (some ⟨g0, 0, none⟩)]) rfl rfl (enters_qlen _ _) hLn ?_
          rintro ex wl ⟨rfl, hwl⟩
          obtain rfl := hwl.symm
          refine ⟨_, rfl, ?_⟩
          refine hK.out _ _ hLs.below (fun hHeld => ?_)
          clear hK K
          simp only [Act.put, List.setIfInBounds_toArray, List.set_cons_zero, List.set_cons_succ]
          refine wpAnyH_take (i := 34) (oi := { dst := some 63, op := _, type := _, pos := _, after := _, guard := _ }) (v := .bool false) rfl (by kernel_rfl) (by kernel_rfl) (by kernel_rfl) (fun _ _ _ h => h) (Or.inl ⟨by rfl, ?_⟩) (by assumption) ?_
          · intro w9 hSw
            exact exec_bin rfl rfl rfl (eqGuard_ii _ _ _) (neq_ii _ _)
          simp only [Act.put, List.setIfInBounds_toArray, List.set_cons_zero, List.set_cons_succ]
          refine wpAnyH_take (i := 35) (oi := { dst := some 64, op := _, type := _, pos := _, after := _, guard := _ }) (v := .bool false) rfl (by kernel_rfl) (by kernel_rfl) (by kernel_rfl) (fun _ _ _ h => h) (Or.inl ⟨by rfl, ?_⟩) (by assumption) ?_
          · intro w9 hSw
            exact exec_pick (b := false) rfl rfl rfl rfl
          simp only [Act.put, List.setIfInBounds_toArray, List.set_cons_zero, List.set_cons_succ]
          refine wpAnyH_done (by kernel_rfl) ?_ _
          refine NoPanic.normal ?_
          clear hHeld
          go_wp2
          go_meet
          case rel => exact ⟨rfl, hrelF⟩
        case rest =>
          obtain ⟨rfl, HA⟩ := hcut
          obtain ⟨m2, c2, S2, hL2, hB2, hW2⟩ := HA.out
          have HX : Hid _ := hL2
          have HY : Hid _ := hB2
          have HZ : Hid _ := hW2
          clear hL2 hB2 hW2 HA HL hBd
          go_wp2
          go_roundw
          case rel => exact ⟨i + 1, m2, c2, S2, by omega, by go_num, HX.out, HY.out, HZ.out⟩
          case measure => simp [intOf]; omega
      · have hlt' : ¬ (i : Int) < (m : Int) := by omega
        have hLd := hL.next (Below.refl _ _).drew
        obtain ⟨a1, k1, hc1, -⟩ := hLd.rf.val hWS
        have hLn := qlen_any (g0) mm S wr.drew hLd.bf
        have hblk := hLd.rf.blk
        have HBF := hLd.below
        have hll := load_rl (w := wr.drew) hblk ⟨a1, S.length, k1, hc1⟩
        subst hc1
        go_upto_region 14 with fail
        refine wp_region_noPanic ?_
        refine wp_region_held_drew (S := fun W' : World => W'.heap[g0 + 1]? = some (.cells #[.slice a1 S.length k1] 29 (0, 0))) (by kernel_rfl) hblk (fun hHeld => ?_)
        refine wpAnyH_take (i := 0) (oi := { dst := some 66, op := _, type := _, pos := _, after := _, guard := _ }) (v := .pointer (some ⟨g0, 0, none⟩)) rfl (by kernel_rfl) (by kernel_rfl) (by kernel_rfl) (fun _ _ _ h => h) (Or.inl ⟨by rfl, ?_⟩) (by assumption) ?_
        · intro w9 hSw
          exact y_move rfl rfl
        simp only [Act.put, List.setIfInBounds_toArray, List.set_cons_zero, List.set_cons_succ]
        refine wpAnyH_take (i := 2) (oi := { dst := some 68, op := _, type := _, pos := _, after := _, guard := _ }) (v := .pointer (some ⟨g0 + 1, 0, none⟩)) rfl (by kernel_rfl) (by kernel_rfl) (by kernel_rfl) (fun _ _ _ h => h) (Or.inl ⟨by rfl, ?_⟩) (by assumption) ?_
        · intro w9 hSw
          exact y_move rfl rfl
        simp only [Act.put, List.setIfInBounds_toArray, List.set_cons_zero, List.set_cons_succ]
        refine wpAnyH_take (i := 3) (oi := { dst := some 69, op := _, type := _, pos := _, after := _, guard := _ }) (v := .pointer (some ⟨g0 + 1, 0, none⟩)) rfl (by kernel_rfl) (by kernel_rfl) (by kernel_rfl) (fun _ _ _ h => h) (Or.inl ⟨by rfl, ?_⟩) (by assumption) ?_
        · intro w9 hSw
          exact y_nil rfl rfl
        simp only [Act.put, List.setIfInBounds_toArray, List.set_cons_zero, List.set_cons_succ]
        refine wpAnyH_take (i := 4) (oi := { dst := some 70, op := _, type := _, pos := _, after := _, guard := _ }) (v := .pointer (some ⟨g0 + 1, 0, none⟩)) rfl (by kernel_rfl) (by kernel_rfl) (by kernel_rfl) (fun _ _ _ h => h) (Or.inl ⟨by rfl, ?_⟩) (by assumption) ?_
        · intro w9 hSw
          exact y_field rfl rfl (field_r _ _)
        simp only [Act.put, List.setIfInBounds_toArray, List.set_cons_zero, List.set_cons_succ]
        refine wpAnyH_take (i := 5) (oi := { dst := some 71, op := _, type := _, pos := _, after := _, guard := _ }) (v := .slice a1 S.length k1) rfl (by kernel_rfl) (by kernel_rfl) (by kernel_rfl) (fun _ _ _ h => h) (Or.inl ⟨by rfl, ?_⟩) (by assumption) ?_
        · intro w9 hSw
          exact y_load rfl rfl (load_rl hSw ⟨_, _, _, rfl⟩)
        simp only [Act.put, List.setIfInBounds_toArray, List.set_cons_zero, List.set_cons_succ]
        refine wpAnyH_take (i := 6) (oi := { dst := some 72, op := _, type := _, pos := _, after := _, guard := _ }) (v := .int .i64 (S.length : Int)) rfl (by kernel_rfl) (by kernel_rfl) (by kernel_rfl) (fun _ _ _ h => h) (Or.inl ⟨by rfl, ?_⟩) (by assumption) ?_
        · intro w9 hSw
          exact y_len rfl rfl
        simp only [Act.put, List.setIfInBounds_toArray, List.set_cons_zero, List.set_cons_succ]
        clear hHeld
        refine wpAnyH_ready (rs := [1]) (by kernel_rfl) (by simp) ?_
        refine AllReadyH.cons (o := { dst := some 67, op := _, type := _, pos := _, after := _, guard := _ }) rfl (fun K hK => ?_) AllReadyH.nil
        rw [if_pos (by rfl)]
        refine y_call (f := 13) (xs := [.tmp 66]) (vs := [.pointer (some ⟨g0, 0, none⟩)]) rfl rfl (enters_qlen _ _) hLn ?_
        rintro ex wl ⟨rfl, hwl⟩
        obtain rfl := hwl.symm
        refine ⟨_, rfl, ?_⟩
        refine hK.out _ _ hblk (fun hHeld => ?_)
        clear hK K
        simp only [Act.put, List.setIfInBounds_toArray, List.set_cons_zero, List.set_cons_succ]
        refine wpAnyH_take (i := 7) (oi := { dst := some 73, op := _, type := _, pos := _, after := _, guard := _ }) (v := .bool true) rfl (by kernel_rfl) (by kernel_rfl) (by kernel_rfl) (fun _ _ _ h => h) (Or.inl ⟨by rfl, ?_⟩) (by assumption) ?_
        · intro w9 hSw
          exact exec_bin rfl rfl rfl (eqGuard_ii _ _ _) (eql_ii _ (decide_eq_true rfl))
        simp only [Act.put, List.setIfInBounds_toArray, List.set_cons_zero, List.set_cons_succ]
        refine wpAnyH_take (i := 8) (oi := { dst := some 4, op := _, type := _, pos := _, after := _, guard := _ }) (v := .bool true) rfl (by kernel_rfl) (by kernel_rfl) (by kernel_rfl) (fun _ _ _ h => h) (Or.inl ⟨by rfl, ?_⟩) (by assumption) ?_
        · intro w9 hSw
          exact y_assign rfl rfl
        simp only [Act.put, List.setIfInBounds_toArray, List.set_cons_zero, List.set_cons_succ]
        refine wpAnyH_done (by kernel_rfl) ?_ _
        refine NoPanic.normal ?_
        clear hHeld
        go_wp2
        go_ret
        exact ⟨rfl, HBF⟩
  · have hF4 := bf_new (w2.alloc (.cells #[.slice none 0 0] 29))
    rw [hs3] at hF4
    have hb4 : Below (w2.alloc (.cells #[.slice none 0 0] 29)).heap.size (w2.alloc (.cells #[.slice none 0 0] 29)) ((w2.alloc (.cells #[.slice none 0 0] 29)).alloc (.cells #[.map none] 34)) := (Below.refl _ _).alloc (Nat.le_refl _) _
    have hL0 : Hid (Lp w (g0 + 2) (g0 + 1) ((w2.alloc (.cells #[.slice none 0 0] 29)).alloc (.cells #[.map none] 34)) none (.slice none 0 0) []) := ⟨HB3.out.trans (hb4.mono HB3.out.size), hF4, hR3.below hb4, ⟨by omega, by omega, by omega⟩, fun k e => by cases e⟩
    have hne := fun W : World => eql_pb W ⟨g0 + 2, 0, none⟩
    clear hF0 hF3 hR3 hb1 hb2 hb3 hA HB3 hO hb4 hF4
    go_wp2_with fail
    refine Calls.mono hN ?_
    rintro ex w2' ⟨rfl, hw2⟩
    obtain rfl := hw2.symm
    clear hN
    go_wp2_with fail
    generalize (w2.alloc (.cells #[.slice none 0 0] 29)).alloc (.cells #[.map none] 34) = W3 at *
    have hrel0 : Hid (∃ (i : Nat) (mm : Option Nat) (c1 : Value) (S : List Ev), i ≤ m ∧ Value.int .i64 0 = .int .i64 (i : Int) ∧ Lp w (g0 + 2) (g0 + 1) W3 mm c1 S ∧ Buf S ∧ ∀ x ∈ S, Wide x) := ⟨0, none, .slice none 0 0, [], Nat.zero_le _, rfl, hL0.out, Buf.nil, fun _ h => by simp at h⟩
    clear hL0
    go_loopw [26] (fun c26 wr => ∃ (i : Nat) (mm : Option Nat) (c1 : Value) (S : List Ev), i ≤ m ∧ c26 = .int .i64 (i : Int) ∧ Lp w (g0 + 2) (g0 + 1) wr mm c1 S ∧ Buf S ∧ ∀ x ∈ S, Wide x) (fun c26 _ => m - (intOf c26).toNat)
    case atStart => exact hrel0.out
    case round =>
      clear hrel0
      obtain ⟨i, mm, c1, S, hi, rfl, hL, hBS, hWS⟩ := hrel
      by_cases hlt : i < m
      · have hlt' : (i : Int) < (m : Int) := by omega
        obtain ⟨b, off, rfl, hbw, hop⟩ := HU.out.2.resolve_left (by omega)
        have hoi := hop i hlt
        obtain ⟨o, ho⟩ : ∃ o, O i = o := ⟨_, rfl⟩
        rw [ho] at hoi
        obtain ⟨e, v⟩ := o
        have hwe : Wide e := hoi.wide
        have he16 : e.deps.length = 16 := hwe.1
        have hv16 : v.length = 16 := hoi.len
        have hfit : Fit v := hoi.fit
        have hre : w.rangeAt b (off + i * 42) (evl e) := hoi.ev
        have hrv : w.rangeAt b (off + i * 42 + 26) (v.map (Value.int .i64)) := hoi.vec
        clear ho
        have hLd := hL.next (Below.refl _ _).drew
        have HL : Hid _ := hLd
        have hBd := hLd.below
        have hix := fun W : World => index_lop W (b := b) (off := off) (c := c) hlt
        have HBS : Hid _ := hBS
        have HWS : Hid _ := hWS
        clear hL hop hoi hLd hBS hWS
        go_upto_region 11 with fail
        go_cut [64] from 29 to 65 (fun v64 wz => v64 = .bool false ∧ Aside (∃ mm c1 S, Lp w (g0 + 2) (g0 + 1) wz mm c1 S ∧ Buf S ∧ ∀ x ∈ S, Wide x))
        case first =>
          refine wp_region_noPanic ?_
          refine wp_region_held_drew (S := fun W' : World => Below w.heap.size w W') (by kernel_rfl) hBd (fun hHeld => ?_)
          refine wpAnyH_take (i := 0) (oi := { dst := some 29, op := _, type := _, pos := _, after := _, guard := _ }) (v := .pointer (some ⟨g0 + 2, 0, none⟩)) rfl (by kernel_rfl) (by kernel_rfl) (by kernel_rfl) (fun _ _ _ h => h) (Or.inl ⟨by rfl, ?_⟩) (by assumption) ?_
          · intro w9 hSw
            exact y_move rfl rfl
          simp only [Act.put, List.setIfInBounds_toArray, List.set_cons_zero, List.set_cons_succ]
          refine wpAnyH_take (i := 1) (oi := { dst := some 30, op := _, type := _, pos := _, after := _, guard := _ }) (v := .slice (some ⟨b, off, none⟩) m c) rfl (by kernel_rfl) (by kernel_rfl) (by kernel_rfl) (fun _ _ _ h => h) (Or.inl ⟨by rfl, ?_⟩) (by assumption) ?_
          · intro w9 hSw
            exact y_move rfl rfl
          simp only [Act.put, List.setIfInBounds_toArray, List.set_cons_zero, List.set_cons_succ]
          refine wpAnyH_take (i := 2) (oi := { dst := some 31, op := _, type := _, pos := _, after := _, guard := _ }) (v := .int .i64 (i : Int)) rfl (by kernel_rfl) (by kernel_rfl) (by kernel_rfl) (fun _ _ _ h => h) (Or.inl ⟨by rfl, ?_⟩) (by assumption) ?_
          · intro w9 hSw
            exact y_move rfl rfl
          simp only [Act.put, List.setIfInBounds_toArray, List.set_cons_zero, List.set_cons_succ]
          refine wpAnyH_take (i := 3) (oi := { dst := some 32, op := _, type := _, pos := _, after := _, guard := _ }) (v := .pointer (some ⟨b, off + i * 42, none⟩)) rfl (by kernel_rfl) (by kernel_rfl) (by kernel_rfl) (fun _ _ _ h => h) (Or.inl ⟨by rfl, ?_⟩) (by assumption) ?_
          · intro w9 hSw
            exact y_index rfl rfl rfl (hix _)
          simp only [Act.put, List.setIfInBounds_toArray, List.set_cons_zero, List.set_cons_succ]
          refine wpAnyH_take (i := 4) (oi := { dst := some 33, op := _, type := _, pos := _, after := _, guard := _ }) (v := .pointer (some ⟨b, off + i * 42, none⟩)) rfl (by kernel_rfl) (by kernel_rfl) (by kernel_rfl) (fun _ _ _ h => h) (Or.inl ⟨by rfl, ?_⟩) (by assumption) ?_
          · intro w9 hSw
            exact y_field rfl rfl (field_l0 _ _ _)
          simp only [Act.put, List.setIfInBounds_toArray, List.set_cons_zero, List.set_cons_succ]
          refine wpAnyH_take (i := 5) (oi := { dst := some 34, op := _, type := _, pos := _, after := _, guard := _ }) (v := .agg (evc e)) rfl (by kernel_rfl) (by kernel_rfl) (by kernel_rfl) (fun _ _ _ h => h) (Or.inl ⟨by rfl, ?_⟩) (by assumption) ?_
          · intro w9 hSw
            exact y_load rfl rfl (load_em (range_below hre hSw hbw) he16)
          simp only [Act.put, List.setIfInBounds_toArray, List.set_cons_zero, List.set_cons_succ]
          refine wpAnyH_take (i := 6) (oi := { dst := some 35, op := _, type := _, pos := _, after := _, guard := _ }) (v := .slice (some ⟨b, off, none⟩) m c) rfl (by kernel_rfl) (by kernel_rfl) (by kernel_rfl) (fun _ _ _ h => h) (Or.inl ⟨by rfl, ?_⟩) (by assumption) ?_
          · intro w9 hSw
            exact y_move rfl rfl
          simp only [Act.put, List.setIfInBounds_toArray, List.set_cons_zero, List.set_cons_succ]
          refine wpAnyH_take (i := 7) (oi := { dst := some 36, op := _, type := _, pos := _, after := _, guard := _ }) (v := .int .i64 (i : Int)) rfl (by kernel_rfl) (by kernel_rfl) (by kernel_rfl) (fun _ _ _ h => h) (Or.inl ⟨by rfl, ?_⟩) (by assumption) ?_
          · intro w9 hSw
            exact y_move rfl rfl
          simp only [Act.put, List.setIfInBounds_toArray, List.set_cons_zero, List.set_cons_succ]
          refine wpAnyH_take (i := 8) (oi := { dst := some 37, op := _, type := _, pos := _, after := _, guard := _ }) (v := .pointer (some ⟨b, off + i * 42, none⟩)) rfl (by kernel_rfl) (by kernel_rfl) (by kernel_rfl) (fun _ _ _ h => h) (Or.inl ⟨by rfl, ?_⟩) (by assumption) ?_
          · intro w9 hSw
            exact y_index rfl rfl rfl (hix _)
          simp only [Act.put, List.setIfInBounds_toArray, List.set_cons_zero, List.set_cons_succ]
          refine wpAnyH_take (i := 9) (oi := { dst := some 38, op := _, type := _, pos := _, after := _, guard := _ }) (v := .pointer (some ⟨b, off + i * 42 + 26, none⟩)) rfl (by kernel_rfl) (by kernel_rfl) (by kernel_rfl) (fun _ _ _ h => h) (Or.inl ⟨by rfl, ?_⟩) (by assumption) ?_
          · intro w9 hSw
            exact y_field rfl rfl (field_l1 _ _ _)
          simp only [Act.put, List.setIfInBounds_toArray, List.set_cons_zero, List.set_cons_succ]
          refine wpAnyH_take (i := 10) (oi := { dst := some 39, op := _, type := _, pos := _, after := _, guard := _ }) (v := .agg (vals v)) rfl (by kernel_rfl) (by kernel_rfl) (by kernel_rfl) (fun _ _ _ h => h) (Or.inl ⟨by rfl, ?_⟩) (by assumption) ?_
          · intro w9 hSw
            exact y_load rfl rfl (load_vm (range_below hrv hSw hbw) hv16)
          simp only [Act.put, List.setIfInBounds_toArray, List.set_cons_zero, List.set_cons_succ]
          refine wpAnyH_take (i := 12) (oi := { dst := some 41, op := _, type := _, pos := _, after := _, guard := _ }) (v := .pointer (some ⟨g0 + 1, 0, none⟩)) rfl (by kernel_rfl) (by kernel_rfl) (by kernel_rfl) (fun _ _ _ h => h) (Or.inl ⟨by rfl, ?_⟩) (by assumption) ?_
          · intro w9 hSw
            exact y_move rfl rfl
          simp only [Act.put, List.setIfInBounds_toArray, List.set_cons_zero, List.set_cons_succ]
          refine wpAnyH_take (i := 13) (oi := { dst := some 42, op := _, type := _, pos := _, after := _, guard := _ }) (v := .slice (some ⟨b, off, none⟩) m c) rfl (by kernel_rfl) (by kernel_rfl) (by kernel_rfl) (fun _ _ _ h => h) (Or.inl ⟨by rfl, ?_⟩) (by assumption) ?_
          · intro w9 hSw
            exact y_move rfl rfl
          simp only [Act.put, List.setIfInBounds_toArray, List.set_cons_zero, List.set_cons_succ]
          refine wpAnyH_take (i := 14) (oi := { dst := some 43, op := _, type := _, pos := _, after := _, guard := _ }) (v := .int .i64 (i : Int)) rfl (by kernel_rfl) (by kernel_rfl) (by kernel_rfl) (fun _ _ _ h => h) (Or.inl ⟨by rfl, ?_⟩) (by assumption) ?_
          · intro w9 hSw
            exact y_move rfl rfl
          simp only [Act.put, List.setIfInBounds_toArray, List.set_cons_zero, List.set_cons_succ]
          refine wpAnyH_take (i := 15) (oi := { dst := some 44, op := _, type := _, pos := _, after := _, guard := _ }) (v := .pointer (some ⟨b, off + i * 42, none⟩)) rfl (by kernel_rfl) (by kernel_rfl) (by kernel_rfl) (fun _ _ _ h => h) (Or.inl ⟨by rfl, ?_⟩) (by assumption) ?_
          · intro w9 hSw
            exact y_index rfl rfl rfl (hix _)
          simp only [Act.put, List.setIfInBounds_toArray, List.set_cons_zero, List.set_cons_succ]
          refine wpAnyH_take (i := 16) (oi := { dst := some 45, op := _, type := _, pos := _, after := _, guard := _ }) (v := .pointer (some ⟨b, off + i * 42, none⟩)) rfl (by kernel_rfl) (by kernel_rfl) (by kernel_rfl) (fun _ _ _ h => h) (Or.inl ⟨by rfl, ?_⟩) (by assumption) ?_
          · intro w9 hSw
            exact y_field rfl rfl (field_l0 _ _ _)
          simp only [Act.put, List.setIfInBounds_toArray, List.set_cons_zero, List.set_cons_succ]
          refine wpAnyH_take (i := 17) (oi := { dst := some 46, op := _, type := _, pos := _, after := _, guard := _ }) (v := .agg (evc e)) rfl (by kernel_rfl) (by kernel_rfl) (by kernel_rfl) (fun _ _ _ h => h) (Or.inl ⟨by rfl, ?_⟩) (by assumption) ?_
          · intro w9 hSw
            exact y_load rfl rfl (load_em (range_below hre hSw hbw) he16)
          simp only [Act.put, List.setIfInBounds_toArray, List.set_cons_zero, List.set_cons_succ]
          refine wpAnyH_take (i := 18) (oi := { dst := some 47, op := _, type := _, pos := _, after := _, guard := _ }) (v := .slice (some ⟨b, off, none⟩) m c) rfl (by kernel_rfl) (by kernel_rfl) (by kernel_rfl) (fun _ _ _ h => h) (Or.inl ⟨by rfl, ?_⟩) (by assumption) ?_
          · intro w9 hSw
            exact y_move rfl rfl
          simp only [Act.put, List.setIfInBounds_toArray, List.set_cons_zero, List.set_cons_succ]
          refine wpAnyH_take (i := 19) (oi := { dst := some 48, op := _, type := _, pos := _, after := _, guard := _ }) (v := .int .i64 (i : Int)) rfl (by kernel_rfl) (by kernel_rfl) (by kernel_rfl) (fun _ _ _ h => h) (Or.inl ⟨by rfl, ?_⟩) (by assumption) ?_
          · intro w9 hSw
            exact y_move rfl rfl
          simp only [Act.put, List.setIfInBounds_toArray, List.set_cons_zero, List.set_cons_succ]
          refine wpAnyH_take (i := 20) (oi := { dst := some 49, op := _, type := _, pos := _, after := _, guard := _ }) (v := .pointer (some ⟨b, off + i * 42, none⟩)) rfl (by kernel_rfl) (by kernel_rfl) (by kernel_rfl) (fun _ _ _ h => h) (Or.inl ⟨by rfl, ?_⟩) (by assumption) ?_
          · intro w9 hSw
            exact y_index rfl rfl rfl (hix _)
          simp only [Act.put, List.setIfInBounds_toArray, List.set_cons_zero, List.set_cons_succ]
          refine wpAnyH_take (i := 21) (oi := { dst := some 50, op := _, type := _, pos := _, after := _, guard := _ }) (v := .pointer (some ⟨b, off + i * 42 + 26, none⟩)) rfl (by kernel_rfl) (by kernel_rfl) (by kernel_rfl) (fun _ _ _ h => h) (Or.inl ⟨by rfl, ?_⟩) (by assumption) ?_
          · intro w9 hSw
            exact y_field rfl rfl (field_l1 _ _ _)
          simp only [Act.put, List.setIfInBounds_toArray, List.set_cons_zero, List.set_cons_succ]
          refine wpAnyH_take (i := 22) (oi := { dst := some 51, op := _, type := _, pos := _, after := _, guard := _ }) (v := .agg (vals v)) rfl (by kernel_rfl) (by kernel_rfl) (by kernel_rfl) (fun _ _ _ h => h) (Or.inl ⟨by rfl, ?_⟩) (by assumption) ?_
          · intro w9 hSw
            exact y_load rfl rfl (load_vm (range_below hrv hSw hbw) hv16)
          simp only [Act.put, List.setIfInBounds_toArray, List.set_cons_zero, List.set_cons_succ]
          clear hHeld
          refine wpAnyH_ready (rs := [11]) (by kernel_rfl) (by simp) ?_
          refine AllReadyH.cons (o := { dst := some 40, op := _, type := _, pos := _, after := _, guard := _ }) rfl (fun K hK => ?_) AllReadyH.nil
          rw [if_pos (by rfl)]
          refine y_call (f := 11) (xs := [.tmp 29, .tmp 34, .tmp 39]) (vs := [.pointer (some ⟨g0 + 2, 0, none⟩), .agg (evc e), .agg (vals v)]) rfl rfl (enters_offer _ _) (offer_any (g0 + 2) mm S e v hwe hv16 wr.drew HL.out.bf HBS.out HWS.out) ?_
          rintro ex wp ⟨vp, Tp, Sp, up, mp, rfl, hOp, -, hrp, hBp, htp⟩
          refine ⟨_, rfl, ?_⟩
          have hLp : Below w.heap.size w wp := (Tn.low HL.out.below htp HL.out.below.size HL.out.lo.1 HL.out.own).1
          have hRp := HL.out.rf.tn HL.out.bf HL.out.lo.2.2 htp
          refine hK.out _ _ hLp (fun hHeld => ?_)
          clear hK K
          simp only [Act.put, List.setIfInBounds_toArray, List.set_cons_zero, List.set_cons_succ]
          clear hHeld
          refine wpAnyH_ready (rs := [23]) (by kernel_rfl) (by simp) ?_
          refine AllReadyH.cons (o := { dst := some 52, op := _, type := _, pos := _, after := _, guard := _ }) rfl (fun K hK => ?_) AllReadyH.nil
          rw [if_pos (by rfl)]
          refine y_call (f := 12) (xs := [.tmp 41, .tmp 46, .tmp 51]) (vs := [.pointer (some ⟨g0 + 1, 0, none⟩), .agg (evc e), .agg (vals v)]) rfl rfl (enters_roffer _ _) (roffer_any (g0 + 1) c1 S e v wp hRp HBS.out HWS.out hwe hv16 hfit) ?_
          rintro ex wq ⟨vq, Tq, Sq, cq, uq, rfl, hOq, hrq, hRq, hgq⟩
          refine ⟨_, rfl, ?_⟩
          obtain ⟨wF, hwF⟩ : ∃ wF, wq = wF := ⟨_, rfl⟩
          have hLF0 : Below w.heap.size w wq := hLp.grown hgq hLp.size (fun k e1 => by cases e1; exact HL.out.lo.2.1)
          have hgl : g0 + 1 < wr.drew.heap.size := HL.out.rf.lt
          have hrP : Row wq wr.drew.heap.size vp Tp := keepR hrp fun k hk => hgq.block k (World.ownsRow.lt hrp k hk).2 (fun e1 => by have := Row.own hrp k hk; cases e1; omega)
          have hrQ := hrq
          have hLF : Lp w (g0 + 2) (g0 + 1) wq mp cq Sp := ⟨hLF0, hBp.grow2 hRp HL.out.lo.2.2 hgq, by obtain ⟨-, h9⟩ := hOp.one hOq; rw [h9]; exact hRq, HL.out.lo, (Tn.low HL.out.below htp HL.out.below.size HL.out.lo.1 HL.out.own).2⟩
          refine hK.out _ _ hLF0 (fun hHeld => ?_)
          clear hK K
          simp only [Act.put, List.setIfInBounds_toArray, List.set_cons_zero, List.set_cons_succ]
          rw [hwF] at *
          clear hHeld
          obtain ⟨rfl, rfl⟩ := hOp.one hOq
          have hwT := (hOp.wide HWS.out hwe).1
          have hT64 := hOp.len HBS.out
          obtain ⟨ap, kp, hvp, hEp⟩ := hrP.evs hwT
          obtain ⟨aq, kq, hvq, hEq⟩ := hrQ.evs hwT
          subst hvp hvq
          have hSm := same_yes ap aq Tp.length kp kq Tp wF hEp hEq (by omega)
          refine wpAnyH_ready (rs := [24]) (by kernel_rfl) (by simp) ?_
          refine AllReadyH.cons (o := { dst := some 53, op := _, type := _, pos := _, after := _, guard := _ }) rfl (fun K hK => ?_) AllReadyH.nil
          rw [if_pos (by rfl)]
          refine y_call (f := 10) (xs := [.tmp 40, .tmp 52]) (vs := [.slice ap Tp.length kp, .slice aq Tp.length kq]) rfl rfl (enters_same _ _) hSm ?_
          rintro ex ws ⟨rfl, hbs⟩
          refine ⟨_, rfl, ?_⟩
          have hLs : Lp w (g0 + 2) (g0 + 1) ws mp cq Sp := hLF.next hbs
          refine hK.out _ _ hLs.below (fun hHeld => ?_)
          clear hK K
          simp only [Act.put, List.setIfInBounds_toArray, List.set_cons_zero, List.set_cons_succ]
          refine wpAnyH_take (i := 25) (oi := { dst := some 54, op := _, type := _, pos := _, after := _, guard := _ }) (v := .bool false) rfl (by kernel_rfl) (by kernel_rfl) (by kernel_rfl) (fun _ _ _ h => h) (Or.inl ⟨by rfl, ?_⟩) (by assumption) ?_
          · intro w9 hSw
            exact y_not rfl rfl rfl
          simp only [Act.put, List.setIfInBounds_toArray, List.set_cons_zero, List.set_cons_succ]
          refine wpAnyH_take (i := 26) (oi := { dst := some 55, op := _, type := _, pos := _, after := _, guard := _ }) (v := .bool false) rfl (by kernel_rfl) (by kernel_rfl) (by kernel_rfl) (fun _ _ _ h => h) (Or.inl ⟨by rfl, ?_⟩) (by assumption) ?_
          · intro w9 hSw
            exact y_move rfl rfl
          simp only [Act.put, List.setIfInBounds_toArray, List.set_cons_zero, List.set_cons_succ]
          refine wpAnyH_take (i := 27) (oi := { dst := some 56, op := _, type := _, pos := _, after := _, guard := _ }) (v := .pointer (some ⟨g0 + 2, 0, none⟩)) rfl (by kernel_rfl) (by kernel_rfl) (by kernel_rfl) (fun _ _ _ h => h) (Or.inl ⟨by rfl, ?_⟩) (by assumption) ?_
          · intro w9 hSw
            exact y_move rfl rfl
          simp only [Act.put, List.setIfInBounds_toArray, List.set_cons_zero, List.set_cons_succ]
          refine wpAnyH_take (i := 29) (oi := { dst := some 58, op := _, type := _, pos := _, after := _, guard := _ }) (v := .pointer (some ⟨g0 + 1, 0, none⟩)) rfl (by kernel_rfl) (by kernel_rfl) (by kernel_rfl) (fun _ _ _ h => h) (Or.inl ⟨by rfl, ?_⟩) (by assumption) ?_
          · intro w9 hSw
            exact y_move rfl rfl
          simp only [Act.put, List.setIfInBounds_toArray, List.set_cons_zero, List.set_cons_succ]
          refine wpAnyH_take (i := 30) (oi := { dst := some 59, op := _, type := _, pos := _, after := _, guard := _ }) (v := .pointer (some ⟨g0 + 1, 0, none⟩)) rfl (by kernel_rfl) (by kernel_rfl) (by kernel_rfl) (fun _ _ _ h => h) (Or.inl ⟨by rfl, ?_⟩) (by assumption) ?_
          · intro w9 hSw
            exact y_nil rfl rfl
          simp only [Act.put, List.setIfInBounds_toArray, List.set_cons_zero, List.set_cons_succ]
          refine wpAnyH_take (i := 31) (oi := { dst := some 60, op := _, type := _, pos := _, after := _, guard := _ }) (v := .pointer (some ⟨g0 + 1, 0, none⟩)) rfl (by kernel_rfl) (by kernel_rfl) (by kernel_rfl) (fun _ _ _ h => h) (Or.inl ⟨by rfl, ?_⟩) (by assumption) ?_
          · intro w9 hSw
            exact y_field rfl rfl (field_r _ _)
          simp only [Act.put, List.setIfInBounds_toArray, List.set_cons_zero, List.set_cons_succ]
          have hLn := qlen_any _ mp Sp ws hLs.bf
          obtain ⟨ac, kc, hcc, -⟩ := hLs.rf.val (hOp.wide HWS.out hwe).2
          have hll := load_rl hLs.rf.blk ⟨ac, Sp.length, kc, hcc⟩
          rw [hcc] at hll
          have hrelF : Aside (∃ mm c1 S, Lp w (g0 + 2) (g0 + 1) ws mm c1 S ∧ Buf S ∧ ∀ x ∈ S, Wide x) := ⟨mp, cq, Sp, hLs, hOp.buf HBS.out, (hOp.wide HWS.out hwe).2⟩
          clear hHeld
          refine wpAnyH_ready (rs := [28, 32]) (by kernel_rfl) (by simp) ?_
          refine AllReadyH.cons (o := { dst := some 57, op := _, type := _, pos := _, after := _, guard := _ }) rfl (fun K hK => ?_) ?_
          · rw [if_pos (by rfl)]
            refine y_call (f := 13) (xs := [.tmp 56]) (vs := [.pointer (some ⟨g0 + 2, 0, none⟩)]) rfl rfl (enters_qlen _ _) hLn ?_
            rintro ex wl ⟨rfl, hwl⟩
            obtain rfl := hwl.symm
            refine ⟨_, rfl, ?_⟩
            refine hK.out _ _ hLs.below (fun hHeld => ?_)
            clear hK K
            simp only [Act.put, List.setIfInBounds_toArray, List.set_cons_zero, List.set_cons_succ]
            clear hHeld
            refine wpAnyH_ready (rs := [32]) (by kernel_rfl) (by simp) ?_
            refine AllReadyH.cons (o := { dst := some 61, op := _, type := _, pos := _, after := _, guard := _ }) rfl (fun K hK => ?_) AllReadyH.nil
            rw [if_pos (by rfl)]
            refine y_ldw (ty := 27) (x := .tmp 60) (ad := ⟨g0 + 1, 0, none⟩) (v := .slice ac Sp.length kc) rfl rfl hll ?_
            refine hK.out _ _ hLs.below (fun hHeld => ?_)
            clear hK K
            simp only [Act.put, List.setIfInBounds_toArray, List.set_cons_zero, List.set_cons_succ]
            refine wpAnyH_take (i := 33) (oi := { dst := some 62, op := _, type := _, pos := _, after := _, guard := _ }) (v := .int .i64 (Sp.length : Int)) rfl (by kernel_rfl) (by kernel_rfl) (by kernel_rfl) (fun _ _ _ h => h) (Or.inl ⟨by rfl, ?_⟩) (by assumption) ?_
            · intro w9 hSw
              exact y_len rfl rfl
            simp only [Act.put, List.setIfInBounds_toArray, List.set_cons_zero, List.set_cons_succ]
            refine wpAnyH_take (i := 34) (oi := { dst := some 63, op := _, type := _, pos := _, after := _, guard := _ }) (v := .bool false) rfl (by kernel_rfl) (by kernel_rfl) (by kernel_rfl) (fun _ _ _ h => h) (Or.inl ⟨by rfl, ?_⟩) (by assumption) ?_
            · intro w9 hSw
              exact exec_bin rfl rfl rfl (eqGuard_ii _ _ _) (neq_ii _ _)
            simp only [Act.put, List.setIfInBounds_toArray, List.set_cons_zero, List.set_cons_succ]
            refine wpAnyH_take (i := 35) (oi := { dst := some 64, op := _, type := _, pos := _, after := _, guard := _ }) (v := .bool false) rfl (by kernel_rfl) (by kernel_rfl) (by kernel_rfl) (fun _ _ _ h => h) (Or.inl ⟨by rfl, ?_⟩) (by assumption) ?_
            · intro w9 hSw
              exact exec_pick (b := false) rfl rfl rfl rfl
            simp only [Act.put, List.setIfInBounds_toArray, List.set_cons_zero, List.set_cons_succ]
            refine wpAnyH_done (by kernel_rfl) ?_ _
            refine NoPanic.normal ?_
            clear hHeld
            go_wp2
            go_meet
            case rel => exact ⟨rfl, hrelF⟩
          refine AllReadyH.cons (o := { dst := some 61, op := _, type := _, pos := _, after := _, guard := _ }) rfl (fun K hK => ?_) AllReadyH.nil
          rw [if_pos (by rfl)]
          refine y_ldw (ty := 27) (x := .tmp 60) (ad := ⟨g0 + 1, 0, none⟩) (v := .slice ac Sp.length kc) rfl rfl hll ?_
          refine hK.out _ _ hLs.below (fun hHeld => ?_)
          clear hK K
          simp only [Act.put, List.setIfInBounds_toArray, List.set_cons_zero, List.set_cons_succ]
          refine wpAnyH_take (i := 33) (oi := { dst := some 62, op := _, type := _, pos := _, after := _, guard := _ }) (v := .int .i64 (Sp.length : Int)) rfl (by kernel_rfl) (by kernel_rfl) (by kernel_rfl) (fun _ _ _ h => h) (Or.inl ⟨by rfl, ?_⟩) (by assumption) ?_
          · intro w9 hSw
            exact y_len rfl rfl
          simp only [Act.put, List.setIfInBounds_toArray, List.set_cons_zero, List.set_cons_succ]
          clear hHeld
          refine wpAnyH_ready (rs := [28]) (by kernel_rfl) (by simp) ?_
          refine AllReadyH.cons (o := { dst := some 57, op := _, type := _, pos := _, after := _, guard := _ }) rfl (fun K hK => ?_) AllReadyH.nil
          rw [if_pos (by rfl)]
          refine y_call (f := 13) (xs := [.tmp 56]) (vs := [.pointer (some ⟨g0 + 2, 0, none⟩)]) rfl rfl (enters_qlen _ _) hLn ?_
          rintro ex wl ⟨rfl, hwl⟩
          obtain rfl := hwl.symm
          refine ⟨_, rfl, ?_⟩
          refine hK.out _ _ hLs.below (fun hHeld => ?_)
          clear hK K
          simp only [Act.put, List.setIfInBounds_toArray, List.set_cons_zero, List.set_cons_succ]
          refine wpAnyH_take (i := 34) (oi := { dst := some 63, op := _, type := _, pos := _, after := _, guard := _ }) (v := .bool false) rfl (by kernel_rfl) (by kernel_rfl) (by kernel_rfl) (fun _ _ _ h => h) (Or.inl ⟨by rfl, ?_⟩) (by assumption) ?_
          · intro w9 hSw
            exact exec_bin rfl rfl rfl (eqGuard_ii _ _ _) (neq_ii _ _)
          simp only [Act.put, List.setIfInBounds_toArray, List.set_cons_zero, List.set_cons_succ]
          refine wpAnyH_take (i := 35) (oi := { dst := some 64, op := _, type := _, pos := _, after := _, guard := _ }) (v := .bool false) rfl (by kernel_rfl) (by kernel_rfl) (by kernel_rfl) (fun _ _ _ h => h) (Or.inl ⟨by rfl, ?_⟩) (by assumption) ?_
          · intro w9 hSw
            exact exec_pick (b := false) rfl rfl rfl rfl
          simp only [Act.put, List.setIfInBounds_toArray, List.set_cons_zero, List.set_cons_succ]
          refine wpAnyH_done (by kernel_rfl) ?_ _
          refine NoPanic.normal ?_
          clear hHeld
          go_wp2
          go_meet
          case rel => exact ⟨rfl, hrelF⟩
        case rest =>
          obtain ⟨rfl, HA⟩ := hcut
          obtain ⟨m2, c2, S2, hL2, hB2, hW2⟩ := HA.out
          have HX : Hid _ := hL2
          have HY : Hid _ := hB2
          have HZ : Hid _ := hW2
          clear hL2 hB2 hW2 HA HL hBd
          go_wp2
          go_roundw
          case rel => exact ⟨i + 1, m2, c2, S2, by omega, by go_num, HX.out, HY.out, HZ.out⟩
          case measure => simp [intOf]; omega
      · have hlt' : ¬ (i : Int) < (m : Int) := by omega
        have hLd := hL.next (Below.refl _ _).drew
        obtain ⟨a1, k1, hc1, -⟩ := hLd.rf.val hWS
        have hLn := qlen_any (g0 + 2) mm S wr.drew hLd.bf
        have hblk := hLd.rf.blk
        have HBF := hLd.below
        have hll := load_rl (w := wr.drew) hblk ⟨a1, S.length, k1, hc1⟩
        subst hc1
        go_upto_region 14 with fail
        refine wp_region_noPanic ?_
        refine wp_region_held_drew (S := fun W' : World => W'.heap[g0 + 1]? = some (.cells #[.slice a1 S.length k1] 29 (0, 0))) (by kernel_rfl) hblk (fun hHeld => ?_)
        refine wpAnyH_take (i := 0) (oi := { dst := some 66, op := _, type := _, pos := _, after := _, guard := _ }) (v := .pointer (some ⟨g0 + 2, 0, none⟩)) rfl (by kernel_rfl) (by kernel_rfl) (by kernel_rfl) (fun _ _ _ h => h) (Or.inl ⟨by rfl, ?_⟩) (by assumption) ?_
        · intro w9 hSw
          exact y_move rfl rfl
        simp only [Act.put, List.setIfInBounds_toArray, List.set_cons_zero, List.set_cons_succ]
        refine wpAnyH_take (i := 2) (oi := { dst := some 68, op := _, type := _, pos := _, after := _, guard := _ }) (v := .pointer (some ⟨g0 + 1, 0, none⟩)) rfl (by kernel_rfl) (by kernel_rfl) (by kernel_rfl) (fun _ _ _ h => h) (Or.inl ⟨by rfl, ?_⟩) (by assumption) ?_
        · intro w9 hSw
          exact y_move rfl rfl
        simp only [Act.put, List.setIfInBounds_toArray, List.set_cons_zero, List.set_cons_succ]
        refine wpAnyH_take (i := 3) (oi := { dst := some 69, op := _, type := _, pos := _, after := _, guard := _ }) (v := .pointer (some ⟨g0 + 1, 0, none⟩)) rfl (by kernel_rfl) (by kernel_rfl) (by kernel_rfl) (fun _ _ _ h => h) (Or.inl ⟨by rfl, ?_⟩) (by assumption) ?_
        · intro w9 hSw
          exact y_nil rfl rfl
        simp only [Act.put, List.setIfInBounds_toArray, List.set_cons_zero, List.set_cons_succ]
        refine wpAnyH_take (i := 4) (oi := { dst := some 70, op := _, type := _, pos := _, after := _, guard := _ }) (v := .pointer (some ⟨g0 + 1, 0, none⟩)) rfl (by kernel_rfl) (by kernel_rfl) (by kernel_rfl) (fun _ _ _ h => h) (Or.inl ⟨by rfl, ?_⟩) (by assumption) ?_
        · intro w9 hSw
          exact y_field rfl rfl (field_r _ _)
        simp only [Act.put, List.setIfInBounds_toArray, List.set_cons_zero, List.set_cons_succ]
        refine wpAnyH_take (i := 5) (oi := { dst := some 71, op := _, type := _, pos := _, after := _, guard := _ }) (v := .slice a1 S.length k1) rfl (by kernel_rfl) (by kernel_rfl) (by kernel_rfl) (fun _ _ _ h => h) (Or.inl ⟨by rfl, ?_⟩) (by assumption) ?_
        · intro w9 hSw
          exact y_load rfl rfl (load_rl hSw ⟨_, _, _, rfl⟩)
        simp only [Act.put, List.setIfInBounds_toArray, List.set_cons_zero, List.set_cons_succ]
        refine wpAnyH_take (i := 6) (oi := { dst := some 72, op := _, type := _, pos := _, after := _, guard := _ }) (v := .int .i64 (S.length : Int)) rfl (by kernel_rfl) (by kernel_rfl) (by kernel_rfl) (fun _ _ _ h => h) (Or.inl ⟨by rfl, ?_⟩) (by assumption) ?_
        · intro w9 hSw
          exact y_len rfl rfl
        simp only [Act.put, List.setIfInBounds_toArray, List.set_cons_zero, List.set_cons_succ]
        clear hHeld
        refine wpAnyH_ready (rs := [1]) (by kernel_rfl) (by simp) ?_
        refine AllReadyH.cons (o := { dst := some 67, op := _, type := _, pos := _, after := _, guard := _ }) rfl (fun K hK => ?_) AllReadyH.nil
        rw [if_pos (by rfl)]
        refine y_call (f := 13) (xs := [.tmp 66]) (vs := [.pointer (some ⟨g0 + 2, 0, none⟩)]) rfl rfl (enters_qlen _ _) hLn ?_
        rintro ex wl ⟨rfl, hwl⟩
        obtain rfl := hwl.symm
        refine ⟨_, rfl, ?_⟩
        refine hK.out _ _ hblk (fun hHeld => ?_)
        clear hK K
        simp only [Act.put, List.setIfInBounds_toArray, List.set_cons_zero, List.set_cons_succ]
        refine wpAnyH_take (i := 7) (oi := { dst := some 73, op := _, type := _, pos := _, after := _, guard := _ }) (v := .bool true) rfl (by kernel_rfl) (by kernel_rfl) (by kernel_rfl) (fun _ _ _ h => h) (Or.inl ⟨by rfl, ?_⟩) (by assumption) ?_
        · intro w9 hSw
          exact exec_bin rfl rfl rfl (eqGuard_ii _ _ _) (eql_ii _ (decide_eq_true rfl))
        simp only [Act.put, List.setIfInBounds_toArray, List.set_cons_zero, List.set_cons_succ]
        refine wpAnyH_take (i := 8) (oi := { dst := some 4, op := _, type := _, pos := _, after := _, guard := _ }) (v := .bool true) rfl (by kernel_rfl) (by kernel_rfl) (by kernel_rfl) (fun _ _ _ h => h) (Or.inl ⟨by rfl, ?_⟩) (by assumption) ?_
        · intro w9 hSw
          exact y_assign rfl rfl
        simp only [Act.put, List.setIfInBounds_toArray, List.set_cons_zero, List.set_cons_succ]
        refine wpAnyH_done (by kernel_rfl) ?_ _
        refine NoPanic.normal ?_
        clear hHeld
        go_wp2
        go_ret
        exact ⟨rfl, HBF⟩
end Go.Proofs.Ythpkpmcccpfabaa
