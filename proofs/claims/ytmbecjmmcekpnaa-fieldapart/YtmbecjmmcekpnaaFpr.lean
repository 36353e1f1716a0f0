/-
  Rows of pairs of texts: appended to, read; at the program's type and at the reference's.
-/
import Derived.Test.YtmbecjmmcekpnaaFpu
import Derived.Test.YtmbecjmmcekpnaaMtx
import Derived.Laws.OwnMore
import Derived.Laws.AppendOwnNone
import Derived.Great.BuildSlice
import Derived.Deep.MidRow
import Derived.OwnWalk
import Derived.Lib.SliceRun
import Derived.BigQuiet
namespace Go.Proofs.Ytmbecjmmcekpnaa
set_option maxRecDepth 100000
open Go.RowKit Go.Sort

def prl (d : Pr) : List Value := [.string (sb d.1), .string (sb d.2)]
def prc (d : Pr) : Array Value := #[.string (sb d.1), .string (sb d.2)]
theorem prl_length (d : Pr) : (prl d).length = 2 := rfl
theorem prl_one (d : Pr) : ∀ u ∈ prl d, u.oneCell' = true := by
  intro u hu
  simp only [prl, List.mem_cons, List.not_mem_nil, or_false] at hu
  rcases hu with rfl | rfl <;> rfl
def prs (S : List Pr) : List Value := S.flatMap prl
theorem prs_length : ∀ S : List Pr, (prs S).length = S.length * 2
  | [] => rfl
  | i :: S => by
    have ih := prs_length S
    have e1 : prs (i :: S) = prl i ++ prs S := by simp [prs]
    rw [e1, List.length_append, ih, prl_length, List.length_cons]; omega
theorem prs_append (S T : List Pr) : prs (S ++ T) = prs S ++ prs T := by simp [prs]
theorem prs_one (S : List Pr) : ∀ u ∈ prs S, u.oneCell' = true := by
  intro u hu
  obtain ⟨i, -, h⟩ := List.mem_flatMap.1 hu
  exact prl_one i u h
theorem prs_at : ∀ {S : List Pr} (k : Nat) (i : Pr), S[k]? = some i → ∀ (j : Nat) (v : Value), (prl i)[j]? = some v → (prs S)[k * 2 + j]? = some v
  | [], k, i, hi, j, v, hv => by simp at hi
  | x :: S, k, i, hi, j, v, hv => by
    have e1 : prs (x :: S) = prl x ++ prs S := by simp [prs]
    cases k with
    | zero =>
      have : x = i := by simpa using hi
      subst this
      have hj : j < 2 := (List.getElem?_eq_some_iff.1 hv).1
      rw [e1, Nat.zero_mul, Nat.zero_add, List.getElem?_append_left (by rw [prl_length]; omega)]
      exact hv
    | succ k =>
      rw [e1, List.getElem?_append_right (by rw [prl_length]; omega), prl_length, show (k + 1) * 2 + j - 2 = k * 2 + j by omega]
      exact prs_at k i (by simpa using hi) j v hv
theorem zero_pr : Value.string ByteArray.empty = .string (sb []) := by
  congr 1
/-- A list of pairs, as it is read. -/
def PL (w : World) (ao : Option Addr) (S : List Pr) : Prop := ∀ j d, S[j]? = some d → ∃ g, ao = some ⟨g, 0, none⟩ ∧ w.cell? ⟨g, j * 2, none⟩ = some (.string (sb d.1)) ∧ w.cell? ⟨g, j * 2 + 1, none⟩ = some (.string (sb d.2))
theorem PL.below {w w' : World} {ao : Option Addr} {S : List Pr} {B : Nat} (h : PL w ao S) (hb : Below B w w') (hB : w.heap.size ≤ B) : PL w' ao S := fun j t ht => by
  obtain ⟨g, hg, hc, hd⟩ := h j t ht
  have hl := Nat.lt_of_lt_of_le (World.block_lt_of_cell? w _ hc) hB
  exact ⟨g, hg, (hb.cell (p := ⟨g, j * 2, none⟩) hl).trans hc, (hb.cell (p := ⟨g, j * 2 + 1, none⟩) hl).trans hd⟩
theorem PL.range {w : World} {g : Nat} {S : List Pr} (h : PL w (some ⟨g, 0, none⟩) S) {k : Nat} {d : Pr} (hd : S[k]? = some d) : w.rangeAt g (k * 2) (prl d) := fun j v hv => by
  obtain ⟨g', hg, h0, h1⟩ := h k d hd
  obtain rfl : g = g' := by simpa using hg
  match j, hv with
  | 0, hv => obtain rfl := Option.some.inj hv; exact h0
  | 1, hv => obtain rfl := Option.some.inj hv; exact h1

/-! At the program's type. -/
theorem sizeP (d : Pr) : (Try.prog.info? 42).map (·.size) = some (prc d).size := by
  rw [show (prc d).size = 2 from rfl]; kernel_rfl
abbrev PRow (w : World) (base : Nat) (v : Value) (S : List Pr) : Prop := w.ownsRow base 42 2 v S.length (prs S)
theorem Prow_nil (w : World) (base : Nat) : PRow w base (.slice none 0 0) [] := World.ownsRow_nil w base _ _
theorem PRow.lower {w : World} {base b : Nat} {v : Value} {S : List Pr} (h : PRow w base v S) (hb : b ≤ base) : PRow w b v S := by
  refine ⟨h.1, ?_⟩
  rcases h.2 with hn | ⟨g, cap, cur, e, hbg, rest⟩
  · exact .inl hn
  · exact .inr ⟨g, cap, cur, e, Nat.le_trans hb hbg, rest⟩
theorem PRow.keep {w w' : World} {base : Nat} {v : Value} {S : List Pr} (h : PRow w base v S) (hk : ∀ k, v.ownBlock = some k → w'.heap[k]? = w.heap[k]?) : PRow w' base v S := by
  refine ⟨h.1, ?_⟩
  rcases h.2 with hn | ⟨g, cap, cur, rfl, hbg, hg, rest⟩
  · exact .inl hn
  · exact .inr ⟨g, cap, cur, rfl, hbg, by rw [hk g rfl]; exact hg, rest⟩
theorem PRow.below {w w' : World} {base B : Nat} {v : Value} {S : List Pr} (h : PRow w base v S) (hb : Below B w w') (hB : w.heap.size ≤ B) : PRow w' base v S :=
  h.keep fun k hk => hb.block k (by have := (h.lt k hk).2; omega)
theorem PRow.own {w : World} {base : Nat} {v : Value} {S : List Pr} (h : PRow w base v S) : ∀ k, v.ownBlock = some k → base ≤ k := fun k hk => (h.lt k hk).1
theorem PRow.pl {w : World} {base : Nat} {v : Value} {S : List Pr} (h : PRow w base v S) : ∃ ao c, v = .slice ao S.length c ∧ PL w ao S := by
  rcases h.2 with ⟨rfl, h0⟩ | ⟨g, cap, cur, rfl, hb, hg, hnc, hcm, hcs, htake⟩
  · have : S = [] := List.eq_nil_of_length_eq_zero h0
    subst this
    exact ⟨none, 0, rfl, fun j t h => by cases h⟩
  · refine ⟨some ⟨g, 0, none⟩, cap, rfl, fun j d hd => ⟨g, rfl, ?_, ?_⟩⟩
    · have h1 := h.cells (g := g) rfl _ _ (prs_at j d hd 0 _ rfl)
      rw [Addr.add_mid, Nat.zero_add] at h1
      exact h1
    · have h1 := h.cells (g := g) rfl _ _ (prs_at j d hd 1 _ rfl)
      rw [Addr.add_mid, Nat.zero_add] at h1
      exact h1
theorem infoP : (Try.prog.info? 42).map (fun i => (i.zero, i.size, i.bytes)) = some (some (.agg #[.string ByteArray.empty, .string ByteArray.empty]), 2, 32) := by kernel_rfl
/-- What 'append' of one pair does. -/
theorem wpList_appP {ops : Array Oper} {rest : List Oper} {o : Oper} {a : Act} {w : World} {Q : Exit → Act → World → Prop} (d : Pr) (hw : Region.wanted o (yielded ops a.tmps) = true) (s x : Operand)
    (ho : o.op = .call { callee := .builtin .append, args := #[s, x], argTypes := #[28, 28] })
    (base : Nat) (v : Value) (S : List Pr) (hs : a.eval s = v) (hown : PRow (w.alloc (.cells (prc d) 42)) base v S)
    (hx : a.eval x = .slice (some ⟨w.heap.size, 0, none⟩) 1 1) (hnm : S.length < 1048576) (hbase : base ≤ w.heap.size)
    (h : ∀ v' w', PRow w' base v' (S ++ [d]) → (w.alloc (.cells (prc d) 42)).grownBy w' v.ownBlock → wpList Try.prog ops Q rest (a.put o.dst v') w') : wpList Try.prog ops Q (o :: rest) a (w.alloc (.cells (prc d) 42)) := by
  refine wpList_step fun K hK => ?_
  rw [if_pos hw]
  obtain ⟨i0, hi, hz0, hz1, hz2⟩ := info_parts infoP
  have hF : ∀ j u, (prs [d])[j]? = some u → (w.alloc (.cells (prc d) 42)).cell? ((⟨w.heap.size, 0, none⟩ : Addr).add j) = some u := fun j u hu => by
    have e1 : prs [d] = prl d := by simp [prs]
    rw [e1] at hu
    rw [Addr.add_mid, Nat.zero_add, cell_of_row (w.alloc (.cells (prc d) 42)) w.heap.size j _ _ _ (heap_alloc_new w _)]
    have : prc d = (prl d).toArray := rfl
    rw [this]
    simpa using hu
  obtain ⟨v', w', hr, h2, h3, -⟩ := run_append_own (P := Try.prog) (w.alloc (.cells (prc d) 42)) base 28 o.type 42 i0 (.agg #[.string ByteArray.empty, .string ByteArray.empty]) 2 i0.bytes Try.underlying28 hi hz0 hz1 rfl rfl (by omega) v S.length (prs S) hown ⟨w.heap.size, 0, none⟩ 1 1 (prs [d]) (prs_length [d]) hF (prs_one [d]) (by unfold maxLen; omega) (by rw [hz2]; omega) (by simp; omega)
  unfold Oper.wp execOp
  simp only [ho, resolve, invoke, builtin, Sem.run_bind, Sem.run_pure, Result.andThen_ok, List.map_toArray, List.map_cons, List.map_nil, hs, hx, hr]
  exact hK _ _ (h v' w' (by rw [PRow, prs_append, List.length_append]; exact h2) h3)
theorem build_P1 {ops : Array Oper} {rest : List Oper} {o : Oper} {a : Act} {w : World} {Q : Exit → Act → World → Prop} {x : Operand} {d : Pr} (hw : Region.wanted o (yielded ops a.tmps) = true) (ho : o.op = .buildSlice 28 1 #[(0, x)]) (hx : a.eval x = .agg (prc d))
    (h : wpList Try.prog ops Q rest (a.put o.dst (.slice (some ⟨w.heap.size, 0, none⟩) 1 1)) (w.alloc (.cells (prc d) 42))) : wpList Try.prog ops Q (o :: rest) a w :=
  wpList_step fun K hK => by
    rw [if_pos hw]
    have hr : (Instr.buildSlice 28 1 #[(0, .agg (prc d))]).run Try.prog w = .ok (.slice (some ⟨w.heap.size, 0, none⟩) 1 1) (w.alloc (.cells (prc d) 42)) := by
      obtain ⟨i0, hi, hz0, hz1, hz2⟩ := info_parts infoP
      refine run_buildSlice w 28 42 1 _ (prc d) i0 _ Try.underlying28 hi hz0 (by rw [hz1]; decide) (by rw [hz1]; decide) ?_
      rw [hz1]
      have := Great.fill_whole (s := 2) (by omega) [.agg (prc d)] ((Array.range (1 * 2)).map ((Value.agg #[.string ByteArray.empty, .string ByteArray.empty]).cells[· % (Value.agg #[.string ByteArray.empty, .string ByteArray.empty]).cells.size]!)) (by
        intro v hv
        rw [List.mem_singleton.1 hv]
        rfl) (by simp)
      refine Eq.trans this ?_
      simp [Value.cells]
    unfold Oper.wp execOp
    simp only [ho, List.map_toArray, List.map_cons, List.map_nil, hx, Sem.run_bind, Sem.run_pure, Result.andThen_ok, hr]
    exact hK _ _ h
theorem load_P_mid {ops : Array Oper} {rest : List Oper} {o : Oper} {a : Act} {w : World} {Q : Exit → Act → World → Prop} {x : Operand} {b k : Nat} {d : Pr} (hw : Region.wanted o (yielded ops a.tmps) = true) (ho : o.op = .load 42 x) (hx : a.eval x = .pointer (some ⟨b, k, none⟩)) (hg : w.rangeAt b k (prl d))
    (h : wpList Try.prog ops Q rest (a.put o.dst (.agg (prc d))) w) : wpList Try.prog ops Q (o :: rest) a w :=
  wpList_step fun K hK => by
    rw [if_pos hw]
    exact wp_load_mid 42 x ho b k hx (prl d) _ hg Try.underlying42 rfl (sizeP d) (hK _ _ h)
theorem index_P (w : World) {b off k m c : Nat} (hk : k < m) : (Instr.indexAt 28 (.slice (some ⟨b, off, none⟩) m c) (.int .i64 (k : Int))).run Try.prog w = .ok (.pointer (some ⟨b, off + k * 2, none⟩)) w := by
  have hk' : (k : Int) < (m : Int) := by omega
  have hs : (Try.prog.info? 42).map (·.size) = some 2 := by kernel_rfl
  have ht : Try.prog.underlying 28 = some (.slice 42) := Try.underlying28
  go_simp
theorem plain_P : Try.prog.eqGuardType Try.prog.depth 42 = false := by kernel_rfl
theorem run_equalIn_P (w : World) (d : Nat) (x y : Pr) : (Op.equalIn (d + 2) 42 (.agg (prc x)) (.agg (prc y))).run Try.prog w = .ok (decide (x = y)) w := by
  rw [run_equalIn_struct w (d + 1) 42 _ _ (by kernel_rfl) (by kernel_rfl)]
  have hm : (Try.prog.fieldsOf 42).toList.map (fun f => (f.name, f.type, f.offset)) = [("Field", 9, 0), ("Value", 9, 1)] := by kernel_rfl
  have h : (Op.eqFields (d + 1) (prc x) (prc y) (Try.prog.fieldsOf 42).toList).run Try.prog w = .ok ([decide (x.1 = y.1), decide (x.2 = y.2)].all id) w := run_eqFields hm ⟨by decide, ⟨_, _, part_str w rfl, part_str w rfl, equal_str w _ _ _⟩, by decide, ⟨_, _, part_str w rfl, part_str w rfl, equal_str w _ _ _⟩, trivial⟩
  rw [h]
  congr 1
  rw [Bool.eq_iff_iff]
  simp [Prod.ext_iff]

/-! At the reference's type. -/
theorem sizeQ (d : Pr) : (Try.prog.info? 47).map (·.size) = some (prc d).size := by
  rw [show (prc d).size = 2 from rfl]; kernel_rfl
abbrev QRow (w : World) (base : Nat) (v : Value) (S : List Pr) : Prop := w.ownsRow base 47 2 v S.length (prs S)
theorem Qrow_nil (w : World) (base : Nat) : QRow w base (.slice none 0 0) [] := World.ownsRow_nil w base _ _
theorem QRow.lower {w : World} {base b : Nat} {v : Value} {S : List Pr} (h : QRow w base v S) (hb : b ≤ base) : QRow w b v S := by
  refine ⟨h.1, ?_⟩
  rcases h.2 with hn | ⟨g, cap, cur, e, hbg, rest⟩
  · exact .inl hn
  · exact .inr ⟨g, cap, cur, e, Nat.le_trans hb hbg, rest⟩
theorem QRow.keep {w w' : World} {base : Nat} {v : Value} {S : List Pr} (h : QRow w base v S) (hk : ∀ k, v.ownBlock = some k → w'.heap[k]? = w.heap[k]?) : QRow w' base v S := by
  refine ⟨h.1, ?_⟩
  rcases h.2 with hn | ⟨g, cap, cur, rfl, hbg, hg, rest⟩
  · exact .inl hn
  · exact .inr ⟨g, cap, cur, rfl, hbg, by rw [hk g rfl]; exact hg, rest⟩
theorem QRow.below {w w' : World} {base B : Nat} {v : Value} {S : List Pr} (h : QRow w base v S) (hb : Below B w w') (hB : w.heap.size ≤ B) : QRow w' base v S :=
  h.keep fun k hk => hb.block k (by have := (h.lt k hk).2; omega)
theorem QRow.own {w : World} {base : Nat} {v : Value} {S : List Pr} (h : QRow w base v S) : ∀ k, v.ownBlock = some k → base ≤ k := fun k hk => (h.lt k hk).1
theorem QRow.pl {w : World} {base : Nat} {v : Value} {S : List Pr} (h : QRow w base v S) : ∃ ao c, v = .slice ao S.length c ∧ PL w ao S := by
  rcases h.2 with ⟨rfl, h0⟩ | ⟨g, cap, cur, rfl, hb, hg, hnc, hcm, hcs, htake⟩
  · have : S = [] := List.eq_nil_of_length_eq_zero h0
    subst this
    exact ⟨none, 0, rfl, fun j t h => by cases h⟩
  · refine ⟨some ⟨g, 0, none⟩, cap, rfl, fun j d hd => ⟨g, rfl, ?_, ?_⟩⟩
    · have h1 := h.cells (g := g) rfl _ _ (prs_at j d hd 0 _ rfl)
      rw [Addr.add_mid, Nat.zero_add] at h1
      exact h1
    · have h1 := h.cells (g := g) rfl _ _ (prs_at j d hd 1 _ rfl)
      rw [Addr.add_mid, Nat.zero_add] at h1
      exact h1
theorem infoQ : (Try.prog.info? 47).map (fun i => (i.zero, i.size, i.bytes)) = some (some (.agg #[.string ByteArray.empty, .string ByteArray.empty]), 2, 32) := by kernel_rfl
/-- What 'append' of one pair does. -/
theorem wpList_appQ {ops : Array Oper} {rest : List Oper} {o : Oper} {a : Act} {w : World} {Q : Exit → Act → World → Prop} (d : Pr) (hw : Region.wanted o (yielded ops a.tmps) = true) (s x : Operand)
    (ho : o.op = .call { callee := .builtin .append, args := #[s, x], argTypes := #[30, 30] })
    (base : Nat) (v : Value) (S : List Pr) (hs : a.eval s = v) (hown : QRow (w.alloc (.cells (prc d) 47)) base v S)
    (hx : a.eval x = .slice (some ⟨w.heap.size, 0, none⟩) 1 1) (hnm : S.length < 1048576) (hbase : base ≤ w.heap.size)
    (h : ∀ v' w', QRow w' base v' (S ++ [d]) → (w.alloc (.cells (prc d) 47)).grownBy w' v.ownBlock → wpList Try.prog ops Q rest (a.put o.dst v') w') : wpList Try.prog ops Q (o :: rest) a (w.alloc (.cells (prc d) 47)) := by
  refine wpList_step fun K hK => ?_
  rw [if_pos hw]
  obtain ⟨i0, hi, hz0, hz1, hz2⟩ := info_parts infoQ
  have hF : ∀ j u, (prs [d])[j]? = some u → (w.alloc (.cells (prc d) 47)).cell? ((⟨w.heap.size, 0, none⟩ : Addr).add j) = some u := fun j u hu => by
    have e1 : prs [d] = prl d := by simp [prs]
    rw [e1] at hu
    rw [Addr.add_mid, Nat.zero_add, cell_of_row (w.alloc (.cells (prc d) 47)) w.heap.size j _ _ _ (heap_alloc_new w _)]
    have : prc d = (prl d).toArray := rfl
    rw [this]
    simpa using hu
  obtain ⟨v', w', hr, h2, h3, -⟩ := run_append_own (P := Try.prog) (w.alloc (.cells (prc d) 47)) base 30 o.type 47 i0 (.agg #[.string ByteArray.empty, .string ByteArray.empty]) 2 i0.bytes Try.underlying30 hi hz0 hz1 rfl rfl (by omega) v S.length (prs S) hown ⟨w.heap.size, 0, none⟩ 1 1 (prs [d]) (prs_length [d]) hF (prs_one [d]) (by unfold maxLen; omega) (by rw [hz2]; omega) (by simp; omega)
  unfold Oper.wp execOp
  simp only [ho, resolve, invoke, builtin, Sem.run_bind, Sem.run_pure, Result.andThen_ok, List.map_toArray, List.map_cons, List.map_nil, hs, hx, hr]
  exact hK _ _ (h v' w' (by rw [QRow, prs_append, List.length_append]; exact h2) h3)
theorem build_Q1 {ops : Array Oper} {rest : List Oper} {o : Oper} {a : Act} {w : World} {Q : Exit → Act → World → Prop} {x : Operand} {d : Pr} (hw : Region.wanted o (yielded ops a.tmps) = true) (ho : o.op = .buildSlice 30 1 #[(0, x)]) (hx : a.eval x = .agg (prc d))
    (h : wpList Try.prog ops Q rest (a.put o.dst (.slice (some ⟨w.heap.size, 0, none⟩) 1 1)) (w.alloc (.cells (prc d) 47))) : wpList Try.prog ops Q (o :: rest) a w :=
  wpList_step fun K hK => by
    rw [if_pos hw]
    have hr : (Instr.buildSlice 30 1 #[(0, .agg (prc d))]).run Try.prog w = .ok (.slice (some ⟨w.heap.size, 0, none⟩) 1 1) (w.alloc (.cells (prc d) 47)) := by
      obtain ⟨i0, hi, hz0, hz1, hz2⟩ := info_parts infoQ
      refine run_buildSlice w 30 47 1 _ (prc d) i0 _ Try.underlying30 hi hz0 (by rw [hz1]; decide) (by rw [hz1]; decide) ?_
      rw [hz1]
      have := Great.fill_whole (s := 2) (by omega) [.agg (prc d)] ((Array.range (1 * 2)).map ((Value.agg #[.string ByteArray.empty, .string ByteArray.empty]).cells[· % (Value.agg #[.string ByteArray.empty, .string ByteArray.empty]).cells.size]!)) (by
        intro v hv
        rw [List.mem_singleton.1 hv]
        rfl) (by simp)
      refine Eq.trans this ?_
      simp [Value.cells]
    unfold Oper.wp execOp
    simp only [ho, List.map_toArray, List.map_cons, List.map_nil, hx, Sem.run_bind, Sem.run_pure, Result.andThen_ok, hr]
    exact hK _ _ h
theorem load_Q_mid {ops : Array Oper} {rest : List Oper} {o : Oper} {a : Act} {w : World} {Q : Exit → Act → World → Prop} {x : Operand} {b k : Nat} {d : Pr} (hw : Region.wanted o (yielded ops a.tmps) = true) (ho : o.op = .load 47 x) (hx : a.eval x = .pointer (some ⟨b, k, none⟩)) (hg : w.rangeAt b k (prl d))
    (h : wpList Try.prog ops Q rest (a.put o.dst (.agg (prc d))) w) : wpList Try.prog ops Q (o :: rest) a w :=
  wpList_step fun K hK => by
    rw [if_pos hw]
    exact wp_load_mid 47 x ho b k hx (prl d) _ hg Try.underlying47 rfl (sizeQ d) (hK _ _ h)
theorem index_Q (w : World) {b off k m c : Nat} (hk : k < m) : (Instr.indexAt 30 (.slice (some ⟨b, off, none⟩) m c) (.int .i64 (k : Int))).run Try.prog w = .ok (.pointer (some ⟨b, off + k * 2, none⟩)) w := by
  have hk' : (k : Int) < (m : Int) := by omega
  have hs : (Try.prog.info? 47).map (·.size) = some 2 := by kernel_rfl
  have ht : Try.prog.underlying 30 = some (.slice 47) := Try.underlying30
  go_simp
theorem plain_Q : Try.prog.eqGuardType Try.prog.depth 47 = false := by kernel_rfl
theorem run_equalIn_Q (w : World) (d : Nat) (x y : Pr) : (Op.equalIn (d + 2) 47 (.agg (prc x)) (.agg (prc y))).run Try.prog w = .ok (decide (x = y)) w := by
  rw [run_equalIn_struct w (d + 1) 47 _ _ (by kernel_rfl) (by kernel_rfl)]
  have hm : (Try.prog.fieldsOf 47).toList.map (fun f => (f.name, f.type, f.offset)) = [("Field", 9, 0), ("Value", 9, 1)] := by kernel_rfl
  have h : (Op.eqFields (d + 1) (prc x) (prc y) (Try.prog.fieldsOf 47).toList).run Try.prog w = .ok ([decide (x.1 = y.1), decide (x.2 = y.2)].all id) w := run_eqFields hm ⟨by decide, ⟨_, _, part_str w rfl, part_str w rfl, equal_str w _ _ _⟩, by decide, ⟨_, _, part_str w rfl, part_str w rfl, equal_str w _ _ _⟩, trivial⟩
  rw [h]
  congr 1
  rw [Bool.eq_iff_iff]
  simp [Prod.ext_iff]

end Go.Proofs.Ytmbecjmmcekpnaa
