/-
  Rows of pairs of a text and a number: appended to, read; at the program's type and at the reference's.
-/
import Derived.Test.YtmacebekodndjaaZpu
import Derived.Test.YtmacebekodndjaaTba
import Derived.Laws.OwnMore
import Derived.Laws.AppendOwnNone
import Derived.Great.BuildSlice
import Derived.Deep.MidRow
import Derived.OwnWalk
import Derived.Lib.SliceRun
import Derived.BigQuiet
namespace Go.Proofs.Ytmacebekodndjaa
set_option maxRecDepth 100000
open Go.RowKit

def prl (d : Pr) : List Value := [.string (sb d.1), .int .i64 d.2]
def prc (d : Pr) : Array Value := #[.string (sb d.1), .int .i64 d.2]
theorem prl_length (d : Pr) : (prl d).length = 2 := rfl
theorem prl_one (d : Pr) : ∀ u ∈ prl d, u.oneCell' = true := by
  intro u hu
  simp only [prl, List.mem_cons, List.not_mem_nil, or_false] at hu
  rcases hu with rfl | rfl <;> rfl
def prs (S : List Pr) : List Value := S.flatMap prl
theorem prs_length : ∀ S : List Pr, (prs S).length = S.length * 2
  | [] => rfl
  | i :: S => by
    have ih := prs_length S
    have e1 : prs (i :: S) = prl i ++ prs S := by simp [prs]
    rw [e1, List.length_append, ih, prl_length, List.length_cons]; omega
theorem prs_append (S T : List Pr) : prs (S ++ T) = prs S ++ prs T := by simp [prs]
theorem prs_one (S : List Pr) : ∀ u ∈ prs S, u.oneCell' = true := by
  intro u hu
  obtain ⟨i, -, h⟩ := List.mem_flatMap.1 hu
  exact prl_one i u h
theorem prs_at : ∀ {S : List Pr} (k : Nat) (i : Pr), S[k]? = some i → ∀ (j : Nat) (v : Value), (prl i)[j]? = some v → (prs S)[k * 2 + j]? = some v
  | [], k, i, hi, j, v, hv => by simp at hi
  | x :: S, k, i, hi, j, v, hv => by
    have e1 : prs (x :: S) = prl x ++ prs S := by simp [prs]
    cases k with
    | zero =>
      have : x = i := by simpa using hi
      subst this
      have hj : j < 2 := (List.getElem?_eq_some_iff.1 hv).1
      rw [e1, Nat.zero_mul, Nat.zero_add, List.getElem?_append_left (by rw [prl_length]; omega)]
      exact hv
    | succ k =>
      rw [e1, List.getElem?_append_right (by rw [prl_length]; omega), prl_length, show (k + 1) * 2 + j - 2 = k * 2 + j by omega]
      exact prs_at k i (by simpa using hi) j v hv
/-- A list of pairs, as it is read. -/
def PL (w : World) (ao : Option Addr) (S : List Pr) : Prop := ∀ j d, S[j]? = some d → ∃ g, ao = some ⟨g, 0, none⟩ ∧ w.cell? ⟨g, j * 2, none⟩ = some (.string (sb d.1)) ∧ w.cell? ⟨g, j * 2 + 1, none⟩ = some (.int .i64 d.2)
theorem PL.below {w w' : World} {ao : Option Addr} {S : List Pr} {B : Nat} (h : PL w ao S) (hb : Below B w w') (hB : w.heap.size ≤ B) : PL w' ao S := fun j t ht => by
  obtain ⟨g, hg, hc, hd⟩ := h j t ht
  have hl := Nat.lt_of_lt_of_le (World.block_lt_of_cell? w _ hc) hB
  exact ⟨g, hg, (hb.cell (p := ⟨g, j * 2, none⟩) hl).trans hc, (hb.cell (p := ⟨g, j * 2 + 1, none⟩) hl).trans hd⟩
theorem PL.range {w : World} {g : Nat} {S : List Pr} (h : PL w (some ⟨g, 0, none⟩) S) {k : Nat} {d : Pr} (hd : S[k]? = some d) : w.rangeAt g (k * 2) (prl d) := fun j v hv => by
  obtain ⟨g', hg, h0, h1⟩ := h k d hd
  obtain rfl : g = g' := by simpa using hg
  match j, hv with
  | 0, hv => obtain rfl := Option.some.inj hv; exact h0
  | 1, hv => obtain rfl := Option.some.inj hv; exact h1

/-! At the program's type. -/
theorem sizeP (d : Pr) : (Try.prog.info? 45).map (·.size) = some (prc d).size := by
  rw [show (prc d).size = 2 from rfl]; kernel_rfl
abbrev PRow (w : World) (base : Nat) (v : Value) (S : List Pr) : Prop := w.ownsRow base 45 2 v S.length (prs S)
theorem Prow_nil (w : World) (base : Nat) : PRow w base (.slice none 0 0) [] := World.ownsRow_nil w base _ _
theorem PRow.lower {w : World} {base b : Nat} {v : Value} {S : List Pr} (h : PRow w base v S) (hb : b ≤ base) : PRow w b v S := by
  refine ⟨h.1, ?_⟩
  rcases h.2 with hn | ⟨g, cap, cur, e, hbg, rest⟩
  · exact .inl hn
  · exact .inr ⟨g, cap, cur, e, Nat.le_trans hb hbg, rest⟩
theorem PRow.keep {w w' : World} {base : Nat} {v : Value} {S : List Pr} (h : PRow w base v S) (hk : ∀ k, v.ownBlock = some k → w'.heap[k]? = w.heap[k]?) : PRow w' base v S := by
  refine ⟨h.1, ?_⟩
  rcases h.2 with hn | ⟨g, cap, cur, rfl, hbg, hg, rest⟩
  · exact .inl hn
  · exact .inr ⟨g, cap, cur, rfl, hbg, by rw [hk g rfl]; exact hg, rest⟩
theorem PRow.below {w w' : World} {base B : Nat} {v : Value} {S : List Pr} (h : PRow w base v S) (hb : Below B w w') (hB : w.heap.size ≤ B) : PRow w' base v S :=
  h.keep fun k hk => hb.block k (by have := (h.lt k hk).2; omega)
theorem PRow.own {w : World} {base : Nat} {v : Value} {S : List Pr} (h : PRow w base v S) : ∀ k, v.ownBlock = some k → base ≤ k := fun k hk => (h.lt k hk).1
theorem PRow.pl {w : World} {base : Nat} {v : Value} {S : List Pr} (h : PRow w base v S) : ∃ ao c, v = .slice ao S.length c ∧ PL w ao S := by
  rcases h.2 with ⟨rfl, h0⟩ | ⟨g, cap, cur, rfl, hb, hg, hnc, hcm, hcs, htake⟩
  · have : S = [] := List.eq_nil_of_length_eq_zero h0
    subst this
    exact ⟨none, 0, rfl, fun j t h => by cases h⟩
  · refine ⟨some ⟨g, 0, none⟩, cap, rfl, fun j d hd => ⟨g, rfl, ?_, ?_⟩⟩
    · have h1 := h.cells (g := g) rfl _ _ (prs_at j d hd 0 _ rfl)
      rw [Addr.add_mid, Nat.zero_add] at h1
      exact h1
    · have h1 := h.cells (g := g) rfl _ _ (prs_at j d hd 1 _ rfl)
      rw [Addr.add_mid, Nat.zero_add] at h1
      exact h1
theorem infoP : (Try.prog.info? 45).map (fun i => (i.zero, i.size, i.bytes)) = some (some (.agg #[.string ByteArray.empty, .int .i64 0]), 2, 24) := by kernel_rfl
/-- What 'append' of one pair does. -/
theorem wpList_appP {ops : Array Oper} {rest : List Oper} {o : Oper} {a : Act} {w : World} {Q : Exit → Act → World → Prop} (d : Pr) (hw : Region.wanted o (yielded ops a.tmps) = true) (s x : Operand)
    (ho : o.op = .call { callee := .builtin .append, args := #[s, x], argTypes := #[28, 28] })
    (base : Nat) (v : Value) (S : List Pr) (hs : a.eval s = v) (hown : PRow (w.alloc (.cells (prc d) 45)) base v S)
    (hx : a.eval x = .slice (some ⟨w.heap.size, 0, none⟩) 1 1) (hnm : S.length < 1048576) (hbase : base ≤ w.heap.size)
    (h : ∀ v' w', PRow w' base v' (S ++ [d]) → (w.alloc (.cells (prc d) 45)).grownBy w' v.ownBlock → wpList Try.prog ops Q rest (a.put o.dst v') w') : wpList Try.prog ops Q (o :: rest) a (w.alloc (.cells (prc d) 45)) := by
  refine wpList_step fun K hK => ?_
  rw [if_pos hw]
  obtain ⟨i0, hi, hz0, hz1, hz2⟩ := info_parts infoP
  have hF : ∀ j u, (prs [d])[j]? = some u → (w.alloc (.cells (prc d) 45)).cell? ((⟨w.heap.size, 0, none⟩ : Addr).add j) = some u := fun j u hu => by
    have e1 : prs [d] = prl d := by simp [prs]
    rw [e1] at hu
    rw [Addr.add_mid, Nat.zero_add, cell_of_row (w.alloc (.cells (prc d) 45)) w.heap.size j _ _ _ (heap_alloc_new w _)]
    have : prc d = (prl d).toArray := rfl
    rw [this]
    simpa using hu
  obtain ⟨v', w', hr, h2, h3, -⟩ := run_append_own (P := Try.prog) (w.alloc (.cells (prc d) 45)) base 28 o.type 45 i0 (.agg #[.string ByteArray.empty, .int .i64 0]) 2 i0.bytes Try.underlying28 hi hz0 hz1 rfl rfl (by omega) v S.length (prs S) hown ⟨w.heap.size, 0, none⟩ 1 1 (prs [d]) (prs_length [d]) hF (prs_one [d]) (by unfold maxLen; omega) (by rw [hz2]; omega) (by simp; omega)
  unfold Oper.wp execOp
  simp only [ho, resolve, invoke, builtin, Sem.run_bind, Sem.run_pure, Result.andThen_ok, List.map_toArray, List.map_cons, List.map_nil, hs, hx, hr]
  exact hK _ _ (h v' w' (by rw [PRow, prs_append, List.length_append]; exact h2) h3)
theorem build_P1 {ops : Array Oper} {rest : List Oper} {o : Oper} {a : Act} {w : World} {Q : Exit → Act → World → Prop} {x : Operand} {d : Pr} (hw : Region.wanted o (yielded ops a.tmps) = true) (ho : o.op = .buildSlice 28 1 #[(0, x)]) (hx : a.eval x = .agg (prc d))
    (h : wpList Try.prog ops Q rest (a.put o.dst (.slice (some ⟨w.heap.size, 0, none⟩) 1 1)) (w.alloc (.cells (prc d) 45))) : wpList Try.prog ops Q (o :: rest) a w :=
  wpList_step fun K hK => by
    rw [if_pos hw]
    have hr : (Instr.buildSlice 28 1 #[(0, .agg (prc d))]).run Try.prog w = .ok (.slice (some ⟨w.heap.size, 0, none⟩) 1 1) (w.alloc (.cells (prc d) 45)) := by
      obtain ⟨i0, hi, hz0, hz1, hz2⟩ := info_parts infoP
      refine run_buildSlice w 28 45 1 _ (prc d) i0 _ Try.underlying28 hi hz0 (by rw [hz1]; decide) (by rw [hz1]; decide) ?_
      rw [hz1]
      have := Great.fill_whole (s := 2) (by omega) [.agg (prc d)] ((Array.range (1 * 2)).map ((Value.agg #[.string ByteArray.empty, .int .i64 0]).cells[· % (Value.agg #[.string ByteArray.empty, .int .i64 0]).cells.size]!)) (by
        intro v hv
        rw [List.mem_singleton.1 hv]
        rfl) (by simp)
      refine Eq.trans this ?_
      simp [Value.cells]
    unfold Oper.wp execOp
    simp only [ho, List.map_toArray, List.map_cons, List.map_nil, hx, Sem.run_bind, Sem.run_pure, Result.andThen_ok, hr]
    exact hK _ _ h
theorem load_P_mid {ops : Array Oper} {rest : List Oper} {o : Oper} {a : Act} {w : World} {Q : Exit → Act → World → Prop} {x : Operand} {b k : Nat} {d : Pr} (hw : Region.wanted o (yielded ops a.tmps) = true) (ho : o.op = .load 45 x) (hx : a.eval x = .pointer (some ⟨b, k, none⟩)) (hg : w.rangeAt b k (prl d))
    (h : wpList Try.prog ops Q rest (a.put o.dst (.agg (prc d))) w) : wpList Try.prog ops Q (o :: rest) a w :=
  wpList_step fun K hK => by
    rw [if_pos hw]
    exact wp_load_mid 45 x ho b k hx (prl d) _ hg Try.underlying45 rfl (sizeP d) (hK _ _ h)
theorem index_P (w : World) {b off k m c : Nat} (hk : k < m) : (Instr.indexAt 28 (.slice (some ⟨b, off, none⟩) m c) (.int .i64 (k : Int))).run Try.prog w = .ok (.pointer (some ⟨b, off + k * 2, none⟩)) w := by
  have hk' : (k : Int) < (m : Int) := by omega
  have hs : (Try.prog.info? 45).map (·.size) = some 2 := by kernel_rfl
  have ht : Try.prog.underlying 28 = some (.slice 45) := Try.underlying28
  go_simp
theorem plain_P : Try.prog.eqGuardType Try.prog.depth 45 = false := by kernel_rfl
theorem run_equalIn_P (w : World) (d : Nat) (x y : Pr) : (Op.equalIn (d + 2) 45 (.agg (prc x)) (.agg (prc y))).run Try.prog w = .ok (decide (x = y)) w := by
  rw [run_equalIn_struct w (d + 1) 45 _ _ (by kernel_rfl) (by kernel_rfl)]
  have hm : (Try.prog.fieldsOf 45).toList.map (fun f => (f.name, f.type, f.offset)) = [("Member", 9, 0), ("Score", 3, 1)] := by kernel_rfl
  have h : (Op.eqFields (d + 1) (prc x) (prc y) (Try.prog.fieldsOf 45).toList).run Try.prog w = .ok ([decide (x.1 = y.1), decide (x.2 = y.2)].all id) w := run_eqFields hm ⟨by decide, ⟨_, _, part_str w rfl, part_str w rfl, equal_str w _ _ _⟩, by decide, ⟨_, _, part_int w rfl, part_int w rfl, equal_int w _ _ _⟩, trivial⟩
  rw [h]
  congr 1
  rw [Bool.eq_iff_iff]
  simp [Prod.ext_iff]

/-! At the reference's type. -/
theorem sizeQ (d : Pr) : (Try.prog.info? 50).map (·.size) = some (prc d).size := by
  rw [show (prc d).size = 2 from rfl]; kernel_rfl
abbrev QRow (w : World) (base : Nat) (v : Value) (S : List Pr) : Prop := w.ownsRow base 50 2 v S.length (prs S)
theorem Qrow_nil (w : World) (base : Nat) : QRow w base (.slice none 0 0) [] := World.ownsRow_nil w base _ _
theorem QRow.lower {w : World} {base b : Nat} {v : Value} {S : List Pr} (h : QRow w base v S) (hb : b ≤ base) : QRow w b v S := by
  refine ⟨h.1, ?_⟩
  rcases h.2 with hn | ⟨g, cap, cur, e, hbg, rest⟩
  · exact .inl hn
  · exact .inr ⟨g, cap, cur, e, Nat.le_trans hb hbg, rest⟩
theorem QRow.keep {w w' : World} {base : Nat} {v : Value} {S : List Pr} (h : QRow w base v S) (hk : ∀ k, v.ownBlock = some k → w'.heap[k]? = w.heap[k]?) : QRow w' base v S := by
  refine ⟨h.1, ?_⟩
  rcases h.2 with hn | ⟨g, cap, cur, rfl, hbg, hg, rest⟩
  · exact .inl hn
  · exact .inr ⟨g, cap, cur, rfl, hbg, by rw [hk g rfl]; exact hg, rest⟩
theorem QRow.below {w w' : World} {base B : Nat} {v : Value} {S : List Pr} (h : QRow w base v S) (hb : Below B w w') (hB : w.heap.size ≤ B) : QRow w' base v S :=
  h.keep fun k hk => hb.block k (by have := (h.lt k hk).2; omega)
theorem QRow.own {w : World} {base : Nat} {v : Value} {S : List Pr} (h : QRow w base v S) : ∀ k, v.ownBlock = some k → base ≤ k := fun k hk => (h.lt k hk).1
theorem QRow.pl {w : World} {base : Nat} {v : Value} {S : List Pr} (h : QRow w base v S) : ∃ ao c, v = .slice ao S.length c ∧ PL w ao S := by
  rcases h.2 with ⟨rfl, h0⟩ | ⟨g, cap, cur, rfl, hb, hg, hnc, hcm, hcs, htake⟩
  · have : S = [] := List.eq_nil_of_length_eq_zero h0
    subst this
    exact ⟨none, 0, rfl, fun j t h => by cases h⟩
  · refine ⟨some ⟨g, 0, none⟩, cap, rfl, fun j d hd => ⟨g, rfl, ?_, ?_⟩⟩
    · have h1 := h.cells (g := g) rfl _ _ (prs_at j d hd 0 _ rfl)
      rw [Addr.add_mid, Nat.zero_add] at h1
      exact h1
    · have h1 := h.cells (g := g) rfl _ _ (prs_at j d hd 1 _ rfl)
      rw [Addr.add_mid, Nat.zero_add] at h1
      exact h1
theorem infoQ : (Try.prog.info? 50).map (fun i => (i.zero, i.size, i.bytes)) = some (some (.agg #[.string ByteArray.empty, .int .i64 0]), 2, 24) := by kernel_rfl
/-- What 'append' of one pair does. -/
theorem wpList_appQ {ops : Array Oper} {rest : List Oper} {o : Oper} {a : Act} {w : World} {Q : Exit → Act → World → Prop} (d : Pr) (hw : Region.wanted o (yielded ops a.tmps) = true) (s x : Operand)
    (ho : o.op = .call { callee := .builtin .append, args := #[s, x], argTypes := #[30, 30] })
    (base : Nat) (v : Value) (S : List Pr) (hs : a.eval s = v) (hown : QRow (w.alloc (.cells (prc d) 50)) base v S)
    (hx : a.eval x = .slice (some ⟨w.heap.size, 0, none⟩) 1 1) (hnm : S.length < 1048576) (hbase : base ≤ w.heap.size)
    (h : ∀ v' w', QRow w' base v' (S ++ [d]) → (w.alloc (.cells (prc d) 50)).grownBy w' v.ownBlock → wpList Try.prog ops Q rest (a.put o.dst v') w') : wpList Try.prog ops Q (o :: rest) a (w.alloc (.cells (prc d) 50)) := by
  refine wpList_step fun K hK => ?_
  rw [if_pos hw]
  obtain ⟨i0, hi, hz0, hz1, hz2⟩ := info_parts infoQ
  have hF : ∀ j u, (prs [d])[j]? = some u → (w.alloc (.cells (prc d) 50)).cell? ((⟨w.heap.size, 0, none⟩ : Addr).add j) = some u := fun j u hu => by
    have e1 : prs [d] = prl d := by simp [prs]
    rw [e1] at hu
    rw [Addr.add_mid, Nat.zero_add, cell_of_row (w.alloc (.cells (prc d) 50)) w.heap.size j _ _ _ (heap_alloc_new w _)]
    have : prc d = (prl d).toArray := rfl
    rw [this]
    simpa using hu
  obtain ⟨v', w', hr, h2, h3, -⟩ := run_append_own (P := Try.prog) (w.alloc (.cells (prc d) 50)) base 30 o.type 50 i0 (.agg #[.string ByteArray.empty, .int .i64 0]) 2 i0.bytes Try.underlying30 hi hz0 hz1 rfl rfl (by omega) v S.length (prs S) hown ⟨w.heap.size, 0, none⟩ 1 1 (prs [d]) (prs_length [d]) hF (prs_one [d]) (by unfold maxLen; omega) (by rw [hz2]; omega) (by simp; omega)
  unfold Oper.wp execOp
  simp only [ho, resolve, invoke, builtin, Sem.run_bind, Sem.run_pure, Result.andThen_ok, List.map_toArray, List.map_cons, List.map_nil, hs, hx, hr]
  exact hK _ _ (h v' w' (by rw [QRow, prs_append, List.length_append]; exact h2) h3)
theorem build_Q1 {ops : Array Oper} {rest : List Oper} {o : Oper} {a : Act} {w : World} {Q : Exit → Act → World → Prop} {x : Operand} {d : Pr} (hw : Region.wanted o (yielded ops a.tmps) = true) (ho : o.op = .buildSlice 30 1 #[(0, x)]) (hx : a.eval x = .agg (prc d))
    (h : wpList Try.prog ops Q rest (a.put o.dst (.slice (some ⟨w.heap.size, 0, none⟩) 1 1)) (w.alloc (.cells (prc d) 50))) : wpList Try.prog ops Q (o :: rest) a w :=
  wpList_step fun K hK => by
    rw [if_pos hw]
    have hr : (Instr.buildSlice 30 1 #[(0, .agg (prc d))]).run Try.prog w = .ok (.slice (some ⟨w.heap.size, 0, none⟩) 1 1) (w.alloc (.cells (prc d) 50)) := by
      obtain ⟨i0, hi, hz0, hz1, hz2⟩ := info_parts infoQ
      refine run_buildSlice w 30 50 1 _ (prc d) i0 _ Try.underlying30 hi hz0 (by rw [hz1]; decide) (by rw [hz1]; decide) ?_
      rw [hz1]
      have := Great.fill_whole (s := 2) (by omega) [.agg (prc d)] ((Array.range (1 * 2)).map ((Value.agg #[.string ByteArray.empty, .int .i64 0]).cells[· % (Value.agg #[.string ByteArray.empty, .int .i64 0]).cells.size]!)) (by
        intro v hv
        rw [List.mem_singleton.1 hv]
        rfl) (by simp)
      refine Eq.trans this ?_
      simp [Value.cells]
    unfold Oper.wp execOp
    simp only [ho, List.map_toArray, List.map_cons, List.map_nil, hx, Sem.run_bind, Sem.run_pure, Result.andThen_ok, hr]
    exact hK _ _ h
theorem load_Q_mid {ops : Array Oper} {rest : List Oper} {o : Oper} {a : Act} {w : World} {Q : Exit → Act → World → Prop} {x : Operand} {b k : Nat} {d : Pr} (hw : Region.wanted o (yielded ops a.tmps) = true) (ho : o.op = .load 50 x) (hx : a.eval x = .pointer (some ⟨b, k, none⟩)) (hg : w.rangeAt b k (prl d))
    (h : wpList Try.prog ops Q rest (a.put o.dst (.agg (prc d))) w) : wpList Try.prog ops Q (o :: rest) a w :=
  wpList_step fun K hK => by
    rw [if_pos hw]
    exact wp_load_mid 50 x ho b k hx (prl d) _ hg Try.underlying50 rfl (sizeQ d) (hK _ _ h)
theorem index_Q (w : World) {b off k m c : Nat} (hk : k < m) : (Instr.indexAt 30 (.slice (some ⟨b, off, none⟩) m c) (.int .i64 (k : Int))).run Try.prog w = .ok (.pointer (some ⟨b, off + k * 2, none⟩)) w := by
  have hk' : (k : Int) < (m : Int) := by omega
  have hs : (Try.prog.info? 50).map (·.size) = some 2 := by kernel_rfl
  have ht : Try.prog.underlying 30 = some (.slice 50) := Try.underlying30
  go_simp
theorem plain_Q : Try.prog.eqGuardType Try.prog.depth 50 = false := by kernel_rfl
theorem run_equalIn_Q (w : World) (d : Nat) (x y : Pr) : (Op.equalIn (d + 2) 50 (.agg (prc x)) (.agg (prc y))).run Try.prog w = .ok (decide (x = y)) w := by
  rw [run_equalIn_struct w (d + 1) 50 _ _ (by kernel_rfl) (by kernel_rfl)]
  have hm : (Try.prog.fieldsOf 50).toList.map (fun f => (f.name, f.type, f.offset)) = [("Member", 9, 0), ("Score", 3, 1)] := by kernel_rfl
  have h : (Op.eqFields (d + 1) (prc x) (prc y) (Try.prog.fieldsOf 50).toList).run Try.prog w = .ok ([decide (x.1 = y.1), decide (x.2 = y.2)].all id) w := run_eqFields hm ⟨by decide, ⟨_, _, part_str w rfl, part_str w rfl, equal_str w _ _ _⟩, by decide, ⟨_, _, part_int w rfl, part_int w rfl, equal_int w _ _ _⟩, trivial⟩
  rw [h]
  congr 1
  rw [Bool.eq_iff_iff]
  simp [Prod.ext_iff]

/-! Pieces of a list, appended. -/
structure QV (w : World) (ao : Option Addr) (m c : Nat) (F : List Pr) : Prop where
  len : F.length = m
  room : m ≤ c
  zero : ao = none → m = 0 ∧ c = 0
  cells : ∀ ad, ao = some ad → ∀ j u, (prs F)[j]? = some u → w.cell? (ad.add j) = some u
theorem QRow.qv {w : World} {base : Nat} {v : Value} {S : List Pr} (h : QRow w base v S) : ∃ ao c, v = .slice ao S.length c ∧ QV w ao S.length c S := by
  rcases h.2 with ⟨rfl, h0⟩ | ⟨g, cap, cur, rfl, hb, hg, hnc, hcm, hcs, htake⟩
  · have : S = [] := List.eq_nil_of_length_eq_zero h0
    subst this
    exact ⟨none, 0, rfl, rfl, Nat.le_refl _, fun _ => ⟨rfl, rfl⟩, fun ad h => by cases h⟩
  · refine ⟨some ⟨g, 0, none⟩, cap, rfl, rfl, hnc, (fun h => by cases h), fun ad ha j u hu => ?_⟩
    obtain rfl : (⟨g, 0, none⟩ : Addr) = ad := by simpa using ha
    exact h.cells (g := g) rfl _ _ hu
theorem QV.below {w w' : World} {ao : Option Addr} {m c B : Nat} {F : List Pr} (h : QV w ao m c F) (hb : Below B w w') (hB : w.heap.size ≤ B) : QV w' ao m c F :=
  ⟨h.len, h.room, h.zero, fun ad ha j u hu => by
    have h1 := h.cells ad ha j u hu
    have hl := Nat.lt_of_lt_of_le (World.block_lt_of_cell? w _ h1) hB
    exact (hb.cell hl).trans h1⟩
theorem QV.pl {w : World} {g m c : Nat} {F : List Pr} (h : QV w (some ⟨g, 0, none⟩) m c F) : PL w (some ⟨g, 0, none⟩) F := fun j d hd => ⟨g, rfl, by
  have h1 := h.cells _ rfl _ _ (prs_at j d hd 0 _ rfl)
  rw [Addr.add_mid, Nat.zero_add] at h1
  exact h1, by
  have h1 := h.cells _ rfl _ _ (prs_at j d hd 1 _ rfl)
  rw [Addr.add_mid, Nat.zero_add] at h1
  exact h1⟩
theorem QV.take {w : World} {ao : Option Addr} {m c : Nat} {F : List Pr} (h : QV w ao m c F) {i : Nat} (hi : i ≤ m) : QV w ao i c (F.take i) := by
  have hl := h.len
  have hr := h.room
  refine ⟨by rw [List.length_take]; omega, by omega, fun e => ⟨by have := (h.zero e).1; omega, (h.zero e).2⟩, fun ad ha j u hu => ?_⟩
  refine h.cells ad ha j u ?_
  have e1 : prs F = prs (F.take i) ++ prs (F.drop i) := by rw [← prs_append, List.take_append_drop]
  rw [e1, List.getElem?_append_left ((List.getElem?_eq_some_iff.1 hu).1)]
  exact hu
/-- From a place on. -/
def dropQ (ao : Option Addr) (c k : Nat) : Option Addr := if c = k then ao else ao.map (·.add (k * 2))
theorem sliceQ_from (w : World) {ao : Option Addr} {m c k : Nat} (hk : k ≤ m) : (Instr.sliceAt 30 (.slice ao m c) (some (.int .i64 (k : Int))) none none).run Try.prog w = .ok (.slice (dropQ ao c k) (m - k) (c - k)) w := by
  have h2 : (k : Int) ≤ (m : Int) := by omega
  have hs : (sizeOf 50).run Try.prog w = .ok 2 w := Try.sizeOf50 w
  have ht : Try.prog.underlying 30 = some (.slice 50) := Try.underlying30
  have he : Try.prog.elem 30 = 50 := by kernel_rfl
  rw [run_sliceAt_slice w 30 _ _ _ _ (by rw [he]; exact ht), run_slice_l w 30 ao m c (by rw [he]; exact ht) .i64 (k : Int) (by omega) h2, he, hs, Result.andThen_ok]
  unfold sliced dropQ
  simp
theorem sliceQ_to0 (w : World) {ao : Option Addr} {m c k : Nat} (hk : k ≤ c) : (Instr.slice 30 (.slice ao m c) none (some (.int .i64 (k : Int))) none).run Try.prog w = .ok (.slice ao k c) w := by
  have h2 : (k : Int) ≤ (c : Int) := by omega
  have hs : (Try.prog.info? 50).map (·.size) = some 2 := by kernel_rfl
  cases ao with
  | none => go_simp
  | some a => go_simp
theorem sliceQ_to (w : World) {ao : Option Addr} {m c k : Nat} (hk : k ≤ c) : (Instr.sliceAt 30 (.slice ao m c) none (some (.int .i64 (k : Int))) none).run Try.prog w = .ok (.slice ao k c) w := by
  have hs := sliceQ_to0 w (ao := ao) (m := m) hk
  have ht : Try.prog.underlying 30 = some (.slice 50) := Try.underlying30
  simp only [Instr.sliceAt, Sem.run_bind, run_underlying ht, Result.andThen_ok]
  exact hs
theorem QV.drop {w : World} {ao : Option Addr} {m c : Nat} {E : List Pr} (h : QV w ao m c E) {k : Nat} (hk : k ≤ m) : QV w (dropQ ao c k) (m - k) (c - k) (E.drop k) := by
  have hl := h.len
  have hr := h.room
  refine ⟨by rw [List.length_drop]; omega, by omega, fun e => ?_, fun ad ha j u hu => ?_⟩
  · have : ao = none := by
      unfold dropQ at e
      split at e
      · exact e
      · cases ao with
        | none => rfl
        | some _ => cases e
    have := h.zero this
    omega
  · have hlen : (prs (E.take k)).length = k * 2 := by
      rw [prs_length, List.length_take]
      congr 1
      omega
    have e1 : prs E = prs (E.take k) ++ prs (E.drop k) := by rw [← prs_append, List.take_append_drop]
    have hjl := (List.getElem?_eq_some_iff.1 hu).1
    have hu2 : (prs E)[k * 2 + j]? = some u := by
      rw [e1, List.getElem?_append_right (by omega), hlen, show k * 2 + j - k * 2 = j by omega]
      exact hu
    by_cases hck : c = k
    · have : E.drop k = [] := List.drop_eq_nil_of_le (by omega)
      rw [this] at hu
      cases hu
    · unfold dropQ at ha
      rw [if_neg hck] at ha
      cases ao with
      | none => cases ha
      | some a0 =>
        have ha' : a0.add (k * 2) = ad := by simpa using ha
        rw [← ha', Go.Deep.add_add]
        exact h.cells a0 rfl _ _ hu2
theorem wpList_appQs {ops : Array Oper} {rest : List Oper} {o : Oper} {a : Act} {w : World} {Q : Exit → Act → World → Prop} (hw : Region.wanted o (yielded ops a.tmps) = true) (s x : Operand)
    (ho : o.op = .call { callee := .builtin .append, args := #[s, x], argTypes := #[30, 30] })
    (base : Nat) (v : Value) (S : List Pr) (hs : a.eval s = v) (hown : QRow w base v S)
    (ao : Option Addr) (m c : Nat) (F : List Pr) (hx : a.eval x = .slice ao m c) (hF : QV w ao m c F) (hnm : S.length + m ≤ 1048576) (hbase : base ≤ w.heap.size)
    (h : ∀ v' w', QRow w' base v' (S ++ F) → w.grownBy w' v.ownBlock → wpList Try.prog ops Q rest (a.put o.dst v') w') : wpList Try.prog ops Q (o :: rest) a w := by
  refine wpList_step fun K hK => ?_
  rw [if_pos hw]
  obtain ⟨i0, hi, hz0, hz1, hz2⟩ := info_parts infoQ
  have hl : (prs F).length = m * 2 := by rw [prs_length, hF.len]
  have hlen : (S ++ F).length = S.length + m := by rw [List.length_append, hF.len]
  have key : ∀ (v' : Value) (w' : World), w'.ownsRow base 50 2 v' (S.length + m) (prs S ++ prs F) → QRow w' base v' (S ++ F) := fun v' w' h => by
    rw [QRow, hlen, prs_append]; exact h
  have hrun : ∃ v' w', (Builtin.append_ #[30, 30] o.type #[v, .slice ao m c]).run Try.prog w = .ok v' w' ∧ QRow w' base v' (S ++ F) ∧ w.grownBy w' v.ownBlock := by
    cases ao with
    | some ad =>
      obtain ⟨v', w', hr, h2, h3, -⟩ := run_append_own (P := Try.prog) w base 30 o.type 50 i0 (.agg #[.string ByteArray.empty, .int .i64 0]) 2 i0.bytes Try.underlying30 hi hz0 hz1 rfl rfl (by omega) v S.length (prs S) hown ad m c (prs F) hl (hF.cells ad rfl) (prs_one F) (by unfold maxLen; omega) (by rw [hz2]; omega) hbase
      exact ⟨v', w', hr, key v' w' h2, h3⟩
    | none =>
      obtain ⟨h0, h1⟩ := hF.zero rfl
      subst h0 h1
      have hrun := run_append_owned_none (P := Try.prog) (w := w) base 30 o.type 50 i0 2 Try.underlying30 hi v S.length (prs S) hown
      have hF0 : F = [] := List.eq_nil_of_length_eq_zero hF.len
      subst hF0
      exact ⟨v, w, hrun, by rw [List.append_nil]; exact hown, World.grownBy.refl _ _⟩
  obtain ⟨v', w', hr, h2, h3⟩ := hrun
  unfold Oper.wp execOp
  simp only [ho, resolve, invoke, builtin, Sem.run_bind, Sem.run_pure, Result.andThen_ok, List.map_toArray, List.map_cons, List.map_nil, hs, hx, hr]
  exact hK _ _ (h v' w' h2 h3)
theorem exec_sliceT {o : Oper} {a : Act} {w : World} {x y : Operand} {t : TypeId} {vx vy v : Value} (ho : o.op = .slice t x none (some y) none) (hx : a.eval x = vx) (hy : a.eval y = vy) (hr : (Instr.sliceAt t vx none (some vy) none).run Try.prog w = .ok v w) : (execOp a.eval o).run Try.prog w = .ok (.value v) w := by
  unfold execOp
  simp only [ho, hx, hy, Option.map_some, Option.map_none, Sem.run_bind, Sem.run_pure, hr]
  rfl
theorem exec_sliceF {o : Oper} {a : Act} {w : World} {x y : Operand} {t : TypeId} {vx vy v : Value} (ho : o.op = .slice t x (some y) none none) (hx : a.eval x = vx) (hy : a.eval y = vy) (hr : (Instr.sliceAt t vx (some vy) none none).run Try.prog w = .ok v w) : (execOp a.eval o).run Try.prog w = .ok (.value v) w := by
  unfold execOp
  simp only [ho, hx, hy, Option.map_some, Option.map_none, Sem.run_bind, Sem.run_pure, hr]
  rfl
theorem wpl_ex {ops : Array Oper} {rest : List Oper} {o : Oper} {a : Act} {w : World} {Q : Exit → Act → World → Prop} {v : Value} (hw : Region.wanted o (yielded ops a.tmps) = true) (he : (execOp a.eval o).run Try.prog w = .ok (.value v) w)
    (h : wpList Try.prog ops Q rest (a.put o.dst v) w) : wpList Try.prog ops Q (o :: rest) a w :=
  wpList_step fun K hK => by
    rw [if_pos hw]
    unfold Oper.wp
    rw [he, Oper.upon_value]
    exact hK _ _ h
end Go.Proofs.Ytmacebekodndjaa
