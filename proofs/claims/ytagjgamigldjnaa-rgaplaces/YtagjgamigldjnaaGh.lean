/-
  Rows of numbers: appended to, read, in pieces.
-/
import Derived.Test.YtagjgamigldjnaaGg
import Derived.Laws.OwnMore
import Derived.Laws.AppendOwnNone
import Derived.Great.BuildSlice
import Derived.Deep.MidRow
import Derived.OwnWalk
import Derived.Lib.SliceRun
import Derived.BigQuiet
namespace Go.Proofs.Ytagjgamigldjnaa
set_option maxRecDepth 100000
open Go.RowKit

def nv (n : Nat) : Value := .int .i64 (n : Int)
def nvs (S : List Nat) : List Value := S.map nv
theorem nvs_length (S : List Nat) : (nvs S).length = S.length * 1 := by simp [nvs]
theorem nvs_append (S T : List Nat) : nvs (S ++ T) = nvs S ++ nvs T := by simp [nvs]
theorem nvs_one (S : List Nat) : ∀ u ∈ nvs S, u.oneCell' = true := by
  intro u hu
  obtain ⟨i, -, rfl⟩ := List.mem_map.1 hu
  rfl
theorem nvs_at {S : List Nat} {j n : Nat} (h : S[j]? = some n) : (nvs S)[j]? = some (nv n) := by rw [nvs, List.getElem?_map, h]; rfl
theorem nvs_get {S : List Nat} {j : Nat} {u : Value} (h : (nvs S)[j]? = some u) : ∃ n, S[j]? = some n ∧ u = nv n := by
  rw [nvs, List.getElem?_map] at h
  cases hs : S[j]? with
  | none => rw [hs] at h; cases h
  | some n => rw [hs] at h; exact ⟨n, rfl, (Option.some.inj h).symm⟩
abbrev IRow (w : World) (base : Nat) (v : Value) (S : List Nat) : Prop := w.ownsRow base 3 1 v S.length (nvs S)
theorem irow_nil (w : World) (base : Nat) : IRow w base (.slice none 0 0) [] := World.ownsRow_nil w base _ _
theorem IRow.lower {w : World} {base b : Nat} {v : Value} {S : List Nat} (h : IRow w base v S) (hb : b ≤ base) : IRow w b v S := by
  refine ⟨h.1, ?_⟩
  rcases h.2 with hn | ⟨g, cap, cur, e, hbg, rest⟩
  · exact .inl hn
  · exact .inr ⟨g, cap, cur, e, Nat.le_trans hb hbg, rest⟩
theorem IRow.keep {w w' : World} {base : Nat} {v : Value} {S : List Nat} (h : IRow w base v S) (hk : ∀ k, v.ownBlock = some k → w'.heap[k]? = w.heap[k]?) : IRow w' base v S := by
  refine ⟨h.1, ?_⟩
  rcases h.2 with hn | ⟨g, cap, cur, rfl, hbg, hg, rest⟩
  · exact .inl hn
  · exact .inr ⟨g, cap, cur, rfl, hbg, by rw [hk g rfl]; exact hg, rest⟩
theorem IRow.below {w w' : World} {base B : Nat} {v : Value} {S : List Nat} (h : IRow w base v S) (hb : Below B w w') (hB : w.heap.size ≤ B) : IRow w' base v S :=
  h.keep fun k hk => hb.block k (by have := (h.lt k hk).2; omega)
theorem IRow.own {w : World} {base : Nat} {v : Value} {S : List Nat} (h : IRow w base v S) : ∀ k, v.ownBlock = some k → base ≤ k := fun k hk => (h.lt k hk).1
/-- A list of numbers, as it is read. -/
structure IV (w : World) (ao : Option Addr) (m c : Nat) (F : List Nat) : Prop where
  len : F.length = m
  room : m ≤ c
  zero : ao = none → m = 0 ∧ c = 0
  form : ∀ ad, ao = some ad → ad = ⟨ad.block, ad.off, none⟩
  cells : ∀ ad, ao = some ad → ∀ j n, F[j]? = some n → w.cell? ⟨ad.block, ad.off + j, none⟩ = some (nv n)
theorem IRow.iv {w : World} {base : Nat} {v : Value} {S : List Nat} (h : IRow w base v S) : ∃ ao c, v = .slice ao S.length c ∧ IV w ao S.length c S := by
  rcases h.2 with ⟨rfl, h0⟩ | ⟨g, cap, cur, rfl, hb, hg, hnc, hcm, hcs, htake⟩
  · have : S = [] := List.eq_nil_of_length_eq_zero h0
    subst this
    exact ⟨none, 0, rfl, rfl, Nat.le_refl _, fun _ => ⟨rfl, rfl⟩, (fun ad h => by cases h), fun ad h => by cases h⟩
  · refine ⟨some ⟨g, 0, none⟩, cap, rfl, rfl, hnc, (fun h => by cases h), (fun ad ha => ?_), fun ad ha j n hn => ?_⟩
    · obtain rfl : (⟨g, 0, none⟩ : Addr) = ad := by simpa using ha
      rfl
    · obtain rfl : (⟨g, 0, none⟩ : Addr) = ad := by simpa using ha
      have := h.cells (g := g) rfl _ _ (nvs_at hn)
      rw [Addr.add_mid] at this
      exact this
theorem IV.below {w w' : World} {ao : Option Addr} {m c B : Nat} {F : List Nat} (h : IV w ao m c F) (hb : Below B w w') (hB : w.heap.size ≤ B) : IV w' ao m c F :=
  ⟨h.len, h.room, h.zero, h.form, fun ad ha j u hu => by
    have h1 := h.cells ad ha j u hu
    have hl := Nat.lt_of_lt_of_le (World.block_lt_of_cell? w _ h1) hB
    exact (hb.cell hl).trans h1⟩
theorem IV.at {w : World} {ao : Option Addr} {m c : Nat} {F : List Nat} (h : IV w ao m c F) {i : Nat} (hi : i < m) : ∃ b off n, ao = some ⟨b, off, none⟩ ∧ F[i]? = some n ∧ w.cell? ⟨b, off + i, none⟩ = some (.int .i64 (n : Int)) ∧ b < w.heap.size := by
  have hl := h.len
  have hn : F[i]? = some (F[i]'(by omega)) := List.getElem?_eq_getElem (by omega)
  cases ao with
  | none => have := (h.zero rfl).1; omega
  | some ad =>
    have hc := h.cells ad rfl i _ hn
    exact ⟨ad.block, ad.off, _, congrArg some (h.form ad rfl), hn, hc, World.block_lt_of_cell? w ⟨ad.block, ad.off + i, none⟩ hc⟩
theorem IV.take {w : World} {ao : Option Addr} {m c : Nat} {F : List Nat} (h : IV w ao m c F) {i : Nat} (hi : i ≤ m) : IV w ao i c (F.take i) := by
  have hl := h.len
  have hr := h.room
  refine ⟨by rw [List.length_take]; omega, by omega, fun e => ⟨by have := (h.zero e).1; omega, (h.zero e).2⟩, h.form, fun ad ha j u hu => ?_⟩
  refine h.cells ad ha j u ?_
  have hj : j < i := by have := (List.getElem?_eq_some_iff.1 hu).1; rw [List.length_take] at this; omega
  rwa [List.getElem?_take_of_lt hj] at hu
/-- From a place on. -/
def dropI (ao : Option Addr) (c k : Nat) : Option Addr := if c = k then ao else ao.map (·.add (k * 1))
theorem sliceI_from (w : World) {ao : Option Addr} {m c k : Nat} (hk : k ≤ m) : (Instr.sliceAt 50 (.slice ao m c) (some (.int .i64 (k : Int))) none none).run Try.prog w = .ok (.slice (dropI ao c k) (m - k) (c - k)) w := by
  have h2 : (k : Int) ≤ (m : Int) := by omega
  have hs : (sizeOf 3).run Try.prog w = .ok 1 w := Try.sizeOf3 w
  have ht : Try.prog.underlying 50 = some (.slice 3) := Try.underlying50
  have he : Try.prog.elem 50 = 3 := by kernel_rfl
  rw [run_sliceAt_slice w 50 _ _ _ _ (by rw [he]; exact ht), run_slice_l w 50 ao m c (by rw [he]; exact ht) .i64 (k : Int) (by omega) h2, he, hs, Result.andThen_ok]
  unfold sliced dropI
  simp
theorem sliceI_to0 (w : World) {ao : Option Addr} {m c k : Nat} (hk : k ≤ c) : (Instr.slice 50 (.slice ao m c) none (some (.int .i64 (k : Int))) none).run Try.prog w = .ok (.slice ao k c) w := by
  have h2 : (k : Int) ≤ (c : Int) := by omega
  have hs : (Try.prog.info? 3).map (·.size) = some 1 := by kernel_rfl
  cases ao with
  | none => go_simp
  | some a => go_simp
theorem sliceI_to (w : World) {ao : Option Addr} {m c k : Nat} (hk : k ≤ c) : (Instr.sliceAt 50 (.slice ao m c) none (some (.int .i64 (k : Int))) none).run Try.prog w = .ok (.slice ao k c) w := by
  have hs := sliceI_to0 w (ao := ao) (m := m) hk
  have ht : Try.prog.underlying 50 = some (.slice 3) := Try.underlying50
  simp only [Instr.sliceAt, Sem.run_bind, run_underlying ht, Result.andThen_ok]
  exact hs
theorem IV.drop {w : World} {ao : Option Addr} {m c : Nat} {E : List Nat} (h : IV w ao m c E) {k : Nat} (hk : k ≤ m) : IV w (dropI ao c k) (m - k) (c - k) (E.drop k) := by
  have hl := h.len
  have hr := h.room
  have key : ∀ ad, dropI ao c k = some ad → (c = k ∧ ao = some ad) ∨ (c ≠ k ∧ ∃ a0, ao = some a0 ∧ a0.add (k * 1) = ad) := fun ad e => by
    unfold dropI at e
    split at e
    · rename_i hc; exact .inl ⟨hc, e⟩
    · rename_i hc
      cases ao with
      | none => cases e
      | some a0 => exact .inr ⟨hc, a0, rfl, by simpa using e⟩
  refine ⟨by rw [List.length_drop]; omega, by omega, fun e => ?_, fun ad ha => ?_, fun ad ha j u hu => ?_⟩
  · have : ao = none := by
      unfold dropI at e
      split at e
      · exact e
      · cases ao with
        | none => rfl
        | some _ => cases e
    have := h.zero this
    omega
  · rcases key ad ha with ⟨-, h1⟩ | ⟨-, a0, h1, h2⟩
    · exact h.form ad h1
    · have h3 := h.form a0 h1
      rw [h3, Addr.add_mid] at h2
      rw [← h2]
  · have hu2 : E[k + j]? = some u := by rw [List.getElem?_drop] at hu; exact hu
    rcases key ad ha with ⟨hc, h1⟩ | ⟨-, a0, h1, h2⟩
    · have := (List.getElem?_eq_some_iff.1 hu2).1
      omega
    · have h3 := h.form a0 h1
      rw [h3, Addr.add_mid] at h2
      have h4 := h.cells a0 h1 (k + j) u hu2
      rw [← h2, show a0.off + k * 1 + j = a0.off + (k + j) by omega]
      exact h4
theorem infoI : (Try.prog.info? 3).map (fun i => (i.zero, i.size, i.bytes)) = some (some (.int .i64 0), 1, 8) := by kernel_rfl
/-- 'append' to a row of the call's own: what it is then is that row, or a new one. -/
theorem app_newI {w : World} (base : Nat) (ty : TypeId) (i : TypeInfo) (hi : Try.prog.info? 3 = some i) (hz : i.zero = some (.int .i64 0)) (hsize : i.size = 1) (hbytes : i.bytes = 8)
    (v : Value) (n : Nat) (xs : List Value) (hown : w.ownsRow base 3 1 v n xs)
    (a : Addr) (m c : Nat) (news : List Value) (hl : news.length = m * 1) (hnews : ∀ j u, news[j]? = some u → w.cell? (a.add j) = some u) (h1 : ∀ u ∈ news, u.oneCell' = true)
    (hnm : n + m ≤ 1048576) (v' : Value) (w' : World) (hr : (Builtin.append_ #[50, 50] ty #[v, .slice (some a) m c]).run Try.prog w = .ok v' w') :
    ∀ k, v'.ownBlock = some k → v.ownBlock = some k ∨ w.heap.size ≤ k := by
  intro k hk
  have ht : Try.prog.underlying 50 = some (.slice 3) := Try.underlying50
  have hown' := hown
  rcases hown.2 with ⟨rfl, rfl⟩ | ⟨g, cap, cur, rfl, hbg, hg, hnc, hcm, hcs, htake⟩
  · by_cases hm : m = 0
    · subst hm
      have hn : news = [] := List.eq_nil_of_length_eq_zero (by omega)
      subst hn
      have : (Builtin.append_ #[50, 50] ty #[.slice none 0 0, .slice (some a) 0 c]).run Try.prog w = .ok (.slice none 0 0) w := by
        simp [Builtin.append_, run_underlying ht, sizeOf, typeInfo, hi, Builtin.lenOf, Builtin.firstCells, loadCells, loadCellsFrom]
      rw [this] at hr
      simp only [Result.ok.injEq] at hr
      rw [← hr.1] at hk
      cases hk
    · have h2 := run_append_nil (P := Try.prog) w 50 ty 3 i _ ht hi hz a m c news (by rw [hsize]; omega) hnews (by omega) (by omega) (by rw [hbytes]; omega)
      rw [h2] at hr
      simp only [Result.ok.injEq] at hr
      rw [← hr.1] at hk
      simp only [Value.ownBlock, Option.some.injEq] at hk
      right; omega
  · by_cases hroom : n + m ≤ cap
    · obtain ⟨w2, h2, -⟩ := run_append_fits (P := Try.prog) w base 50 ty 3 i 1 ht hi hsize g n cap xs hown' a m c news (by omega) hnews h1 hroom
      rw [h2] at hr
      simp only [Result.ok.injEq] at hr
      rw [← hr.1] at hk
      exact .inl hk
    · have h2 := run_append_grow (P := Try.prog) w 50 ty 3 i _ ht hi hz ⟨g, 0, none⟩ n cap xs (by rw [hsize]; exact hown.1) (hown'.cells (g := g) rfl) a m c news (by rw [hsize]; omega) hnews (by omega) (by omega) (growslice_fits (by omega) (by rw [hbytes]; omega))
      rw [h2] at hr
      simp only [Result.ok.injEq] at hr
      rw [← hr.1] at hk
      simp only [Value.ownBlock, Option.some.injEq] at hk
      right; omega
/-- What 'append' does: of a piece. -/
theorem run_appI {w : World} (ty : TypeId) (base : Nat) (v : Value) (S : List Nat) (hown : IRow w base v S) (ao : Option Addr) (m c : Nat) (F : List Nat) (hF : IV w ao m c F) (hnm : S.length + m ≤ 1048576) (hbase : base ≤ w.heap.size) :
    ∃ v' w', (Builtin.append_ #[50, 50] ty #[v, .slice ao m c]).run Try.prog w = .ok v' w' ∧ IRow w' base v' (S ++ F) ∧ w.grownBy w' v.ownBlock ∧ ∀ k, v'.ownBlock = some k → v.ownBlock = some k ∨ w.heap.size ≤ k := by
  obtain ⟨i0, hi, hz0, hz1, hz2⟩ := info_parts infoI
  have hl : (nvs F).length = m * 1 := by rw [nvs_length, hF.len]
  have hlen : (S ++ F).length = S.length + m := by rw [List.length_append, hF.len]
  have key : ∀ (v' : Value) (w' : World), w'.ownsRow base 3 1 v' (S.length + m) (nvs S ++ nvs F) → IRow w' base v' (S ++ F) := fun v' w' h => by
    rw [IRow, hlen, nvs_append]; exact h
  cases ao with
  | some ad =>
    have hnew : ∀ j u, (nvs F)[j]? = some u → w.cell? (ad.add j) = some u := fun j u hu => by
      obtain ⟨n, hn, rfl⟩ := nvs_get hu
      have h5 := hF.cells ad rfl j n hn
      rw [hF.form ad rfl, Addr.add_mid]
      exact h5
    obtain ⟨v', w', hr, h2, h3, -⟩ := run_append_own (P := Try.prog) w base 50 ty 3 i0 (.int .i64 0) 1 i0.bytes Try.underlying50 hi hz0 hz1 rfl rfl (by omega) v S.length (nvs S) hown ad m c (nvs F) hl hnew (nvs_one F) (by unfold maxLen; omega) (by rw [hz2]; omega) hbase
    have h4 := app_newI base ty i0 hi hz0 hz1 hz2 v S.length (nvs S) hown ad m c (nvs F) hl hnew (nvs_one F) hnm v' w' hr
    exact ⟨v', w', hr, key v' w' h2, h3, h4⟩
  | none =>
    obtain ⟨h0, h1⟩ := hF.zero rfl
    subst h0 h1
    have hrun := run_append_owned_none (P := Try.prog) (w := w) base 50 ty 3 i0 1 Try.underlying50 hi v S.length (nvs S) hown
    have hF0 : F = [] := List.eq_nil_of_length_eq_zero hF.len
    subst hF0
    exact ⟨v, w, hrun, by rw [List.append_nil]; exact hown, World.grownBy.refl _ _, fun k hk => .inl hk⟩
theorem wpList_appIs {ops : Array Oper} {rest : List Oper} {o : Oper} {a : Act} {w : World} {Q : Exit → Act → World → Prop} (hw : Region.wanted o (yielded ops a.tmps) = true) (s x : Operand)
    (ho : o.op = .call { callee := .builtin .append, args := #[s, x], argTypes := #[50, 50] })
    (base : Nat) (v : Value) (S : List Nat) (hs : a.eval s = v) (hown : IRow w base v S)
    (ao : Option Addr) (m c : Nat) (F : List Nat) (hx : a.eval x = .slice ao m c) (hF : IV w ao m c F) (hnm : S.length + m ≤ 1048576) (hbase : base ≤ w.heap.size)
    (h : ∀ v' w', IRow w' base v' (S ++ F) → w.grownBy w' v.ownBlock → wpList Try.prog ops Q rest (a.put o.dst v') w') : wpList Try.prog ops Q (o :: rest) a w := by
  refine wpList_step fun K hK => ?_
  rw [if_pos hw]
  obtain ⟨v', w', hr, h2, h3, -⟩ := run_appI o.type base v S hown ao m c F hF hnm hbase
  unfold Oper.wp execOp
  simp only [ho, resolve, invoke, builtin, Sem.run_bind, Sem.run_pure, Result.andThen_ok, List.map_toArray, List.map_cons, List.map_nil, hs, hx, hr]
  exact hK _ _ (h v' w' h2 h3)
theorem run_buildI (w : World) (n : Nat) : (Instr.buildSlice 50 1 #[(0, .int .i64 (n : Int))]).run Try.prog w = .ok (.slice (some ⟨w.heap.size, 0, none⟩) 1 1) (w.alloc (.cells #[.int .i64 (n : Int)] 3)) := by
  obtain ⟨i0, hi, hz0, hz1, hz2⟩ := info_parts infoI
  refine run_buildSlice w 50 3 1 _ #[.int .i64 (n : Int)] i0 _ Try.underlying50 hi hz0 (by rw [hz1]; decide) (by rw [hz1]; decide) ?_
  rw [hz1]
  have := Great.fill_whole (s := 1) (by omega) [.int .i64 (n : Int)] ((Array.range (1 * 1)).map ((Value.int .i64 0).cells[· % (Value.int .i64 0).cells.size]!)) (by
    intro v hv
    rw [List.mem_singleton.1 hv]
    rfl) (by simp)
  refine Eq.trans this ?_
  simp [Value.cells]
theorem iv_one (w : World) (n : Nat) : IV (w.alloc (.cells #[.int .i64 (n : Int)] 3)) (some ⟨w.heap.size, 0, none⟩) 1 1 [n] :=
  ⟨rfl, Nat.le_refl _, (fun h => by cases h), (fun ad ha => by rw [← Option.some.inj ha]), fun ad ha j u hu => by
    obtain rfl : (⟨w.heap.size, 0, none⟩ : Addr) = ad := by simpa using ha
    have hj : j = 0 := by have := (List.getElem?_eq_some_iff.1 hu).1; simp at this; exact this
    subst hj
    obtain rfl : n = u := by simpa using hu
    rw [cell_of_row (w.alloc (.cells #[.int .i64 (n : Int)] 3)) w.heap.size _ _ _ _ (heap_alloc_new w _)]
    rfl⟩
theorem build_I1 {ops : Array Oper} {rest : List Oper} {o : Oper} {a : Act} {w : World} {Q : Exit → Act → World → Prop} {x : Operand} {n : Nat} (hw : Region.wanted o (yielded ops a.tmps) = true) (ho : o.op = .buildSlice 50 1 #[(0, x)]) (hx : a.eval x = .int .i64 (n : Int))
    (h : wpList Try.prog ops Q rest (a.put o.dst (.slice (some ⟨w.heap.size, 0, none⟩) 1 1)) (w.alloc (.cells #[.int .i64 (n : Int)] 3))) : wpList Try.prog ops Q (o :: rest) a w :=
  wpList_step fun K hK => by
    rw [if_pos hw]
    have hr := run_buildI w n
    unfold Oper.wp execOp
    simp only [ho, List.map_toArray, List.map_cons, List.map_nil, hx, Sem.run_bind, Sem.run_pure, Result.andThen_ok, hr]
    exact hK _ _ h
theorem index_i (w : World) {b off k m c : Nat} (hk : k < m) : (Instr.indexAt 50 (.slice (some ⟨b, off, none⟩) m c) (.int .i64 (k : Int))).run Try.prog w = .ok (.pointer (some ⟨b, off + k, none⟩)) w := by
  have hk' : (k : Int) < (m : Int) := by omega
  have hs : (Try.prog.info? 3).map (·.size) = some 1 := by kernel_rfl
  have ht : Try.prog.underlying 50 = some (.slice 3) := Try.underlying50
  go_simp
theorem load_i {w : World} {ad : Addr} {v : Value} (h : w.cell? ad = some v) : (loadVar 3 ad).run Try.prog w = .ok v w := by
  have := Try.isAgg3 w
  go_simp
end Go.Proofs.Ytagjgamigldjnaa

namespace Go.Proofs.Ytagjgamigldjnaa
set_option maxRecDepth 100000
open Go.RowKit
open Go.ChangeMaps (setBlock heap_setBlock_same heap_setBlock_other)

section
variable {κ : Type} [DecidableEq κ] {kty : TypeId} {kv : κ → Value}
def rowOf (f : κ → Option Value) (s : κ) : Value := (f s).getD (.slice none 0 0)
/-- The groups: the map's block, the rows from 'base' on. -/
structure Gri (kv : κ → Value) (w : World) (b base : Nat) (f : κ → Option Value) (G : κ → List Nat) : Prop where
  map : Mp kv w b f
  rows : ∀ s, IRow w base (rowOf f s) (G s)
  apart : ∀ s t k, (rowOf f s).ownBlock = some k → (rowOf f t).ownBlock = some k → s = t
  lt : b < base
omit [DecidableEq κ] in
theorem Gri.below {w w' : World} {b base B : Nat} {f : κ → Option Value} {G : κ → List Nat} (h : Gri kv w b base f G) (hb : Below B w w') (hB : w.heap.size ≤ B) : Gri kv w' b base f G :=
  ⟨h.map.below hb (Nat.lt_of_lt_of_le h.map.lt hB), fun s => (h.rows s).below hb hB, h.apart, h.lt⟩
omit [DecidableEq κ] in
theorem gri_new (kv : κ → Value) (w : World) : Gri kv (w.alloc (.map #[] 0)) w.heap.size (w.heap.size + 1) (fun _ => none) (fun _ => []) :=
  ⟨mp_new kv w, fun _ => irow_nil _ _, (fun _ _ _ h => by cases h), Nat.lt_succ_self _⟩
omit [DecidableEq κ] in
theorem Gri.look (K : KeyOk kty kv) {t : TypeId} (ht : Try.prog.underlying t = some (.map kty 50)) {w : World} {b base : Nat} {f : κ → Option Value} {G : κ → List Nat} (h : Gri kv w b base f G) (s : κ) :
    (Instr.lookup t (.map (some b)) (kv s) false).run Try.prog w = .ok (rowOf f s) w := h.map.look K ht (fun w => Try.zeroValue50 w) s
/-- 'm[s] = append(m[s], n)': the row appended to, laid back. -/
theorem Gri.push (K : KeyOk kty kv) {t : TypeId} (ht : Try.prog.underlying t = some (.map kty 50)) {w : World} {b base : Nat} {f : κ → Option Value} {G : κ → List Nat} (h : Gri kv w b base f G) (s : κ) (n : Nat) (hl : (G s).length < 1000000) (hbase : base ≤ w.heap.size) (ty : TypeId) :
    ∃ v w4 w5, (Builtin.append_ #[50, 50] ty #[rowOf f s, .slice (some ⟨w.heap.size, 0, none⟩) 1 1]).run Try.prog (w.alloc (.cells #[.int .i64 (n : Int)] 3)) = .ok v w4 ∧
      (Instr.mapUpdate t (.map (some b)) (kv s) v).run Try.prog w4 = .ok () w5 ∧
      Gri kv w5 b base (fun y => if s = y then some v else f y) (fun y => if s = y then G s ++ [n] else G y) ∧
      (∀ k, k < w.heap.size → some k ≠ (rowOf f s).ownBlock → w4.heap[k]? = w.heap[k]?) ∧ (∀ k, k < w.heap.size → some k ≠ (rowOf f s).ownBlock → k ≠ b → w5.heap[k]? = w.heap[k]?) ∧ Below b w w5 := by
  have hB1 : Below w.heap.size w (w.alloc (.cells #[.int .i64 (n : Int)] 3)) := (Below.refl _ _).alloc (Nat.le_refl _) _
  have hG1 := h.below hB1 (Nat.le_refl _)
  obtain ⟨v, w4, hr4, hR4, hg4, ho4⟩ := run_appI (w := w.alloc (.cells #[.int .i64 (n : Int)] 3)) ty base (rowOf f s) (G s) (hG1.rows s) _ 1 1 [n] (iv_one w n) (by omega) (by simp; omega)
  have hblt : b < (w.alloc (.cells #[.int .i64 (n : Int)] 3)).heap.size := hG1.map.lt
  have hbrow : ∀ t, some b ≠ (rowOf f t).ownBlock := fun t e => by
    have := ((h.rows t).lt b e.symm).1
    have := h.lt
    omega
  have hM4 : Mp kv w4 b f := hG1.map.kept (hg4.block b hblt (hbrow s))
  obtain ⟨o, ho⟩ := hM4.update K ht s v
  obtain ⟨hr5, hM5⟩ := ho w4 rfl
  have hg5 := grownBy_setBlock w4 b o
  have hvb : ∀ k, v.ownBlock = some k → base ≤ k := hR4.own
  have hlt4 : w.heap.size ≤ w4.heap.size := Nat.le_trans hB1.size hg4.size
  have hrow : ∀ y, rowOf (fun y => if s = y then some v else f y) y = if s = y then v else rowOf f y := fun y => by
    unfold rowOf
    by_cases hy : s = y
    · simp [hy]
    · simp [hy]
  refine ⟨v, w4, setBlock w4 b o, hr4, hr5, ⟨hM5, fun y => ?_, fun y y' k h1 h2 => ?_, h.lt⟩, fun k hk hne => ?_, fun k hk hne hkb => ?_, ?_⟩
  · rw [hrow]
    by_cases hy : s = y
    · rw [if_pos hy, if_pos hy]
      refine hR4.keep (fun k hk => hg5.block k ((hR4.lt k hk).2) (fun e => ?_))
      have h1 := hvb k hk
      have h2 := h.lt
      have : k = b := by simpa using e
      omega
    · rw [if_neg hy, if_neg hy]
      have r4 : IRow w4 base (rowOf f y) (G y) := (hG1.rows y).keep (fun k hk => hg4.block k ((hG1.rows y).lt k hk).2 (fun e => hy (h.apart s y k e.symm hk)))
      refine r4.keep (fun k hk => hg5.block k ((r4.lt k hk).2) (fun e => hbrow y (by rw [hk]; exact e.symm)))
  · rw [hrow] at h1 h2
    have key : ∀ t, ¬ s = t → v.ownBlock = some k → (rowOf f t).ownBlock = some k → False := fun t ht e1 e2 => by
      rcases ho4 k e1 with h3 | h3
      · exact ht (h.apart s t k h3 e2)
      · have := ((hG1.rows t).lt k e2).2
        omega
    by_cases hy : s = y <;> by_cases hy' : s = y'
    · rw [← hy, ← hy']
    · rw [if_pos hy] at h1; rw [if_neg hy'] at h2
      exact (key y' hy' h1 h2).elim
    · rw [if_neg hy] at h1; rw [if_pos hy'] at h2
      exact (key y hy h2 h1).elim
    · rw [if_neg hy] at h1; rw [if_neg hy'] at h2
      exact h.apart y y' k h1 h2
  · rw [hg4.block k (by simp; omega) hne, hB1.block k hk]
  · rw [hg5.block k (by omega) (by simpa using hkb), hg4.block k (by simp; omega) hne, hB1.block k hk]
  · refine ((hB1.mono (Nat.le_of_lt (by have := h.lt; omega))).grown hg4 (by omega) (fun k hk => ?_)).grown hg5 (by have := hg4.size; omega) (fun k hk => ?_)
    · have h1 := ((h.rows s).lt k hk).1
      have h2 := h.lt
      omega
    · have : b = k := by simpa using hk
      omega
end
theorem mapI : Try.prog.underlying 47 = some (.map 3 50) := Try.underlying47
theorem mapD : Try.prog.underlying 58 = some (.map 26 50) := Try.underlying58
end Go.Proofs.Ytagjgamigldjnaa
