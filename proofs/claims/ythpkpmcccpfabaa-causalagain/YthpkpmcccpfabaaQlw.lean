/-
  What the laws' walks keep: a buffer and a vector that they made.
-/
import Derived.Test.YthpkpmcccpfabaaQwk
namespace Go.Proofs.Ythpkpmcccpfabaa
set_option maxRecDepth 100000
open Go.RowKit

/-- A buffer and a vector that a law made. -/
structure Lq (w : World) (g Bv : Nat) (wr : World) (m : Option Nat) (S : List Ev) (v : List Int) : Prop where
  below : Below w.heap.size w wr
  bf : Bf wr g m S
  vec : Lies wr Bv v
  lo : w.heap.size ≤ g
  hi : g < Bv
  own : ∀ k, m = some k → w.heap.size ≤ k
section
variable {w wr w' : World} {g Bv : Nat} {m m' : Option Nat} {S S' : List Ev} {v : List Int}
theorem Lq.next (h : Lq w g Bv wr m S v) (hb : Below wr.heap.size wr w') : Lq w g Bv w' m S v :=
  ⟨h.below.trans (hb.mono h.below.size), h.bf.below hb, h.vec.below hb h.vec.lt, h.lo, h.hi, h.own⟩
theorem Lq.drew (h : Lq w g Bv wr m S v) : Lq w g Bv wr.drew m S v := h.next (Below.refl _ _).drew
theorem Lq.offer (h : Lq w g Bv wr m S v) (hb : Bf w' g m' S') (ht : Tn g m m' wr w') : Lq w g Bv w' m' S' v := by
  obtain ⟨h1, h2⟩ := Tn.low h.below ht h.below.size h.lo h.own
  have hv := h.vec
  exact ⟨h1, hb, (ht.block Bv hv.lt (by have := h.hi; omega) (h.bf.notMap hv)).trans hv, h.lo, h.hi, h2⟩
/-- Another row of the law's own turns. -/
theorem Lq.grow {r : Option Nat} (h : Lq w g Bv wr m S v) (hg : wr.grownBy w' r) (hr : ∀ k, r = some k → Bv < k ∧ ∃ cs ty, wr.heap[k]? = some (.cells cs ty (0, 0))) : Lq w g Bv w' m S v := by
  have ho : ∀ k, k ≤ Bv → some k ≠ r := fun k hk e => by have := (hr k e.symm).1; omega
  have hlo := h.lo
  have hhi := h.hi
  have hmr : ∀ k, m = some k → some k ≠ r := fun k hk e => by
    obtain ⟨-, cs, ty, hc⟩ := hr k e.symm
    exact h.bf.notMap hc hk
  refine ⟨h.below.grown hg h.below.size (fun k e => by have := (hr k e).1; omega), ?_, ?_, h.lo, h.hi, h.own⟩
  · obtain ⟨cs, hb⟩ := h.bf
    refine ⟨cs, hb.kept fun k hk hkk => hg.block k hk ?_⟩
    rcases hkk with rfl | hkk
    · exact ho k (by omega)
    · exact hmr k hkk
  · rw [Lies, hg.block Bv h.vec.lt (ho Bv (Nat.le_refl _))]; exact h.vec
theorem Lq.set (h : Lq w g Bv wr m S v) (j : Nat) (x : Int) : Lq w g Bv (wr.setCell ⟨Bv, j, none⟩ (.int .i64 x)) m S (v.set j x) := by
  have ho : ∀ k, k ≠ Bv → (wr.setCell ⟨Bv, j, none⟩ (.int .i64 x)).heap[k]? = wr.heap[k]? := fun k hk => Below.heap_setCell _ _ _ k hk
  have hlo := h.lo
  have hhi := h.hi
  have hnm := h.bf.notMap h.vec
  refine ⟨h.below.setCell (p := ⟨Bv, j, none⟩) (by show _ ≤ Bv; omega) _, ?_, h.vec.set x, h.lo, h.hi, h.own⟩
  obtain ⟨cs, hb⟩ := h.bf
  refine ⟨cs, hb.kept fun k _ hkk => ho k ?_⟩
  rcases hkk with rfl | hkk
  · omega
  · rintro rfl; exact hnm hkk
end
theorem row_cells {w : World} {base : Nat} {vt : Value} {T : List Ev} (h : Row w base vt T) : ∀ k, vt.ownBlock = some k → base ≤ k ∧ ∃ cs ty, w.heap[k]? = some (.cells cs ty (0, 0)) := fun k hk => by
  refine ⟨Row.own h k hk, ?_⟩
  rcases h.2 with ⟨rfl, -⟩ | ⟨g', cap, cur, rfl, -, hg', -⟩
  · cases hk
  · obtain rfl : g' = k := by simpa [Value.ownBlock] using hk
    exact ⟨cur, 44, hg'⟩
theorem Row.set {w : World} {base Bv j : Nat} {vt : Value} {T : List Ev} (h : Row w base vt T) (hb : Bv < base) (x : Value) : Row (w.setCell ⟨Bv, j, none⟩ x) base vt T :=
  keepR h fun k hk => Below.heap_setCell _ _ _ k (by have := Row.own h k hk; show k ≠ Bv; omega)
theorem row_range {w : World} {base b off n c : Nat} {T : List Ev} (h : Row w base (.slice (some ⟨b, off, none⟩) n c) T) (hw : ∀ x ∈ T, Wide x) {j : Nat} {x : Ev} (hj : j < T.length) (hx : T[j]? = some x) : w.rangeAt b (off + j * 26) (evl x) := by
  obtain ⟨ao2, c2, hv2, hTe⟩ := h.evs hw
  simp only [Value.slice.injEq] at hv2
  obtain ⟨h1, -, -⟩ := hv2
  obtain ⟨b2, off2, y, hao2, hyj, -, hrg2, -⟩ := hTe.at hj
  rw [← h1] at hao2
  cases hao2
  rw [hx] at hyj
  cases hyj
  exact hrg2
theorem y_len {o : Oper} {a : Act} {w : World} {x : Operand} {ao : Option Addr} {n c : Nat} (ho : o.op = .call { callee := .builtin .len, args := #[x], argTypes := #[27] }) (hx : a.eval x = .slice ao n c) : (execOp a.eval o).run Try.prog w = .ok (.value (.int .i64 (n : Int))) w := by
  unfold execOp
  simp only [ho, resolve, invoke, builtin, Sem.run_bind, Sem.run_pure, Result.andThen_ok, List.map_toArray, List.map_cons, List.map_nil, hx]
  simp [go_sem]
theorem load_em {w : World} {b k : Nat} {e : Ev} (h : w.rangeAt b k (evl e)) (he : e.deps.length = 16) : (loadVar 44 ⟨b, k, none⟩).run Try.prog w = .ok (.agg (evc e)) w :=
  run_loadVar_mid (P := Try.prog) w b k 44 _ _ h Try.underlying44 rfl (size26 e he)
theorem field_em0 (w : World) (b k : Nat) : (Instr.fieldAt 44 (.pointer (some ⟨b, k, none⟩)) 0).run Try.prog w = .ok (.pointer (some ⟨b, k, none⟩)) w := by go_simp
theorem field_dm0 (w : World) (b k : Nat) : (Instr.fieldAt 38 (.pointer (some ⟨b, k, none⟩)) 0).run Try.prog w = .ok (.pointer (some ⟨b, k, none⟩)) w := by go_simp
theorem field_dm1 (w : World) (b k : Nat) : (Instr.fieldAt 38 (.pointer (some ⟨b, k, none⟩)) 1).run Try.prog w = .ok (.pointer (some ⟨b, k + 1, none⟩)) w := by go_simp
theorem range_r {w : World} {b k : Nat} {e : Ev} (h : w.rangeAt b k (evl e)) : w.cell? ⟨b, k, none⟩ = some (.int .i64 e.r) := h 0 _ rfl
theorem range_n {w : World} {b k : Nat} {e : Ev} (h : w.rangeAt b k (evl e)) : w.cell? ⟨b, k + 1, none⟩ = some (.int .i64 e.n) := h 1 _ rfl
theorem st_int {w : World} {ad : Addr} {u v : Value} (h : w.cell? ad = some u) (hf : w.frozen? ad = false) (h1 : v.oneCell' = true) (hv : ∃ i, v = .int .i64 i) : (storeVar 3 ad v).run Try.prog w = .ok () (w.setCell ad v) := by
  obtain ⟨i, rfl⟩ := hv
  have h3 : Try.prog.underlying 3 = some (.int .i64) := by kernel_rfl
  go_simp
theorem enters_offer (xs : Array Value) (w : World) : (callFunc 11 xs).run Try.prog w = .ok (.enter 11 xs) w := enters Try.func11 (by kernel_rfl) (by kernel_rfl) xs w
theorem enters_qlen (xs : Array Value) (w : World) : (callFunc 13 xs).run Try.prog w = .ok (.enter 13 xs) w := enters Try.func13 (by kernel_rfl) (by kernel_rfl) xs w
theorem Off.wide {S T S' : List Ev} {e : Ev} {v u : List Int} (h : Off S e v T S' u) (hS : ∀ x ∈ S, Wide x) (he : Wide e) : (∀ x ∈ T, Wide x) ∧ ∀ x ∈ S', Wide x := by
  have hw := Buf.wide (v := v) hS he
  obtain ⟨L, hT, rfl⟩ := h
  exact ⟨fun x hx => hw x (hT.perm.mem_iff.1 (List.mem_append_left _ hx)), fun x hx => hw x (List.mem_filter.1 hx).1⟩
theorem vs_take {T : List Ev} {v : List Int} {j : Nat} {e : Ev} (he : T[j]? = some e) : vs (T.take (j + 1)) v = (vs (T.take j) v).set e.r.toNat e.n := by
  rw [List.take_add_one, he, Option.toList_some, vs_snoc]; rfl
end Go.Proofs.Ythpkpmcccpfabaa
