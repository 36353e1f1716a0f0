/-
  What few comes to (layer 16's, in the place of layer 10's).
-/
import Derived.Test.YtagjgamigldjnaaGg
import Derived.Deep.CutRange
namespace Go.Proofs.Ytagjgamigldjnaa
set_option maxRecDepth 100000
open Go.RowKit

set_option maxHeartbeats 1000000 in
theorem few_any (ao : Option Addr) (m c : Nat) (E : List Ev) (w : World) (hE : Evs w ao m c E) :
    Calls Try.prog 10 #[.slice ao m c] w fun e w' => ∃ t : Bool, e = .returned (.bool t) ∧ (t = true → m ≤ 60) ∧ w' = w := by
  by_cases hbig : 60 < m
  · have hz : (60 : Int) < (m : Int) := by omega
    clear hE
    go_enter Try.func10, Try.ntmps10
    go_wp2
    go_ret
    exact ⟨_, rfl, by simp, rfl⟩
  · have HE : Aside (Evs w ao m c E) := hE
    clear hE
    have hz : ¬ (60 : Int) < (m : Int) := by omega
    go_enter Try.func10, Try.ntmps10
    go_wp2
    go_loopg [9] m (fun kx s9 wr => ∃ i : Nat, s9 = .int .i64 i ∧ i ≤ m ∧ m - i ≤ kx ∧ wr = w)
    case atStart => exact ⟨0, rfl, Nat.zero_le _, by omega, rfl⟩
    case round =>
      obtain ⟨i, rfl, him, hkx, rfl⟩ := hrel
      by_cases hlt : i < m
      · have hltz : (i : Int) < (m : Int) := by omega
        obtain ⟨b, off, u, rfl, hui, hu, hr, hbl⟩ := HE.out.at hlt
        have hix := fun W : World => index_ev W (b := b) (off := off) (k := i) (m := m) (c := c) hlt
        have ck := range_key hr hu.1
        clear hr
        obtain ⟨z, hzz⟩ : ∃ z : Int, ((sb u.key).size : Int) = z := ⟨_, rfl⟩
        by_cases hg : 1000 < z
        · have hgb : decide (1000 < z) = true := decide_eq_true hg
          go_wp2
          go_ret
          exact ⟨_, rfl, fun _ => by omega, rfl⟩
        · have hgb : decide (1000 < z) = false := decide_eq_false hg
          go_wp2
          go_roundg (m - (i + 1))
          case measure => omega
          case rel => exact ⟨i + 1, by go_num, by omega, Nat.le_refl _, rfl⟩
      · have hltz : ¬ (i : Int) < (m : Int) := by omega
        go_wp2
        go_ret
        exact .inr ⟨rfl, by omega, rfl⟩
end Go.Proofs.Ytagjgamigldjnaa

namespace Go.Proofs.Ytagjgamigldjnaa
set_option maxRecDepth 100000
open Go.RowKit

theorem Evs.take {w : World} {ao : Option Addr} {m c : Nat} {E : List Ev} (h : Evs w ao m c E) {i : Nat} (hi : i ≤ m) : Evs w ao i c (E.take i) := by
  have hl := h.len
  have hr := h.room
  refine ⟨by rw [List.length_take]; omega, by omega, h.top, fun e => ⟨by have := (h.zero e).1; omega, (h.zero e).2⟩, fun ad ha j u hu => ?_, fun e he => h.wide e (List.mem_of_mem_take he)⟩
  refine h.cells ad ha j u ?_
  have e1 : evs E = evs (E.take i) ++ evs (E.drop i) := by rw [← evs_append, List.take_append_drop]
  rw [e1, List.getElem?_append_left ((List.getElem?_eq_some_iff.1 hu).1)]
  exact hu
theorem slice_to (w : World) {ao : Option Addr} {m c k : Nat} (hk : k ≤ c) : (Instr.slice 22 (.slice ao m c) none (some (.int .i64 (k : Int))) none).run Try.prog w = .ok (.slice ao k c) w := by
  have h2 : (k : Int) ≤ (c : Int) := by omega
  have hs : (Try.prog.info? 41).map (·.size) = some 26 := by kernel_rfl
  cases ao with
  | none => go_simp
  | some ad => go_simp
theorem exec_slice {o : Oper} {a : Act} {w : World} {x y : Operand} {t : TypeId} {vx vy v : Value} (ho : o.op = .slice t x none (some y) none) (hx : a.eval x = vx) (hy : a.eval y = vy) (hr : (Instr.sliceAt t vx none (some vy) none).run Try.prog w = .ok v w) : (execOp a.eval o).run Try.prog w = .ok (.value v) w := by
  unfold execOp
  simp only [ho, hx, hy, Option.map_some, Option.map_none, Sem.run_bind, Sem.run_pure, hr]
  rfl
theorem slice_at (w : World) {ao : Option Addr} {m c k : Nat} (hk : k ≤ c) : (Instr.sliceAt 22 (.slice ao m c) none (some (.int .i64 (k : Int))) none).run Try.prog w = .ok (.slice ao k c) w := by
  have hs := slice_to w (ao := ao) (m := m) hk
  have ht : Try.prog.underlying 22 = some (.slice 41) := Try.underlying22
  simp only [Instr.sliceAt, Sem.run_bind, run_underlying ht, Result.andThen_ok]
  exact hs
theorem exec_pick {o : Oper} {a : Act} {w : World} {x y z : Operand} {b : Bool} {v v' : Value} (ho : o.op = .pick x y z) (hx : a.eval x = .bool b) (hy : a.eval y = v) (hz : a.eval z = v') : (execOp a.eval o).run Try.prog w = .ok (.value (if b then v else v')) w := by
  unfold execOp
  simp only [ho, hx, hy, hz]
  cases b <;> rfl
theorem exec_bin {o : Oper} {a : Act} {w : World} {x y : Operand} {op : BinOp} {t r : TypeId} {vx vy v : Value} (ho : o.op = .binOp op t x y r) (hx : a.eval x = vx) (hy : a.eval y = vy) (hg : (eqGuard op t x y vx vy).run Try.prog w = .ok () w) (hv : (binOp op t vx vy).run Try.prog w = .ok v w) : (execOp a.eval o).run Try.prog w = .ok (.value v) w := by
  unfold execOp; simp only [ho, hx, hy, Sem.run_bind, hg, hv, Result.andThen_ok, Sem.run_pure]
theorem enters_all (xs : Array Value) (w : World) : (callFunc 33 xs).run Try.prog w = .ok (.enter 33 xs) w := enters Try.func33 (by kernel_rfl) (by kernel_rfl) xs w
theorem range_below {w W : World} {b k : Nat} {l : List Value} (h : w.rangeAt b k l) (hb : Below w.heap.size w W) (hl : b < w.heap.size) : W.rangeAt b k l := fun j v hv => by
  rw [hb.cell (p := ⟨b, k + j, none⟩) hl]; exact h j v hv
theorem eqGuard_ev (w : World) {op : BinOp} {x y : Operand} (e f : Ev) : (eqGuard op 41 x y (.agg (evc e)) (.agg (evc f))).run Try.prog w = .ok () w := by
  have := plain_ev
  go_simp
theorem same_dec (e f : Ev) : sameE e f = decide (e = f) := by
  rw [Bool.eq_iff_iff, sameE_iff]; simp
theorem eql_evd (w : World) {e f : Ev} (he : e.deps.length = 16) (hf : f.deps.length = 16) : (binOp .eql 41 (.agg (evc e)) (.agg (evc f))).run Try.prog w = .ok (.bool (decide (e = f))) w := by
  rw [run_eql_ev w e f he hf, same_dec]
theorem cut_mod (cut : Int) (m : Nat) (h : (Lit.int .u64 cut).wf = true) : ∃ k : Nat, cut.tmod ((m : Int) + 1) = (k : Int) ∧ k ≤ m := by
  have h0 : 0 ≤ cut := by
    simp [Lit.wf, IntKind.min, IntKind.max, IntKind.signed] at h
    omega
  rw [Int.tmod_eq_emod_of_nonneg h0]
  have h1 := Int.emod_nonneg cut (show ((m : Int) + 1) ≠ 0 by omega)
  have h2 := Int.emod_lt_of_pos cut (show (0 : Int) < (m : Int) + 1 by omega)
  exact ⟨(cut % ((m : Int) + 1)).toNat, by omega, by omega⟩
end Go.Proofs.Ytagjgamigldjnaa
