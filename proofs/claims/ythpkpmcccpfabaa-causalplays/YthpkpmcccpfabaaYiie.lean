/-
  What Items comes to: all things, in their dots' order.
-/
import Derived.Test.YthpkpmcccpfabaaYase
import Derived.Test.YthpkpmcccpfabaaYbge
namespace Go.Proofs.Ythpkpmcccpfabaa.E
set_option maxRecDepth 100000
set_option maxRecDepth 100000
open Go.RowKit Go.Shelf Go.Sort
open Go.ChangeMaps (setBlock)

set_option maxHeartbeats 1000000 in
/-- Over a nil map nothing comes. -/
theorem valuesf_nil (n l Bm : Nat) (J : List (It (Cx 26)) → World → Prop) (W : World) (hJ : AbidesFrom W.heap.size J) (hm : W.cell? ⟨Bm, 0, none⟩ = some (.map none)) (h0 : J [] W) :
    CallsIn Fence.wide n Try.prog 55 #[.func (.yield l) #[] #[], .pointer (some ⟨Bm, 0, none⟩)] W fun e W' => (∃ v, e = .returned v) ∧ J [] W' := by
  have hJ0 := hJ [] W (W.alloc (.mapIter none 0 #[] 0)) none h0 (World.grownBy_alloc W _ none) (fun r e => by cases e)
  have hrun := run_range_nilMap (P := Try.prog) W 30 _ _ Try.underlying30
  have hnx := run_next_nilMap (P := Try.prog) W 0 0 0 #[]
  generalize W.alloc (.mapIter none 0 #[] 0) = W2 at *
  refine callsIn_of_wp Try.func55 rfl trivial ?_ rfl
  simp only [Try.ntmps55, List.size_toArray, List.length_cons, List.length_nil, Nat.reduceAdd, Nat.reduceSub, Array.replicate_succ, Array.replicate_zero, List.push_toArray, List.append_toArray, List.nil_append, List.cons_append]
  gi_wp2
  gi_loopw [4] (fun _ wr => wr = W2) (fun _ _ => 0)
  case atStart => rfl
  case round =>
    subst hrel
    gi_wp2
    go_end0
    exact ⟨⟨_, rfl⟩, hJ0⟩
theorem values_nil (n Bm : Nat) (w : World) (hBm : Bm < w.heap.size) (hm : w.cell? ⟨Bm, 0, none⟩ = some (.map none)) :
    SeqStopsK Fence.wide n Try.prog 55 #[.pointer (some ⟨Bm, 0, none⟩)] (fun i : It (Cx 26) => #[.agg (xc i)]) KeepsWalks (fun xs => xs.Perm []) (fun _ => True) 0 w := fun l J _ W hW hJ _ _ h0 =>
  (valuesf_nil n l Bm J W hJ ((hW.cell (p := ⟨Bm, 0, none⟩) hBm).trans hm) h0).mono fun _ _ ⟨h1, h2⟩ => ⟨h1, .inl ⟨[], List.Perm.refl _, h2⟩⟩

theorem values_any (m : Option Nat) (w : World) : Calls Try.prog 38 #[.map m] w fun e w' => e = .returned (.func (.func 55) #[] #[.pointer (some ⟨w.heap.size, 0, none⟩)]) ∧ w' = w.alloc (.cells #[.map m] 30) := by
  have hmf : ∀ (fn : Fn) (first cap : Array Value) (w : World), (Instr.makeFunc fn first cap).run Try.prog w = .ok (.func fn first cap) w := fun _ _ _ _ => rfl
  go_enter Try.func38, Try.ntmps38
  go_wp2
  go_ret
  exact ⟨rfl, rfl⟩
set_option maxHeartbeats 400000 in
/-- slices.Collect over a bag's map. -/
theorem collect_any (Bm : Nat) (m : Option Nat) (S : List (It (Cx 26))) (w : World) (hBm : Bm < w.heap.size) (hm : w.cell? ⟨Bm, 0, none⟩ = some (.map m)) (hS : (m = none ∧ S = []) ∨ ∃ b, m = some b ∧ Mp w b S) (hl : S.length ≤ 1048576) :
    Calls Try.prog 53 #[.func (.func 55) #[] #[.pointer (some ⟨Bm, 0, none⟩)]] w fun e w' => ∃ v L, e = .returned v ∧ L.Perm S ∧ Rw 74 w' w.heap.size v L ∧ Below w.heap.size w w' := by
  have eg : ∀ args w, (callFunc 55 args).run Try.prog w = .ok (.enter 55 args) w := enters_of Try.func55 (by kernel_rfl) rfl
  have hA : Calls Try.prog 65 #[.slice none 0 0, .func (.func 55) #[] #[.pointer (some ⟨Bm, 0, none⟩)]] w fun e w' => ∃ v L, e = .returned v ∧ L.Perm S ∧ Rw 74 w' w.heap.size v L ∧ Below w.heap.size w w' := by
    refine (callsIn_wide (n := 3)).1 ?_
    rcases hS with ⟨rfl, rfl⟩ | ⟨b, rfl, hM⟩
    · exact appendseq_in 3 (by omega) 55 _ eg _ _ 0 (by omega) w (values_nil 2 Bm w hBm hm)
    · exact appendseq_in 3 (by omega) 55 _ eg _ _ S.length hl w (values_stops 2 Bm b S (by omega) w hBm hm hM)
  go_enter Try.func53, Try.ntmps53
  go_wp2_with fail
  refine Calls.mono hA ?_
  rintro e w1 ⟨v, L, rfl, h1, h2, h3⟩
  go_wp2
  go_ret
  exact ⟨v, L, rfl, h1, h2, h3⟩
set_option maxHeartbeats 400000 in
theorem sortedfunc_any (Bm : Nat) (m : Option Nat) (S : List (It (Cx 26))) (w : World) (hBm : Bm < w.heap.size) (hm : w.cell? ⟨Bm, 0, none⟩ = some (.map m)) (hS : (m = none ∧ S = []) ∨ ∃ b, m = some b ∧ Mp w b S) (hs : Srt S) (hl : S.length ≤ 1048576) :
    Calls Try.prog 37 #[.func (.func 55) #[] #[.pointer (some ⟨Bm, 0, none⟩)], .func (.func 39) #[] #[]] w fun e w' => ∃ v, e = .returned v ∧ Rw 74 w' w.heap.size v S ∧ Below w.heap.size w w' := by
  have hC := collect_any Bm m S w hBm hm hS hl
  go_enter Try.func37, Try.ntmps37
  go_wp2_with fail
  refine Calls.mono hC ?_
  rintro e w1 ⟨v, L, rfl, h1, h2, h3⟩
  have hSo := sort_any v L S w.heap.size w1 h2 (by have := h1.length_eq; omega) h1 hs
  go_wp2_with fail
  refine Calls.mono hSo ?_
  rintro e w2 ⟨rfl, h4, h5⟩
  have hb := h3.grown h5 h3.size (fun k e => (h2.lt k e).1)
  go_wp2
  go_ret
  exact ⟨v, rfl, h4, hb⟩
set_option maxHeartbeats 400000 in
theorem items_any (g o : Nat) (cs : Array Value) (ty : TypeId) (m : Option Nat) (S : List (It (Cx 26))) (w : World) (h : Bg w g o cs ty m S) (hl : S.length ≤ 1048576) :
    Calls Try.prog 20 #[.pointer (some ⟨g, o, none⟩)] w fun e w' => ∃ v, e = .returned v ∧ Rw 74 w' w.heap.size v S ∧ Below w.heap.size w w' := by
  have hz := orz_some g o w
  have hc := h.c0
  have hb : Below w.heap.size w (w.alloc (.cells #[.map m] 30)) := (Below.refl _ w).alloc (Nat.le_refl _) _
  have hV := values_any m w
  have hF := sortedfunc_any w.heap.size m S (w.alloc (.cells #[.map m] 30)) (by simp) (cell_of_row _ _ 0 _ _ _ (heap_alloc_new w _)) (by
    rcases h.map with hn | ⟨b, hb, hM⟩
    · exact .inl hn
    · exact .inr ⟨b, hb, hM.alloc _⟩) h.srt hl
  generalize w.alloc (.cells #[.map m] 30) = W1 at *
  clear h
  go_enter Try.func20, Try.ntmps20
  go_wp2_with fail
  refine Calls.mono hz ?_
  rintro e w1 ⟨rfl, hw1⟩
  obtain rfl := hw1.symm
  go_wp2_with fail
  refine Calls.mono hV ?_
  rintro e w1 ⟨rfl, hw2⟩
  obtain rfl := hw2.symm
  go_wp2_with fail
  refine Calls.mono hF ?_
  rintro e w2 ⟨v, rfl, h1, h2⟩
  go_wp2
  go_ret
  exact ⟨v, rfl, h1.lower hb.size, hb.trans (h2.mono hb.size)⟩
end Go.Proofs.Ythpkpmcccpfabaa.E
