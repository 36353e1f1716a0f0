/-
  What slices.IndexFunc and slices.DeleteFunc come to over Drop's function.
-/
import Derived.Test.YteihijejohgfpaaBas
import Derived.Laws.CopyRow
namespace Go.Proofs.Yteihijejohgfpaa
set_option maxRecDepth 100000
open Go.RowKit Go.Sort

/-- What Drop's function tells of each item, in every world in which what lay below B is as it was. -/
def PredD (p : It Int → Bool) (Bv Bw B : Nat) (w0 : World) : Prop := ∀ (i : It Int) (W : World), Below B w0 W → Calls Try.prog 37 #[.agg (itc i), .pointer (some ⟨Bv, 0, none⟩), .pointer (some ⟨Bw, 0, none⟩)] W fun e w' => e = .returned (.bool (p i)) ∧ Below W.heap.size W w'
/-- The first place at which p is true, or -1. -/
def idxI (p : It Int → Bool) (S : List (It Int)) : Int := match S.findIdx? p with
  | none => -1
  | some k => (k : Int)

set_option maxHeartbeats 1000000 in
theorem indexfunc_any (p : It Int → Bool) (Bv Bw B : Nat) (w0 : World) (hp : PredD p Bv Bw B w0) (v : Value) (S : List (It Int)) (base : Nat) (w : World) (hrow : Rw 60 w base v S) (hB : Below B w0 w) (hBw : B ≤ w.heap.size) :
    Calls Try.prog 52 #[v, .func (.func 37) #[] #[.pointer (some ⟨Bv, 0, none⟩), .pointer (some ⟨Bw, 0, none⟩)]] w fun e w' => e = .returned (.int .i64 (idxI p S)) ∧ Below w.heap.size w w' := by
  obtain ⟨ao, cap, hv, hnc, hcm⟩ := hrow.val
  have hcm' : S.length ≤ 9223372036854775807 := by unfold maxLen at hcm; omega
  have hvv : v = .slice ao S.length cap := hv
  obtain ⟨n, hn⟩ : ∃ n, S.length = n := ⟨_, rfl⟩
  rw [hn] at hv hcm'
  rw [hv]
  go_enter Try.func52, Try.ntmps52
  go_wp2
  go_loopw [8] (fun c wr => ∃ k : Nat, k ≤ n ∧ c = .int .i64 (k : Int) ∧ (∀ j, j < k → ∀ i, S[j]? = some i → p i = false) ∧ Below w.heap.size w wr) (fun c _ => n - (intOf c).toNat)
  case atStart => exact ⟨0, Nat.zero_le _, rfl, fun j hj => absurd hj (Nat.not_lt_zero _), Below.refl _ _⟩
  case round =>
    obtain ⟨k, hk, rfl, hno, hb⟩ := hrel
    by_cases hlt : k < n
    · have hlt' : (k : Int) < (n : Int) := by omega
      obtain ⟨g, cap', i, hv', -, hi, hbg, hgl, c0, c1, c2, -⟩ := (hrow.below hb (Nat.le_refl _)).at3 (k := k) (by omega)
      rw [hvv] at hv'
      simp only [Value.slice.injEq] at hv'
      obtain ⟨rfl, -, rfl⟩ := hv'
      have hc := hp i wr (hB.trans (hb.mono hBw))
      rcases Bool.eq_false_or_eq_true (p i) with hpi | hpi
      · have hres : idxI p S = (k : Int) := by
          unfold idxI
          have : S.findIdx? p = some k := by
            rw [List.findIdx?_eq_some_iff_getElem]
            obtain ⟨h1, h2⟩ := List.getElem?_eq_some_iff.1 hi
            refine ⟨h1, by rw [h2]; exact hpi, fun j hj => ?_⟩
            have := hno j hj _ (List.getElem?_eq_getElem (by omega))
            simpa using this
          rw [this]
        have HR : Hid (idxI p S = (k : Int)) := hres
        rw [hpi] at hc
        clear hp hno hrow hvv hres
        go_wp2_with fail
        refine Calls.mono hc ?_
        rintro e w2 ⟨rfl, hb2⟩
        have hbe := hb.trans (hb2.mono hb.size)
        go_wp2
        go_ret
        exact ⟨by rw [HR.out]; rfl, hbe⟩
      · rw [hpi] at hc
        have hno' : Hid (∀ j, j < k + 1 → ∀ i, S[j]? = some i → p i = false) := fun j hj x hx => by
          by_cases e : j = k
          · subst e; rw [hi] at hx; cases hx; exact hpi
          · exact hno j (by omega) x hx
        clear hno
        go_wp2_with fail
        refine Calls.mono hc ?_
        rintro e w2 ⟨rfl, hb2⟩
        have hbe := hb.trans (hb2.mono hb.size)
        go_wp2
        go_roundw
        case rel => exact ⟨k + 1, by omega, by go_num, hno'.out, hbe⟩
        case measure => simp [intOf]; omega
    · have hlt' : ¬ (k : Int) < (n : Int) := by omega
      have hres : idxI p S = -1 := by
        unfold idxI
        have : S.findIdx? p = none := by
          rw [List.findIdx?_eq_none_iff]
          intro x hx
          obtain ⟨j, hj⟩ := List.getElem?_of_mem hx
          exact hno j (by have := (List.getElem?_eq_some_iff.1 hj).1; omega) x hj
        rw [this]
      have HR : Hid (idxI p S = -1) := hres
      clear hno hres
      go_wp2
      go_ret
      exact ⟨by rw [HR.out]; rfl, hb⟩
theorem grown_below {a b c : World} {row : Option Nat} (h : a.grownBy b row) (hb : Below b.heap.size b c) : a.grownBy c row :=
  ⟨hb.os.trans h.os, hb.tape.trans h.tape, hb.output.trans h.output, Nat.le_trans h.size hb.size, fun k hk hne => (hb.block k (Nat.lt_of_lt_of_le hk h.size)).trans (h.block k hk hne)⟩
theorem its_cons (i : It Int) (S : List (It Int)) : its (i :: S) = .int .i64 i.r :: .int .i64 i.n :: Value.int .i64 i.x :: its S := rfl
theorem its_set : ∀ (S : List (It Int)) (k : Nat) (i : It Int), k < S.length → its (S.set k i) = (((its S).set (k * 3) (.int .i64 i.r)).set (k * 3 + 1) (.int .i64 i.n)).set (k * 3 + 2) (Value.int .i64 i.x)
  | [], k, i, h => by simp at h
  | a :: S, 0, i, h => rfl
  | a :: S, k + 1, i, h => by
    have ih := its_set S k i (by simpa using h)
    rw [List.set_cons_succ, its_cons, its_cons, ih, show (k + 1) * 3 = k * 3 + 1 + 1 + 1 by omega, show k * 3 + 1 + 1 + 1 + 1 = (k * 3 + 1) + 1 + 1 + 1 by omega, show k * 3 + 1 + 1 + 1 + 2 = (k * 3 + 2) + 1 + 1 + 1 by omega]
    simp only [List.set_cons_succ]
/-- An item is laid into its row. -/
theorem Rw.set3 {e : TypeId} {w : World} {base g n cap : Nat} {S : List (It Int)} (h : Rw e w base (.slice (some ⟨g, 0, none⟩) n cap) S) {k : Nat} (hk : k < S.length) (i : It Int) :
    Rw e (((w.setCell ⟨g, k * 3, none⟩ (.int .i64 i.r)).setCell ⟨g, k * 3 + 1, none⟩ (.int .i64 i.n)).setCell ⟨g, k * 3 + 2, none⟩ (Value.int .i64 i.x)) base (.slice (some ⟨g, 0, none⟩) n cap) (S.set k i) := by
  rcases h.2 with ⟨hv, -⟩ | ⟨g', cap', cur, hv, hbg, hg, hn, hc, hcs, htk⟩
  · cases hv
  · simp only [Value.slice.injEq, Option.some.injEq, Addr.mk.injEq, and_true] at hv
    obtain ⟨rfl, rfl, rfl⟩ := hv
    have e1 := heap_setCell_same w g (k * 3) cur _ (.int .i64 i.r) hg
    have e2 := heap_setCell_same _ g (k * 3 + 1) _ _ (.int .i64 i.n) e1
    have e3 := heap_setCell_same _ g (k * 3 + 2) _ _ (Value.int .i64 i.x) e2
    refine ⟨by rw [its_length], .inr ⟨g, cap, _, by rw [List.length_set], hbg, e3, by rw [List.length_set]; exact hn, hc, by simpa using hcs, ?_⟩⟩
    rw [List.length_set, its_set S k i hk, ← htk]
    simp only [Array.toList_setIfInBounds]
    rw [List.take_set, List.take_set, List.take_set]
theorem grown_set3 (w : World) (g a b c : Nat) (x y z : Value) : w.grownBy (((w.setCell ⟨g, a, none⟩ x).setCell ⟨g, b, none⟩ y).setCell ⟨g, c, none⟩ z) (some g) :=
  ⟨rfl, rfl, rfl, by simp [World.setCell], fun k _ hk => by
    have hne : k ≠ g := fun e => hk (by rw [e])
    rw [Below.heap_setCell _ _ _ k hne, Below.heap_setCell _ _ _ k hne, Below.heap_setCell _ _ _ k hne]⟩
/-- The row is cut behind a, and the rest is cleared. -/
theorem Rw.clear {w : World} {base g n cap a : Nat} {R : List (It Int)} (h : Rw 60 w base (.slice (some ⟨g, 0, none⟩) n cap) R) (ha : a < n) :
    ∃ w', (∀ ty, (Builtin.clear_ #[48] ty #[.slice (some ⟨g, a * 3, none⟩) (n - a) (cap - a)]).run Try.prog w = .ok (.tuple #[]) w') ∧ Rw 60 w' base (.slice (some ⟨g, 0, none⟩) a cap) (R.take a) ∧ w.grownBy w' (some g) := by
  rcases h.2 with ⟨hv, -⟩ | ⟨g', cap', cur, hv, hbg, hg, hn, hc, hcs, htk⟩
  · cases hv
  · simp only [Value.slice.injEq, Option.some.injEq, Addr.mk.injEq, and_true] at hv
    obtain ⟨rfl, rfl, rfl⟩ := hv
    have hzl : (Builtin.zeroCells #[.int .i64 0, .int .i64 0, (Value.int .i64 0)] (R.length - a)).toList.length = (R.length - a) * 3 := by simp [Builtin.zeroCells]
    have hone : ∀ u ∈ (Builtin.zeroCells #[.int .i64 0, .int .i64 0, (Value.int .i64 0)] (R.length - a)).toList, u.oneCell' = true := by
      intro u hu
      simp only [Builtin.zeroCells, Array.toList_map, List.mem_map] at hu
      obtain ⟨j, -, rfl⟩ := hu
      have h3 : j % 3 = 0 ∨ j % 3 = 1 ∨ j % 3 = 2 := by omega
      rcases h3 with h3 | h3 | h3 <;> simp [h3, Value.oneCell']
    obtain ⟨Z, hZ⟩ : ∃ Z, (Builtin.zeroCells #[.int .i64 0, .int .i64 0, (Value.int .i64 0)] (R.length - a)).toList = Z := ⟨_, rfl⟩
    rw [hZ] at hzl hone
    have hst := run_storeCells_at Try.prog g (a * 3) 60 Z 0 cur w hg (by rw [hzl, hcs]; omega) hone
    rw [Nat.add_zero] at hst
    refine ⟨w.setRow g (cur.toList.take (a * 3) ++ Z ++ cur.toList.drop (a * 3 + Z.length)).toArray, fun ty => ?_, ⟨by rw [its_length], .inr ⟨g, cap, _, by rw [List.length_take, Nat.min_eq_left (by omega)], hbg, setRow_heap w g _ _ _ _ hg, by rw [List.length_take]; omega, hc, ?_, ?_⟩⟩, ?_⟩
    · obtain ⟨m, hm⟩ : ∃ m, R.length - a = m + 1 := ⟨R.length - a - 1, by omega⟩
      rw [hm] at hZ ⊢
      simp only [Builtin.clear_, Value.cells]
      simp [hZ]
      rw [hst]
      simp
    · simp [hzl, hcs]; omega
    · rw [List.length_take, Nat.min_eq_left (by omega)]
      have hl : a * 3 ≤ cur.toList.length := by rw [Array.length_toList, hcs]; omega
      rw [List.append_assoc, List.take_append_of_le_length (by rw [List.length_take]; omega), List.take_take]
      have e1 : its (R.take a) = (its R).take (a * 3) := by
        have := its_append (R.take a) (R.drop a)
        rw [List.take_append_drop] at this
        have hL : (its (R.take a)).length = a * 3 := by rw [its_length, List.length_take, Nat.min_eq_left (by omega)]
        rw [this, ← hL, List.take_left]
      rw [e1, ← htk, List.take_take]
      congr 1
      omega
    · exact ⟨rfl, rfl, rfl, by simp [World.setRow], fun k _ hk => by
        have hne : k ≠ g := fun e => hk (by rw [e])
        exact setRow_other w g k _ hne⟩
end Go.Proofs.Yteihijejohgfpaa
