/-
  Things of many cells under dots.
-/
import Derived.Test.YthpkpmcccpfabaaBpl
import Derived.Test.YthpkpmcccpfabaaEvt
namespace Go.Proofs.Ythpkpmcccpfabaa
set_option maxRecDepth 100000
open Go.RowKit

/-- A thing's cells. -/
structure Cx (k : Nat) where
  l : List Value
  len : l.length = k
  one : ∀ u ∈ l, u.oneCell' = true
theorem Cx.same {k : Nat} {a b : Cx k} (h : a.l = b.l) : a = b := by
  cases a; cases b; cases h; rfl
/-- An item's cells. -/
def xl {k : Nat} (i : It (Cx k)) : List Value := .int .i64 i.r :: .int .i64 i.n :: i.x.l
def xc {k : Nat} (i : It (Cx k)) : Array Value := (xl i).toArray
theorem xl_length {k : Nat} (i : It (Cx k)) : (xl i).length = k + 2 := by simp [xl, i.x.len]
theorem xc_size {k : Nat} (i : It (Cx k)) : (xc i).size = k + 2 := by rw [xc, List.size_toArray, xl_length]
theorem xl_one {k : Nat} (i : It (Cx k)) : ∀ u ∈ xl i, u.oneCell' = true := by
  intro u hu
  simp only [xl, List.mem_cons] at hu
  rcases hu with rfl | rfl | hu
  · rfl
  · rfl
  · exact i.x.one u hu
theorem xc_one {k : Nat} (i : It (Cx k)) : (xc i).all (·.oneCell') = true := by
  rw [Array.all_eq_true_iff_forall_mem]
  exact fun u hu => xl_one i u (by simpa [xc] using hu)
theorem xc_inj {k : Nat} {i j : It (Cx k)} (h : xc i = xc j) : i = j := by
  have h2 : xl i = xl j := by
    have := congrArg Array.toList h
    simpa [xc] using this
  obtain ⟨r, n, x⟩ := i
  obtain ⟨r', n', x'⟩ := j
  simp only [xl, List.cons.injEq, Value.int.injEq, true_and] at h2
  obtain ⟨rfl, rfl, h3⟩ := h2
  rw [Cx.same h3]
/-- The cells of many. -/
def xs {k : Nat} (S : List (It (Cx k))) : List Value := S.flatMap xl
theorem xs_cons {k : Nat} (i : It (Cx k)) (S : List (It (Cx k))) : xs (i :: S) = xl i ++ xs S := by simp [xs]
theorem xs_length {k : Nat} : ∀ S : List (It (Cx k)), (xs S).length = S.length * (k + 2)
  | [] => by simp [xs]
  | i :: S => by
    rw [xs_cons, List.length_append, xs_length S, xl_length, List.length_cons, Nat.succ_mul]; omega
theorem xs_append {k : Nat} (S T : List (It (Cx k))) : xs (S ++ T) = xs S ++ xs T := by simp [xs]
theorem xs_one {k : Nat} (S : List (It (Cx k))) : ∀ u ∈ xs S, u.oneCell' = true := by
  intro u hu
  obtain ⟨i, -, h⟩ := List.mem_flatMap.1 hu
  exact xl_one i u h
theorem xs_at {k : Nat} : ∀ {S : List (It (Cx k))} (p : Nat) (i : It (Cx k)), S[p]? = some i → ∀ (j : Nat) (v : Value), (xl i)[j]? = some v → (xs S)[p * (k + 2) + j]? = some v
  | [], p, i, hi, j, v, hv => by simp at hi
  | x :: S, p, i, hi, j, v, hv => by
    cases p with
    | zero =>
      have : x = i := by simpa using hi
      subst this
      have hj : j < k + 2 := by have := (List.getElem?_eq_some_iff.1 hv).1; rw [xl_length] at this; exact this
      rw [xs_cons, Nat.zero_mul, Nat.zero_add, List.getElem?_append_left (by rw [xl_length]; omega)]
      exact hv
    | succ p =>
      rw [xs_cons, List.getElem?_append_right (by rw [xl_length, Nat.succ_mul]; omega), xl_length, show (p + 1) * (k + 2) + j - (k + 2) = p * (k + 2) + j by rw [Nat.succ_mul]; omega]
      exact xs_at p i (by simpa using hi) j v hv
theorem xs_set {k : Nat} : ∀ (S : List (It (Cx k))) (p : Nat) (i : It (Cx k)), p < S.length → xs (S.set p i) = (xs S).take (p * (k + 2)) ++ (xl i ++ (xs S).drop ((p + 1) * (k + 2)))
  | [], p, i, h => by simp at h
  | a :: S, 0, i, h => by
    have hl := xl_length a
    rw [List.set_cons_zero, xs_cons, xs_cons, Nat.zero_mul, List.take_zero, List.nil_append, Nat.zero_add, Nat.one_mul, ← hl, List.drop_left]
  | a :: S, p + 1, i, h => by
    have ih := xs_set S p i (by simpa using h)
    have hl := xl_length a
    have e1 : (p + 1) * (k + 2) = (xl a).length + p * (k + 2) := by rw [hl, Nat.succ_mul]; omega
    have e2 : (p + 1 + 1) * (k + 2) = (xl a).length + (p + 1) * (k + 2) := by rw [hl, Nat.succ_mul (p + 1)]; omega
    have t1 : (xl a ++ xs S).take ((p + 1) * (k + 2)) = xl a ++ (xs S).take (p * (k + 2)) := by rw [e1, List.take_length_add_append]
    rw [List.set_cons_succ, xs_cons, xs_cons, ih, t1, e2, List.drop_length_add_append, List.append_assoc]
theorem take_mid {C X : List Value} {p q N : Nat} (hN : N ≤ C.length) (hp : p + q ≤ N) (hX : X.length = q) : (C.take p ++ X ++ C.drop (p + q)).take N = (C.take N).take p ++ (X ++ (C.take N).drop (p + q)) := by
  have h1 : (C.take p ++ X).length = p + q := by rw [List.length_append, List.length_take, hX]; omega
  rw [List.take_append, List.take_of_length_le (by omega), h1, List.drop_take, List.take_take, Nat.min_eq_left (by omega), List.append_assoc]
/-- What a call may have turned: a block and a map; the map is then the old one, or a new one. -/
structure Tn (g : Nat) (m m' : Option Nat) (w w' : World) : Prop where
  os : w'.os = w.os
  tape : w'.tape = w.tape
  output : w'.output = w.output
  size : w.heap.size ≤ w'.heap.size
  block : ∀ k, k < w.heap.size → k ≠ g → m ≠ some k → w'.heap[k]? = w.heap[k]?
  own : ∀ k, m' = some k → m = some k ∨ w.heap.size ≤ k
theorem Tn.refl (g : Nat) (m : Option Nat) (w : World) : Tn g m m w w := ⟨rfl, rfl, rfl, Nat.le_refl _, fun _ _ _ _ => rfl, fun _ h => .inl h⟩
theorem Tn.trans {g : Nat} {m m' m'' : Option Nat} {a b c : World} (h : Tn g m m' a b) (k : Tn g m' m'' b c) : Tn g m m'' a c :=
  ⟨k.os.trans h.os, k.tape.trans h.tape, k.output.trans h.output, Nat.le_trans h.size k.size,
   fun i hi hg hv => (k.block i (Nat.lt_of_lt_of_le hi h.size) hg (fun e => by rcases h.own i e with h1 | h1; · exact hv h1
                                                                               · omega)).trans (h.block i hi hg hv),
   fun i hi => by
    rcases k.own i hi with h1 | h1
    · exact h.own i h1
    · exact .inr (Nat.le_trans h.size h1)⟩
theorem Tn.of_below {g : Nat} (m : Option Nat) {w w' : World} (h : Below w.heap.size w w') : Tn g m m w w' :=
  ⟨h.os, h.tape, h.output, h.size, fun k hk _ _ => h.block k hk, fun _ e => .inl e⟩
theorem Tn.below {g B : Nat} {m m' : Option Nat} {w w' : World} (h : Tn g m m' w w') (hB : B ≤ w.heap.size) (hg : B ≤ g) (hv : ∀ k, m = some k → B ≤ k) : Below B w w' :=
  ⟨h.os, h.tape, h.output, h.size, fun k hk => h.block k (by omega) (by omega) (fun e => by have := hv k e; omega)⟩
/-- Blocks of cells are as they were, but for those of one type. -/
def Kpc (th : TypeId) (W w' : World) : Prop := W.heap.size ≤ w'.heap.size ∧ ∀ (k : Nat) (cur : Array Value) (t : TypeId), t ≠ th → W.heap[k]? = some (.cells cur t (0, 0)) → w'.heap[k]? = W.heap[k]?
theorem Kpc.trans {th : TypeId} {a b c : World} (h : Kpc th a b) (k : Kpc th b c) : Kpc th a c :=
  ⟨Nat.le_trans h.1 k.1, fun i cur t ht hi => (k.2 i cur t ht ((h.2 i cur t ht hi).trans hi)).trans (h.2 i cur t ht hi)⟩
theorem Kpc.of_below {th : TypeId} {a b : World} (h : Below a.heap.size a b) : Kpc th a b :=
  ⟨h.size, fun k _ _ _ hk => h.block k (Array.getElem?_eq_some_iff.1 hk).1⟩
theorem grown_of_below {a b : World} (h : Below a.heap.size a b) : a.grownBy b none := ⟨h.os, h.tape, h.output, h.size, fun k hk _ => h.block k hk⟩
end Go.Proofs.Ythpkpmcccpfabaa
