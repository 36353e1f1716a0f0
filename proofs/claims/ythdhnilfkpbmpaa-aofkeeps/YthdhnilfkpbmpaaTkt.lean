/-
  What TakeText comes to, as a plain function of the bytes that are left.
-/
import Derived.Test.YthdhnilfkpbmpaaTkm
import Derived.Laws.BytesArg
import Derived.Laws.IdiomStrings
namespace Go.Proofs.Ythdhnilfkpbmpaa
set_option maxRecDepth 100000

open Go.RowKit

theorem conv_of {w : World} {ao : Option Addr} {m c : Nat} {l : List UInt8} (h : Bytes w ao m c l) : (convert 54 9 (.slice ao m c)).run Try.prog w = .ok (.string ⟨l.toArray⟩) w := by
  have hl := h.len
  cases ao with
  | none =>
    obtain ⟨rfl, rfl⟩ := h.none rfl
    obtain rfl : l = [] := List.eq_nil_of_length_eq_zero hl
    exact run_convert_bytes_nil w 54 5 Try.underlying54 Try.underlying5 0 0 9 Try.underlying9
  | some ad =>
    subst hl
    refine run_convert_bytes_back w 54 9 5 ad c l Try.underlying54 Try.underlying5 Try.underlying9 ?_
    intro j hj
    exact h.cells ad rfl j _ (by simp [bs, hj])

/-- TakeText's error, its text, and how many bytes it takes: of at most mo bytes. -/
def txE (mo : Nat) (d : List UInt8) : Int := if tkE d ≠ 0 then tkE d else if mo < tkV d then 4 else if (d.drop (tkW d)).length < tkV d then 2 else 0
def txS (mo : Nat) (d : List UInt8) : List UInt8 := if txE mo d = 0 then (d.drop (tkW d)).take (tkV d) else []
def txW (mo : Nat) (d : List UInt8) : Nat := if txE mo d = 0 then tkW d + tkV d else 0

theorem txE_ok {mo : Nat} {d : List UInt8} (h : txE mo d = 0) : tkE d = 0 ∧ tkV d ≤ mo ∧ tkV d ≤ (d.drop (tkW d)).length := by
  unfold txE at h
  split at h
  · omega
  · split at h
    · omega
    · split at h
      · omega
      · exact ⟨by omega, by omega, by omega⟩
theorem tx_not {mo : Nat} {d : List UInt8} (h : txE mo d ≠ 0) : txS mo d = [] ∧ txW mo d = 0 := by rw [txS, txW, if_neg h, if_neg h]; exact ⟨rfl, rfl⟩
theorem txE_range (mo : Nat) (d : List UInt8) : 0 ≤ txE mo d ∧ txE mo d ≤ 4 := by
  have := tkE_range d
  unfold txE
  repeat (split; omega)
  omega

/-- WHAT IS TAKEN IS JUST THE TEXT's BYTES. -/
theorem tx_bytes {mo : Nat} {d : List UInt8} (h : txE mo d = 0) : d = Vq.num (txS mo d).length ++ txS mo d ++ d.drop (txW mo d) ∧ (txS mo d).length ≤ mo := by
  obtain ⟨h1, h2, h3⟩ := txE_ok h
  have e1 : txS mo d = (d.drop (tkW d)).take (tkV d) := by rw [txS, if_pos h]
  have e2 : txW mo d = tkW d + tkV d := by rw [txW, if_pos h]
  have e3 : (txS mo d).length = tkV d := by rw [e1, List.length_take]; omega
  refine ⟨?_, by omega⟩
  rw [e3, e1, e2, ← List.drop_drop, List.append_assoc, List.take_append_drop]
  exact tk_bytes h1
theorem tx_text (mo : Nat) (s B : List UInt8) (hs : s.length ≤ mo) (hm : mo < 18446744073709551616) :
    txE mo (Vq.num s.length ++ s ++ B) = 0 ∧ txS mo (Vq.num s.length ++ s ++ B) = s ∧ (Vq.num s.length ++ s ++ B).drop (txW mo (Vq.num s.length ++ s ++ B)) = B := by
  rw [List.append_assoc]
  obtain ⟨h1, h2, h3⟩ := tk_num s.length (s ++ B) (by omega)
  have e : txE mo (Vq.num s.length ++ (s ++ B)) = 0 := by
    rw [txE, h1, h2, h3, if_neg (by decide), if_neg (by omega), if_neg (by rw [List.length_append]; omega)]
  refine ⟨e, ?_, ?_⟩
  · rw [txS, if_pos e, h2, h3, List.take_left]
  · rw [txW, if_pos e, ← List.drop_drop, h2, h3, List.drop_left]

set_option maxHeartbeats 1000000 in
theorem taketext_mod (ao : Option Addr) (m c : Nat) (l : List UInt8) (a mo : Nat) (w : World) (hb : Bytes w ao m c l) (hc : c ≤ maxLen) (ha : a ≤ m) (hmo : mo < 1048576) :
    Calls Try.prog 86 #[.slice ao m c, .int .i64 (a : Int), .int .i64 (mo : Int)] w fun e w' => e = .returned (.tuple #[.string ⟨(txS mo (l.drop a)).toArray⟩, .int .i64 ((if txE mo (l.drop a) = 0 then a + txW mo (l.drop a) else 0 : Nat) : Int), .int .i64 (txE mo (l.drop a))]) ∧ w' = w := by
  have hlen := hb.len
  have hroom := hb.room
  have ht : Hid _ := take_mod ao m c l a w hb hc ha
  have hcm : c ≤ 9223372036854775807 := by unfold maxLen at hc; omega
  by_cases h : tkE (l.drop a) = 0
  · have hw := tkW_le (l.drop a)
    rw [List.length_drop] at hw
    rw [if_pos h, h] at ht
    by_cases hl : mo < tkV (l.drop a)
    · have e : txE mo (l.drop a) = 4 := by rw [txE, if_neg (by simpa using h), if_pos hl]
      rw [e, (tx_not (by rw [e]; decide)).1]
      have hv := tkV_lt (l.drop a)
      generalize tkV (l.drop a) = V at *
      generalize tkW (l.drop a) = Wd at *
      go_enter Try.func86, Try.ntmps86
      go_wp2_with fail
      refine Calls.mono ht.out ?_
      rintro e w1 ⟨rfl, hw⟩
      obtain rfl := hw.symm
      clear ht hw
      go_wp2
      go_ret3
      exact ⟨rfl, rfl⟩
    · by_cases hs : (l.drop (a + tkW (l.drop a))).length < tkV (l.drop a)
      · have e : txE mo (l.drop a) = 2 := by rw [txE, if_neg (by simpa using h), if_neg hl, if_pos (by rw [List.drop_drop]; exact hs)]
        rw [e, (tx_not (by rw [e]; decide)).1]
        have hv := tkV_lt (l.drop a)
        rw [List.length_drop] at hs
        generalize tkV (l.drop a) = V at *
        generalize tkW (l.drop a) = Wd at *
        go_enter Try.func86, Try.ntmps86
        go_wp2_with fail
        refine Calls.mono ht.out ?_
        rintro e w1 ⟨rfl, hw⟩
        obtain rfl := hw.symm
        clear ht hw
        go_wp2
        go_ret3
        exact ⟨rfl, rfl⟩
      · have e : txE mo (l.drop a) = 0 := by rw [txE, if_neg (by simpa using h), if_neg hl, if_neg (by rw [List.drop_drop]; exact hs)]
        have e1 : txS mo (l.drop a) = (l.drop (a + tkW (l.drop a))).take (tkV (l.drop a)) := by rw [txS, if_pos e, List.drop_drop]
        have e2 : txW mo (l.drop a) = tkW (l.drop a) + tkV (l.drop a) := by rw [txW, if_pos e]
        rw [e, e1, e2]
        clear e e1 e2
        rw [if_pos rfl, ← Nat.add_assoc]
        rw [List.length_drop] at hs
        generalize tkV (l.drop a) = V at *
        have hw2 : a + tkW (l.drop a) ≤ m := by omega
        clear hw h
        generalize a + tkW (l.drop a) = f at *
        by_cases hca : c = f
        · subst hca
          obtain rfl : V = 0 := by omega
          obtain rfl : m = c := by omega
          have hcv := conv_of (w := w) (ao := ao) (m := 0) (c := 0) (l := []) ⟨rfl, Nat.le_refl _, fun _ => ⟨rfl, rfl⟩, fun _ _ j u hu => by simp [bs] at hu⟩
          go_enter Try.func86, Try.ntmps86
          go_wp2_with fail
          refine Calls.mono ht.out ?_
          rintro e w1 ⟨rfl, hw⟩
          obtain rfl := hw.symm
          clear ht hw hb
          go_wp2
          go_ret3
          exact ⟨rfl, rfl⟩
        · have hd := (hb.drop f (by omega)).take V (by omega)
          have hcv := conv_of hd
          go_enter Try.func86, Try.ntmps86
          go_wp2_with fail
          refine Calls.mono ht.out ?_
          rintro e w1 ⟨rfl, hw⟩
          obtain rfl := hw.symm
          clear ht hw hb
          go_wp2
          go_ret3
          exact ⟨rfl, rfl⟩
  · have e : txE mo (l.drop a) = tkE (l.drop a) := by rw [txE, if_pos h]
    obtain ⟨e1, e2⟩ := tk_not h
    rw [if_neg h, e1] at ht
    rw [e, (tx_not (by rw [e]; exact h)).1, if_neg h]
    obtain ⟨r0, r1⟩ := tkE_range (l.drop a)
    generalize tkE (l.drop a) = E at *
    clear e1 e2 e
    go_enter Try.func86, Try.ntmps86
    go_wp2_with fail
    refine Calls.mono ht.out ?_
    rintro e w1 ⟨rfl, hw⟩
    obtain rfl := hw.symm
    clear ht hw
    go_wp2
    go_ret3
    exact ⟨rfl, rfl⟩
end Go.Proofs.Ythdhnilfkpbmpaa
