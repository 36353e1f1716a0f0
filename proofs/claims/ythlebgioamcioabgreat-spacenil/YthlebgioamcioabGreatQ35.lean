/-
  What TakeText comes to, as a plain function of the bytes that are left.
-/
import Derived.Test.YthlebgioamcioabGreatQ34
import Derived.Laws.BytesArg
import Derived.Laws.IdiomStrings
import Derived.Test.YthlebgioamcioabGreatQ02
namespace Go.Proofs.YthlebgioamcioabGreat
set_option maxRecDepth 100000
open Go.RowKit

theorem conv_of {w : World} {ao : Option Addr} {m c : Nat} {l : List UInt8} (h : Bytes w ao m c l) : (convert 106 9 (.slice ao m c)).run Tryz.prog w = .ok (.string ⟨l.toArray⟩) w := by
  have hl := h.len
  cases ao with
  | none =>
    obtain ⟨rfl, rfl⟩ := h.none rfl
    obtain rfl : l = [] := List.eq_nil_of_length_eq_zero hl
    exact run_convert_bytes_nil w 106 5 Tryz.underlying106 Tryz.underlying5 0 0 9 Tryz.underlying9
  | some ad =>
    subst hl
    refine run_convert_bytes_back w 106 9 5 ad c l Tryz.underlying106 Tryz.underlying5 Tryz.underlying9 ?_
    intro j hj
    exact h.cells ad rfl j _ (by simp [bs, hj])

/-- TakeText's error, its text, and how many bytes it takes: of at most mo bytes. -/
def txE (mo : Nat) (d : List UInt8) : Int := if tkE d ≠ 0 then tkE d else if mo < tkV d then 4 else if (d.drop (tkW d)).length < tkV d then 2 else 0
def txS (mo : Nat) (d : List UInt8) : List UInt8 := if txE mo d = 0 then (d.drop (tkW d)).take (tkV d) else []
def txW (mo : Nat) (d : List UInt8) : Nat := if txE mo d = 0 then tkW d + tkV d else 0

theorem txE_ok {mo : Nat} {d : List UInt8} (h : txE mo d = 0) : tkE d = 0 ∧ tkV d ≤ mo ∧ tkV d ≤ (d.drop (tkW d)).length := by
  unfold txE at h
  split at h
  · omega
  · split at h
    · omega
    · split at h
      · omega
      · exact ⟨by omega, by omega, by omega⟩
theorem tx_not {mo : Nat} {d : List UInt8} (h : txE mo d ≠ 0) : txS mo d = [] ∧ txW mo d = 0 := by rw [txS, txW, if_neg h, if_neg h]; exact ⟨rfl, rfl⟩
theorem txE_range (mo : Nat) (d : List UInt8) : 0 ≤ txE mo d ∧ txE mo d ≤ 4 := by
  have := tkE_range d
  unfold txE
  repeat (split; omega)
  omega

/-- WHAT IS TAKEN IS JUST THE TEXT's BYTES. -/
theorem tx_bytes {mo : Nat} {d : List UInt8} (h : txE mo d = 0) : d = Vq.num (txS mo d).length ++ txS mo d ++ d.drop (txW mo d) ∧ (txS mo d).length ≤ mo := by
  obtain ⟨h1, h2, h3⟩ := txE_ok h
  have e1 : txS mo d = (d.drop (tkW d)).take (tkV d) := by rw [txS, if_pos h]
  have e2 : txW mo d = tkW d + tkV d := by rw [txW, if_pos h]
  have e3 : (txS mo d).length = tkV d := by rw [e1, List.length_take]; omega
  refine ⟨?_, by omega⟩
  rw [e3, e1, e2, ← List.drop_drop, List.append_assoc, List.take_append_drop]
  exact tk_bytes h1
theorem tx_text (mo : Nat) (s B : List UInt8) (hs : s.length ≤ mo) (hm : mo < 18446744073709551616) :
    txE mo (Vq.num s.length ++ s ++ B) = 0 ∧ txS mo (Vq.num s.length ++ s ++ B) = s ∧ (Vq.num s.length ++ s ++ B).drop (txW mo (Vq.num s.length ++ s ++ B)) = B := by
  rw [List.append_assoc]
  obtain ⟨h1, h2, h3⟩ := tk_num s.length (s ++ B) (by omega)
  have e : txE mo (Vq.num s.length ++ (s ++ B)) = 0 := by
    rw [txE, h1, h2, h3, if_neg (by decide), if_neg (by omega), if_neg (by rw [List.length_append]; omega)]
  refine ⟨e, ?_, ?_⟩
  · rw [txS, if_pos e, h2, h3, List.take_left]
  · rw [txW, if_pos e, ← List.drop_drop, h2, h3, List.drop_left]

set_option maxHeartbeats 1000000 in
theorem taketext_mod (ao : Option Addr) (m c : Nat) (l : List UInt8) (a mo : Nat) (w : World) (hb : Bytes w ao m c l) (hc : c ≤ maxLen) (ha : a ≤ m) (hmo : mo < 1048576) :
    Calls Tryz.prog 320 #[.slice ao m c, .int .i64 (a : Int), .int .i64 (mo : Int)] w fun e w' => e = .returned (.tuple #[.string ⟨(txS mo (l.drop a)).toArray⟩, .int .i64 ((if txE mo (l.drop a) = 0 then a + txW mo (l.drop a) else 0 : Nat) : Int), .int .i64 (txE mo (l.drop a))]) ∧ w' = w := by
  have hlen := hb.len
  have hroom := hb.room
  have ht : Hid _ := take_mod ao m c l a w hb hc ha
  have hcm : c ≤ 9223372036854775807 := by unfold maxLen at hc; omega
  by_cases h : tkE (l.drop a) = 0
  · have hw := tkW_le (l.drop a)
    rw [List.length_drop] at hw
    rw [if_pos h, h] at ht
    by_cases hl : mo < tkV (l.drop a)
    · have e : txE mo (l.drop a) = 4 := by rw [txE, if_neg (by simpa using h), if_pos hl]
      rw [e, (tx_not (by rw [e]; decide)).1]
      have hv := tkV_lt (l.drop a)
      generalize tkV (l.drop a) = V at *
      generalize tkW (l.drop a) = Wd at *
      go_enter Tryz.func320, Tryz.ntmps320
      go_wp2_with fail
      refine Calls.mono ht.out ?_
      rintro e w1 ⟨rfl, hw⟩
      obtain rfl := hw.symm
      clear ht hw
      go_wp2
      go_ret3
      exact ⟨rfl, rfl⟩
    · by_cases hs : (l.drop (a + tkW (l.drop a))).length < tkV (l.drop a)
      · have e : txE mo (l.drop a) = 2 := by rw [txE, if_neg (by simpa using h), if_neg hl, if_pos (by rw [List.drop_drop]; exact hs)]
        rw [e, (tx_not (by rw [e]; decide)).1]
        have hv := tkV_lt (l.drop a)
        rw [List.length_drop] at hs
        generalize tkV (l.drop a) = V at *
        generalize tkW (l.drop a) = Wd at *
        go_enter Tryz.func320, Tryz.ntmps320
        go_wp2_with fail
        refine Calls.mono ht.out ?_
        rintro e w1 ⟨rfl, hw⟩
        obtain rfl := hw.symm
        clear ht hw
        go_wp2
        go_ret3
        exact ⟨rfl, rfl⟩
      · have e : txE mo (l.drop a) = 0 := by rw [txE, if_neg (by simpa using h), if_neg hl, if_neg (by rw [List.drop_drop]; exact hs)]
        have e1 : txS mo (l.drop a) = (l.drop (a + tkW (l.drop a))).take (tkV (l.drop a)) := by rw [txS, if_pos e, List.drop_drop]
        have e2 : txW mo (l.drop a) = tkW (l.drop a) + tkV (l.drop a) := by rw [txW, if_pos e]
        rw [e, e1, e2]
        clear e e1 e2
        rw [if_pos rfl, ← Nat.add_assoc]
        rw [List.length_drop] at hs
        generalize tkV (l.drop a) = V at *
        have hw2 : a + tkW (l.drop a) ≤ m := by omega
        clear hw h
        generalize a + tkW (l.drop a) = f at *
        by_cases hca : c = f
        · subst hca
          obtain rfl : V = 0 := by omega
          obtain rfl : m = c := by omega
          have hcv := conv_of (w := w) (ao := ao) (m := 0) (c := 0) (l := []) ⟨rfl, Nat.le_refl _, fun _ => ⟨rfl, rfl⟩, fun _ _ j u hu => by simp [bs] at hu⟩
          go_enter Tryz.func320, Tryz.ntmps320
          go_wp2_with fail
          refine Calls.mono ht.out ?_
          rintro e w1 ⟨rfl, hw⟩
          obtain rfl := hw.symm
          clear ht hw hb
          go_wp2
          go_ret3
          exact ⟨rfl, rfl⟩
        · have hd := (hb.drop f (by omega)).take V (by omega)
          have hcv := conv_of hd
          go_enter Tryz.func320, Tryz.ntmps320
          go_wp2_with fail
          refine Calls.mono ht.out ?_
          rintro e w1 ⟨rfl, hw⟩
          obtain rfl := hw.symm
          clear ht hw hb
          go_wp2
          go_ret3
          exact ⟨rfl, rfl⟩
  · have e : txE mo (l.drop a) = tkE (l.drop a) := by rw [txE, if_pos h]
    obtain ⟨e1, e2⟩ := tk_not h
    rw [if_neg h, e1] at ht
    rw [e, (tx_not (by rw [e]; exact h)).1, if_neg h]
    obtain ⟨r0, r1⟩ := tkE_range (l.drop a)
    generalize tkE (l.drop a) = E at *
    clear e1 e2 e
    go_enter Tryz.func320, Tryz.ntmps320
    go_wp2_with fail
    refine Calls.mono ht.out ?_
    rintro e w1 ⟨rfl, hw⟩
    obtain rfl := hw.symm
    clear ht hw
    go_wp2
    go_ret3
    exact ⟨rfl, rfl⟩
end Go.Proofs.YthlebgioamcioabGreat

/-
  Events as plain data: which fields a kind uses, an event's bytes, and a reader that reads from the left up to the first error. What is read without an error is just the event's bytes; and an event's bytes are read as it.
-/
namespace Go.Proofs.YthlebgioamcioabGreat
set_option maxRecDepth 100000
open Go.RowKit

/-- What a kind uses. -/
def usesF (k : Int) : Bool := decide (3 ≤ k ∧ k ≤ 8)
def usesV (k : Int) : Bool := decide (k = 1 ∨ k = 5 ∨ k = 9)
def usesN (k : Int) : Bool := decide (k = 2 ∨ k = 7)
def usesR (k : Int) : Bool := decide (k = 9 ∨ k = 10)

/-- Numbers and texts as bytes. -/
def nm (x : Int) : List UInt8 := Vq.num x.toNat
def im (x : Int) : List UInt8 := Vq.num (zig x)
def tm (s : List UInt8) : List UInt8 := Vq.num s.length ++ s
def ns (l : List Int) : List UInt8 := l.flatMap nm
def opt (c : Bool) (s : List UInt8) : List UInt8 := if c then s else []

/-- An event's bytes. -/
def evb (e : Ev) : List UInt8 :=
  nm e.r ++ (nm e.n ++ (nm e.t ++ (ns e.deps ++ (nm e.kind ++ (tm e.key ++ (opt (usesF e.kind) (tm e.field) ++ (opt (usesV e.kind) (tm e.value) ++ (opt (usesN e.kind) (im e.num) ++ opt (usesR e.kind) (nm e.rr ++ nm e.rn)))))))))

/-- A number that bytes without a sign may tell. -/
def Nn (x : Int) : Prop := 0 ≤ x ∧ x ≤ 4611686018427387904
def I64 (x : Int) : Prop := -9223372036854775808 ≤ x ∧ x ≤ 9223372036854775807

/-- What an event's bytes can hold; what isn't used is zero. -/
structure Fits (e : Ev) : Prop where
  r : Nn e.r
  n : Nn e.n
  t : Nn e.t
  len : e.deps.length = 16
  deps : ∀ x ∈ e.deps, Nn x
  kind : 1 ≤ e.kind ∧ e.kind ≤ 11
  key : e.key.length ≤ 64
  field : e.field.length ≤ 64 ∧ (usesF e.kind = false → e.field = [])
  value : e.value.length ≤ 64 ∧ (usesV e.kind = false → e.value = [])
  num : I64 e.num ∧ (usesN e.kind = false → e.num = 0)
  ref : Nn e.rr ∧ Nn e.rn ∧ (usesR e.kind = false → e.rr = 0 ∧ e.rn = 0)

/-- A reader: what is left, the first error. -/
structure Rd where
  d : List UInt8
  e : Int

def nmE (d : List UInt8) : Int := if tkE d ≠ 0 then tkE d else if 4611686018427387904 < tkV d then 3 else 0
def rdN (s : Rd) : Int × Rd := if s.e ≠ 0 then (0, s) else if nmE s.d ≠ 0 then (0, ⟨s.d, nmE s.d⟩) else ((tkV s.d : Nat), ⟨s.d.drop (tkW s.d), 0⟩)
def rdI (s : Rd) : Int × Rd := if s.e ≠ 0 then (0, s) else if tkE s.d ≠ 0 then (0, ⟨s.d, tkE s.d⟩) else (zag (tkV s.d), ⟨s.d.drop (tkW s.d), 0⟩)
def rdT (s : Rd) : List UInt8 × Rd := if s.e ≠ 0 then ([], s) else if txE 64 s.d ≠ 0 then ([], ⟨s.d, txE 64 s.d⟩) else (txS 64 s.d, ⟨s.d.drop (txW 64 s.d), 0⟩)
def rdNs : Nat → Rd → List Int × Rd
  | 0, s => ([], s)
  | k + 1, s => ((rdN s).1 :: (rdNs k (rdN s).2).1, (rdNs k (rdN s).2).2)

theorem nmE_ok {d : List UInt8} (h : nmE d = 0) : tkE d = 0 ∧ tkV d ≤ 4611686018427387904 := by
  unfold nmE at h
  split at h
  · omega
  · split at h
    · omega
    · exact ⟨by omega, by omega⟩

theorem rdN_ok {s : Rd} (h : (rdN s).2.e = 0) : s.e = 0 ∧ s.d = nm (rdN s).1 ++ (rdN s).2.d ∧ Nn (rdN s).1 := by
  unfold rdN at h ⊢
  by_cases h0 : s.e ≠ 0
  · rw [if_pos h0] at h; exact absurd h h0
  · by_cases h1 : nmE s.d ≠ 0
    · rw [if_neg h0, if_pos h1] at h; exact absurd h h1
    · obtain ⟨a, b⟩ := nmE_ok (by omega : nmE s.d = 0)
      rw [if_neg h0, if_neg h1]
      exact ⟨by omega, by simpa [nm] using tk_bytes a, by constructor <;> simp <;> omega⟩
theorem rdN_nm {x : Int} (B : List UInt8) (h : Nn x) : rdN ⟨nm x ++ B, 0⟩ = (x, ⟨B, 0⟩) := by
  obtain ⟨h0, h1⟩ := h
  obtain ⟨e1, e2, e3⟩ := tk_num x.toNat B (by omega)
  have e : nmE (nm x ++ B) = 0 := by rw [nmE, nm, e1, e2, if_neg (by decide), if_neg (by omega)]
  rw [rdN, if_neg (by simp), if_neg (by simpa using e)]
  simp only [nm, e2, e3]
  rw [show ((x.toNat : Nat) : Int) = x by omega]

theorem zig_zag {u : Nat} : zig (zag u) = u := by
  unfold zag zig; split <;> split <;> omega
theorem zag_range {u : Nat} (h : u < 18446744073709551616) : I64 (zag u) := by
  unfold zag I64; split <;> omega
theorem rdI_ok {s : Rd} (h : (rdI s).2.e = 0) : s.e = 0 ∧ s.d = im (rdI s).1 ++ (rdI s).2.d ∧ I64 (rdI s).1 := by
  unfold rdI at h ⊢
  by_cases h0 : s.e ≠ 0
  · rw [if_pos h0] at h; exact absurd h h0
  · by_cases h1 : tkE s.d ≠ 0
    · rw [if_neg h0, if_pos h1] at h; exact absurd h h1
    · rw [if_neg h0, if_neg h1]
      refine ⟨by omega, ?_, zag_range (tkV_lt _)⟩
      simp only [im, zig_zag]
      exact tk_bytes (by omega)
theorem rdI_im {x : Int} (B : List UInt8) (h : I64 x) : rdI ⟨im x ++ B, 0⟩ = (x, ⟨B, 0⟩) := by
  obtain ⟨e1, e2, e3⟩ := tk_num (zig x) B (zig_lt h)
  rw [rdI, if_neg (by simp), if_neg (by simpa [im] using e1)]
  simp only [im, e2, e3, zag_zig]

theorem rdT_ok {s : Rd} (h : (rdT s).2.e = 0) : s.e = 0 ∧ s.d = tm (rdT s).1 ++ (rdT s).2.d ∧ (rdT s).1.length ≤ 64 := by
  unfold rdT at h ⊢
  by_cases h0 : s.e ≠ 0
  · rw [if_pos h0] at h; exact absurd h h0
  · by_cases h1 : txE 64 s.d ≠ 0
    · rw [if_neg h0, if_pos h1] at h; exact absurd h h1
    · rw [if_neg h0, if_neg h1]
      obtain ⟨a, b⟩ := tx_bytes (by omega : txE 64 s.d = 0)
      exact ⟨by omega, a, b⟩
theorem rdT_tm {x : List UInt8} (B : List UInt8) (h : x.length ≤ 64) : rdT ⟨tm x ++ B, 0⟩ = (x, ⟨B, 0⟩) := by
  obtain ⟨e1, e2, e3⟩ := tx_text 64 x B h (by decide)
  rw [rdT, if_neg (by simp), if_neg (by simpa [tm] using e1)]
  simp only [tm, e2, e3]

theorem rdNs_ok : ∀ {k : Nat} {s : Rd}, (rdNs k s).2.e = 0 → s.e = 0 ∧ s.d = ns (rdNs k s).1 ++ (rdNs k s).2.d ∧ (rdNs k s).1.length = k ∧ ∀ x ∈ (rdNs k s).1, Nn x
  | 0, s, h => ⟨h, by simp [rdNs, ns], rfl, fun x hx => by cases hx⟩
  | k + 1, s, h => by
    have h' : (rdNs k (rdN s).2).2.e = 0 := h
    obtain ⟨a, b, c, d⟩ := rdNs_ok h'
    obtain ⟨a', b', c'⟩ := rdN_ok a
    refine ⟨a', ?_, by simp [rdNs, c], ?_⟩
    · simp only [rdNs, ns, List.flatMap_cons, List.append_assoc]
      rw [b', b]
      rfl
    · intro x hx
      rcases List.mem_cons.1 hx with rfl | hx
      · exact c'
      · exact d x hx
theorem rdNs_ns : ∀ {l : List Int} (B : List UInt8), (∀ x ∈ l, Nn x) → rdNs l.length ⟨ns l ++ B, 0⟩ = (l, ⟨B, 0⟩)
  | [], B, _ => rfl
  | x :: l, B, h => by
    have e : ns (x :: l) ++ B = nm x ++ (ns l ++ B) := by simp [ns]
    rw [e, List.length_cons, rdNs, rdN_nm _ (h x (by simp))]
    simp only
    rw [rdNs_ns B (fun y hy => h y (by simp [hy]))]

/-- What is read only where it is used. -/
def whenT (c : Bool) (s : Rd) : List UInt8 × Rd := if c then rdT s else ([], s)
def whenI (c : Bool) (s : Rd) : Int × Rd := if c then rdI s else (0, s)
def whenN (c : Bool) (s : Rd) : Int × Rd := if c then rdN s else (0, s)
/-- A kind that is none is an error. -/
def known (k : Int) (s : Rd) : Rd := if s.e = 0 ∧ (k < 1 ∨ 11 < k) then ⟨s.d, 3⟩ else s

/-- The reader's ways through an event, one behind the other. -/
def s1 (l : List UInt8) : Int × Rd := rdN ⟨l, 0⟩
def s2 (l : List UInt8) : Int × Rd := rdN (s1 l).2
def s3 (l : List UInt8) : Int × Rd := rdN (s2 l).2
def s4 (l : List UInt8) : List Int × Rd := rdNs 16 (s3 l).2
def s5 (l : List UInt8) : Int × Rd := ((rdN (s4 l).2).1, known (rdN (s4 l).2).1 (rdN (s4 l).2).2)
def s6 (l : List UInt8) : List UInt8 × Rd := rdT (s5 l).2
def s7 (l : List UInt8) : List UInt8 × Rd := whenT (usesF (s5 l).1) (s6 l).2
def s8 (l : List UInt8) : List UInt8 × Rd := whenT (usesV (s5 l).1) (s7 l).2
def s9 (l : List UInt8) : Int × Rd := whenI (usesN (s5 l).1) (s8 l).2
def s10 (l : List UInt8) : Int × Rd := whenN (usesR (s5 l).1) (s9 l).2
def s11 (l : List UInt8) : Int × Rd := whenN (usesR (s5 l).1) (s10 l).2
def evr (l : List UInt8) : Ev := ⟨(s1 l).1, (s2 l).1, (s3 l).1, (s4 l).1, (s5 l).1, (s6 l).1, (s7 l).1, (s8 l).1, (s9 l).1, (s10 l).1, (s11 l).1⟩

theorem whenT_ok {c : Bool} {s : Rd} (h : (whenT c s).2.e = 0) : s.e = 0 ∧ s.d = opt c (tm (whenT c s).1) ++ (whenT c s).2.d ∧ (whenT c s).1.length ≤ 64 ∧ (c = false → (whenT c s).1 = []) := by
  cases c with
  | true => obtain ⟨a, b, d⟩ := rdT_ok (s := s) h; exact ⟨a, b, d, fun h => by cases h⟩
  | false => exact ⟨h, rfl, by simp [whenT], fun _ => rfl⟩
theorem whenI_ok {c : Bool} {s : Rd} (h : (whenI c s).2.e = 0) : s.e = 0 ∧ s.d = opt c (im (whenI c s).1) ++ (whenI c s).2.d ∧ I64 (whenI c s).1 ∧ (c = false → (whenI c s).1 = 0) := by
  cases c with
  | true => obtain ⟨a, b, d⟩ := rdI_ok (s := s) h; exact ⟨a, b, d, fun h => by cases h⟩
  | false => exact ⟨h, rfl, by unfold I64; simp [whenI], fun _ => rfl⟩
theorem whenN_ok {c : Bool} {s : Rd} (h : (whenN c s).2.e = 0) : s.e = 0 ∧ s.d = opt c (nm (whenN c s).1) ++ (whenN c s).2.d ∧ Nn (whenN c s).1 ∧ (c = false → (whenN c s).1 = 0) := by
  cases c with
  | true => obtain ⟨a, b, d⟩ := rdN_ok (s := s) h; exact ⟨a, b, d, fun h => by cases h⟩
  | false => exact ⟨h, rfl, by unfold Nn; simp [whenN], fun _ => rfl⟩
theorem known_ok {k : Int} {s : Rd} (h : (known k s).e = 0) : s.e = 0 ∧ known k s = s ∧ 1 ≤ k ∧ k ≤ 11 := by
  unfold known at h ⊢
  split at h
  · simp at h
  · rename_i hn
    rw [if_neg hn]
    exact ⟨h, rfl, by omega, by omega⟩

/-- WHAT IS READ WITHOUT AN ERROR IS JUST THE EVENT's BYTES. -/
theorem evr_ok {l : List UInt8} (h : (s11 l).2.e = 0) : l = evb (evr l) ++ (s11 l).2.d ∧ Fits (evr l) := by
  obtain ⟨a11, b11, c11, d11⟩ := whenN_ok (c := usesR (s5 l).1) (s := (s10 l).2) h
  obtain ⟨a10, b10, c10, d10⟩ := whenN_ok (c := usesR (s5 l).1) (s := (s9 l).2) a11
  obtain ⟨a9, b9, c9, d9⟩ := whenI_ok (c := usesN (s5 l).1) (s := (s8 l).2) a10
  obtain ⟨a8, b8, c8, d8⟩ := whenT_ok (c := usesV (s5 l).1) (s := (s7 l).2) a9
  obtain ⟨a7, b7, c7, d7⟩ := whenT_ok (c := usesF (s5 l).1) (s := (s6 l).2) a8
  obtain ⟨a6, b6, c6⟩ := rdT_ok (s := (s5 l).2) a7
  obtain ⟨a5', k5, k1, k2⟩ := known_ok (k := (rdN (s4 l).2).1) (s := (rdN (s4 l).2).2) a6
  obtain ⟨a5, b5, c5⟩ := rdN_ok (s := (s4 l).2) a5'
  obtain ⟨a4, b4, c4, d4⟩ := rdNs_ok (k := 16) (s := (s3 l).2) a5
  obtain ⟨a3, b3, c3⟩ := rdN_ok (s := (s2 l).2) a4
  obtain ⟨a2, b2, c2⟩ := rdN_ok (s := (s1 l).2) a3
  obtain ⟨a1, b1, c1⟩ := rdN_ok (s := ⟨l, 0⟩) a2
  have e5 : (s5 l).2 = (rdN (s4 l).2).2 := k5
  refine ⟨?_, ⟨c1, c2, c3, c4, d4, ⟨k1, k2⟩, c6, ⟨c7, d7⟩, ⟨c8, d8⟩, ⟨c9, d9⟩, ⟨c10, c11, fun hc => ⟨d10 hc, d11 hc⟩⟩⟩⟩
  have r11 : opt (usesR (s5 l).1) (nm (s10 l).1 ++ nm (s11 l).1) ++ (s11 l).2.d = (s9 l).2.d := by
    rw [b10]
    show _ = opt (usesR (s5 l).1) (nm (s10 l).1) ++ (s10 l).2.d
    rw [b11]
    show _ = opt (usesR (s5 l).1) (nm (s10 l).1) ++ (opt (usesR (s5 l).1) (nm (s11 l).1) ++ (s11 l).2.d)
    cases usesR (s5 l).1 <;> simp [opt]
  unfold evb
  simp only [List.append_assoc, evr]
  rw [r11]
  have f9 : opt (usesN (s5 l).1) (im (s9 l).1) ++ (s9 l).2.d = (s8 l).2.d := b9.symm
  have f8 : opt (usesV (s5 l).1) (tm (s8 l).1) ++ (s8 l).2.d = (s7 l).2.d := b8.symm
  have f7 : opt (usesF (s5 l).1) (tm (s7 l).1) ++ (s7 l).2.d = (s6 l).2.d := b7.symm
  have f6 : tm (s6 l).1 ++ (s6 l).2.d = (rdN (s4 l).2).2.d := by rw [← e5]; exact b6.symm
  have f5 : nm (s5 l).1 ++ (rdN (s4 l).2).2.d = (s4 l).2.d := b5.symm
  have f4 : ns (s4 l).1 ++ (s4 l).2.d = (s3 l).2.d := b4.symm
  have f3 : nm (s3 l).1 ++ (s3 l).2.d = (s2 l).2.d := b3.symm
  have f2 : nm (s2 l).1 ++ (s2 l).2.d = (s1 l).2.d := b2.symm
  rw [f9, f8, f7, f6, f5, f4, f3, f2]
  exact b1

theorem whenT_tm {c : Bool} {x : List UInt8} (B : List UInt8) (h : x.length ≤ 64) (h0 : c = false → x = []) : whenT c ⟨opt c (tm x) ++ B, 0⟩ = (x, ⟨B, 0⟩) := by
  cases c with
  | true => exact rdT_tm B h
  | false => rw [h0 rfl]; rfl
theorem whenI_im {c : Bool} {x : Int} (B : List UInt8) (h : I64 x) (h0 : c = false → x = 0) : whenI c ⟨opt c (im x) ++ B, 0⟩ = (x, ⟨B, 0⟩) := by
  cases c with
  | true => exact rdI_im B h
  | false => rw [h0 rfl]; rfl
theorem whenN_nm {c : Bool} {x : Int} (B : List UInt8) (h : Nn x) (h0 : c = false → x = 0) : whenN c ⟨opt c (nm x) ++ B, 0⟩ = (x, ⟨B, 0⟩) := by
  cases c with
  | true => exact rdN_nm B h
  | false => rw [h0 rfl]; rfl

/-- AN EVENT's BYTES ARE READ AS IT, whatever stands behind. -/
theorem evr_evb {e : Ev} (B : List UInt8) (h : Fits e) : evr (evb e ++ B) = e ∧ (s11 (evb e ++ B)).2 = ⟨B, 0⟩ := by
  have eR : opt (usesR e.kind) (nm e.rr ++ nm e.rn) ++ B = opt (usesR e.kind) (nm e.rr) ++ (opt (usesR e.kind) (nm e.rn) ++ B) := by
    cases usesR e.kind <;> simp [opt]
  have el : evb e ++ B = nm e.r ++ (nm e.n ++ (nm e.t ++ (ns e.deps ++ (nm e.kind ++ (tm e.key ++ (opt (usesF e.kind) (tm e.field) ++ (opt (usesV e.kind) (tm e.value) ++ (opt (usesN e.kind) (im e.num) ++ (opt (usesR e.kind) (nm e.rr) ++ (opt (usesR e.kind) (nm e.rn) ++ B)))))))))) := by
    rw [← eR]; simp only [evb, List.append_assoc]
  rw [el]
  generalize hB11 : opt (usesR e.kind) (nm e.rn) ++ B = B11
  generalize hB10 : opt (usesR e.kind) (nm e.rr) ++ B11 = B10
  generalize hB9 : opt (usesN e.kind) (im e.num) ++ B10 = B9
  generalize hB8 : opt (usesV e.kind) (tm e.value) ++ B9 = B8
  generalize hB7 : opt (usesF e.kind) (tm e.field) ++ B8 = B7
  generalize hB6 : tm e.key ++ B7 = B6
  generalize hB5 : nm e.kind ++ B6 = B5
  generalize hB4 : ns e.deps ++ B5 = B4
  generalize hB3 : nm e.t ++ B4 = B3
  generalize hB2 : nm e.n ++ B3 = B2
  generalize hl : nm e.r ++ B2 = l
  have q1 : s1 l = (e.r, ⟨B2, 0⟩) := by rw [s1, ← hl]; exact rdN_nm _ h.r
  have q2 : s2 l = (e.n, ⟨B3, 0⟩) := by rw [s2, q1, ← hB2]; exact rdN_nm _ h.n
  have q3 : s3 l = (e.t, ⟨B4, 0⟩) := by rw [s3, q2, ← hB3]; exact rdN_nm _ h.t
  have q4 : s4 l = (e.deps, ⟨B5, 0⟩) := by rw [s4, q3, ← hB4, ← h.len]; exact rdNs_ns _ h.deps
  have q5 : s5 l = (e.kind, ⟨B6, 0⟩) := by
    rw [s5, q4, ← hB5]
    simp only
    rw [rdN_nm _ ⟨by have := h.kind; omega, by have := h.kind; omega⟩]
    simp only [known]
    rw [if_neg (by have := h.kind; omega)]
  have q6 : s6 l = (e.key, ⟨B7, 0⟩) := by rw [s6, q5, ← hB6]; exact rdT_tm _ h.key
  have q7 : s7 l = (e.field, ⟨B8, 0⟩) := by rw [s7, q5, q6, ← hB7]; exact whenT_tm _ h.field.1 h.field.2
  have q8 : s8 l = (e.value, ⟨B9, 0⟩) := by rw [s8, q5, q7, ← hB8]; exact whenT_tm _ h.value.1 h.value.2
  have q9 : s9 l = (e.num, ⟨B10, 0⟩) := by rw [s9, q5, q8, ← hB9]; exact whenI_im _ h.num.1 h.num.2
  have q10 : s10 l = (e.rr, ⟨B11, 0⟩) := by rw [s10, q5, q9, ← hB10]; exact whenN_nm _ h.ref.1 fun hc => (h.ref.2.2 hc).1
  have q11 : s11 l = (e.rn, ⟨B, 0⟩) := by rw [s11, q5, q10, ← hB11]; exact whenN_nm _ h.ref.2.1 fun hc => (h.ref.2.2 hc).2
  refine ⟨?_, by rw [q11]⟩
  rw [evr, q1, q2, q3, q4, q5, q6, q7, q8, q9, q10, q11]

/-- What Decode answers: the error's number; the event is told where there is none. -/
def dcE (ok : Ev → Bool) (l : List UInt8) : Int := if (s11 l).2.e ≠ 0 then (s11 l).2.e else if (s11 l).2.d = [] ∧ ok (evr l) = true then 0 else 3
theorem dc_ok {ok : Ev → Bool} {l : List UInt8} (h : dcE ok l = 0) : l = evb (evr l) ∧ ok (evr l) = true := by
  unfold dcE at h
  split at h
  · omega
  · split at h
    · rename_i h1 h2
      obtain ⟨a, -⟩ := evr_ok (by omega : (s11 l).2.e = 0)
      rw [h2.1, List.append_nil] at a
      exact ⟨a, h2.2⟩
    · omega
theorem dc_evb {ok : Ev → Bool} {e : Ev} (h : Fits e) (ho : ok e = true) : dcE ok (evb e) = 0 ∧ evr (evb e) = e := by
  obtain ⟨a, b⟩ := evr_evb [] h
  rw [List.append_nil] at a b
  refine ⟨?_, a⟩
  rw [dcE, a, b]
  simp [ho]
theorem dc_more {ok : Ev → Bool} {e : Ev} (B : List UInt8) (hB : B ≠ []) (h : Fits e) : dcE ok (evb e ++ B) = 3 := by
  obtain ⟨a, b⟩ := evr_evb B h
  rw [dcE, a, b]
  simp [hB]
/-- CUT OFF, no event is told. -/
theorem dc_cut {ok : Ev → Bool} {e : Ev} {k : Nat} (hk : k < (evb e).length) (h : Fits e) (hf : ∀ e, ok e = true → Fits e) : dcE ok ((evb e).take k) ≠ 0 := by
  intro h0
  obtain ⟨a, b⟩ := dc_ok h0
  obtain ⟨-, c⟩ := evr_evb ((evb e).drop k) (hf _ b)
  rw [← a, List.take_append_drop] at c
  obtain ⟨-, d⟩ := evr_evb [] h
  rw [List.append_nil, c, Rd.mk.injEq] at d
  have := congrArg List.length d.1
  rw [List.length_drop, List.length_nil] at this
  omega
end Go.Proofs.YthlebgioamcioabGreat

/-
  Texts as lists of bytes, and back: what the two conversions come to.
-/
namespace Go.Proofs.YthlebgioamcioabGreat
set_option maxRecDepth 100000
open Go.RowKit

/-- A number's bytes as a text. -/
def txt (n : Nat) : ByteArray := ⟨(Vq.num n).toArray⟩
theorem txt_size (n : Nat) : (txt n).size = Vq.wd n := by
  show (Vq.num n).toArray.size = _
  rw [List.size_toArray, Vq.num_length]

theorem own_below {w w' : World} {base : Nat} {v : Value} {n : Nat} {xs : List Value} (h : w.ownsRow base 5 1 v n xs) (hb : Below w.heap.size w w') : w'.ownsRow base 5 1 v n xs := by
  refine h.kept (row := none) ⟨hb.os, hb.tape, hb.output, hb.size, fun k hk _ => hb.block k hk⟩ ?_
  cases v.ownBlock <;> simp

theorem conv_own {w : World} {base g n cap : Nat} {l : List UInt8} (h : w.ownsRow base 5 1 (.slice (some ⟨g, 0, none⟩) n cap) n (bs l)) :
    (convert 106 9 (.slice (some ⟨g, 0, none⟩) n cap)).run Tryz.prog w = .ok (.string ⟨l.toArray⟩) w := by
  have hl : l.length = n := by have := h.1; rw [bs_length] at this; omega
  subst hl
  refine run_convert_bytes_back w 106 9 5 ⟨g, 0, none⟩ cap l Tryz.underlying106 Tryz.underlying5 Tryz.underlying9 ?_
  intro j hj
  refine h.cells rfl j _ ?_
  simp [bs, hj]

theorem conv_txt {w : World} {base g cap : Nat} {n : Nat} (h : w.ownsRow base 5 1 (.slice (some ⟨g, 0, none⟩) (Vq.wd n) cap) (Vq.wd n) (bs (Vq.num n))) :
    (convert 106 9 (.slice (some ⟨g, 0, none⟩) (Vq.wd n) cap)).run Tryz.prog w = .ok (.string (txt n)) w := conv_own h

/-- A text turned into bytes. -/
theorem conv_bytes (s : ByteArray) (W : World) (hs : s.size ≤ maxLen) : ∃ cap W', (convert 9 106 (.string s)).run Tryz.prog W = .ok (.slice (some ⟨W.heap.size, 0, none⟩) s.size cap) W' ∧
    Bytes W' (some ⟨W.heap.size, 0, none⟩) s.size cap s.data.toList ∧ cap ≤ maxLen ∧ Below W.heap.size W W' ∧ W'.heap.size = W.heap.size + 1 := by
  refine ⟨_, _, run_bytes_of_string W 9 106 5 s Tryz.underlying9 Tryz.underlying106 Tryz.underlying5, ⟨?_, grownCap_ge _ _ _ _, (fun h => by cases h), ?_⟩, grownCap_le_maxLen _ _ _ _ hs, ?_, ?_⟩
  · rw [Array.length_toList]; rfl
  · intro ad had j u hu
    obtain rfl := Option.some.inj had
    rw [Addr.add_lit, Nat.zero_add]
    rw [show W.heap.size = W.drew.heap.size from rfl, World.cell?_alloc_mark, bytesRow]
    have hj : j < s.data.size := by
      have := (List.getElem?_eq_some_iff.1 hu).1
      rw [bs_length, Array.length_toList] at this
      exact this
    rw [Array.getElem?_append_left (by rw [Array.size_map]; exact hj), Array.getElem?_map]
    rw [bs, List.getElem?_map, Array.getElem?_toList] at hu
    exact hu
  · exact (Below.refl _ _).drew.alloc (Nat.le_refl _) _
  · simp

end Go.Proofs.YthlebgioamcioabGreat

/-
  What the document's answers come to: a number's bytes as a text, a text's, those of a number with a sign. They make memory, and turn nothing that was there.
-/
namespace Go.Proofs.YthlebgioamcioabGreat
set_option maxRecDepth 100000
open Go.RowKit

/-- What Number has behind k rounds. -/
def low (n k : Nat) : ByteArray := ⟨(Vq.hi k (n / 128) ++ [UInt8.ofNat (n % 128)]).toArray⟩

theorem low_size (n k : Nat) : (low n k).size = k + 1 := by
  show (Vq.hi k (n / 128) ++ [UInt8.ofNat (n % 128)]).toArray.size = _
  rw [List.size_toArray, List.length_append, Vq.hi_length]; rfl
/-- A text of one byte. -/
def oneb (x : Nat) : ByteArray := ⟨#[UInt8.ofNat x]⟩
theorem oneb_size (x : Nat) : (oneb x).size = 1 := rfl
theorem low_step {n k m : Nat} (h : n / 128 ^ (k + 1) = m) : oneb (128 + m % 128) ++ low n k = low n (k + 1) := by
  have e : n / 128 / 128 ^ k = m := by rw [Nat.div_div_eq_div_mul, Nat.mul_comm, ← Nat.pow_succ, h]
  apply ByteArray.ext
  rw [ByteArray.data_append]
  show #[UInt8.ofNat (128 + m % 128)] ++ (Vq.hi k (n / 128) ++ [UInt8.ofNat (n % 128)]).toArray = (Vq.hi (k + 1) (n / 128) ++ [UInt8.ofNat (n % 128)]).toArray
  rw [Vq.hi_cons, e]
  simp
theorem low_end {n k : Nat} (h : Vq.wd n = k + 1) : low n k = txt n := by
  unfold low txt Vq.num
  rw [h, Nat.add_sub_cancel]

theorem one_conv (W : World) (x : Nat) (hx : x < 256) :
    (convert 106 9 (.slice (some ⟨W.heap.size, 0, none⟩) 1 1)).run Tryz.prog (W.alloc (.cells #[.int .u8 (x : Int)] 5)) = .ok (.string (oneb x)) (W.alloc (.cells #[.int .u8 (x : Int)] 5)) := by
  refine run_convert_bytes_back _ 106 9 5 ⟨W.heap.size, 0, none⟩ 1 [UInt8.ofNat x] Tryz.underlying106 Tryz.underlying5 Tryz.underlying9 ?_
  intro j hj
  have : j = 0 := by simpa using hj
  subst this
  rw [Addr.add_lit, World.cell?_alloc_mark]
  simp only [List.getElem_cons_zero]
  rw [Vq.toNat_ofNat_lt _ hx]
  rfl

/-- A text's bytes as a text. -/
def ttx (s : ByteArray) : ByteArray := txt s.size ++ s
theorem ttx_size (s : ByteArray) : (ttx s).size = Vq.wd s.size + s.size := by rw [ttx, ByteArray.size_append, txt_size]

end Go.Proofs.YthlebgioamcioabGreat

/-
  What vlq.PutText comes to, and the document's bytes of a number with a sign. Asked: texts of at most 1048576 bytes behind fewer than 2^40.
-/
namespace Go.Proofs.YthlebgioamcioabGreat
set_option maxRecDepth 100000
open Go.RowKit

set_option maxHeartbeats 400000 in
theorem puttext_any (ao : Option Addr) (m c : Nat) (l : List UInt8) (s : ByteArray) (w : World) (hb : Bytes w ao m c l) (hm : m ≤ 1099511627776) (hs : s.size ≤ 1048576) :
    Calls Tryz.prog 120 #[.slice ao m c, .string s] w fun e w' =>
      ∃ g cap, e = .returned (.slice (some ⟨g, 0, none⟩) (m + Vq.wd s.size + s.size) cap) ∧ w'.ownsRow w.heap.size 5 1 (.slice (some ⟨g, 0, none⟩) (m + Vq.wd s.size + s.size) cap) (m + Vq.wd s.size + s.size) (bs (l ++ Vq.num s.size ++ s.data.toList)) ∧ Below w.heap.size w w' ∧ cap ≤ maxLen := by
  have h2 := Vq.wd_le s.size
  go_enter Tryz.func120, Tryz.ntmps120
  go_wp2_with fail
  refine (put_any ao m c l s.size _ hb (by omega) (by omega)).mono ?_
  rintro e w1 ⟨g, rfl, hown, hbel⟩
  go_wp2_with (at_builtin; refine wpList_append_full _ rfl (.tmp 9) (.tmp 10) rfl s rfl rfl hown (by omega) hbel.size ?_)
  intro g2 cap2 w2 hown2 hb2 hcap2
  go_wp2
  go_ret
  exact ⟨g2, cap2, rfl, by rw [List.append_assoc]; exact hown2, hbel.trans (hb2.mono hbel.size), hcap2⟩
end Go.Proofs.YthlebgioamcioabGreat

