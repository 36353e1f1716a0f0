/-
  A log as plain data: its bodies and its bytes; what is read of any bytes; what is read of frames of which the last ones are cut off and bits are turned. No program is walked here.
-/
import Derived.Test.YthdhnilfkpbmpaaDec
import Derived.Test.YthdhnilfkpbmpaaFrt
import Derived.Test.YthdhnilfkpbmpaaFrc
import Derived.Test.YthdhnilfkpbmpaaSea
import Derived.Test.YthdhnilfkpbmpaaDkb
namespace Go.Proofs.Ythdhnilfkpbmpaa
open Go.RowKit

/-- An event that can be. -/
def Good (e : Ev) : Prop := e.deps.length = 16 ∧ okev e = true
theorem Good.fits {e : Ev} (h : Good e) : Fits e := okev_fits h.1 h.2
theorem Good.room {e : Ev} (h : Good e) : Room e := fits_room h.fits
theorem evb_short {e : Ev} (h : Fits e) : (evb e).length ≤ 1000 := by
  have a1 := nm_le e.r
  have a2 := nm_le e.n
  have a3 := nm_le e.t
  have a4 := ns_len e.deps
  have a5 := opb_le h.key h.field.1 h.value.1
  have hl := h.len
  rw [evb_parts]
  simp only [List.length_append, List.length_nil]
  omega

/-- An event's body; a log's bodies; its bytes. -/
def eb (e : Ev) : List UInt8 := 0 :: evb e
def bodies (b : Bool) (s : List UInt8) (E : List Ev) : List (List UInt8) := (if b then [1 :: s] else []) ++ E.map eb
def file (b : Bool) (s : List UInt8) (E : List Ev) : List UInt8 := Fr.frames (bodies b s E)
theorem eb_short {e : Ev} (h : Good e) : (eb e).length ≤ 1001 := by
  have := evb_short h.fits
  simp only [eb, List.length_cons]; omega
/-- A log that can be. -/
structure Fine (b : Bool) (s : List UInt8) (E : List Ev) : Prop where
  good : ∀ e ∈ E, Good e
  some : s.length ≤ 65528
  none : b = false → s = []
theorem Fine.short {b : Bool} {s : List UInt8} {E : List Ev} (h : Fine b s E) : ∀ c ∈ bodies b s E, c.length ≤ 65529 := by
  intro c hc
  have hs := h.some
  rw [bodies, List.mem_append] at hc
  rcases hc with hc | hc
  · cases b
    · cases hc
    · simp only [if_true, List.mem_singleton] at hc
      subst hc
      simp only [List.length_cons]; omega
  · obtain ⟨e, he, rfl⟩ := List.mem_map.1 hc
    have := eb_short (h.good e he)
    omega
theorem Fine.take {b : Bool} {s : List UInt8} {E : List Ev} (h : Fine b s E) (j : Nat) : Fine b s (E.take j) := ⟨fun e he => h.good e (List.mem_of_mem_take he), h.some, h.none⟩
theorem Fine.add {b : Bool} {s : List UInt8} {E : List Ev} (h : Fine b s E) {e : Ev} (he : Good e) : Fine b s (E ++ [e]) :=
  ⟨fun x hx => (List.mem_append.1 hx).elim (h.good x) (fun hx => by rw [List.mem_singleton.1 hx]; exact he), h.some, h.none⟩
theorem good_cons {e : Ev} {E : List Ev} (h1 : Good e) (h2 : ∀ x ∈ E, Good x) : ∀ x ∈ e :: E, Good x := fun x hx => by
  rcases List.mem_cons.1 hx with rfl | hx
  · exact h1
  · exact h2 x hx
theorem file_add (b : Bool) (s : List UInt8) (E : List Ev) (e : Ev) : file b s (E ++ [e]) = file b s E ++ Fr.frame (eb e) := by
  simp [file, bodies, Fr.frames]
theorem file_app (b : Bool) (s : List UInt8) (E F : List Ev) : file b s (E ++ F) = file b s E ++ Fr.frames (F.map eb) := by
  simp [file, bodies, Fr.frames]
theorem file_none : file false [] [] = [] := rfl
theorem frames_many : ∀ L : List (List UInt8), 6 * L.length ≤ (Fr.frames L).length
  | [] => by simp [Fr.frames]
  | b :: L => by
    have := frames_many L
    have e : Fr.frames (b :: L) = Fr.frame b ++ Fr.frames L := by simp [Fr.frames]
    rw [e, List.length_append, Fr.frame_length, List.length_cons]; omega
theorem file_many (b : Bool) (s : List UInt8) (E : List Ev) : 6 * E.length ≤ (file b s E).length := by
  have := frames_many (bodies b s E)
  have h : E.length ≤ (bodies b s E).length := by simp [bodies]
  rw [file]; omega

/-- What a body is. -/
def evOf (c : List UInt8) : Option Ev := if c.head? = some 0 ∧ dcE okev c.tail = 0 then some (dcV c.tail) else none
theorem evOf_eb {e : Ev} (h : Good e) : evOf (eb e) = some e := by
  obtain ⟨h1, h2⟩ := dc_evb (ok := okev) h.fits h.2
  rw [evOf, if_pos ⟨rfl, h1⟩]
  show some (dcV (evb e)) = some e
  rw [dcV, if_pos h1, h2]
theorem evOf_some {c : List UInt8} {e : Ev} (h : evOf c = some e) : Good e ∧ c = eb e := by
  rw [evOf] at h
  split at h
  · rename_i hc
    obtain ⟨h1, h2⟩ := dc_ok hc.2
    have hv : dcV c.tail = evr c.tail := by rw [dcV, if_pos hc.2]
    obtain rfl := Option.some.inj h
    refine ⟨⟨dcV_len _, by rw [hv]; exact h2⟩, ?_⟩
    cases c with
    | nil => exact absurd hc.1 (by simp)
    | cons x t =>
      have hx : x = 0 := by simpa using hc.1
      subst hx
      rw [eb, hv, ← h1]
      rfl
  · cases h

/-- What is read, body by body. -/
structure St where
  b : Bool
  s : List UInt8
  E : List Ev
  n : Nat
def rdX : Nat → List (List UInt8) → St → St
  | _, [], st => st
  | i, c :: L, st => match evOf c with
    | some e => rdX (i + 1) L ⟨st.b, st.s, st.E ++ [e], st.n + (6 + c.length)⟩
    | none => if i = 0 ∧ c.head? = some 1 then rdX (i + 1) L ⟨true, c.tail, st.E, st.n + (6 + c.length)⟩ else st
def st0 : St := ⟨false, [], [], 0⟩
def rd (l : List UInt8) : St := rdX 0 (Fr.scan l).1 st0

theorem frames_cons (c : List UInt8) (L : List (List UInt8)) : (Fr.frames (c :: L)).length = 6 + c.length + (Fr.frames L).length := by
  have e : Fr.frames (c :: L) = Fr.frame c ++ Fr.frames L := by simp [Fr.frames]
  rw [e, List.length_append, Fr.frame_length]; omega
theorem rdX_events : ∀ (E : List Ev) (i : Nat) (st : St), (∀ e ∈ E, Good e) → rdX i (E.map eb) st = ⟨st.b, st.s, st.E ++ E, st.n + (Fr.frames (E.map eb)).length⟩
  | [], i, st, _ => by simp [rdX, Fr.frames]
  | e :: E, i, st, h => by
    have he := evOf_eb (h e (by simp))
    rw [List.map_cons, rdX, he]
    simp only []
    rw [rdX_events E _ _ (fun x hx => h x (by simp [hx])), frames_cons]
    simp only [List.append_assoc, List.singleton_append, Nat.add_assoc]
theorem rd_bodies {b : Bool} {s : List UInt8} {E : List Ev} (h : Fine b s E) : rdX 0 (bodies b s E) st0 = ⟨b, s, E, (file b s E).length⟩ := by
  cases b
  · have hs := h.none rfl
    subst hs
    rw [file, bodies]
    simp only [Bool.false_eq_true, if_false, List.nil_append]
    rw [rdX_events E 0 st0 h.good]
    simp [st0]
  · have e : bodies true s E = (1 :: s) :: E.map eb := by simp [bodies]
    have hn : evOf (1 :: s) = none := by
      rw [evOf, if_neg]
      simp
    rw [file, e, rdX, hn]
    simp only []
    rw [if_pos ⟨trivial, rfl⟩, rdX_events E _ _ h.good, frames_cons]
    simp [st0]
theorem rdE_any : ∀ (L : List (List UInt8)) (i : Nat) (st : St), i ≠ 0 → ∃ E j, rdX i L st = ⟨st.b, st.s, st.E ++ E, st.n + (Fr.frames (E.map eb)).length⟩ ∧ E.map eb = L.take j ∧ ∀ e ∈ E, Good e
  | [], i, st, _ => ⟨[], 0, by simp [rdX, Fr.frames], by simp, by simp⟩
  | c :: L, i, st, hi => by
    rw [rdX]
    cases h : evOf c with
    | none =>
      simp only []
      rw [if_neg (fun h => hi h.1)]
      exact ⟨[], 0, by simp [Fr.frames], by simp, by simp⟩
    | some e =>
      obtain ⟨h1, h2⟩ := evOf_some h
      simp only []
      obtain ⟨E, j, h3, h4, h5⟩ := rdE_any L (i + 1) ⟨st.b, st.s, st.E ++ [e], st.n + (6 + c.length)⟩ (by omega)
      refine ⟨e :: E, j + 1, ?_, by rw [List.map_cons, h4, List.take_succ_cons, h2], good_cons h1 h5⟩
      rw [h3, List.map_cons, frames_cons, h2]
      simp only [List.append_assoc, List.singleton_append, Nat.add_assoc]
theorem rd_any (L : List (List UInt8)) (hL : ∀ c ∈ L, c.length ≤ 65529) : ∃ b s E j, rdX 0 L st0 = ⟨b, s, E, (file b s E).length⟩ ∧ bodies b s E = L.take j ∧ Fine b s E := by
  cases L with
  | nil => exact ⟨false, [], [], 0, rfl, rfl, ⟨by simp, by simp, fun _ => rfl⟩⟩
  | cons c L =>
    rw [rdX]
    cases h : evOf c with
    | none =>
      simp only []
      by_cases hc : c.head? = some 1
      · rw [if_pos ⟨trivial, hc⟩]
        obtain ⟨E, j, h3, h4, h5⟩ := rdE_any L (0 + 1) ⟨true, c.tail, st0.E, st0.n + (6 + c.length)⟩ (by omega)
        cases c with
        | nil => exact absurd hc (by simp)
        | cons x t =>
          have hx : x = 1 := by simpa using hc
          subst hx
          have hl := hL (1 :: t) (by simp)
          have eb' : bodies true t E = (1 :: t) :: E.map eb := by simp [bodies]
          refine ⟨true, t, E, j + 1, ?_, by rw [eb', h4, List.take_succ_cons], ⟨h5, by simp only [List.length_cons] at hl; omega, by simp⟩⟩
          rw [h3, file, eb', frames_cons]
          simp [st0]
      · rw [if_neg (fun h => hc h.2)]
        exact ⟨false, [], [], 0, rfl, rfl, ⟨by simp, by simp, fun _ => rfl⟩⟩
    | some e =>
      obtain ⟨h1, h2⟩ := evOf_some h
      simp only []
      obtain ⟨E, j, h3, h4, h5⟩ := rdE_any L (0 + 1) ⟨st0.b, st0.s, st0.E ++ [e], st0.n + (6 + c.length)⟩ (by omega)
      have eb' : bodies false [] (e :: E) = eb e :: E.map eb := by simp [bodies]
      refine ⟨false, [], e :: E, j + 1, ?_, by rw [eb', h4, List.take_succ_cons, h2], ⟨good_cons h1 h5, by simp, fun _ => rfl⟩⟩
      rw [h3, file, eb', frames_cons, h2]
      simp [st0]

/-- What is sealed is just what its beginning's seal makes of it. -/
theorem hi_word (a b : UInt8) : Ck.hi (Ck.word a b) = a ∧ Ck.lo (Ck.word a b) = b := by
  have ha := a.toNat_lt
  have hb := b.toNat_lt
  have e : (Ck.word a b).toNat = a.toNat * 256 + b.toNat := by
    rw [Ck.word, BitVec.toNat_ofNat]; omega
  constructor
  · rw [Ck.hi, e, show (a.toNat * 256 + b.toNat) / 256 = a.toNat by omega, UInt8.ofNat_toNat]
  · rw [Ck.lo, e, show (a.toNat * 256 + b.toNat) % 256 = b.toNat by omega, UInt8.ofNat_toNat]
theorem sealed_of {l : List UInt8} {m : Nat} (hm : l.length = m + 2) (h : Fr.isSealed l = true) : l = Ck.sealed (l.take m) := by
  have h1 := (Fr.sealed_iff l (by omega)).1 h
  rw [hm, show m + 2 - 2 = m by omega, show m + 2 - 1 = m + 1 by omega] at h1
  have h2 := Fr.split_two l m hm
  rw [Ck.sealed, h1, (hi_word _ _).1, (hi_word _ _).2]
  exact h2
theorem take_bytes {d : List UInt8} (h : Fr.tkE d = 0) : d = Fr.frame (Fr.tkB d) ++ d.drop (Fr.tkW d) ∧ (Fr.tkB d).length ≤ 65529 := by
  rw [Fr.tkE] at h
  split at h
  · omega
  split at h
  · omega
  split at h
  · omega
  split at h
  · omega
  split at h
  · omega
  rename_i h1 h2 h3 h4 h5
  have hb : (Fr.tkB d).length = Fr.hd d := by rw [Fr.tkB, List.length_take, List.length_drop]; omega
  have s1 := sealed_of (l := d.take 4) (m := 2) (by rw [List.length_take]; omega) (by simpa using h2)
  have s2 := sealed_of (l := (d.drop 4).take (Fr.hd d + 2)) (m := Fr.hd d) (by rw [List.length_take, List.length_drop]; omega) (by simpa using h5)
  rw [List.take_take, Nat.min_eq_left (by omega)] at s1
  rw [List.take_take, Nat.min_eq_left (by omega)] at s2
  have ht : d.take 2 = Fr.two (Fr.tkB d).length := by
    rw [hb]
    obtain ⟨a, b, t, e⟩ : ∃ a b t, d = a :: b :: t := by
      cases d with
      | nil => exact absurd (by decide) h1
      | cons a d =>
        cases d with
        | nil => exact absurd (by show 1 < 4; omega) h1
        | cons b t => exact ⟨a, b, t, rfl⟩
    have ha := a.toNat_lt
    have hb := b.toNat_lt
    have e2 : Fr.hd d = a.toNat * 256 + b.toNat := by rw [e]; rfl
    rw [e2, e, Fr.two, show (a.toNat * 256 + b.toNat) / 256 = a.toNat by omega, show (a.toNat * 256 + b.toNat) % 256 = b.toNat by omega, UInt8.ofNat_toNat, UInt8.ofNat_toNat]
    rfl
  refine ⟨?_, by omega⟩
  have e1 : d = d.take 4 ++ ((d.drop 4).take (Fr.hd d + 2) ++ d.drop (Fr.tkW d)) := by
    have e2 : d.drop (Fr.tkW d) = (d.drop 4).drop (Fr.hd d + 2) := by rw [List.drop_drop, Fr.tkW]; congr 1; omega
    rw [e2, List.take_append_drop, List.take_append_drop]
  conv => lhs; rw [e1, s1, s2, ht]
  rw [Fr.frame, List.append_assoc]
  rfl
theorem scan_bytes : ∀ (k : Nat) (d : List UInt8), d.length < k → d = Fr.frames (Fr.scan d).1 ++ (Fr.scan d).2 ∧ ∀ c ∈ (Fr.scan d).1, c.length ≤ 65529
  | 0, d, h => by omega
  | k + 1, d, hk => by
    by_cases h : d = [] ∨ Fr.tkE d ≠ 0
    · rw [Fr.scan_end d h]
      exact ⟨by simp [Fr.frames], by simp⟩
    · have h0 : Fr.tkE d = 0 := by
        by_cases h0 : Fr.tkE d = 0
        · exact h0
        · exact absurd (.inr h0) h
      have hne : d ≠ [] := fun e => h (.inl e)
      have hpos : 0 < d.length := List.length_pos_iff.2 hne
      obtain ⟨t1, t2⟩ := take_bytes h0
      have hlt : (d.drop (Fr.tkW d)).length < k := by rw [List.length_drop, Fr.tkW]; omega
      obtain ⟨h1, h2⟩ := scan_bytes k (d.drop (Fr.tkW d)) hlt
      rw [Fr.scan_step d h]
      refine ⟨?_, fun c hc => ?_⟩
      · simp only []
        have e : Fr.frames (Fr.tkB d :: (Fr.scan (d.drop (Fr.tkW d))).1) = Fr.frame (Fr.tkB d) ++ Fr.frames (Fr.scan (d.drop (Fr.tkW d))).1 := by simp [Fr.frames]
        rw [e, List.append_assoc, ← h1]
        exact t1
      · rcases List.mem_cons.1 hc with rfl | hc
        · exact t2
        · exact h2 c hc
/-- OF ANY BYTES a log is read that can be, and its bytes are the first ones. -/
theorem rd_bytes (l : List UInt8) : ∃ b s E, rd l = ⟨b, s, E, (file b s E).length⟩ ∧ Fine b s E ∧ (file b s E).length ≤ l.length ∧ l.take (file b s E).length = file b s E := by
  obtain ⟨h1, h2⟩ := scan_bytes (l.length + 1) l (by omega)
  obtain ⟨b, s, E, j, h3, h4, h5⟩ := rd_any (Fr.scan l).1 h2
  have h6 : l = file b s E ++ (Fr.frames ((Fr.scan l).1.drop j) ++ (Fr.scan l).2) := by
    conv => lhs; rw [h1, ← List.take_append_drop j (Fr.scan l).1, Fr.frames_append, ← h4]
    rw [List.append_assoc]
    rfl
  refine ⟨b, s, E, h3, h5, ?_, ?_⟩
  · have := congrArg List.length h6
    rw [List.length_append] at this
    omega
  · conv => lhs; rw [h6]
    rw [List.take_left]
theorem rd_file {b : Bool} {s : List UInt8} {E : List Ev} (h : Fine b s E) : rd (file b s E) = ⟨b, s, E, (file b s E).length⟩ := by
  rw [rd, file, Fr.scan_all _ h.short]
  exact rd_bodies h

/-- The frame in which a byte lies. -/
theorem frame_at : ∀ (L : List (List UInt8)) (p : Nat), p < (Fr.frames L).length → ∃ L1 b L2, L = L1 ++ b :: L2 ∧ (Fr.frames L1).length ≤ p ∧ p < (Fr.frames L1).length + (b.length + 6)
  | [], p, h => by simp [Fr.frames] at h
  | c :: L, p, h => by
    rw [frames_cons] at h
    by_cases hp : p < 6 + c.length
    · exact ⟨[], c, L, rfl, by simp [Fr.frames], by simp [Fr.frames]; omega⟩
    · obtain ⟨L1, b, L2, h1, h2, h3⟩ := frame_at L (p - (6 + c.length)) (by omega)
      refine ⟨c :: L1, b, L2, by rw [h1]; rfl, ?_, ?_⟩
      · rw [frames_cons]; omega
      · rw [frames_cons]; omega
/-- FRAMES, CUT OFF ANYWHERE, of which a bit is turned: those ahead of it are scanned, and no others. -/
theorem scan_one (L1 : List (List UInt8)) (b Y : List UInt8) (m k t i0 : Nat) (h1 : ∀ x ∈ L1, x.length ≤ 65529) (hb : b.length ≤ 65529)
    (h0 : i0 < 16) (hbit : t / 2 ^ (15 - i0) % 2 = 1) (hfirst : ∀ i, i < i0 → t / 2 ^ (15 - i) % 2 ≠ 1)
    (hlo : (Fr.frames L1).length ≤ (k + i0) / 8) (hhi : (k + i0) / 8 < (Fr.frames L1).length + (b.length + 6)) (hm : (k + i0) / 8 < m) (hmm : m ≤ (Fr.frames L1 ++ (Fr.frame b ++ Y)).length) :
    (Fr.scan (Fr.turn ((Fr.frames L1 ++ (Fr.frame b ++ Y)).take m) k t 16)).1 = L1 := by
  have hpre : ∀ n, n ≤ (k + i0) / 8 → ∀ i, i < 16 → t / 2 ^ (15 - i) % 2 = 1 → 8 * n ≤ k + i := by
    intro n hn i hi hbi
    by_cases h : i < i0
    · exact absurd hbi (hfirst i h)
    · omega
  have hflen := Fr.frame_length b
  obtain ⟨a, ha⟩ : ∃ a, (Fr.frames L1).length = a := ⟨_, rfl⟩
  rw [List.length_append, ha] at hmm
  obtain ⟨l, hl⟩ : ∃ l, (Fr.frames L1 ++ (Fr.frame b ++ Y)).take m = l := ⟨_, rfl⟩
  have eL : l = Fr.frames L1 ++ (Fr.frame b ++ Y).take (m - a) := by
    rw [← hl, List.take_append, List.take_of_length_le (by omega), ha]
  have hlen : l.length = m := by rw [← hl, List.length_take, List.length_append, ha]; omega
  rw [ha] at hlo hhi
  rw [hl]
  have htl := Fr.turn_length l k t 16
  have hR : Fr.turn l k t 16 = Fr.frames L1 ++ (Fr.turn l k t 16).drop a := by
    have e := Fr.turn_take l k t a (hpre a hlo) 16 (by omega)
    have e2 : l.take a = Fr.frames L1 := by rw [eL, ← ha, List.take_left]
    conv => lhs; rw [← List.take_append_drop a (Fr.turn l k t 16), e, e2]
  have hld : l.drop a = (Fr.frame b ++ Y).take (m - a) := by rw [eL, ← ha, List.drop_left]
  have hRl : ((Fr.turn l k t 16).drop a).length = m - a := by rw [List.length_drop, htl, hlen]
  have hE : Fr.tkE ((Fr.turn l k t 16).drop a) ≠ 0 := by
    by_cases h40 : m - a < 4
    · rw [Fr.tkE, if_pos (by omega)]; decide
    by_cases h4 : (k + i0) / 8 < a + 4
    · have hs : Fr.isSealed (Fr.part l a 4) = true := by rw [Fr.part, hld, List.take_take, Nat.min_eq_left (by omega), Fr.head_take, Fr.sealed_is]
      have hn := Fr.turn_sealed l k t a 4 i0 (by omega) (hpre a hlo) h0 hbit (by omega) hs
      rw [Fr.part] at hn
      rw [Fr.tkE, if_neg (by omega), if_pos hn]
      decide
    · have e4 : ((Fr.turn l k t 16).drop a).take 4 = (Fr.frame b ++ Y).take 4 := by
        have e := Fr.turn_take l k t (a + 4) (hpre (a + 4) (by omega)) 16 (by omega)
        have e5 : (Fr.frame b ++ Y).take 4 = ((Fr.frame b ++ Y).take (m - a)).take 4 := by rw [List.take_take, Nat.min_eq_left (by omega)]
        rw [e5, ← hld, List.take_drop, List.take_drop, e]
      have eh : Fr.hd ((Fr.turn l k t 16).drop a) = b.length := by
        rw [← Fr.hd_take, e4, Fr.hd_take, Fr.head_hd b _ hb]
      rw [Fr.tkE, if_neg (by omega), e4, Fr.head_take, Fr.sealed_is, if_neg (by decide), eh, if_neg (by omega)]
      by_cases h5 : m - a < b.length + 6
      · rw [if_pos (by omega)]; decide
      · have hs : Fr.isSealed (Fr.part l (a + 4) (b.length + 2)) = true := by
          have e6 : ((Fr.frame b ++ Y).take (m - a)).drop 4 = (Ck.sealed b ++ Y).take (m - a - 4) := by rw [List.drop_take, Fr.head_drop]
          rw [Fr.part, ← List.drop_drop, hld, e6, List.take_take, Nat.min_eq_left (by omega), ← Fr.sealed_length b, List.take_left, Fr.sealed_is]
        have hn := Fr.turn_sealed l k t (a + 4) (b.length + 2) i0 (by omega) (hpre (a + 4) (by omega)) h0 hbit (by omega) hs
        rw [Fr.part, ← List.drop_drop] at hn
        rw [if_neg (by omega), if_pos hn]
        decide
  conv => lhs; rw [hR]
  rw [Fr.scan_frames L1 _ h1, Fr.scan_end _ (.inr hE), List.append_nil]
theorem turn_off (l : List UInt8) (k t : Nat) (h : ∀ i, i < 16 → t / 2 ^ (15 - i) % 2 ≠ 1) : ∀ i, i ≤ 16 → Fr.turn l k t i = l
  | 0, _ => rfl
  | i + 1, hi => by rw [Fr.turn, if_neg (h i (by omega)), turn_off l k t h i (by omega)]
theorem first_on (p : Nat → Prop) [DecidablePred p] : ∀ n, (∀ i, i < n → ¬ p i) ∨ ∃ i0, i0 < n ∧ p i0 ∧ ∀ i, i < i0 → ¬ p i
  | 0 => .inl (fun i h => by omega)
  | n + 1 => by
    rcases first_on p n with h | ⟨i0, h1, h2, h3⟩
    · by_cases hp : p n
      · exact .inr ⟨n, by omega, hp, h⟩
      · refine .inl (fun i hi => ?_)
        by_cases e : i = n
        · rw [e]; exact hp
        · exact h i (by omega)
    · exact .inr ⟨i0, by omega, h2, h3⟩
theorem scan_hurt (L : List (List UInt8)) (hL : ∀ x ∈ L, x.length ≤ 65529) (m k t : Nat) (hm : m ≤ (Fr.frames L).length) (hk : k + 16 ≤ 8 * m) : ∃ j, (Fr.scan (Fr.turn ((Fr.frames L).take m) k t 16)).1 = L.take j := by
  rcases first_on (fun i => t / 2 ^ (15 - i) % 2 = 1) 16 with h | ⟨i0, h1, h2, h3⟩
  · rw [turn_off _ k t h 16 (Nat.le_refl _)]
    obtain ⟨L1, L2, e1, e2, -⟩ := Fr.scan_cut L m hL hm
    exact ⟨L1.length, by rw [e2, e1, List.take_left]⟩
  · obtain ⟨L1, b, L2, e1, e2, e3⟩ := frame_at L ((k + i0) / 8) (by omega)
    have e4 : Fr.frames L = Fr.frames L1 ++ (Fr.frame b ++ Fr.frames L2) := by rw [e1]; simp [Fr.frames]
    refine ⟨L1.length, ?_⟩
    rw [e4] at hm ⊢
    rw [scan_one L1 b (Fr.frames L2) m k t i0 (fun x hx => hL x (by rw [e1]; simp [hx])) (hL b (by rw [e1]; simp)) h1 h2 h3 e2 e3 (by omega) hm, e1, List.take_left]
theorem dk_turn (l : List UInt8) (k t : Nat) : ∀ i, Dk.turn l k t i = Fr.turn l k t i
  | 0 => rfl
  | i + 1 => by rw [Dk.turn, Fr.turn, dk_turn l k t i]; rfl
/-- BEHIND A CRASH: the snapshot, and a beginning of the events, in which all are that were fast. -/
theorem rd_crash {b : Bool} {s : List UInt8} {E F : List Ev} (h : Fine b s (E ++ F)) (x a t : Int) :
    ∃ j, rd (Dk.crash (file b s (E ++ F)) (file b s E).length x a t) = ⟨b, s, E ++ F.take j, (file b s (E ++ F.take j)).length⟩ := by
  have hF : ∀ c ∈ F.map eb, c.length ≤ 65529 := fun c hc => by
    obtain ⟨e, he, rfl⟩ := List.mem_map.1 hc
    have := eb_short (h.good e (by simp [he]))
    omega
  have hE : Fine b s E := ⟨fun e he => h.good e (by simp [he]), h.some, h.none⟩
  have hk := Dk.kept_le (file b s (E ++ F)) (file b s E).length x
  have e1 : (file b s (E ++ F)).take (file b s E).length = file b s E := by rw [file_app, List.take_left]
  have e2 : (file b s (E ++ F)).drop (file b s E).length = Fr.frames (F.map eb) := by rw [file_app, List.drop_left]
  have hlen : (file b s (E ++ F)).length = (file b s E).length + (Fr.frames (F.map eb)).length := by rw [file_app, List.length_append]
  have key : ∃ j, (Fr.scan (if 2 ≤ Dk.kept (file b s (E ++ F)) (file b s E).length x then Dk.turn ((Fr.frames (F.map eb)).take (Dk.kept (file b s (E ++ F)) (file b s E).length x)) (a % (8 * (Dk.kept (file b s (E ++ F)) (file b s E).length x : Int) - 15)).toNat (t % 65536).toNat 16 else (Fr.frames (F.map eb)).take (Dk.kept (file b s (E ++ F)) (file b s E).length x))).1 = (F.map eb).take j := by
    generalize Dk.kept (file b s (E ++ F)) (file b s E).length x = m at hk
    by_cases h2 : 2 ≤ m
    · rw [if_pos h2, dk_turn]
      refine scan_hurt _ hF m _ _ (by omega) ?_
      have := Int.emod_nonneg a (by omega : 8 * (m : Int) - 15 ≠ 0)
      have := Int.emod_lt_of_pos a (by omega : 0 < 8 * (m : Int) - 15)
      omega
    · rw [if_neg h2]
      obtain ⟨L1, L2, f1, f2, -⟩ := Fr.scan_cut (F.map eb) m hF (by omega)
      exact ⟨L1.length, by rw [f2, f1, List.take_left]⟩
  obtain ⟨j, hj⟩ := key
  refine ⟨j, ?_⟩
  have e3 : bodies b s E ++ (F.map eb).take j = bodies b s (E ++ F.take j) := by
    simp [bodies, List.map_take]
  have hf : Fine b s (E ++ F.take j) := ⟨fun e he => h.good e (by
    rcases List.mem_append.1 he with he | he
    · simp [he]
    · exact List.mem_append.2 (.inr (List.mem_of_mem_take he))), h.some, h.none⟩
  have hs : ∀ X, Fr.scan (file b s E ++ X) = (bodies b s E ++ (Fr.scan X).1, (Fr.scan X).2) := fun X => Fr.scan_frames _ _ hE.short
  rw [rd, Dk.crash, Dk.left, e1, e2, hs]
  simp only []
  rw [hj, e3]
  exact rd_bodies hf
end Go.Proofs.Ythdhnilfkpbmpaa
