/-
  A reader in memory; what its ways number, text, signed come to.
-/
import Derived.Test.YthdhnilfkpbmpaaEvt
import Derived.BigQuiet
import Derived.Deep.RegionWith
namespace Go.Proofs.Ythdhnilfkpbmpaa
set_option maxRecDepth 100000

open Go.RowKit

/-- Of what was there one block alone may have turned. -/
structure Chg (g : Nat) (w w' : World) : Prop where
  os : w'.os = w.os
  tape : w'.tape = w.tape
  output : w'.output = w.output
  size : w.heap.size ≤ w'.heap.size
  block : ∀ k, k < w.heap.size → k ≠ g → w'.heap[k]? = w.heap[k]?
theorem Chg.refl (g : Nat) (w : World) : Chg g w w := ⟨rfl, rfl, rfl, Nat.le_refl _, fun _ _ _ => rfl⟩
theorem Chg.trans {g : Nat} {a b c : World} (h : Chg g a b) (k : Chg g b c) : Chg g a c :=
  ⟨k.os.trans h.os, k.tape.trans h.tape, k.output.trans h.output, Nat.le_trans h.size k.size, fun i hi hg => (k.block i (Nat.lt_of_lt_of_le hi h.size) hg).trans (h.block i hi hg)⟩
theorem Chg.of {g : Nat} {a b : World} (h : Below a.heap.size a b) : Chg g a b := ⟨h.os, h.tape, h.output, h.size, fun i hi _ => h.block i hi⟩
theorem Chg.set {g : Nat} {a w : World} (h : Chg g a w) (k : Nat) (v : Value) : Chg g a (w.setCell ⟨g, k, none⟩ v) :=
  ⟨h.os, h.tape, h.output, by simpa [World.setCell] using h.size, fun i hi hg => (Below.heap_setCell w ⟨g, k, none⟩ v i hg).trans (h.block i hi hg)⟩
theorem Chg.drewN {g : Nat} {a w : World} (h : Chg g a w) (n : Nat) : Chg g a (w.drewN n) := ⟨h.os, h.tape, h.output, h.size, h.block⟩
theorem Chg.below {B g : Nat} {a w w' : World} (h : Below B a w) (k : Chg g w w') (hg : B ≤ g) (hB : B ≤ a.heap.size) : Below B a w' :=
  ⟨k.os.trans h.os, k.tape.trans h.tape, k.output.trans h.output, Nat.le_trans h.size k.size, fun i hi => (k.block i (Nat.lt_of_lt_of_le hi (Nat.le_trans hB h.size)) (by omega)).trans (h.block i hi)⟩
theorem Chg.bytes {g : Nat} {a b : World} {ao : Option Addr} {m c : Nat} {l : List UInt8} (h : Chg g a b) (hb : Bytes a ao m c l) (ha : ∀ ad, ao = some ad → ad.block ≠ g) : Bytes b ao m c l :=
  ⟨hb.len, hb.room, hb.none, fun ad had j u hu => by
    have hc := hb.cells ad had j u hu
    have hlt := World.block_lt_of_cell? a _ hc
    have hbk : (ad.add j).block = ad.block := by unfold Addr.add; split <;> rfl
    rw [World.cell?_of_block (w := a) (w' := b) (h.block _ hlt (by rw [hbk]; exact ha ad had))]
    exact hc⟩

theorem Bytes.drewN {w : World} {ao : Option Addr} {m c : Nat} {l : List UInt8} (h : Bytes w ao m c l) (n : Nat) : Bytes (w.drewN n) ao m c l := ⟨h.len, h.room, h.none, h.cells⟩
/-- A reader's cells: its bytes, how far they are read, the first error. -/
def rcs (sl : Value) (p f : Int) : Array Value := #[sl, .int .i64 p, .int .i64 f]
def Raw (w : World) (g : Nat) (sl : Value) (p f : Int) : Prop := w.heap[g]? = some (.cells (rcs sl p f) 101 (0, 0))
theorem Raw.lt {w : World} {g : Nat} {sl : Value} {p f : Int} (h : Raw w g sl p f) : g < w.heap.size := by
  rw [Raw] at h
  exact (Array.getElem?_eq_some_iff.1 h).1
theorem Raw.c0 {w : World} {g : Nat} {sl : Value} {p f : Int} (h : Raw w g sl p f) : w.cell? ⟨g, 0, none⟩ = some sl := by rw [cell_of_row w g 0 _ _ _ h]; rfl
theorem Raw.c1 {w : World} {g : Nat} {sl : Value} {p f : Int} (h : Raw w g sl p f) : w.cell? ⟨g, 1, none⟩ = some (.int .i64 p) := by rw [cell_of_row w g 1 _ _ _ h]; rfl
theorem Raw.c2 {w : World} {g : Nat} {sl : Value} {p f : Int} (h : Raw w g sl p f) : w.cell? ⟨g, 2, none⟩ = some (.int .i64 f) := by rw [cell_of_row w g 2 _ _ _ h]; rfl
theorem Raw.frozen {w : World} {g k : Nat} {sl : Value} {p f : Int} (h : Raw w g sl p f) : w.frozen? ⟨g, k, none⟩ = false := frozen_of_row w g k _ _ h
theorem Raw.set1 {w : World} {g : Nat} {sl : Value} {p f : Int} (h : Raw w g sl p f) (x : Int) : Raw (w.setCell ⟨g, 1, none⟩ (.int .i64 x)) g sl x f := by
  rw [Raw, heap_setCell_same w g 1 _ _ _ h]; rfl
theorem Raw.set2 {w : World} {g : Nat} {sl : Value} {p f : Int} (h : Raw w g sl p f) (x : Int) : Raw (w.setCell ⟨g, 2, none⟩ (.int .i64 x)) g sl p x := by
  rw [Raw, heap_setCell_same w g 2 _ _ _ h]; rfl

theorem Raw.drewN {w : World} {g : Nat} {sl : Value} {p f : Int} (h : Raw w g sl p f) (n : Nat) : Raw (w.drewN n) g sl p f := h
/-- The reader stands as the plain one. -/
structure Rdr (w : World) (g : Nat) (ao : Option Addr) (c : Nat) (l : List UInt8) (s : Rd) : Prop where
  raw : ∃ p : Nat, Raw w g (.slice ao l.length c) p s.e ∧ (s.e = 0 → p ≤ l.length ∧ s.d = l.drop p)
  bytes : Bytes w ao l.length c l
  apart : ∀ ad, ao = some ad → ad.block ≠ g
  cap : c ≤ maxLen
theorem Rdr.lt {w : World} {g : Nat} {ao : Option Addr} {c : Nat} {l : List UInt8} {s : Rd} (h : Rdr w g ao c l s) : g < w.heap.size := by
  obtain ⟨p, h, -⟩ := h.raw
  exact h.lt
theorem Rdr.below {w w' : World} {g B : Nat} {ao : Option Addr} {c : Nat} {l : List UInt8} {s : Rd} (h : Rdr w g ao c l s) (hb : Below B w w') (hB : w.heap.size ≤ B) : Rdr w' g ao c l s := by
  obtain ⟨p, h1, h2⟩ := h.raw
  refine ⟨⟨p, ?_, h2⟩, h.bytes.below hb hB, h.apart, h.cap⟩
  rw [Raw, hb.block g (Nat.lt_of_lt_of_le h1.lt hB)]
  exact h1

/-- A number, a text that was read: right, where there is no error. -/
def GotI (w : World) (g : Nat) (ao : Option Addr) (c : Nat) (l : List UInt8) (r : Int × Rd) (e : Ending) (w' : World) : Prop := ∃ v : Int, e = .returned (.int .i64 v) ∧ Rdr w' g ao c l r.2 ∧ (r.2.e = 0 → v = r.1) ∧ Chg g w w'
def GotT (w : World) (g : Nat) (ao : Option Addr) (c : Nat) (l : List UInt8) (r : List UInt8 × Rd) (e : Ending) (w' : World) : Prop := ∃ v : List UInt8, e = .returned (.string (sb v)) ∧ Rdr w' g ao c l r.2 ∧ (r.2.e = 0 → v = r.1) ∧ Chg g w w'

set_option maxHeartbeats 400000 in
theorem gmove_any (g : Nat) (sl : Value) (p f x y : Int) (w : World) (h : Raw w g sl p f) :
    Calls Try.prog 78 #[.pointer (some ⟨g, 0, none⟩), .int .i64 x, .int .i64 y] w fun e w' => e = .returned (.tuple #[]) ∧ Raw w' g sl x y ∧ Chg g w w' := by
  have c1 := h.c1
  have c2 := h.c2
  have f1 := h.frozen (k := 1)
  have f2 := h.frozen (k := 2)
  have H : Hid (Raw ((w.setCell ⟨g, 1, none⟩ (.int .i64 x)).setCell ⟨g, 2, none⟩ (.int .i64 y)) g sl x y) := (h.set1 x).set2 y
  clear h
  go_enter Try.func78, Try.ntmps78
  go_wp2
  go_end0
  exact ⟨rfl, H.out, ((Chg.refl g w).set 1 _).set 2 _⟩

theorem quiet_take {ao : Option Addr} {c p : Nat} {l : List UInt8} (hc : c ≤ maxLen) (hp : p ≤ l.length) (W : World) (hb : Bytes W ao l.length c l) :
    Calls Try.prog 77 #[.slice ao l.length c, .int .i64 (p : Int)] W fun e w' => e = .returned (.tuple #[.int .u64 (tkV (l.drop p) : Nat), .int .i64 ((if tkE (l.drop p) = 0 then p + tkW (l.drop p) else 0 : Nat) : Int), .int .i64 (tkE (l.drop p))]) ∧ ∃ n, w' = W.drewN n :=
  (take_mod ao l.length c l p W hb hc hp).mono fun _ _ ⟨h1, h2⟩ => ⟨h1, 0, h2⟩
theorem quiet_takeint {ao : Option Addr} {c p : Nat} {l : List UInt8} (hc : c ≤ maxLen) (hp : p ≤ l.length) (W : World) (hb : Bytes W ao l.length c l) :
    Calls Try.prog 87 #[.slice ao l.length c, .int .i64 (p : Int)] W fun e w' => e = .returned (.tuple #[.int .i64 (zag (tkV (l.drop p))), .int .i64 ((if tkE (l.drop p) = 0 then p + tkW (l.drop p) else 0 : Nat) : Int), .int .i64 (tkE (l.drop p))]) ∧ ∃ n, w' = W.drewN n :=
  (takeint_mod ao l.length c l p W hb hc hp).mono fun _ _ ⟨h1, h2⟩ => ⟨h1, 0, h2⟩
theorem quiet_taketext {ao : Option Addr} {c p : Nat} {l : List UInt8} (hc : c ≤ maxLen) (hp : p ≤ l.length) (W : World) (hb : Bytes W ao l.length c l) :
    Calls Try.prog 86 #[.slice ao l.length c, .int .i64 (p : Int), .int .i64 64] W fun e w' => e = .returned (.tuple #[.string (sb (txS 64 (l.drop p))), .int .i64 ((if txE 64 (l.drop p) = 0 then p + txW 64 (l.drop p) else 0 : Nat) : Int), .int .i64 (txE 64 (l.drop p))]) ∧ ∃ n, w' = W.drewN n :=
  (taketext_mod ao l.length c l p 64 W hb hc hp (by decide)).mono fun _ _ ⟨h1, h2⟩ => ⟨h1, 0, h2⟩
theorem three_ne : ¬ (3 : Int) = 0 := by decide
theorem tkW_in {p : Nat} {l : List UInt8} (h : p ≤ l.length) : p + tkW (l.drop p) ≤ l.length := by
  have := tkW_le (l.drop p)
  rw [List.length_drop] at this
  omega
theorem txW_in {p : Nat} {l : List UInt8} (h : p ≤ l.length) : p + txW 64 (l.drop p) ≤ l.length := by
  by_cases h0 : txE 64 (l.drop p) = 0
  · obtain ⟨h1, h2, h3⟩ := txE_ok h0
    have := tkW_le (l.drop p)
    rw [txW, if_pos h0]
    rw [List.length_drop, List.length_drop] at h3
    rw [List.length_drop] at this
    omega
  · rw [(tx_not h0).2]; omega

set_option maxHeartbeats 1000000 in
theorem gnumber_any (g : Nat) (ao : Option Addr) (c : Nat) (l : List UInt8) (s : Rd) (w : World) (h : Rdr w g ao c l s) :
    Calls Try.prog 71 #[.pointer (some ⟨g, 0, none⟩)] w fun e w' => GotI w g ao c l (rdN s) e w' := by
  obtain ⟨p, hr, hp⟩ := h.raw
  have c2 := hr.c2
  by_cases h0 : s.e ≠ 0
  · have e1 : rdN s = (0, s) := by rw [rdN, if_pos h0]
    rw [e1]
    have HR : Hid (Rdr w g ao c l s) := h
    clear h hr hp e1
    go_enter Try.func71, Try.ntmps71
    go_wp2
    go_ret
    exact ⟨0, rfl, HR.out, fun h => absurd h h0, Chg.refl g w⟩
  · have h0' : s.e = 0 := by omega
    obtain ⟨hpl, hd⟩ := hp h0'
    rw [h0'] at hr c2
    have c0 := hr.c0
    have c1 := hr.c1
    have HT : Hid _ := quiet_take (ao := ao) (c := c) (p := p) (l := l) h.cap hpl
    have HW : Hid (Raw w g (.slice ao l.length c) p 0) := hr
    have HY : Hid (Bytes w ao l.length c l) := h.bytes
    have HA : Hid _ := h.apart
    have HC : Hid _ := h.cap
    have hE := tkE_range (l.drop p)
    have hV := tkV_lt (l.drop p)
    have hN := tk_not (d := l.drop p)
    have hI := tkW_in hpl
    have HS : Hid (rdN s = if nmE (l.drop p) ≠ 0 then ((0 : Int), (⟨l.drop p, nmE (l.drop p)⟩ : Rd)) else (((tkV (l.drop p) : Nat) : Int), (⟨(l.drop p).drop (tkW (l.drop p)), 0⟩ : Rd))) := by
      show _ = _
      rw [rdN, if_neg h0, hd]
    have HN : Hid (nmE (l.drop p) = if tkE (l.drop p) ≠ 0 then tkE (l.drop p) else if 4611686018427387904 < tkV (l.drop p) then 3 else 0) := rfl
    clear h hr hp hd h0 h0'
    generalize nmE (l.drop p) = n at *
    generalize hEe : tkE (l.drop p) = E at *
    generalize hVe : tkV (l.drop p) = V at *
    generalize hWe : tkW (l.drop p) = D at *
    clear hEe hVe hWe
    by_cases hz : E = 0
    · subst hz
      by_cases hb : 4611686018427387904 < V
      · have hn : n = 3 := by rw [HN.out, if_neg (by simp), if_pos hb]
        subst hn
        rw [HS.out]
        clear HS HN hN
        go_enter Try.func71, Try.ntmps71
        go_wp2_with fail
        go_quiet (first | (go_at_call 77; refine Calls.quiet_of (HT.out _ ?_); exact HY.out.drewN _))
        have hr := HW.out.drewN nq
        have C0 : Hid (Chg g w (w.drewN nq)) := (Chg.refl g w).drewN nq
        clear c0 c1 c2 HT
        go_wp2_with fail
        refine (gmove_any g _ _ _ _ _ _ hr).mono ?_
        rintro e' w1 ⟨rfl, r1, k1⟩
        have HQ : Hid (Chg g w w1) := C0.out.trans k1
        have HB : Hid (Bytes w1 ao l.length c l) := HQ.out.bytes HY.out HA.out
        have HR : Hid _ := r1
        clear hr k1 r1
        go_wp2
        go_ret
        exact ⟨_, rfl, ⟨⟨p + D, HR.out, fun h => absurd h three_ne⟩, HB.out, HA.out, HC.out⟩, fun h => absurd h three_ne, HQ.out⟩
      · have hn : n = 0 := by rw [HN.out, if_neg (by simp), if_neg hb]
        subst hn
        rw [HS.out]
        clear HS HN hN
        go_enter Try.func71, Try.ntmps71
        go_wp2_with fail
        go_quiet (first | (go_at_call 77; refine Calls.quiet_of (HT.out _ ?_); exact HY.out.drewN _))
        have hr := HW.out.drewN nq
        have C0 : Hid (Chg g w (w.drewN nq)) := (Chg.refl g w).drewN nq
        clear c0 c1 c2 HT
        go_wp2_with fail
        refine (gmove_any g _ _ _ _ _ _ hr).mono ?_
        rintro e' w1 ⟨rfl, r1, k1⟩
        have HQ : Hid (Chg g w w1) := C0.out.trans k1
        have HB : Hid (Bytes w1 ao l.length c l) := HQ.out.bytes HY.out HA.out
        have HR : Hid _ := r1
        clear hr k1 r1
        go_wp2
        go_ret
        refine ⟨_, rfl, ⟨⟨p + D, HR.out, fun _ => ⟨hI, rfl⟩⟩, HB.out, HA.out, HC.out⟩, fun _ => rfl, HQ.out⟩
    · obtain ⟨rfl, rfl⟩ := hN hz
      have hn : n = E := by rw [HN.out, if_pos hz]
      subst hn
      rw [HS.out, if_pos hz]
      clear HS HN hN
      go_enter Try.func71, Try.ntmps71
      go_wp2_with fail
      go_quiet (first | (go_at_call 77; refine Calls.quiet_of (HT.out _ ?_); exact HY.out.drewN _))
      have hr := HW.out.drewN nq
      have C0 : Hid (Chg g w (w.drewN nq)) := (Chg.refl g w).drewN nq
      clear c0 c1 c2 HT
      go_wp2_with fail
      refine (gmove_any g _ _ _ _ _ _ hr).mono ?_
      rintro e' w1 ⟨rfl, r1, k1⟩
      have HQ : Hid (Chg g w w1) := C0.out.trans k1
      have HB : Hid (Bytes w1 ao l.length c l) := HQ.out.bytes HY.out HA.out
      have HR : Hid _ := r1
      clear hr k1 r1
      go_wp2
      go_ret
      refine ⟨_, rfl, ⟨⟨0, HR.out, fun h => absurd h hz⟩, HB.out, HA.out, HC.out⟩, fun h => absurd h hz, HQ.out⟩

set_option maxHeartbeats 1000000 in
theorem gsigned_any (g : Nat) (ao : Option Addr) (c : Nat) (l : List UInt8) (s : Rd) (w : World) (h : Rdr w g ao c l s) :
    Calls Try.prog 81 #[.pointer (some ⟨g, 0, none⟩)] w fun e w' => GotI w g ao c l (rdI s) e w' := by
  obtain ⟨p, hr, hp⟩ := h.raw
  have c2 := hr.c2
  by_cases h0 : s.e ≠ 0
  · have e1 : rdI s = ((0 : Int), s) := by rw [rdI, if_pos h0]
    rw [e1]
    have HR : Hid (Rdr w g ao c l s) := h
    clear h hr hp e1
    go_enter Try.func81, Try.ntmps81
    go_wp2
    go_ret
    exact ⟨(0 : Int), rfl, HR.out, fun h => absurd h h0, Chg.refl g w⟩
  · have h0' : s.e = 0 := by omega
    obtain ⟨hpl, hd⟩ := hp h0'
    rw [h0'] at hr c2
    have c0 := hr.c0
    have c1 := hr.c1
    have HT : Hid _ := quiet_takeint (ao := ao) (c := c) (p := p) (l := l) h.cap hpl
    have HW : Hid (Raw w g (.slice ao l.length c) p 0) := hr
    have HY : Hid (Bytes w ao l.length c l) := h.bytes
    have HA : Hid _ := h.apart
    have HC : Hid _ := h.cap
    have hE := tkE_range (l.drop p)
    have hI := tkW_in hpl
    have HS : Hid (rdI s = if tkE (l.drop p) ≠ 0 then ((0 : Int), (⟨l.drop p, tkE (l.drop p)⟩ : Rd)) else (zag (tkV (l.drop p)), (⟨(l.drop p).drop (tkW (l.drop p)), 0⟩ : Rd))) := by
      show _ = _
      rw [rdI, if_neg h0, hd]
    clear h hr hp hd h0 h0'
    generalize tkE (l.drop p) = E at *
    generalize zag (tkV (l.drop p)) = V at *
    generalize tkW (l.drop p) = D at *
    by_cases hz : E = 0
    · subst hz
      rw [HS.out]
      clear HS
      go_enter Try.func81, Try.ntmps81
      go_wp2_with fail
      go_quiet (first | (go_at_call 87; refine Calls.quiet_of (HT.out _ ?_); exact HY.out.drewN _))
      have hr := HW.out.drewN nq
      have C0 : Hid (Chg g w (w.drewN nq)) := (Chg.refl g w).drewN nq
      clear c0 c1 c2 HT
      go_wp2_with fail
      refine (gmove_any g _ _ _ _ _ _ hr).mono ?_
      rintro e' w1 ⟨rfl, r1, k1⟩
      have HQ : Hid (Chg g w w1) := C0.out.trans k1
      have HB : Hid (Bytes w1 ao l.length c l) := HQ.out.bytes HY.out HA.out
      have HR : Hid _ := r1
      clear hr k1 r1
      go_wp2
      go_ret
      exact ⟨_, rfl, ⟨⟨p + D, HR.out, fun _ => ⟨hI, rfl⟩⟩, HB.out, HA.out, HC.out⟩, fun _ => rfl, HQ.out⟩
    · rw [HS.out, if_pos hz]
      clear HS
      go_enter Try.func81, Try.ntmps81
      go_wp2_with fail
      go_quiet (first | (go_at_call 87; refine Calls.quiet_of (HT.out _ ?_); exact HY.out.drewN _))
      have hr := HW.out.drewN nq
      have C0 : Hid (Chg g w (w.drewN nq)) := (Chg.refl g w).drewN nq
      clear c0 c1 c2 HT
      go_wp2_with fail
      refine (gmove_any g _ _ _ _ _ _ hr).mono ?_
      rintro e' w1 ⟨rfl, r1, k1⟩
      have HQ : Hid (Chg g w w1) := C0.out.trans k1
      have HB : Hid (Bytes w1 ao l.length c l) := HQ.out.bytes HY.out HA.out
      have HR : Hid _ := r1
      clear hr k1 r1
      go_wp2
      go_ret
      exact ⟨_, rfl, ⟨⟨0, HR.out, fun h => absurd h hz⟩, HB.out, HA.out, HC.out⟩, fun h => absurd h hz, HQ.out⟩

set_option maxHeartbeats 1000000 in
theorem gtext_any (g : Nat) (ao : Option Addr) (c : Nat) (l : List UInt8) (s : Rd) (w : World) (h : Rdr w g ao c l s) :
    Calls Try.prog 80 #[.pointer (some ⟨g, 0, none⟩)] w fun e w' => GotT w g ao c l (rdT s) e w' := by
  obtain ⟨p, hr, hp⟩ := h.raw
  have c2 := hr.c2
  by_cases h0 : s.e ≠ 0
  · have e1 : rdT s = (([] : List UInt8), s) := by rw [rdT, if_pos h0]
    rw [e1]
    have HR : Hid (Rdr w g ao c l s) := h
    clear h hr hp e1
    go_enter Try.func80, Try.ntmps80
    go_wp2
    go_ret
    exact ⟨([] : List UInt8), rfl, HR.out, fun h => absurd h h0, Chg.refl g w⟩
  · have h0' : s.e = 0 := by omega
    obtain ⟨hpl, hd⟩ := hp h0'
    rw [h0'] at hr c2
    have c0 := hr.c0
    have c1 := hr.c1
    have HT : Hid _ := quiet_taketext (ao := ao) (c := c) (p := p) (l := l) h.cap hpl
    have HW : Hid (Raw w g (.slice ao l.length c) p 0) := hr
    have HY : Hid (Bytes w ao l.length c l) := h.bytes
    have HA : Hid _ := h.apart
    have HC : Hid _ := h.cap
    have hE := txE_range 64 (l.drop p)
    have hI := txW_in hpl
    have HS : Hid (rdT s = if txE 64 (l.drop p) ≠ 0 then (([] : List UInt8), (⟨l.drop p, txE 64 (l.drop p)⟩ : Rd)) else (txS 64 (l.drop p), (⟨(l.drop p).drop (txW 64 (l.drop p)), 0⟩ : Rd))) := by
      show _ = _
      rw [rdT, if_neg h0, hd]
    clear h hr hp hd h0 h0'
    generalize txE 64 (l.drop p) = E at *
    generalize txS 64 (l.drop p) = V at *
    generalize txW 64 (l.drop p) = D at *
    by_cases hz : E = 0
    · subst hz
      rw [HS.out]
      clear HS
      go_enter Try.func80, Try.ntmps80
      go_wp2_with fail
      go_quiet (first | (go_at_call 86; refine Calls.quiet_of (HT.out _ ?_); exact HY.out.drewN _))
      have hr := HW.out.drewN nq
      have C0 : Hid (Chg g w (w.drewN nq)) := (Chg.refl g w).drewN nq
      clear c0 c1 c2 HT
      go_wp2_with fail
      refine (gmove_any g _ _ _ _ _ _ hr).mono ?_
      rintro e' w1 ⟨rfl, r1, k1⟩
      have HQ : Hid (Chg g w w1) := C0.out.trans k1
      have HB : Hid (Bytes w1 ao l.length c l) := HQ.out.bytes HY.out HA.out
      have HR : Hid _ := r1
      clear hr k1 r1
      go_wp2
      go_ret
      exact ⟨_, rfl, ⟨⟨p + D, HR.out, fun _ => ⟨hI, rfl⟩⟩, HB.out, HA.out, HC.out⟩, fun _ => rfl, HQ.out⟩
    · rw [HS.out, if_pos hz]
      clear HS
      go_enter Try.func80, Try.ntmps80
      go_wp2_with fail
      go_quiet (first | (go_at_call 86; refine Calls.quiet_of (HT.out _ ?_); exact HY.out.drewN _))
      have hr := HW.out.drewN nq
      have C0 : Hid (Chg g w (w.drewN nq)) := (Chg.refl g w).drewN nq
      clear c0 c1 c2 HT
      go_wp2_with fail
      refine (gmove_any g _ _ _ _ _ _ hr).mono ?_
      rintro e' w1 ⟨rfl, r1, k1⟩
      have HQ : Hid (Chg g w w1) := C0.out.trans k1
      have HB : Hid (Bytes w1 ao l.length c l) := HQ.out.bytes HY.out HA.out
      have HR : Hid _ := r1
      clear hr k1 r1
      go_wp2
      go_ret
      exact ⟨_, rfl, ⟨⟨0, HR.out, fun h => absurd h hz⟩, HB.out, HA.out, HC.out⟩, fun h => absurd h hz, HQ.out⟩
end Go.Proofs.Ythdhnilfkpbmpaa
