/-
  What the reader's ways kind and dot come to.
-/
import Derived.Test.YthdhnilfkpbmpaaRdr
import Derived.Test.YthdhnilfkpbmpaaUse
import Derived.Deep.Cut
namespace Go.Proofs.Ythdhnilfkpbmpaa
set_option maxRecDepth 100000

open Go.RowKit

theorem Chg.lies {g k : Nat} {a b : World} {e : Ev} (h : Chg g a b) (hl : LiesO a k e) (hk : k ≠ g) : LiesO b k e := by
  rw [LiesO, h.block k hl.lt hk]; exact hl
theorem Chg.liesE {g k : Nat} {a b : World} {e : Ev} (h : Chg g a b) (hl : LiesE a k e) (hk : k ≠ g) : LiesE b k e := by
  rw [LiesE, h.block k hl.lt hk]; exact hl
theorem Chg.liesD {g k : Nat} {a b : World} {r n : Int} (h : Chg g a b) (hl : LiesD a k r n) (hk : k ≠ g) : LiesD b k r n := by
  rw [LiesD, h.block k hl.lt hk]; exact hl
theorem Rdr.alloc {w : World} {g : Nat} {ao : Option Addr} {c : Nat} {l : List UInt8} {s : Rd} (h : Rdr w g ao c l s) (o : Obj) : Rdr (w.alloc o) g ao c l s :=
  h.below ((Below.refl w.heap.size w).alloc (Nat.le_refl _) o) (Nat.le_refl _)
theorem Chg.alloc {g : Nat} {a w : World} (h : Chg g a w) (o : Obj) : Chg g a (w.alloc o) := h.trans (Chg.of ((Below.refl w.heap.size w).alloc (Nat.le_refl _) o))

/-- Reading a kind. -/
def k5 (s : Rd) : Int × Rd := ((rdN s).1, known (rdN s).1 (rdN s).2)

set_option maxHeartbeats 1000000 in
theorem gkind_any (g : Nat) (ao : Option Addr) (c : Nat) (l : List UInt8) (s : Rd) (w : World) (h : Rdr w g ao c l s) :
    Calls Try.prog 79 #[.pointer (some ⟨g, 0, none⟩)] w fun e w' => GotI w g ao c l (k5 s) e w' := by
  have HG : Hid _ := gnumber_any g ao c l s w h
  have HK : Hid (k5 s = ((rdN s).1, known (rdN s).1 (rdN s).2)) := rfl
  clear h
  generalize rdN s = r at *
  obtain ⟨v, t⟩ := r
  generalize k5 s = q at *
  go_enter Try.func79, Try.ntmps79
  go_wp2_with fail
  refine Calls.mono HG.out ?_
  rintro e w1 ⟨x, rfl, hr, hx, hc⟩
  obtain ⟨p, raw, hp⟩ := hr.raw
  have HR : Hid (Rdr w1 g ao c l t) := hr
  have HC : Hid (Chg g w w1) := hc
  have HW : Hid (Raw w1 g (.slice ao l.length c) p t.e) := raw
  have c2 := raw.c2
  have f2 := raw.frozen (k := 2)
  simp only at c2 hx hp
  clear hr hc raw HG
  by_cases h0 : t.e = 0
  · obtain rfl := hx h0
    have HP : Hid _ := hp h0
    rw [h0] at c2
    have HT : Hid (t.e = 0) := h0
    clear hx hp h0
    go_wp2_with fail
    refine (iskind_any x _).mono ?_
    rintro e2 w2 ⟨rfl, hw⟩
    obtain rfl := hw.symm
    rcases Bool.eq_false_or_eq_true (iskindE x) with hk | hk
    · rw [hk]
      have HQ : Hid (q = (x, t)) := by
        obtain ⟨k1, k2⟩ := of_decide_eq_true hk
        show _ = _
        rw [HK.out]
        simp only [known]
        rw [if_neg (by omega)]
      clear hk
      go_wp2
      go_ret
      rw [HQ.out]
      exact ⟨_, rfl, HR.out, fun _ => rfl, HC.out⟩
    · rw [hk]
      have HQ : Hid (q = (x, ⟨t.d, 3⟩)) := by
        have k1 := of_decide_eq_false hk
        have := HT.out
        show _ = _
        rw [HK.out]
        simp only [known]
        rw [if_pos ⟨this, by omega⟩]
      clear hk
      go_wp2
      go_ret
      rw [HQ.out]
      exact ⟨_, rfl, ⟨⟨p, HW.out.set2 3, fun h => absurd h three_ne⟩, ((Chg.refl g w1).set 2 (.int .i64 3)).bytes HR.out.bytes HR.out.apart, HR.out.apart, HR.out.cap⟩, fun h => absurd h three_ne, HC.out.set 2 _⟩
  · have HQ : Hid (q = (v, t)) := by
      show _ = _
      rw [HK.out]
      simp only [known]
      rw [if_neg (by omega)]
    have h0' : (t.e == 0) = false := by simpa using h0
    clear hx hp
    go_wp2
    go_ret
    rw [HQ.out]
    exact ⟨_, rfl, HR.out, fun h => absurd h h0, HC.out⟩

/-- A dot that was read. -/
def GotD (w : World) (g : Nat) (ao : Option Addr) (c : Nat) (l : List UInt8) (s : Rd) (e : Ending) (w' : World) : Prop :=
  ∃ r n : Int, e = .returned (.agg (dotc r n)) ∧ Rdr w' g ao c l (rdN (rdN s).2).2 ∧ ((rdN (rdN s).2).2.e = 0 → r = (rdN s).1 ∧ n = (rdN (rdN s).2).1) ∧ Chg g w w'
theorem ret_dot {fn : Func} {R : Ending → World → Prop} {a : Act} {w : World} {p : Tmp} {g : Nat} {r n : Int} (h : fn.results = #[.cell p 24]) (hp : a.tmps.getD p undef = .pointer (some ⟨g, 0, none⟩))
    (hd : a.defers = []) (hg : LiesD w g r n) (hR : R (.returned (.agg (dotc r n))) w) : bodyPost Try.prog fn R .ret a w :=
  bodyPost_ret (results_cell_row h a.tmps w g 24 _ (0, 0) _ hp hg Try.underlying24 rfl (sizeD r n)) hd hR
theorem Chg.row {g k : Nat} {a w : World} (h : Chg g a w) (hk : a.heap.size ≤ k) (cs : Array Value) : Chg g a (w.setRow k cs) :=
  ⟨h.os, h.tape, h.output, by simpa [World.setRow] using h.size, fun i hi hg => (setRow_other _ _ i _ (by omega)).trans (h.block i hi hg)⟩
theorem Rdr.row {w : World} {g k : Nat} {ao : Option Addr} {c : Nat} {l : List UInt8} {s : Rd} (h : Rdr w g ao c l s) (cs : Array Value) (hk : k ≠ g) (ha : ∀ ad, ao = some ad → ad.block ≠ k) : Rdr (w.setRow k cs) g ao c l s := by
  obtain ⟨p, h1, h2⟩ := h.raw
  refine ⟨⟨p, ?_, h2⟩, ⟨h.bytes.len, h.bytes.room, h.bytes.none, fun ad had j u hu => ?_⟩, h.apart, h.cap⟩
  · rw [Raw, setRow_other _ _ g _ (Ne.symm hk)]; exact h1
  · have hbk : (ad.add j).block = ad.block := by unfold Addr.add; split <;> rfl
    rw [World.cell?_of_block (w := w) (setRow_other w k _ cs (by rw [hbk]; exact ha ad had))]
    exact h.bytes.cells ad had j u hu

/-- The bytes lie ahead of a block. -/
def Ahead (ao : Option Addr) (B : Nat) : Prop := ∀ ad, ao = some ad → ad.block < B
theorem Ahead.ne {ao : Option Addr} {B k : Nat} (h : Ahead ao B) (hk : B ≤ k) : ∀ ad, ao = some ad → ad.block ≠ k := fun ad had => by
  have := h ad had
  omega

set_option maxHeartbeats 1000000 in
theorem gdot_any (g : Nat) (ao : Option Addr) (c : Nat) (l : List UInt8) (s : Rd) (w : World) (h : Rdr w g ao c l s) (ha : Ahead ao w.heap.size) :
    Calls Try.prog 70 #[.pointer (some ⟨g, 0, none⟩)] w fun e w' => GotD w g ao c l s e w' := by
  have hg := h.lt
  have hD := liesD_new w 0 0
  have C0 : Hid (Chg g w (w.alloc (.cells (dotc 0 0) 24))) := (Chg.refl g w).alloc _
  have HG : Hid _ := gnumber_any g ao c l s _ (h.alloc (.cells (dotc 0 0) 24))
  have HA : Hid (Ahead ao w.heap.size) := ha
  clear h ha
  go_enter Try.func70, Try.ntmps70
  go_wp2_with fail
  refine Calls.mono HG.out ?_
  rintro e w1 ⟨x, rfl, hr, hx, hc⟩
  have hD1 := hc.liesD hD (by omega)
  have C1 : Hid (Chg g w w1) := C0.out.trans hc
  have HX : Hid _ := hx
  have HH : Hid _ := gnumber_any g ao c l _ _ hr
  clear hD hc C0 HG hr hx
  go_wp2_with fail
  refine Calls.mono HH.out ?_
  rintro e w2 ⟨y, rfl, hr, hy, hc⟩
  have hD2 := hc.liesD hD1 (by omega)
  have C2 : Hid (Chg g w w2) := C1.out.trans hc
  have HY : Hid _ := hy
  have HR : Hid (Rdr w2 g ao c l (rdN (rdN s).2).2) := hr
  clear hD1 hc C1 HH hr hy
  go_wp2_with (refine store_dot rfl rfl rfl rfl hD2 ?_)
  refine ret_dot rfl rfl rfl (hD2.row x y) ?_
  exact ⟨x, y, rfl, HR.out.row _ (by omega) (HA.out.ne (Nat.le_refl _)), fun h => ⟨HX.out (rdN_ok h).1, HY.out h⟩, C2.out.row (Nat.le_refl _) _⟩
end Go.Proofs.Ythdhnilfkpbmpaa
