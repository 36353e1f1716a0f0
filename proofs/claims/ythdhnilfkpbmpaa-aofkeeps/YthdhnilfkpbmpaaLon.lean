/-
  What Open comes to.
-/
import Derived.Test.YthdhnilfkpbmpaaLrd
namespace Go.Proofs.Ythdhnilfkpbmpaa
set_option maxRecDepth 100000
set_option linter.unusedVariables false
open Go.RowKit

/-- A step of a thing that lies ahead of the others, seen from behind. -/
theorem Step.out {g gd B : Nat} {v v' vd : Value} {w w' : World} (h : Step g v v' w w') (hB : B ≤ w.heap.size) (hg : B ≤ g) (hv : ∀ k, v.ownBlock = some k → B ≤ k) : Below B w w' := h.below hB hg hv
theorem own_val {w : World} {B n : Nat} {v : Value} {l : List UInt8} (h : w.ownsRow B 5 1 v n (bs l)) : ∃ ao c, v = .slice ao n c ∧ Bytes w ao n c l ∧ c ≤ maxLen := by
  have hl : l.length = n := by have := h.1; rw [bs_length] at this; omega
  rcases h.2 with ⟨rfl, h0⟩ | ⟨g', cap, cur, rfl, hb, hg, hnc, hcm, hcs, htake⟩
  · subst h0
    have h1 : l = [] := List.eq_nil_of_length_eq_zero hl
    subst h1
    exact ⟨none, 0, rfl, Bytes.nil w, Nat.zero_le _⟩
  · exact ⟨some ⟨g', 0, none⟩, cap, rfl, Bytes.own h, hcm⟩

/-- What Open leaves. -/
def Opened (w w' : World) (e : Ending) (base gd : Nat) (vd : Value) (l : List UInt8) (r : Nat) : Prop :=
  ∃ g vE vd', e = .returned (.tuple #[.pointer (some ⟨g, 0, none⟩), .int .i64 0]) ∧ w.heap.size ≤ g ∧ (∀ k, vE.ownBlock = some k → w.heap.size ≤ k) ∧
    Lg w' base g (some ⟨gd, 0, none⟩) vE (rd l).b (rd l).s (rd l).E (rd l).E.length ∧ Dsk w' base gd vd' (l.take (rd l).n) (l.take (rd l).n).length r ∧ Step gd vd vd' w w'

set_option maxHeartbeats 4000000 in
theorem open_any {w : World} {base gd : Nat} {vd : Value} {l : List UInt8} {f r : Nat} (hD : Dsk w base gd vd l f r) (hbase : base ≤ w.heap.size) :
    Calls Try.prog 18 #[.pointer (some ⟨gd, 0, none⟩)] w fun e w' => Opened w w' e base gd vd l r := by
  obtain ⟨B0, S0, E0, hrd, hfine, hnl, htk⟩ := rd_bytes l
  have hn : (rd l).n ≤ l.length := by rw [hrd]; exact hnl
  have htop := hD.top
  have hlen := hD.len
  clear hrd hfine hnl htk
  have hL0 := Lg.new w base (some ⟨gd, 0, none⟩) hbase
  have hb0 : Below w.heap.size w (w.alloc (.cells #[.pointer (some ⟨gd, 0, none⟩), .string ⟨#[]⟩, .bool false, .slice none 0 0, .int .i64 0] 59)) := (Below.refl _ _).alloc (Nat.le_refl _) _
  have hD0 := hD.below hb0 (Nat.le_refl _)
  have hltg := hL0.lt
  unfold Opened
  generalize hR : rd l = R at *
  go_enter Try.func18, Try.ntmps18
  go_wp2_with fail
  have H0 : Hid _ := hb0
  generalize (w.alloc (.cells #[.pointer (some ⟨gd, 0, none⟩), .string ⟨#[]⟩, .bool false, .slice none 0 0, .int .i64 0] 59)) = w1 at *
  refine (bytes_any _ _ _ _ _ _ _ _ _ (orz_some gd _) hD0).mono ?_
  rintro e w2 ⟨vf, rfl, hrow, hb2⟩
  obtain ⟨ao, cf, rfl, hBy, hcf⟩ := own_val hrow
  have hL2 := hL0.below hb2 (Nat.le_refl _)
  have hD2 := hD0.below hb2 (Nat.le_refl _)
  have HR : Hid _ := lread_any ao l.length cf l hL2 (Nat.le_trans hbase (Nat.le_trans H0.out.size hb2.size)) hBy hcf (by omega)
  rw [hR] at HR
  clear hrow hBy hL0 hD0 hD
  generalize hnn : l.length = n at *
  go_wp2_with fail
  refine Calls.mono HR.out ?_
  rintro e w3 ⟨vE, rfl, hL3, hS3⟩
  have hD3 := hD2.log hL2 hS3
  have hown3 : ∀ k, vE.ownBlock = some k → w1.heap.size ≤ k := fun k hk => by
    rcases hS3.own k hk with h | h
    · cases h
    · exact Nat.le_trans hb2.size h
  have B3 : Hid (Below w.heap.size w w3) := by
    have h1 : Below w.heap.size w w2 := H0.out.trans (hb2.mono H0.out.size)
    exact h1.trans (hS3.below h1.size (Nat.le_refl _) (fun k hk => by cases hk))
  have hsz : w.heap.size ≤ w1.heap.size := H0.out.size
  clear HR hL2 hD2 hS3 hb2
  by_cases hcut : R.n < n
  · have hci : (R.n : Int) < (n : Int) := by omega
    have HC : Hid _ := cut_ok (some ⟨gd, 0, none⟩) R.n base gd vd l f r w3 w3 (orz_some gd _) hD3 (by omega)
    have hR0 : R.n ≤ 65536 := by omega
    generalize hm : R.n = m at *
    go_wp2_with fail
    refine Calls.mono HC.out ?_
    rintro e w4 ⟨rfl, vd', hD4, hS4⟩
    have hL4 := hL3.disk hD3 hS4
    clear HC hL3 hD3
    go_wp2_with fail
    refine (lsync_any _ _ _ _ _ _ _ _ _ _ _ _ _ _ _ _ _ (lorz_some _ _) (orz_some gd _) hL4 hL4 hD4).mono ?_
    rintro e w5 ⟨rfl, hL5, hD5, w6, hS6, hS7⟩
    clear hL4 hD4
    go_wp2
    go_ret2
    refine ⟨w.heap.size, vE, vd', rfl, Nat.le_refl _, fun k hk => Nat.le_trans hsz (hown3 k hk), hL5, by rw [hm]; exact hD5, ?_⟩
    have hq : Step gd vd vd' w w6 := (Step.quiet gd vd B3.out).trans (hS4.trans hS6)
    refine ⟨hS7.os.trans hq.os, hS7.tape.trans hq.tape, hS7.output.trans hq.output, Nat.le_trans hq.size hS7.size, fun k hk h1 h2 => ?_, hq.own⟩
    rw [hS7.block k (Nat.lt_of_lt_of_le hk hq.size) (by omega) (fun e => by have := hown3 k e; omega)]
    exact hq.block k hk h1 h2
  · have hci : ¬ (R.n : Int) < (n : Int) := by omega
    have htl : l.take R.n = l := List.take_of_length_le (by omega)
    have hR0 : R.n ≤ 65536 := by omega
    generalize hm : R.n = m at *
    go_wp2_with fail
    refine (lsync_any _ _ _ _ _ _ _ _ _ _ _ _ _ _ _ _ _ (lorz_some _ _) (orz_some gd _) hL3 hL3 hD3).mono ?_
    rintro e w5 ⟨rfl, hL5, hD5, w6, hS6, hS7⟩
    clear hL3 hD3
    go_wp2
    go_ret2
    refine ⟨w.heap.size, vE, vd, rfl, Nat.le_refl _, fun k hk => Nat.le_trans hsz (hown3 k hk), hL5, by rw [hm, htl]; exact hD5, ?_⟩
    have hq : Step gd vd vd w w6 := (Step.quiet gd vd B3.out).trans hS6
    refine ⟨hS7.os.trans hq.os, hS7.tape.trans hq.tape, hS7.output.trans hq.output, Nat.le_trans hq.size hS7.size, fun k hk h1 h2 => ?_, hq.own⟩
    rw [hS7.block k (Nat.lt_of_lt_of_le hk hq.size) (by omega) (fun e => by have := hown3 k e; omega)]
    exact hq.block k hk h1 h2
set_option maxHeartbeats 400000 in
theorem open_nil (w : World) : Calls Try.prog 18 #[.pointer none] w fun e w' => e = .returned (.tuple #[.pointer none, .int .i64 1]) ∧ w' = w := by
  go_enter Try.func18, Try.ntmps18
  go_wp2
  go_ret2
  exact ⟨rfl, rfl⟩
end Go.Proofs.Ythdhnilfkpbmpaa
