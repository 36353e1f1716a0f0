/-
  AofRewrites, walked.
-/
import Derived.Test.YthdhnilfkpbmpaaLkp
namespace Go.Proofs.Ythdhnilfkpbmpaa
set_option maxRecDepth 100000
set_option linter.unusedVariables false
open Go.RowKit

/-- The statement's argument in the midst of the script. -/
def ArgsR (O : Option Addr) (m c : Nat) (s : List UInt8) (ao : Option Addr) (n cn : Nat) (x y z : Int) : Array Value := #[.slice O m c, .string (sb s), .slice ao n cn, .int .i64 x, .int .i64 y, .int .i64 z]

set_option maxHeartbeats 4000000 in
theorem rewrites_walk (a : Option Addr) (m c : Nat) (O : Nat → Cl) (s : List UInt8) (ao : Option Addr) (n cn : Nat) (L : List Ev) (x y z : Int) (w : World) (hO : IsCls w a m O) (hs : s.length ≤ maxLen) (hL : Evs w ao n cn L) :
    Calls Try.prog 7 #[.slice a m c, .string (sb s), .slice ao n cn, .int .i64 x, .int .i64 y, .int .i64 z] w fun e w' => e = .returned (.bool true) ∧ Below w.heap.size w w' := by
  have hsz : (sb s).size = s.length := sb_size s
  have hn9 : n ≤ 9223372036854775807 := by have := hL.room; have := hL.top; unfold maxLen at this; omega
  unfold maxLen at hs
  go_enter Try.func7, Try.ntmps7
  go_wp2_with fail
  refine (awake_any _).mono ?_
  rintro e w1 ⟨rfl, hb1⟩
  have hO1 := hO.below hb1 (Nat.le_refl _)
  go_wp2_with fail
  refine (few_any _ _ _ _ _ hO1).mono ?_
  rintro e w2 ⟨hw2, hcase⟩
  obtain rfl := hw2.symm
  rcases hcase with ⟨rfl, hfew⟩ | rfl
  rotate_left
  · go_wp2_with fail
    refine (awake_any _).mono ?_
    rintro e w3 ⟨rfl, hb3⟩
    go_wp2
    go_ret
    exact ⟨rfl, hb1.trans (hb3.mono hb1.size)⟩
  by_cases hs1 : 1000 < s.length
  · have hs2 : (1000 : Int) < (s.length : Int) := by omega
    go_wp2_with fail
    refine (awake_any _).mono ?_
    rintro e w3 ⟨rfl, hb3⟩
    go_wp2
    go_ret
    exact ⟨rfl, hb1.trans (hb3.mono hb1.size)⟩
  have hs2 : ¬ (1000 : Int) < (s.length : Int) := by omega
  by_cases hn1 : 100 < n
  · have hn2 : (100 : Int) < (n : Int) := by omega
    go_wp2_with fail
    refine (awake_any _).mono ?_
    rintro e w3 ⟨rfl, hb3⟩
    go_wp2
    go_ret
    exact ⟨rfl, hb1.trans (hb3.mono hb1.size)⟩
  have hn2 : ¬ (100 : Int) < (n : Int) := by omega
  have hL1 := hL.below hb1 (Nat.le_refl _)
  have hm100 := hfew.1
  clear hO hL
  go_wp2_with fail
  refine (kept_begun _).mono ?_
  rintro e w3 ⟨g, gd, vE, vd, rfl, hK, hb3⟩
  go_wp2_with fail
  go_loopw [47] (fun i wr => ∃ (k : Nat) (vE vd : Value) (b : Bool) (t : List UInt8) (E : List Ev) (f : Nat), k ≤ m ∧ i = .int .i64 (k : Int) ∧ Kept wr w1.heap.size g gd vE vd b t E f ∧ Below w1.heap.size w1 wr) (fun i _ => m - (intOf i).toNat)
  case atStart => exact ⟨0, vE, vd, _, _, _, _, Nat.zero_le _, rfl, hK, hb3⟩
  case round =>
    obtain ⟨k, vE, vd, b, t, E, f, hk, rfl, hK, hB⟩ := hrel
    by_cases hkm : k < m
    · have hOr := hO1.below hB (Nat.le_refl _)
      rcases hOr.2 with h0 | ⟨bo, off, rfl, hbo, hall⟩
      · omega
      obtain ⟨hr, hcl⟩ := hall k hkm
      have ck := cl_k hr
      have re := range_ev hr hcl.e
      have hwe := hcl.e
      have hl16 := hwe.1
      clear hOr hall hr hcl
      by_cases hk1 : (O k).kind = 1
      · rw [hk1] at ck
        have HA : Hid _ := hK.add hB.size (O k).e hwe
        generalize hoe : (O k).e = oe at *
        go_wp2_with (refine load_ev_mid rfl rfl rfl re hl16 ?_)
        refine Calls.mono HA.out ?_
        rintro e w4 ⟨err, rfl, vE', vd', b', t', E', f', hK4, hM4⟩
        have HB4 : Hid (Below w1.heap.size w1 w4) := hB.trans (hK.both.moved hM4 hB.size)
        clear HA ck re hK hM4 hB
        go_wp2
        go_roundw
        case rel => exact ⟨k + 1, vE', vd', b', t', E', f', by omega, by go_num, hK4, HB4.out⟩
        case measure => simp [intOf]; omega
      · by_cases hk2 : (O k).kind = 2
        · rw [hk2] at ck
          have HA : Hid _ := hK.sync
          clear re
          go_wp2_with fail
          refine Calls.mono HA.out ?_
          rintro e w4 ⟨rfl, hK4, hM4⟩
          have HB4 : Hid (Below w1.heap.size w1 w4) := hB.trans (hK.both.moved hM4 hB.size)
          clear HA ck hK hM4 hB
          go_wp2
          go_roundw
          case rel => exact ⟨k + 1, vE, vd, b, t, E, _, by omega, by go_num, hK4, HB4.out⟩
          case measure => simp [intOf]; omega
        · have e1 : ((O k).kind == 1) = false := by simpa using hk1
          have e2 : ((O k).kind == 2) = false := by simpa using hk2
          clear re
          generalize (O k).kind = kd at *
          go_wp2
          go_roundw
          case rel => exact ⟨k + 1, vE, vd, b, t, E, f, by omega, by go_num, hK, hB⟩
          case measure => simp [intOf]; omega
    · obtain rfl : k = m := by omega
      have hLr := hL1.below hB (Nat.le_refl _)
      have hoff := off_of hL1 hK (Nat.le_refl _) hB.size
      have HR : Hid _ := rewrite_any s ao n cn L hK.both hB.size hLr hoff (by omega) (by omega)
      go_wp2_with fail
      refine Calls.mono HR.out ?_
      rintro e w4 (⟨err, herr, rfl, hB4, hM4⟩ | ⟨rfl, hf, vE', vd', hB4, hM4⟩)
      · have HB4 : Hid (Below w.heap.size w w4) := hb1.trans ((hB.trans (hK.both.moved hM4 hB.size)).mono hb1.size)
        clear HR hK hM4 hB4 hB
        rcases herr with rfl | rfl | ⟨-, h4⟩
        · go_wp2
          go_ret
          exact ⟨rfl, HB4.out⟩
        · go_wp2
          go_ret
          exact ⟨rfl, HB4.out⟩
        · omega
      · have B4 : Below w1.heap.size w1 w4 := hB.trans (hK.both.moved hM4 hB.size)
        have HC : Hid _ := crash_any (some ⟨gd, 0, none⟩) x y z _ gd _ _ _ _ w4 w4 (orz_some gd _) hB4.dsk (Nat.le_refl _)
        rw [crash_all] at HC
        have hlen := hLr.len
        clear HR hK hM4 hB hLr hoff
        go_wp2_with fail
        refine Calls.mono HC.out ?_
        rintro e w5 ⟨rfl, vd5, hD5, hS5⟩
        have hL5 := hB4.log.disk hB4.dsk hS5
        have B5 := B4.trans (hB4.dsk.stepBelow hS5 B4.size)
        have HOp : Hid _ := open_any hD5 B5.size
        clear HC hB4 hS5 B4
        go_wp2_with fail
        refine Calls.mono HOp.out ?_
        rintro e w6 ⟨g6, vE6, vd6, rfl, hg6, hv6, hL6, hD6, hS6⟩
        rw [rd_file hf] at hL6 hD6
        simp only [] at hL6 hD6
        have hLo := hL5.disk hD5 hS6
        have B6 := B5.trans (hD5.stepBelow hS6 B5.size)
        clear HOp hL5 hD5 hS6 B5 hD6
        go_wp2_with fail
        refine (snapshot_any _ _ _ _ _ _ _ _ _ _ _ (lorz_some g6 _) hL6).mono ?_
        rintro e w7 ⟨rfl, hb7⟩
        have hL7 := hL6.below hb7 (Nat.le_refl _)
        have hLo7 := hLo.below hb7 (Nat.le_refl _)
        have B7 := B6.trans (hb7.mono B6.size)
        clear hL6 hLo hb7 B6
        go_wp2_with fail
        refine (events_any _ _ _ _ _ _ _ _ _ _ _ (lorz_some g6 _) hL7).mono ?_
        rintro e w8 ⟨v8, rfl, hr8, hb8⟩
        have hL8 := hL7.below hb8 (Nat.le_refl _)
        have hLo8 := hLo7.below hb8 (Nat.le_refl _)
        have B8 := B7.trans (hb8.mono B7.size)
        obtain ⟨a8, c8, rfl, hE8⟩ := Row.evs hr8 (fun e he => (hf.good e he).wide)
        have hE9 := hL1.below B8 (Nat.le_refl _)
        rw [hlen] at hE8
        have HS : Hid _ := same_yes a8 ao n c8 cn L w8 hE8 hE9 (by omega)
        rw [hlen] at hL8 hLo8 ⊢
        clear hL7 hLo7 hb8 B7 hr8 hE8 hE9
        go_wp2_with fail
        refine Calls.mono HS.out ?_
        rintro e w9 ⟨rfl, hb9⟩
        have hL9 := hL8.below hb9 (Nat.le_refl _)
        have hLo9 := hLo8.below hb9 (Nat.le_refl _)
        have B9 := B8.trans (hb9.mono B8.size)
        clear HS hL8 hLo8 hb9 B8
        go_wp2_with fail
        refine (lfast_any _ _ _ _ _ _ _ _ _ _ _ (lorz_some g6 _) hL9).mono ?_
        rintro e w10 ⟨rfl, rfl⟩
        go_wp2_with fail
        refine (lfast_any _ _ _ _ _ _ _ _ _ _ _ (lorz_some g _) hLo9).mono ?_
        rintro e w11 ⟨rfl, rfl⟩
        have HB : Hid (Below w.heap.size w w11) := hb1.trans (B9.mono hb1.size)
        clear hL9 hLo9 B9
        go_wp2
        go_ret
        exact ⟨rfl, HB.out⟩
end Go.Proofs.Ythdhnilfkpbmpaa
