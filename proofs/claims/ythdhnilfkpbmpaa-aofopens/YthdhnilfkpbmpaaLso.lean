/-
  AofOpens, walked.
-/
import Derived.Test.YthdhnilfkpbmpaaLcl
namespace Go.Proofs.Ythdhnilfkpbmpaa
set_option maxRecDepth 100000
set_option linter.unusedVariables false
open Go.RowKit

theorem slice_to (l : List UInt8) (n : Nat) (hn : n ≤ l.length) (W : World) : (Instr.slice 9 (.string (sb l)) none (some (.int .i64 (n : Int))) none).run Try.prog W = .ok (.string (sb (l.take n))) W := by
  rw [run_slice_string_h W 9 (sb l) Try.underlying9 .i64 (n : Int) (by omega) (by rw [sb_size]; omega), Int.toNat_natCast, ext_tx, Nat.sub_zero, List.drop_zero]
  rfl
theorem conv_row {w : World} {B n : Nat} {v : Value} {l : List UInt8} (h : w.ownsRow B 5 1 v n (bs l)) : (convert 54 9 v).run Try.prog w = .ok (.string (sb l)) w := by
  obtain ⟨ao, c, rfl, hB, -⟩ := own_val h
  exact conv_any (t := sb l) hB

set_option maxHeartbeats 2000000 in
theorem opens_walk (l : List UInt8) (hl : l.length ≤ maxLen) (w : World) :
    Calls Try.prog 4 #[.string (sb l)] w fun e w' => e = .returned (.bool true) ∧ Below w.heap.size w w' := by
  have hsz : (sb l).size = l.length := sb_size l
  unfold maxLen at hl
  by_cases hbig : 20000 < l.length
  · have hb' : (20000 : Int) < ((sb l).size : Int) := by omega
    have hb2 : (sb l).size ≤ 9223372036854775807 := by omega
    clear hsz
    generalize sb l = t at *
    go_enter Try.func4, Try.ntmps4
    go_wp2_with fail
    refine (awake_any _).mono ?_
    rintro e w1 ⟨rfl, hb1⟩
    go_wp2_with fail
    refine (awake_any _).mono ?_
    rintro e w2 ⟨rfl, hb2⟩
    go_wp2
    go_ret
    exact ⟨rfl, hb1.trans (hb2.mono hb1.size)⟩
  · have hb' : ¬ (20000 : Int) < (l.length : Int) := by omega
    obtain ⟨B0, S0, E0, hrd, hfine, hnl, htk⟩ := rd_bytes l
    have hrd2 := rd_file hfine
    have HST : Hid (∀ W, _) := fun W => slice_to l (file B0 S0 E0).length hnl W
    rw [htk] at HST
    have hsf : (sb (file B0 S0 E0)).size = (file B0 S0 E0).length := sb_size _
    have hle : ¬ (l.length : Int) < ((file B0 S0 E0).length : Int) := by omega
    go_enter Try.func4, Try.ntmps4
    go_wp2_with fail
    refine (awake_any _).mono ?_
    rintro e w1 ⟨rfl, hb1⟩
    have hD := dsk_new w1 w.heap.size 65536 hb1.size (Nat.le_refl _)
    have hbd : Below w1.heap.size w1 (w1.alloc (.cells #[.slice none 0 0, .int .i64 0, .int .i64 ((65536 : Nat) : Int)] 69)) := (Below.refl _ _).alloc (Nat.le_refl _) _
    have B2 : Below w.heap.size w (w1.alloc (.cells #[.slice none 0 0, .int .i64 0, .int .i64 ((65536 : Nat) : Int)] 69)) := hb1.trans (hbd.mono hb1.size)
    have hheld : held 65536 = 65536 := by decide
    clear hbd
    go_wp2_with fail
    refine (new_any 65536 w1).mono ?_
    rintro e w2 ⟨rfl, hw2⟩
    rw [hheld] at hw2
    rw [← hw2] at hD B2
    obtain ⟨cap, w3, hcv, hby, hcap, hb3⟩ := conv_text l w2 (by omega)
    have hD3 := hD.below hb3 (Nat.le_refl _)
    have B3 := B2.trans (hb3.mono B2.size)
    have HR : Hid _ := replace_ok (some ⟨w1.heap.size, 0, none⟩) (some ⟨w2.heap.size, 0, none⟩) l.length cap w.heap.size w1.heap.size _ _ l _ _ w3 w3 (orz_some _ _) hD3 hby (by omega) B3.size
    clear hD hby hb3 B2 hw2
    go_wp2_with fail
    refine Calls.mono HR.out ?_
    rintro e w4 ⟨rfl, vd, hD4, hS4⟩
    have B4 := B3.trans (hD3.stepBelow hS4 B3.size)
    have HO : Hid _ := open_any hD4 B4.size
    clear HR hD3 hS4 B3 hcv
    go_wp2_with fail
    refine Calls.mono HO.out ?_
    rintro e w5 ⟨g, vE, vd5, rfl, hg5, hv5, hL5, hD5, hS5⟩
    rw [hrd] at hL5 hD5
    simp only [] at hL5 hD5
    rw [htk] at hD5
    have B5 := B4.trans (hD4.stepBelow hS5 B4.size)
    have HY : Hid _ := bytes_any (some ⟨w1.heap.size, 0, none⟩) _ _ _ _ _ _ w5 w5 (orz_some _ _) hD5
    clear HO hD4 hS5 B4
    go_wp2_with fail
    refine Calls.mono HY.out ?_
    rintro e w6 ⟨v6, rfl, hr6, hb6⟩
    have hcv := conv_row hr6
    have hL6 := hL5.below hb6 (Nat.le_refl _)
    have hD6 := hD5.below hb6 (Nat.le_refl _)
    have B6 := B5.trans (hb6.mono B5.size)
    have HO : Hid _ := open_any hD6 B6.size
    have hst := HST.out
    clear HY hr6 hb6 hL5 hD5 B5
    go_wp2_with fail
    refine Calls.mono HO.out ?_
    rintro e w7 ⟨g2, vE2, vd7, rfl, hg7, hv7, hL7, hD7, hS7⟩
    rw [hrd2] at hL7 hD7
    simp only [] at hL7 hD7
    rw [List.take_length] at hD7
    have hL6' := hL6.disk hD6 hS7
    have B7 := B6.trans (hD6.stepBelow hS7 B6.size)
    clear HO hD6 hS7 hL6 hcv hst B6
    go_wp2_with fail
    refine (snapshot_any _ _ _ _ _ _ _ _ _ _ _ (lorz_some g _) hL6').mono ?_
    rintro e w8 ⟨rfl, hb8⟩
    have hLa := hL6'.below hb8 (Nat.le_refl _)
    have hLb := hL7.below hb8 (Nat.le_refl _)
    have hDc := hD7.below hb8 (Nat.le_refl _)
    have B8 := B7.trans (hb8.mono B7.size)
    clear hL6' hL7 hD7 hb8 B7
    go_wp2_with fail
    refine (snapshot_any _ _ _ _ _ _ _ _ _ _ _ (lorz_some g2 _) hLb).mono ?_
    rintro e w9 ⟨rfl, hb9⟩
    have hLa9 := hLa.below hb9 (Nat.le_refl _)
    have hLb9 := hLb.below hb9 (Nat.le_refl _)
    have hD9 := hDc.below hb9 (Nat.le_refl _)
    have B9 := B8.trans (hb9.mono B8.size)
    have HY : Hid _ := bytes_any (some ⟨w1.heap.size, 0, none⟩) _ _ _ _ _ _ w9 w9 (orz_some _ _) hD9
    clear hLa hLb hDc hb9 B8
    go_wp2_with fail
    refine Calls.mono HY.out ?_
    rintro e w10 ⟨v10, rfl, hr10, hb10⟩
    have hcv := conv_row hr10
    have hLa10 := hLa9.below hb10 (Nat.le_refl _)
    have hLb10 := hLb9.below hb10 (Nat.le_refl _)
    have B10 := B9.trans (hb10.mono B9.size)
    clear HY hr10 hb10 hLa9 hLb9 hD9 B9
    go_wp2_with fail
    refine (events_any _ _ _ _ _ _ _ _ _ _ _ (lorz_some g _) hLa10).mono ?_
    rintro e w11 ⟨v11, rfl, hr11, hb11⟩
    have hLb11 := hLb10.below hb11 (Nat.le_refl _)
    have B11 := B10.trans (hb11.mono B10.size)
    have hwd := hLa10.wide
    have hfw := hLa10.few
    clear hcv hLa10 hLb10 hb11 B10
    go_wp2_with fail
    refine (events_any _ _ _ _ _ _ _ _ _ _ _ (lorz_some g2 _) hLb11).mono ?_
    rintro e w12 ⟨v12, rfl, hr12, hb12⟩
    have B12 := B11.trans (hb12.mono B11.size)
    obtain ⟨a1, c1, rfl, hE1⟩ := Row.evs (Row.below hr11 hb12 (Nat.le_refl _)) hwd
    obtain ⟨a2, c2, rfl, hE2⟩ := Row.evs hr12 hwd
    have HS : Hid _ := same_yes a1 a2 _ c1 c2 E0 w12 hE1 hE2 (by omega)
    clear hr11 hr12 hb12 hLb11 hE1 hE2 B11
    go_wp2_with fail
    refine Calls.mono HS.out ?_
    rintro e w13 ⟨rfl, hb13⟩
    have HB : Hid (Below w.heap.size w w13) := B12.trans (hb13.mono B12.size)
    clear HS hb13 B12
    go_wp2
    go_ret
    exact ⟨rfl, HB.out⟩
end Go.Proofs.Ythdhnilfkpbmpaa
