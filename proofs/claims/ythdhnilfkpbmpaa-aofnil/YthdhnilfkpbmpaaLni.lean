/-
  AofNil, walked.
-/
import Derived.Test.YthdhnilfkpbmpaaLcl
namespace Go.Proofs.Ythdhnilfkpbmpaa
set_option maxRecDepth 100000
set_option linter.unusedVariables false
open Go.RowKit

/-- A nil log, or the zero one. -/
def ZL (q : Option Addr) (B : Nat) (w : World) : Prop := q = none ∨ ∃ g, q = some ⟨g, 0, none⟩ ∧ Lg w B g none (.slice none 0 0) false [] [] 0
theorem ZL.orz {q : Option Addr} {B : Nat} {w : World} (h : ZL q B w) (hB : B ≤ w.heap.size) : ∃ g w1, LOrz w q g w1 ∧ Lg w1 B g none (.slice none 0 0) false [] [] 0 ∧ Below w.heap.size w w1 ∧ (q = none ∨ q = some ⟨g, 0, none⟩) := by
  rcases h with rfl | ⟨g, rfl, hg⟩
  · exact ⟨_, _, lorz_nil w, Lg.new w B none hB, (Below.refl _ _).alloc (Nat.le_refl _) _, .inl rfl⟩
  · exact ⟨g, w, lorz_some g w, hg, Below.refl _ _, .inr rfl⟩
theorem ZL.below {q : Option Addr} {B B' : Nat} {w w' : World} (h : ZL q B w) (hb : Below B' w w') (hB : w.heap.size ≤ B') : ZL q B w' := by
  rcases h with h | ⟨g, h, hg⟩
  · exact .inl h
  · exact .inr ⟨g, h, hg.below hb hB⟩

section
variable {q : Option Addr} {B : Nat} {w : World}
theorem z_sync (h : ZL q B w) (hB : B ≤ w.heap.size) : Calls Try.prog 12 #[.pointer q] w fun e w' => e = .returned (.tuple #[]) ∧ ZL q B w' ∧ Below B w w' := by
  obtain ⟨g, w1, hz, hL, hb, hq⟩ := h.orz hB
  have hb2 : Below w1.heap.size w1 (w1.alloc (.cells #[.slice none 0 0, .int .i64 0, .int .i64 0] 69)) := (Below.refl _ _).alloc (Nat.le_refl _) _
  have hD := dsk_new w1 B 0 (Nat.le_trans hB hb.size) (by omega)
  refine (lsync_any q B g w1.heap.size none _ _ _ _ _ _ _ _ _ w w1 _ hz (orz_nil w1) hL (hL.below hb2 (Nat.le_refl _)) hD).mono ?_
  rintro e w' ⟨he, hL', -, w3, hS1, hS2⟩
  have h1 : Below B w w3 := ((hb.mono hB).trans (hb2.mono (Nat.le_trans hB hb.size))).trans (hD.stepBelow hS1 (by simp; have := hb.size; omega))
  refine ⟨he, ?_, h1.trans (hS2.below (Nat.le_trans hB h1.size) hL.low (fun k hk => by cases hk))⟩
  rcases hq with h | h
  · exact .inl h
  · exact .inr ⟨g, h, hL'⟩
theorem z_snapshot (h : ZL q B w) (hB : B ≤ w.heap.size) : Calls Try.prog 16 #[.pointer q] w fun e w' => e = .returned (.tuple #[.string ⟨#[]⟩, .bool false]) ∧ Below w.heap.size w w' := by
  obtain ⟨g, w1, hz, hL, hb, hq⟩ := h.orz hB
  refine (snapshot_any q B g none _ _ _ _ _ w w1 hz hL).mono ?_
  rintro e w' ⟨he, hb2⟩
  exact ⟨he, hb.trans (hb2.mono hb.size)⟩
theorem z_events (h : ZL q B w) (hB : B ≤ w.heap.size) : Calls Try.prog 14 #[.pointer q] w fun e w' => ∃ ao c, e = .returned (.slice ao 0 c) ∧ Below w.heap.size w w' := by
  obtain ⟨g, w1, hz, hL, hb, hq⟩ := h.orz hB
  refine (events_any q B g none _ _ _ _ _ w w1 hz hL).mono ?_
  rintro e w' ⟨v, he, hr, hb2⟩
  obtain ⟨ao, c, rfl, -⟩ := Row.evs hr (by simp)
  exact ⟨ao, c, he, hb.trans (hb2.mono hb.size)⟩
theorem z_fast (h : ZL q B w) (hB : B ≤ w.heap.size) : Calls Try.prog 15 #[.pointer q] w fun e w' => e = .returned (.int .i64 0) ∧ Below w.heap.size w w' := by
  obtain ⟨g, w1, hz, hL, hb, hq⟩ := h.orz hB
  refine (lfast_any q B g none _ _ _ _ _ w w1 hz hL).mono ?_
  rintro e w' ⟨he, rfl⟩
  exact ⟨he, hb⟩
set_option maxHeartbeats 400000 in
theorem z_add (h : ZL q B w) (hB : B ≤ w.heap.size) (x : Ev) : Calls Try.prog 11 #[.pointer q, .agg (evc x)] w fun e w' => e = .returned (.int .i64 1) ∧ Below w.heap.size w w' := by
  have hb0 : Below w.heap.size w (w.alloc (.cells (evc x) 30)) := (Below.refl _ _).alloc (Nat.le_refl _) _
  obtain ⟨g, w1, hz, hL, hb, hq⟩ := (h.below hb0 (Nat.le_refl _)).orz (Nat.le_trans hB hb0.size)
  have c0 := hL.c0
  have HB : Hid (Below w.heap.size w w1) := hb0.trans (hb.mono hb0.size)
  clear hL hb hb0 h
  go_enter Try.func11, Try.ntmps11
  go_wp2_with fail
  refine Calls.mono hz ?_
  rintro e w2 ⟨rfl, rfl⟩
  go_wp2
  go_ret
  exact ⟨rfl, HB.out⟩
set_option maxHeartbeats 400000 in
theorem z_rewrite (h : ZL q B w) (hB : B ≤ w.heap.size) (t : ByteArray) (v : Value) : Calls Try.prog 13 #[.pointer q, .string t, v] w fun e w' => e = .returned (.int .i64 1) ∧ Below w.heap.size w w' := by
  obtain ⟨g, w1, hz, hL, hb, hq⟩ := h.orz hB
  have c0 := hL.c0
  have HB : Hid (Below w.heap.size w w1) := hb
  clear hL hb h
  go_enter Try.func13, Try.ntmps13
  go_wp2_with fail
  refine Calls.mono hz ?_
  rintro e w2 ⟨rfl, rfl⟩
  go_wp2
  go_ret
  exact ⟨rfl, HB.out⟩
end

set_option maxHeartbeats 2000000 in
theorem nil_walk (o : Cl) (z : Bool) (w : World) (ho : IsCl w o) :
    Calls Try.prog 6 #[.agg (clc o), .bool z] w fun e w' => e = .returned (.bool true) ∧ Below w.heap.size w w' := by
  have hC := liesC_new w o
  have hb0 : Below w.heap.size w (w.alloc (.cells (clc o) 39)) := (Below.refl _ _).alloc (Nat.le_refl _) _
  have hwe := ho.e
  go_enter Try.func6, Try.ntmps6
  go_wp2_with fail
  refine (awake_any _).mono ?_
  rintro e w1 ⟨rfl, hb1⟩
  have hC1 := hC.below hb1 hC.lt
  have HB1 : Hid (Below w.heap.size w w1) := hb0.trans (hb1.mono hb0.size)
  have hrg := hC1.range
  have hC2 := liesC_new w1 o
  have hb2 : Below w1.heap.size w1 (w1.alloc (.cells (clc o) 39)) := (Below.refl _ _).alloc (Nat.le_refl _) _
  have ho2 := (ho.below HB1.out (Nat.le_refl _)).below hb2 (Nat.le_refl _)
  have hCb := hC1.below hb2 hC1.lt
  have HB2 : Hid (Below w.heap.size w (w1.alloc (.cells (clc o) 39))) := HB1.out.trans (hb2.mono HB1.out.size)
  have HF : Hid _ := few_any (some ⟨w1.heap.size, 0, none⟩) 1 1 (fun _ => o) _ (cls_one hC2 ho2)
  have hltb := hC.lt
  clear hC hC1 hb0 hb1 hb2 HB1 hC2
  go_wp2_with (first | refine load_cl rfl rfl rfl hrg hwe ?_ | refine build_cl rfl rfl rfl hwe ?_)
  refine Calls.mono HF.out ?_
  rintro e w2 ⟨rfl, hcase⟩
  clear hrg HF ho2
  generalize (w1.alloc (.cells (clc o) 39)) = w3 at *
  rcases hcase with ⟨rfl, -⟩ | rfl
  · cases z
    · have hz : ZL none w3.heap.size w3 := .inl rfl
      have HBW : Hid (Below w3.heap.size w3 w3) := Below.refl _ _
      go_wp2_with fail
      refine (z_sync hz HBW.out.size).mono ?_
      rintro e w4 ⟨rfl, hz4, hb4⟩
      have HB4 : Hid (Below w3.heap.size w3 w4) := HBW.out.trans hb4
      clear hz HBW hb4
      go_wp2_with fail
      refine (z_snapshot hz4 HB4.out.size).mono ?_
      rintro e w5 ⟨rfl, hb5⟩
      have hz5 := hz4.below hb5 (Nat.le_refl _)
      have HB5 : Hid (Below w3.heap.size w3 w5) := HB4.out.trans (hb5.mono HB4.out.size)
      clear hz4 HB4 hb5
      go_wp2_with fail
      refine (open_nil _).mono ?_
      rintro e w6 ⟨rfl, rfl⟩
      have hC6 := hCb.below HB5.out hCb.lt
      have re := hC6.ev hwe
      have hl16 := hwe.1
      go_wp2_with (refine load_ev_mid rfl rfl rfl re hl16 ?_)
      refine (z_add hz5 HB5.out.size o.e).mono ?_
      rintro e w7 ⟨rfl, hb7⟩
      have hz7 := hz5.below hb7 (Nat.le_refl _)
      have HB7 : Hid (Below w3.heap.size w3 w7) := HB5.out.trans (hb7.mono HB5.out.size)
      have hC7 := hC6.below hb7 hC6.lt
      have cs := hC7.s hwe
      have cl := hC7.l hwe
      clear re hC6 hC7 hz5 HB5 hb7
      go_wp2_with fail
      refine (z_rewrite hz7 HB7.out.size (sb o.s) (.slice o.la o.lm o.lc)).mono ?_
      rintro e w8 ⟨rfl, hb8⟩
      have hz8 := hz7.below hb8 (Nat.le_refl _)
      have HB8 : Hid (Below w3.heap.size w3 w8) := HB7.out.trans (hb8.mono HB7.out.size)
      clear cs cl hz7 HB7 hb8
      go_wp2_with fail
      refine (z_events hz8 HB8.out.size).mono ?_
      rintro e w9 ⟨ao, c, rfl, hb9⟩
      have hz9 := hz8.below hb9 (Nat.le_refl _)
      have HB9 : Hid (Below w3.heap.size w3 w9) := HB8.out.trans (hb9.mono HB8.out.size)
      clear hz8 HB8 hb9
      go_wp2_with fail
      refine (z_fast hz9 HB9.out.size).mono ?_
      rintro e w10 ⟨rfl, hb10⟩
      have HB10 : Hid (Below w.heap.size w w10) := HB2.out.trans ((HB9.out.trans (hb10.mono HB9.out.size)).mono HB2.out.size)
      clear hz9 HB9 hb10
      go_wp2
      go_ret
      exact ⟨rfl, HB10.out⟩
    · have hz : ZL (some ⟨w3.heap.size, 0, none⟩) w3.heap.size (w3.alloc (.cells #[.pointer none, .string ⟨#[]⟩, .bool false, .slice none 0 0, .int .i64 0] 59)) := .inr ⟨_, rfl, Lg.new w3 w3.heap.size none (Nat.le_refl _)⟩
      have HBW : Hid (Below w3.heap.size w3 (w3.alloc (.cells #[.pointer none, .string ⟨#[]⟩, .bool false, .slice none 0 0, .int .i64 0] 59))) := (Below.refl _ _).alloc (Nat.le_refl _) _
      go_wp2_with fail
      refine (z_sync hz HBW.out.size).mono ?_
      rintro e w4 ⟨rfl, hz4, hb4⟩
      have HB4 : Hid (Below w3.heap.size w3 w4) := HBW.out.trans hb4
      clear hz HBW hb4
      go_wp2_with fail
      refine (z_snapshot hz4 HB4.out.size).mono ?_
      rintro e w5 ⟨rfl, hb5⟩
      have hz5 := hz4.below hb5 (Nat.le_refl _)
      have HB5 : Hid (Below w3.heap.size w3 w5) := HB4.out.trans (hb5.mono HB4.out.size)
      clear hz4 HB4 hb5
      go_wp2_with fail
      refine (open_nil _).mono ?_
      rintro e w6 ⟨rfl, rfl⟩
      have hC6 := hCb.below HB5.out hCb.lt
      have re := hC6.ev hwe
      have hl16 := hwe.1
      go_wp2_with (refine load_ev_mid rfl rfl rfl re hl16 ?_)
      refine (z_add hz5 HB5.out.size o.e).mono ?_
      rintro e w7 ⟨rfl, hb7⟩
      have hz7 := hz5.below hb7 (Nat.le_refl _)
      have HB7 : Hid (Below w3.heap.size w3 w7) := HB5.out.trans (hb7.mono HB5.out.size)
      have hC7 := hC6.below hb7 hC6.lt
      have cs := hC7.s hwe
      have cl := hC7.l hwe
      clear re hC6 hC7 hz5 HB5 hb7
      go_wp2_with fail
      refine (z_rewrite hz7 HB7.out.size (sb o.s) (.slice o.la o.lm o.lc)).mono ?_
      rintro e w8 ⟨rfl, hb8⟩
      have hz8 := hz7.below hb8 (Nat.le_refl _)
      have HB8 : Hid (Below w3.heap.size w3 w8) := HB7.out.trans (hb8.mono HB7.out.size)
      clear cs cl hz7 HB7 hb8
      go_wp2_with fail
      refine (z_events hz8 HB8.out.size).mono ?_
      rintro e w9 ⟨ao, c, rfl, hb9⟩
      have hz9 := hz8.below hb9 (Nat.le_refl _)
      have HB9 : Hid (Below w3.heap.size w3 w9) := HB8.out.trans (hb9.mono HB8.out.size)
      clear hz8 HB8 hb9
      go_wp2_with fail
      refine (z_fast hz9 HB9.out.size).mono ?_
      rintro e w10 ⟨rfl, hb10⟩
      have HB10 : Hid (Below w.heap.size w w10) := HB2.out.trans ((HB9.out.trans (hb10.mono HB9.out.size)).mono HB2.out.size)
      clear hz9 HB9 hb10
      go_wp2
      go_ret
      exact ⟨rfl, HB10.out⟩
  · go_wp2_with fail
    refine (awake_any _).mono ?_
    rintro e w4 ⟨rfl, hb4⟩
    go_wp2
    go_ret
    exact ⟨rfl, HB2.out.trans (hb4.mono HB2.out.size)⟩
end Go.Proofs.Ythdhnilfkpbmpaa
