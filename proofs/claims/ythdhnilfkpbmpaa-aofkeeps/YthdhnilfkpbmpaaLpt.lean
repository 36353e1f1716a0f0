/-
  What putBody, putEvent and putAll come to.
-/
import Derived.Test.YthdhnilfkpbmpaaLon
import Derived.Test.YthdhnilfkpbmpaaFpu
namespace Go.Proofs.Ythdhnilfkpbmpaa
set_option maxRecDepth 100000
set_option linter.unusedVariables false
open Go.RowKit

theorem row_one (w : World) (base : Nat) (hb : base ≤ w.heap.size) (k : UInt8) : (w.alloc (.cells #[.int .u8 (k.toNat : Int)] 5)).ownsRow base 5 1 (.slice (some ⟨w.heap.size, 0, none⟩) 1 1) 1 (bs [k]) :=
  ⟨rfl, .inr ⟨w.heap.size, 1, _, rfl, hb, heap_alloc_new w _, Nat.le_refl _, by unfold maxLen; omega, rfl, rfl⟩⟩
theorem own_type {w : World} {B n : Nat} {v : Value} {l : List UInt8} (h : w.ownsRow B 5 1 v n (bs l)) {B' : Nat} {w' : World} (hb : Below B' w w') (hB : w.heap.size ≤ B') : w'.ownsRow B 5 1 v n (bs l) :=
  own_same h (fun k hk => hb.block k (by have := (h.lt k hk).2; omega))

set_option maxHeartbeats 2000000 in
theorem putbody_ok (B : Nat) (vf : Value) (F : List UInt8) (k : UInt8) (ao : Option Addr) (m c : Nat) (b : List UInt8) (w : World) (hF : w.ownsRow B 5 1 vf F.length (bs F)) (hBw : B ≤ w.heap.size) (hB : Bytes w ao m c b) (hm : m + 1 ≤ 65529) (hFl : F.length ≤ 900000) :
    Calls Try.prog 37 #[vf, .int .u8 (k.toNat : Int), .slice ao m c] w fun e w' => ∃ v', e = .returned (.tuple #[v', .int .i64 0]) ∧ w'.ownsRow B 5 1 v' (F ++ Fr.frame (k :: b)).length (bs (F ++ Fr.frame (k :: b))) ∧ Below B w w' := by
  obtain ⟨i0, hi, hz0, hz1, hz2⟩ := info_parts info5
  have hO := row_one w w.heap.size (Nat.le_refl _) k
  have hb1 : Below w.heap.size w (w.alloc (.cells #[.int .u8 (k.toNat : Int)] 5)) := (Below.refl _ _).alloc (Nat.le_refl _) _
  have hB1 := hB.below hb1 (Nat.le_refl _)
  have hbl := hB.len
  have HF : Hid (w.ownsRow B 5 1 vf F.length (bs F)) := hF
  have HB : Hid _ := hb1
  have hsz : w.heap.size ≤ (w.alloc (.cells #[.int .u8 (k.toNat : Int)] 5)).heap.size := hb1.size
  clear hB hF hb1
  generalize hk : (k.toNat : Int) = kk at *
  go_enter Try.func37, Try.ntmps37
  go_wp2_with (refine wpList_appn rfl _ _ 54 rfl w.heap.size 5 i0 (.int .u8 0) Try.underlying54 hi hz0 hz1 rfl _ 1 (bs [k]) rfl hO _ m c (bs b) rfl (by rw [bs_length]; exact hbl) hB1.none hB1.cells (bs_oneCell b) (by unfold maxLen; omega) (by rw [hz2]; omega) hsz ?_)
  intro v1 w2 h1 h2 h3
  rw [← bs_append] at h1
  obtain ⟨a1, c1, rfl, hby, hc1⟩ := own_val h1
  have hb2 : Below w.heap.size w w2 := HB.out.grown h2 hsz (fun j hj => by simp only [Value.ownBlock, Option.some.injEq] at hj; omega)
  have hF2 := own_type HF.out hb2 (Nat.le_refl _)
  have HP : Hid _ := put_ok a1 (1 + m) c1 ([k] ++ b) w2 hby (by omega)
  have hlen : (F ++ Fr.frame (k :: b)).length = F.length + (1 + m + 6) := by rw [List.length_append, Fr.frame_length, List.length_cons, hbl]; omega
  have Hl : Hid _ := hlen
  clear h1 h2 h3 hO hB1 HB HF hby hlen
  generalize hfn : F.length = fn at *
  go_wp2_with fail
  refine Calls.mono HP.out ?_
  rintro e w3 ⟨g3, rfl, hr3, hb3⟩
  have hF3 := own_type hF2 hb3 (Nat.le_refl _)
  have hby3 := Bytes.own hr3
  have hl3 : (Fr.frame ([k] ++ b)).length = 1 + m + 6 := by have := hby3.len; exact this
  have hBw3 : B ≤ w3.heap.size := Nat.le_trans hBw (Nat.le_trans hb2.size hb3.size)
  have HB3 : Hid (Below w.heap.size w w3) := hb2.trans (hb3.mono hb2.size)
  clear HP hr3 hF2 hb2 hb3
  go_wp2_with (refine wpList_appn rfl _ _ 54 rfl B 5 i0 (.int .u8 0) Try.underlying54 hi hz0 hz1 rfl vf fn (bs F) rfl hF3 _ (1 + m + 6) (1 + m + 6) (bs (Fr.frame ([k] ++ b))) rfl (by rw [bs_length]; exact hl3) hby3.none hby3.cells (bs_oneCell _) (by unfold maxLen; omega) (by rw [hz2]; omega) hBw3 ?_)
  intro v4 w4 h4 h5 h6
  rw [← bs_append] at h4
  have hlt3 := hF3.lt
  have HB4 : Hid (Below B w w4) := (HB3.out.mono hBw).grown h5 hBw3 (fun j hj => (hlt3 j hj).1)
  clear hF3 hby3 h5 h6 hlt3
  go_wp2
  go_ret2
  exact ⟨v4, rfl, by rw [Hl.out]; exact h4, HB4.out⟩

set_option maxHeartbeats 1000000 in
theorem putbody_long (vf : Value) (k : UInt8) (ao : Option Addr) (m c : Nat) (b : List UInt8) (w : World) (hB : Bytes w ao m c b) (hm : 65529 < m + 1) (hm2 : m ≤ 100000) :
    Calls Try.prog 37 #[vf, .int .u8 (k.toNat : Int), .slice ao m c] w fun e w' => e = .returned (.tuple #[.slice none 0 0, .int .i64 4]) ∧ Below w.heap.size w w' := by
  obtain ⟨i0, hi, hz0, hz1, hz2⟩ := info_parts info5
  have hO := row_one w w.heap.size (Nat.le_refl _) k
  have hb1 : Below w.heap.size w (w.alloc (.cells #[.int .u8 (k.toNat : Int)] 5)) := (Below.refl _ _).alloc (Nat.le_refl _) _
  have hB1 := hB.below hb1 (Nat.le_refl _)
  have hbl := hB.len
  have HB : Hid _ := hb1
  have hsz : w.heap.size ≤ (w.alloc (.cells #[.int .u8 (k.toNat : Int)] 5)).heap.size := hb1.size
  clear hB hb1
  generalize hk : (k.toNat : Int) = kk at *
  go_enter Try.func37, Try.ntmps37
  go_wp2_with (refine wpList_appn rfl _ _ 54 rfl w.heap.size 5 i0 (.int .u8 0) Try.underlying54 hi hz0 hz1 rfl _ 1 (bs [k]) rfl hO _ m c (bs b) rfl (by rw [bs_length]; exact hbl) hB1.none hB1.cells (bs_oneCell b) (by unfold maxLen; omega) (by rw [hz2]; omega) hsz ?_)
  intro v1 w2 h1 h2 h3
  rw [← bs_append] at h1
  obtain ⟨a1, c1, rfl, hby, hc1⟩ := own_val h1
  have hb2 : Below w.heap.size w w2 := HB.out.grown h2 hsz (fun j hj => by simp only [Value.ownBlock, Option.some.injEq] at hj; omega)
  have HP : Hid _ := put_long a1 (1 + m) c1 w2 (by omega) (by unfold maxLen; omega)
  clear h1 h2 h3 hO hB1 HB hby
  go_wp2_with fail
  refine Calls.mono HP.out ?_
  rintro e w3 ⟨rfl, rfl⟩
  clear HP
  go_wp2
  go_ret2
  exact ⟨rfl, hb2⟩

set_option maxHeartbeats 1000000 in
theorem putevent_no (vf : Value) (x : Ev) (w : World) (hx : Wide x) (h : okev x = false) :
    Calls Try.prog 25 #[vf, .agg (evc x)] w fun e w' => e = .returned (.tuple #[.slice none 0 0, .int .i64 1]) ∧ Below w.heap.size w w' := by
  obtain ⟨hE, hB⟩ := boxedE w x
  have HE : Hid _ := encode_no x hx.1 hx.2 h (w.alloc (.cells (evc x) 30))
  have H0 : Hid _ := hB
  clear hB
  have hl := hx.1
  go_enter Try.func25, Try.ntmps25
  go_wp2_with (refine load_ev rfl rfl rfl hE hl ?_)
  refine Calls.mono HE.out ?_
  rintro e w2 ⟨rfl, hb2⟩
  have H2 : Hid (Below w.heap.size w w2) := H0.out.trans (hb2.mono H0.out.size)
  clear hE hb2 H0 HE
  go_wp2
  go_ret2
  exact ⟨rfl, H2.out⟩
set_option maxHeartbeats 1000000 in
theorem putevent_ok (B : Nat) (vf : Value) (F : List UInt8) (x : Ev) (w : World) (hF : w.ownsRow B 5 1 vf F.length (bs F)) (hBw : B ≤ w.heap.size) (hx : Good x) (hFl : F.length ≤ 900000) :
    Calls Try.prog 25 #[vf, .agg (evc x)] w fun e w' => ∃ v', e = .returned (.tuple #[v', .int .i64 0]) ∧ w'.ownsRow B 5 1 v' (F ++ Fr.frame (eb x)).length (bs (F ++ Fr.frame (eb x))) ∧ Below B w w' := by
  obtain ⟨hE, hB⟩ := boxedE w x
  have HE : Hid _ := encode_ok x hx.1 hx.room hx.2 (w.alloc (.cells (evc x) 30))
  have H0 : Hid _ := hB
  have hF1 := own_type hF hB (Nat.le_refl _)
  clear hB hF
  have hl := hx.1
  have hsh := evb_short hx.fits
  go_enter Try.func25, Try.ntmps25
  go_wp2_with (refine load_ev rfl rfl rfl hE hl ?_)
  refine Calls.mono HE.out ?_
  rintro e w2 ⟨g2, c2, rfl, hby, hc2, hb2⟩
  have H2 : Hid (Below w.heap.size w w2) := H0.out.trans (hb2.mono H0.out.size)
  have hF2 := own_type hF1 hb2 (Nat.le_refl _)
  have HP : Hid _ := putbody_ok B vf F 0 (some ⟨g2, 0, none⟩) (evb x).length c2 (evb x) w2 hF2 (Nat.le_trans hBw H2.out.size) hby (by omega) hFl
  clear hE hb2 H0 HE hF1 hF2 hby
  go_wp2_with fail
  refine Calls.mono HP.out ?_
  rintro e w3 ⟨v3, rfl, hr3, hb3⟩
  clear HP
  go_wp2
  go_ret2
  exact ⟨v3, rfl, hr3, (H2.out.mono hBw).trans hb3⟩
end Go.Proofs.Ythdhnilfkpbmpaa
