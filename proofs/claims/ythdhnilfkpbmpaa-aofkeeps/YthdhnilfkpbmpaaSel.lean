/-
  What crc.Seal comes to: a new list that holds the bytes and their check behind; nothing that was there has turned. Asked: that the bytes are at most 2^46.
-/
import Derived.Test.YthdhnilfkpbmpaaOfc
namespace Go.Proofs.Ythdhnilfkpbmpaa
set_option maxRecDepth 100000

open Go.RowKit

theorem new_two (w : World) (a b : Value) : ∀ j u, [a, b][j]? = some u → (w.alloc (Obj.cells #[a, b] 5)).cell? ((⟨w.heap.size, 0, none⟩ : Addr).add j) = some u := by
  intro j u hu
  rw [Addr.add_lit, Nat.zero_add, World.cell?_alloc_mark]
  simpa using hu
theorem two_one (a b : Int) : ∀ u ∈ [Value.int .u8 a, Value.int .u8 b], u.oneCell' = true := by
  intro u hu
  rcases List.mem_cons.1 hu with rfl | hu
  · rfl
  · rcases List.mem_cons.1 hu with rfl | hu
    · rfl
    · cases hu
theorem toNat_ofNat_lt (n : Nat) (h : n < 256) : (UInt8.ofNat n).toNat = n := by
  rw [UInt8.toNat_ofNat']; exact Nat.mod_eq_of_lt h
theorem bs_two (y : BitVec 16) : bs [Ck.hi y, Ck.lo y] = [Value.int .u8 ((y.toNat : Int) / 256), Value.int .u8 ((y.toNat : Int) % 256)] := by
  have hy := y.isLt
  have h1 := toNat_ofNat_lt (y.toNat / 256) (by omega)
  have h2 := toNat_ofNat_lt (y.toNat % 256) (by omega)
  simp only [bs, List.map_cons, List.map_nil, Ck.hi, Ck.lo, h1, h2]
  rfl

set_option maxHeartbeats 400000 in
theorem seal_any (ao : Option Addr) (m c : Nat) (l : List UInt8) (w : World) (hb : Bytes w ao m c l) (hm : m ≤ 70368744177664) :
    Calls Try.prog 58 #[.slice ao m c] w fun e w' =>
      ∃ g, e = .returned (.slice (some ⟨g, 0, none⟩) (m + 2) (m + 2)) ∧ w'.ownsRow w.heap.size 5 1 (.slice (some ⟨g, 0, none⟩) (m + 2) (m + 2)) (m + 2) (bs (Ck.sealed l)) ∧ Below w.heap.size w w' := by
  obtain ⟨i0, hi, hz0, hz1, hz2⟩ := info_parts info5
  have Hof : Hid _ := of_any ao m c l w hb (by unfold maxLen; omega)
  have hx : (Ck.crc l).toNat < 65536 := (Ck.crc l).isLt
  have Hx : Hid (Ck.sealed l = l ++ [Ck.hi (Ck.crc l), Ck.lo (Ck.crc l)]) := rfl
  generalize Ck.crc l = y at Hof hx Hx
  generalize hyn : y.toNat = n at Hof hx
  have Hy : Hid (y.toNat = n) := hyn
  clear hyn
  go_enter Try.func58, Try.ntmps58
  go_wp2_with fail
  refine Calls.mono Hof.out ?_
  rintro e w1 ⟨rfl, hw⟩
  obtain rfl := hw.symm
  go_wp2_with (first
    | (at_make; refine wpList_make_own _ rfl _ _ 54 rfl w.heap.size 5 i0 (.int .u8 0) 1 Try.underlying54 hi hz0 hz1 _ _ _ (m + 2) rfl rfl (by omega) ?b2 ?b3 (Nat.le_refl _) ?_))
  case b2 => rw [hz2]; omega
  case b3 => unfold maxLen; omega
  intro w2 hown2 hgrow2
  have hbel2 : Below w.heap.size w w2 := (Below.refl _ _).grown hgrow2 (Nat.le_refl _) (fun k h => by cases h)
  have hb2 := hb.below hbel2 (Nat.le_refl _)
  go_wp2_with (first
    | (at_builtin; refine wpList_append_fits_any _ rfl (.tmp 11) (.tmp 12) 54 rfl w.heap.size 5 i0 1 Try.underlying54 hi hz1 w.heap.size 0 (m + 2) _ rfl hown2 ao m c (bs l) rfl (by rw [bs_length, hb.len]; omega) hb2.none hb2.cells (bs_oneCell _) (by omega) ?_))
  intro w3 hown3 hgrow3
  have hown4 := own_below hown3 ((Below.refl w3.heap.size w3).alloc (Nat.le_refl _) (Obj.cells #[Value.int IntKind.u8 ((n : Int) / 256), Value.int IntKind.u8 ((n : Int) % 256)] 5))
  have hbel3 : Below w.heap.size w w3 := hbel2.grown hgrow3 hbel2.size (fun k hk => by cases hk; exact Nat.le_refl _)
  have hbel4 : Below w.heap.size w _ := hbel3.alloc hbel3.size (Obj.cells #[Value.int IntKind.u8 ((n : Int) / 256), Value.int IntKind.u8 ((n : Int) % 256)] 5)
  have hcells := new_two w3 (Value.int IntKind.u8 ((n : Int) / 256)) (Value.int IntKind.u8 ((n : Int) % 256))
  go_wp2_with (first
    | (at_builtin; refine wpList_append_fits _ rfl (.tmp 14) (.tmp 20) 54 rfl w.heap.size 5 i0 1 Try.underlying54 hi hz1 w.heap.size m (m + 2) _ rfl hown4 ⟨w3.heap.size, 0, none⟩ 2 2 [Value.int IntKind.u8 ((n : Int) / 256), Value.int IntKind.u8 ((n : Int) % 256)] rfl rfl hcells (two_one _ _) (by omega) ?_))
  intro w5 hown5 hgrow5
  go_wp2
  go_ret
  refine ⟨w.heap.size, rfl, ?_, ?_⟩
  · rw [Hx.out, bs_append, bs_two, Hy.out]; exact hown5
  · exact hbel4.grown hgrow5 hbel4.size (fun k hk => by cases hk; exact Nat.le_refl _)
end Go.Proofs.Ythdhnilfkpbmpaa
