/-
  What frame.Put comes to: a body's frame, as a new list; or none.
-/
import Derived.Test.YthdhnilfkpbmpaaSea
namespace Go.Proofs.Ythdhnilfkpbmpaa
set_option maxRecDepth 100000

open Go.RowKit

theorem two_bs (n : Nat) (h : n ≤ 65529) : bs (Fr.two n) = [Value.int .u8 ((n : Int) / 256), Value.int .u8 ((n : Int) % 256)] := by
  have h1 := toNat_ofNat_lt (n / 256) (by omega)
  have h2 := toNat_ofNat_lt (n % 256) (by omega)
  simp only [bs, Fr.two, List.map_cons, List.map_nil, h1, h2]
  rfl

set_option maxHeartbeats 400000 in
theorem put_long (ao : Option Addr) (m c : Nat) (w : World) (hm : 65529 < m) (hx : m ≤ maxLen) :
    Calls Try.prog 45 #[.slice ao m c] w fun e w' => e = .returned (.tuple #[.slice none 0 0, .int .i64 4]) ∧ w' = w := by
  unfold maxLen at hx
  have h : (65529 : Int) < (m : Int) := by omega
  go_enter Try.func45, Try.ntmps45
  go_wp2
  go_ret2
  exact ⟨rfl, rfl⟩

set_option maxHeartbeats 1000000 in
theorem put_ok (ao : Option Addr) (m c : Nat) (l : List UInt8) (w : World) (hb : Bytes w ao m c l) (hm : m ≤ 65529) :
    Calls Try.prog 45 #[.slice ao m c] w fun e w' =>
      ∃ g, e = .returned (.tuple #[.slice (some ⟨g, 0, none⟩) (m + 6) (m + 6), .int .i64 0]) ∧ w'.ownsRow w.heap.size 5 1 (.slice (some ⟨g, 0, none⟩) (m + 6) (m + 6)) (m + 6) (bs (Fr.frame l)) ∧ Below w.heap.size w w' := by
  obtain ⟨i0, hi, hz0, hz1, hz2⟩ := info_parts info5
  have h : ¬ (65529 : Int) < (m : Int) := by omega
  have hlen := hb.len
  have Hf : Hid (Fr.frame l = Ck.sealed (Fr.two m) ++ Ck.sealed l) := by rw [Hid, Fr.frame, hlen]
  have Ht := two_bs m hm
  have Hsl : Hid ((Ck.sealed (Fr.two m)).length = 4) := by rw [Hid, Fr.sealed_length]; rfl
  go_enter Try.func45, Try.ntmps45
  go_wp2_with (first
    | (at_make; refine wpList_make_own _ rfl _ _ 54 rfl w.heap.size 5 i0 (.int .u8 0) 1 Try.underlying54 hi hz0 hz1 _ _ _ (m + 6) rfl rfl (by omega) ?b2 ?b3 (Nat.le_refl _) ?_))
  case b2 => omega
  case b3 => unfold maxLen; omega
  intro w2 hown2 hgrow2
  have hbel2 : Below w.heap.size w w2 := (Below.refl _ _).grown hgrow2 (Nat.le_refl _) (fun k h => by cases h)
  have hTb : Bytes (w2.alloc (Obj.cells #[Value.int .u8 ((m : Int) / 256), Value.int .u8 ((m : Int) % 256)] 5)) (some ⟨w2.heap.size, 0, none⟩) 2 2 (Fr.two m) :=
    ⟨rfl, Nat.le_refl _, (fun h => by cases h), fun ad had j u hu => by
      obtain rfl := Option.some.inj had
      rw [Ht] at hu
      exact new_two w2 _ _ j u hu⟩
  have hown2' := own_below hown2 ((Below.refl w2.heap.size w2).alloc (Nat.le_refl _) (Obj.cells #[Value.int .u8 ((m : Int) / 256), Value.int .u8 ((m : Int) % 256)] 5))
  have hbel2' := hbel2.alloc hbel2.size (Obj.cells #[Value.int .u8 ((m : Int) / 256), Value.int .u8 ((m : Int) % 256)] 5)
  clear Ht
  go_wp2_with fail
  refine (seal_any _ _ _ _ _ hTb (by omega)).mono ?_
  rintro e w3 ⟨g3, rfl, hown3, hb3⟩
  have hown2'' := own_below hown2' hb3
  have hbel3 := hbel2'.trans (hb3.mono hbel2'.size)
  have B3 := Bytes.own hown3
  go_wp2_with (first
    | (at_builtin; refine wpList_append_fits _ rfl (.tmp 13) (.tmp 20) 54 rfl w.heap.size 5 i0 1 Try.underlying54 hi hz1 w.heap.size 0 (m + 6) _ rfl hown2'' _ 4 _ (bs (Ck.sealed (Fr.two m))) rfl (by rw [bs_length, Hsl.out]) (B3.cells _ rfl) (bs_oneCell _) (by omega) ?_))
  intro w4 hown4 hgrow4
  have hbel4 : Below w.heap.size w w4 := hbel3.grown hgrow4 hbel3.size (fun k hk => by cases hk; exact Nat.le_refl _)
  have hb4 := hb.below hbel4 (Nat.le_refl _)
  clear hown2 hown2' hown2'' hbel2 hbel2' hgrow2 hTb hown3 hb3 hbel3 B3 hgrow4
  go_wp2_with fail
  refine (seal_any _ _ _ _ _ hb4 (by omega)).mono ?_
  rintro e w5 ⟨g5, rfl, hown5, hb5⟩
  have hown4' := own_below hown4 hb5
  have hbel5 := hbel4.trans (hb5.mono hbel4.size)
  have B5 := Bytes.own hown5
  go_wp2_with (first
    | (at_builtin; refine wpList_append_fits _ rfl (.tmp 22) (.tmp 24) 54 rfl w.heap.size 5 i0 1 Try.underlying54 hi hz1 w.heap.size 4 (m + 6) _ rfl hown4' _ (m + 2) _ (bs (Ck.sealed l)) rfl (by rw [bs_length, Fr.sealed_length, hlen]; omega) (B5.cells _ rfl) (bs_oneCell _) (by omega) ?_))
  intro w6 hown6 hgrow6
  have e6 : 4 + (m + 2) = m + 6 := by omega
  rw [e6] at hown6 ⊢
  go_wp2
  go_ret2
  refine ⟨w.heap.size, rfl, ?_, hbel5.grown hgrow6 hbel5.size (fun k hk => by cases hk; exact Nat.le_refl _)⟩
  rw [Hf.out, bs_append]
  exact hown6
end Go.Proofs.Ythdhnilfkpbmpaa
