/-
  LiveApart's walk.
-/
import Derived.Test.YtmnhbkehicpohaaLsa
import Derived.Test.YtmnhbkehicpohaaLdg
namespace Go.Proofs.Ytmnhbkehicpohaa
set_option maxRecDepth 100000
open Go.RowKit

theorem evl_20 (u : Ev) (hl : u.deps.length = 16) : (evl u)[20]? = some (.string (sb u.key)) := by
  obtain ⟨l, hll⟩ : ∃ l, l = u.deps := ⟨_, rfl⟩
  rw [← hll] at hl
  match l, hl with
  | [_, _, _, _, _, _, _, _, _, _, _, _, _, _, _, _], _ => simp [evl, opl, ← hll]
set_option maxHeartbeats 1000000 in
theorem apart_walk (ao : Option Addr) (m c : Nat) (E : List Ev) (key : List UInt8) (w : World) (hE : Evs w ao m c E) :
    Calls Try.prog 6 #[.slice ao m c, .string (sb key)] w fun e w' => e = .returned (.bool true) ∧ Below w.heap.size w w' := by
  have hlen := hE.len
  have HE : Aside (Evs w ao m c E) := hE
  have hwd : Hid (∀ e ∈ E, Wide e) := hE.wide
  clear hE
  go_enter Try.func6, Try.ntmps6
  go_wp2_with fail
  refine (awake_any w).mono ?_
  rintro e w1 ⟨rfl, hb1⟩
  have HB1 : Hid (Below w.heap.size w w1) := hb1
  clear hb1
  go_wp2_with fail
  refine (few_any ao m c E w1 (HE.out.below HB1.out (Nat.le_refl _))).mono ?_
  rintro e w2 ⟨t, rfl, ht, hb2⟩
  have HB2 : Hid (Below w.heap.size w w2) := HB1.out.trans (hb2.mono HB1.out.size)
  clear hb2 HB1
  cases t with
  | false =>
    go_wp2_with fail
    refine (awake_any w2).mono ?_
    rintro e w3 ⟨rfl, hb3⟩
    have HB3 : Hid (Below w.heap.size w w3) := HB2.out.trans (hb3.mono HB2.out.size)
    clear hb3 HB2
    go_wp2
    go_ret
    exact ⟨rfl, HB3.out⟩
  | true =>
    have hm := ht rfl
    clear ht
    have H0 : Aside (Row w2 w.heap.size (.slice none 0 0) (keyTo key E 0) ∧ Below w.heap.size w w2) := ⟨row_nil _ _, HB2.out⟩
    clear HB2
    go_wp2
    go_loopg [5, 17] m (fun kx s5 s17 wr => ∃ i : Nat, s17 = .int .i64 i ∧ i ≤ m ∧ m - i ≤ kx ∧ Aside (Row wr w.heap.size s5 (keyTo key E i) ∧ Below w.heap.size w wr))
    case atStart => exact ⟨0, rfl, Nat.zero_le _, by omega, H0⟩
    case round =>
      clear H0
      obtain ⟨i, rfl, him, hkx, HS⟩ := hrel
      by_cases hlt : i < m
      · have hltz : (i : Int) < (m : Int) := by omega
        obtain ⟨b, off, u, rfl, hui, hu, hr, hbl⟩ := (HE.out.below HS.out.2 (Nat.le_refl _)).at hlt
        have hu16 := hu.1
        have hix := fun W : World => index_ev W (b := b) (off := off) (k := i) (m := m) (c := c) hlt
        have c20 : wr.cell? ⟨b, off + i * 26 + 20, none⟩ = some (.string (sb u.key)) := hr 20 _ (evl_20 u hu16)
        have hkb := sb_beq u.key key
        by_cases hk : u.key = key
        · rw [decide_eq_true hk] at hkb
          have HSN : Hid (keyTo key E (i + 1) = keyTo key E i ++ [u]) := by show _ = _; rw [keyTo_succ hui, if_pos hk]
          have hRow : Row (wr.alloc (.cells (evc u) 30)) w.heap.size u5 (keyTo key E i) := HS.out.1.below ((Below.refl _ _).alloc (Nat.le_refl _) _) (Nat.le_refl _)
          have hF : Evs (wr.alloc (.cells (evc u) 30)) (some ⟨wr.heap.size, 0, none⟩) 1 1 [u] := evs_single _ _ u hu (liesE_new wr u)
          have hll := keyTo_len key E i
          have hle : w.heap.size ≤ (wr.alloc (.cells (evc u) 30)).heap.size := by have := HS.out.2.size; simp; omega
          have HB3 : Hid (Below w.heap.size w (wr.alloc (.cells (evc u) 30))) := HS.out.2.alloc HS.out.2.size _
          clear HS hk
          go_wp2_with (first | refine load_ev_mid rfl rfl rfl hr hu16 ?_ | refine build_ev1 rfl rfl rfl hu16 ?_ | refine wpList_appE rfl _ _ rfl w.heap.size _ (keyTo key E i) rfl hRow _ 1 1 [u] rfl hF (by omega) hle ?_)
          intro v4 w4 hR4 hg4 ho4
          have HS4 : Aside (Row w4 w.heap.size v4 (keyTo key E (i + 1)) ∧ Below w.heap.size w w4) := ⟨by rw [HSN.out]; exact hR4, HB3.out.grown hg4 hle hRow.own⟩
          clear hR4 hg4 ho4 hRow hF HB3 HSN hll hle hkb c20 hr hix
          go_wp2
          go_roundg (m - (i + 1))
          case measure => omega
          case rel => exact ⟨i + 1, by go_num, by omega, Nat.le_refl _, HS4⟩
        · have HS4 : Aside (Row wr w.heap.size u5 (keyTo key E (i + 1)) ∧ Below w.heap.size w wr) := ⟨by rw [keyTo_succ hui, if_neg hk]; exact HS.out.1, HS.out.2⟩
          rw [decide_eq_false hk] at hkb
          clear HS hk
          go_wp2
          go_roundg (m - (i + 1))
          case measure => omega
          case rel => exact ⟨i + 1, by go_num, by omega, Nat.le_refl _, HS4⟩
      · obtain rfl : i = m := by omega
        have HR : Aside (Row wr w.heap.size u5 (ofKeyE key E) ∧ Below w.heap.size w wr) := by
          have := HS.out
          rw [keyTo, List.take_of_length_le (by omega)] at this
          exact this
        clear HS
        have hwK : Hid (∀ e ∈ ofKeyE key E, Wide e) := fun e he => hwd.out e (mem_ofKey he)
        obtain ⟨aK, cK, hvK, hEK⟩ := HR.out.1.evs hwK.out
        have HEK : Aside (Evs wr aK (ofKeyE key E).length cK (ofKeyE key E) ∧ Below w.heap.size w wr) := ⟨hEK, HR.out.2⟩
        subst hvK
        have hKl : (ofKeyE key E).length ≤ 1000 := by have := ofKey_len key E; omega
        have HTK : Hid (typeE (ofKeyE key E) key = typeE E key ∧ ofE (ofKeyE key E) key = ofE E key) := ⟨type_key E key, of_key E key⟩
        have hOl : (ofE E key).length ≤ 1000 := by have := of_len E key; omega
        have HOW : Hid (∀ e ∈ ofE E key, Wide e) := fun e he => hwd.out e (mem_of he)
        clear HR hEK
        generalize ofKeyE key E = F at *
        go_wp2_with fail
        refine (type_any ao i c E key wr (HE.out.below HEK.out.2 (Nat.le_refl _)) (by omega)).mono ?_
        rintro e w3 ⟨rfl, hb3⟩
        have HEK3 : Aside (Evs w3 aK F.length cK F ∧ Below w.heap.size w w3) := ⟨HEK.out.1.below hb3 (Nat.le_refl _), HEK.out.2.trans (hb3.mono HEK.out.2.size)⟩
        clear HEK hb3
        go_wp2_with fail
        refine (type_any aK _ cK F key w3 HEK3.out.1 hKl).mono ?_
        rintro e w4 ⟨rfl, hb4⟩
        have HEK4 : Aside (Evs w4 aK F.length cK F ∧ Below w.heap.size w w4) := ⟨HEK3.out.1.below hb4 (Nat.le_refl _), HEK3.out.2.trans (hb4.mono HEK3.out.2.size)⟩
        clear HEK3 hb4
        rw [HTK.out.1]
        go_wp2_with fail
        refine (of_any ao i c E key w4 (HE.out.below HEK4.out.2 (Nat.le_refl _)) (by omega)).mono ?_
        rintro e w5 ⟨v5, rfl, hR5, hb5⟩
        have HEK5 : Aside (Evs w5 aK F.length cK F ∧ Below w.heap.size w w5) := ⟨HEK4.out.1.below hb5 (Nat.le_refl _), HEK4.out.2.trans (hb5.mono HEK4.out.2.size)⟩
        clear HEK4 hb5
        go_wp2_with fail
        refine (of_any aK _ cK F key w5 HEK5.out.1 hKl).mono ?_
        rintro e w6 ⟨v6, rfl, hR6, hb6⟩
        rw [HTK.out.2] at hR6
        obtain ⟨a5, c5, hv5, hE5⟩ := (hR5.below hb6 (Nat.le_refl _)).evs HOW.out
        obtain ⟨a6, c6, hv6, hE6⟩ := hR6.evs HOW.out
        subst hv5 hv6
        have hb6' : Below w.heap.size w w6 := HEK5.out.2.trans (hb6.mono HEK5.out.2.size)
        clear hR5 hR6 hb6 HEK5
        go_wp2_with fail
        refine (same_yes a5 a6 _ c5 c6 _ w6 hE5 hE6 (by omega)).mono ?_
        rintro e w7 ⟨rfl, hb7⟩
        have HB7 : Hid (Below w.heap.size w w7) := hb6'.trans (hb7.mono hb6'.size)
        clear hb7 hb6' hE5 hE6
        go_wp2
        go_ret
        exact ⟨rfl, HB7.out⟩
end Go.Proofs.Ytmnhbkehicpohaa
