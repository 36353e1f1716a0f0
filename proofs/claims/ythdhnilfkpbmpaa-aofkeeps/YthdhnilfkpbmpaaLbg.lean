/-
  What begun, awake and few come to.
-/
import Derived.Test.YthdhnilfkpbmpaaLar
namespace Go.Proofs.Ythdhnilfkpbmpaa
set_option maxRecDepth 100000
set_option linter.unusedVariables false
open Go.RowKit

theorem rd_nil : rd [] = ⟨false, [], [], 0⟩ := rd_file (b := false) (s := []) (E := []) ⟨by simp, by simp, fun _ => rfl⟩
set_option maxHeartbeats 1000000 in
theorem begun_any (x : Int) (w : World) :
    Calls Try.prog 10 #[.int .i64 x] w fun e w' => ∃ g gd vE vd, e = .returned (.tuple #[.pointer (some ⟨g, 0, none⟩), .pointer (some ⟨gd, 0, none⟩)]) ∧ Both w' w.heap.size g gd vE vd false [] [] 0 [] 0 (held x) ∧ Below w.heap.size w w' := by
  have hD := dsk_new w w.heap.size (held x) (Nat.le_refl _) (held_le x)
  have hb1 : Below w.heap.size w (w.alloc (.cells #[.slice none 0 0, .int .i64 0, .int .i64 (held x : Int)] 69)) := (Below.refl _ _).alloc (Nat.le_refl _) _
  have HO : Hid _ := open_any hD hb1.size
  go_enter Try.func10, Try.ntmps10
  go_wp2_with fail
  refine (new_any x w).mono ?_
  rintro e w1 ⟨rfl, hw1⟩
  subst hw1
  generalize w.alloc (.cells #[.slice none 0 0, .int .i64 0, .int .i64 (held x : Int)] 69) = w1 at *
  go_wp2_with fail
  refine Calls.mono HO.out ?_
  rintro e w2 ⟨g, vE, vd', rfl, hg, hvE, hL, hD2, hS⟩
  rw [rd_nil] at hL hD2
  have HF : Hid (Both w2 w.heap.size g w.heap.size vE vd' false [] [] 0 [] 0 (held x)) := ⟨hL, hD2⟩
  have HB : Hid (Below w.heap.size w w2) := hb1.trans (hD.stepBelow hS hb1.size)
  clear HO hL hD2 hS hD
  go_wp2
  go_ret2
  exact ⟨g, w.heap.size, vE, vd', rfl, HF.out, HB.out⟩

/-- The event of awake. -/
def aw : Ev := ⟨0, 1, 0, zeros, 11, [107], [], [], 0, 0, 0⟩
theorem aw_good : Good aw := ⟨rfl, by decide +kernel⟩
theorem aw_len : (Fr.frame (eb aw)).length = 29 := by rw [Fr.frame_length]; decide +kernel
theorem held200 : held 200 = 200 := by decide
set_option maxHeartbeats 2000000 in
theorem awake_any (w : World) : Calls Try.prog 8 #[] w fun e w' => e = .returned (.bool true) ∧ Below w.heap.size w w' := by
  go_enter Try.func8, Try.ntmps8
  go_wp2_with fail
  refine (begun_any 200 w).mono ?_
  rintro e w1 ⟨g, gd, vE, vd, rfl, hB, hb⟩
  rw [held200] at hB
  have HR : Hid _ := room_any (some ⟨gd, 0, none⟩) _ gd vd [] 0 200 w1 w1 (orz_some gd _) hB.dsk
  have HA : Hid _ := add_ok aw hB hb.size aw_good (by simp) (by rw [aw_len]; decide)
  go_wp2_with fail
  refine Calls.mono HR.out ?_
  rintro e w2 ⟨rfl, rfl⟩
  clear HR
  go_wp2_with fail
  refine Calls.mono HA.out ?_
  rintro e w3 ⟨rfl, -, vE', vd', hB3, hM3⟩
  have HB3 : Hid (Below w.heap.size w w3) := hb.trans (hB.moved hM3 hb.size)
  have HE : Hid _ := events_any (some ⟨g, 0, none⟩) _ g _ _ _ _ _ _ w3 w3 (lorz_some g _) hB3.log
  clear HA hB hM3
  go_wp2_with fail
  refine Calls.mono HE.out ?_
  rintro e w4 ⟨v4, rfl, hr4, hb4⟩
  obtain ⟨a4, c4, rfl, -⟩ := Row.evs hr4 (fun x hx => by rw [List.nil_append, List.mem_singleton] at hx; rw [hx]; exact aw_good.wide)
  have hD4 := hB3.dsk.below hb4 (Nat.le_refl _)
  have HY : Hid _ := bytes_any (some ⟨gd, 0, none⟩) _ gd _ _ _ _ w4 w4 (orz_some gd _) hD4
  have hl4 : ([] ++ [aw] : List Ev).length = 1 := rfl
  rw [hl4]
  have HB4 : Hid (Below w.heap.size w w4) := HB3.out.trans (hb4.mono HB3.out.size)
  clear HE hr4 hb4 hB3 HB3 hD4
  go_wp2_with fail
  refine Calls.mono HY.out ?_
  rintro e w5 ⟨v5, rfl, hr5, hb5⟩
  obtain ⟨a5, c5, rfl, -⟩ := own_val hr5
  have hl5 : ([] ++ Fr.frame (eb aw)).length = 29 := aw_len
  rw [hl5]
  clear HY hr5
  go_wp2
  go_ret
  exact ⟨rfl, HB4.out.trans (hb5.mono HB4.out.size)⟩

/-- A script that is tried. -/
def Few (m : Nat) (O : Nat → Cl) : Prop := m ≤ 100 ∧ ∀ i, i < m → (O i).s.length ≤ 70000 ∧ (O i).lm ≤ 100
theorem cl_s {w : World} {b k : Nat} {o : Cl} (h : w.rangeAt b k (cll o)) (hw : IsCl w o) : w.cell? ⟨b, k + 30, none⟩ = some (.string (sb o.s)) := h 30 _ (cll_tail hw.e 0)
theorem cl_l {w : World} {b k : Nat} {o : Cl} (h : w.rangeAt b k (cll o)) (hw : IsCl w o) : w.cell? ⟨b, k + 31, none⟩ = some (.slice o.la o.lm o.lc) := h 31 _ (cll_tail hw.e 1)
theorem cl_k {w : World} {b k : Nat} {o : Cl} (h : w.rangeAt b k (cll o)) : w.cell? ⟨b, k, none⟩ = some (.int .i64 o.kind) := h 0 _ rfl

set_option maxHeartbeats 1000000 in
theorem few_any (a : Option Addr) (m c : Nat) (O : Nat → Cl) (w : World) (hS : IsCls w a m O) :
    Calls Try.prog 9 #[.slice a m c] w fun e w' => w' = w ∧ ((e = .returned (.bool true) ∧ Few m O) ∨ e = .returned (.bool false)) := by
  have hml := hS.1
  unfold maxLen at hml
  by_cases hm100 : 100 < m
  · have hm : (100 : Int) < (m : Int) := by omega
    go_enter Try.func9, Try.ntmps9
    go_wp2
    go_ret
    exact ⟨rfl, .inr rfl⟩
  · have hm : ¬ (100 : Int) < (m : Int) := by omega
    go_enter Try.func9, Try.ntmps9
    go_wp2_with fail
    go_loop [9] (fun i => ∃ k : Nat, k ≤ m ∧ i = .int .i64 (k : Int) ∧ ∀ j, j < k → (O j).s.length ≤ 70000 ∧ (O j).lm ≤ 100) (fun i => m - (intOf i).toNat)
    case atStart => exact ⟨0, Nat.zero_le _, rfl, fun j hj => by omega⟩
    case round =>
      obtain ⟨k, hk, rfl, hall⟩ := hrel
      by_cases hkm : k < m
      · rcases hS.2 with h0 | ⟨b, off, rfl, hb, hS⟩
        · omega
        obtain ⟨hr, hcl⟩ := hS k hkm
        have c5 := cl_s hr hcl
        have c6 := cl_l hr hcl
        have hs1 := hcl.s
        have hs2 : (O k).lm ≤ 9223372036854775807 := by have := hcl.L.room; have := hcl.L.top; unfold maxLen at this; omega
        have hsz : (sb (O k).s).size = (O k).s.length := sb_size _
        have Hall : Hid (∀ j, j < k → (O j).s.length ≤ 70000 ∧ (O j).lm ≤ 100) := hall
        have HO : Hid ((O k).s.length ≤ 70000 ∧ (O k).lm ≤ 100 → ∀ j, j < k + 1 → (O j).s.length ≤ 70000 ∧ (O j).lm ≤ 100) := fun h j hj => by
          by_cases e : j = k
          · rw [e]; exact h
          · exact hall j (by omega)
        clear hS hall hr hcl
        generalize (O k).lm = q at *
        generalize (O k).s.length = n at *
        generalize (O k).la = la at *
        generalize (O k).lc = lc at *
        generalize sb (O k).s = t at *
        by_cases hbig : 70000 < n
        · have hb' : (70000 : Int) < (t.size : Int) := by omega
          clear hsz
          go_wp2
          go_ret
          exact ⟨rfl, .inr rfl⟩
        · have hb' : ¬ (70000 : Int) < (t.size : Int) := by omega
          have hb1 : ¬ 70000 < t.size := by omega
          clear hsz
          by_cases hbig2 : 100 < q
          · have hb2 : (100 : Int) < (q : Int) := by omega
            go_wp2
            go_ret
            exact ⟨rfl, .inr rfl⟩
          · have hb2 : ¬ (100 : Int) < (q : Int) := by omega
            go_wp2
            go_round
            case rel => exact ⟨k + 1, by omega, by go_num, HO.out ⟨by omega, by omega⟩⟩
            case measure => simp [intOf]; omega
      · obtain rfl : k = m := by omega
        have HA : Hid (Few k O) := ⟨by omega, hall⟩
        clear hall
        go_wp2
        go_ret
        exact ⟨rfl, .inl ⟨rfl, HA.out⟩⟩
end Go.Proofs.Ythdhnilfkpbmpaa
