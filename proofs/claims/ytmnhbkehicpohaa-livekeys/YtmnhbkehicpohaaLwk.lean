/-
  What the laws' awake and few come to.
-/
import Derived.Test.YtmnhbkehicpohaaLty
namespace Go.Proofs.Ytmnhbkehicpohaa
set_option maxRecDepth 100000
open Go.RowKit

def aw : Ev := ⟨0, 1, 0, zeros, 1, [107], [], [], 0, 0, 0⟩
theorem aw_wide : Wide aw := ⟨rfl, ⟨by simp [aw], by simp [aw], by simp [aw]⟩⟩
theorem aw_type : typeE [aw] [107] = 1 := by decide +kernel
theorem aw_all : (allE [aw]).length = 1 := by decide +kernel
set_option maxHeartbeats 1000000 in
theorem awake_any (w : World) : Calls Try.prog 9 #[] w fun e w' => e = .returned (.bool true) ∧ Below w.heap.size w w' := by
  have hz := liesE_new w zv
  have hE1 : LiesE ((w.alloc (.cells (evc zv) 30)).setRow w.heap.size (evc aw)) w.heap.size aw := hz.row aw
  have hB1 : Below w.heap.size w ((w.alloc (.cells (evc zv) 30)).setRow w.heap.size (evc aw)) := below_setRow ((Below.refl _ _).alloc (Nat.le_refl _) _) (Nat.le_refl _) _
  have HS : Aside (LiesE ((w.alloc (.cells (evc zv) 30)).setRow w.heap.size (evc aw)) w.heap.size aw ∧ Below w.heap.size w ((w.alloc (.cells (evc zv) 30)).setRow w.heap.size (evc aw))) := ⟨hE1, hB1⟩
  clear hE1 hB1
  go_enter Try.func9, Try.ntmps9
  go_upto_region 2 with (refine store_ev (e := aw) rfl rfl rfl rfl hz rfl rfl ?_)
  change Code.wp _ _ _ _ ((w.alloc (.cells (evc zv) 30)).setRow w.heap.size (evc aw))
  generalize (w.alloc (.cells (evc zv) 30)).setRow w.heap.size (evc aw) = W at HS ⊢
  clear hz
  have hE1 := HS.out.1
  go_wp2_with (first | refine load_ev rfl rfl rfl hE1 rfl ?_ | refine build_ev1 rfl rfl rfl rfl ?_)
  refine (type_any (some ⟨W.heap.size, 0, none⟩) 1 1 [aw] [107] _ (evs_single _ _ aw aw_wide (liesE_new W aw)) (by omega)).mono ?_
  rintro e w1 ⟨rfl, hb1⟩
  have hb1' : Below W.heap.size W w1 := ((Below.refl _ W).alloc (Nat.le_refl _) (.cells (evc aw) 30)).trans (hb1.mono (by simp))
  have hE2 := hE1.below hb1' hE1.lt
  have HB2 : Hid (Below w.heap.size w w1) := HS.out.2.trans (hb1'.mono HS.out.2.size)
  rw [aw_type]
  clear hb1 hb1' hE1 HS
  go_wp2_with (first | refine load_ev rfl rfl rfl hE2 rfl ?_ | refine build_ev1 rfl rfl rfl rfl ?_)
  refine (all_any (some ⟨w1.heap.size, 0, none⟩) 1 1 [aw] _ (evs_single _ _ aw aw_wide (liesE_new w1 aw)) (by omega)).mono ?_
  rintro e w2 ⟨v2, rfl, hR2, hb2⟩
  have hb2' : Below w1.heap.size w1 w2 := ((Below.refl _ w1).alloc (Nat.le_refl _) (.cells (evc aw) 30)).trans (hb2.mono (by simp))
  have HB3 : Hid (Below w.heap.size w w2) := HB2.out.trans (hb2'.mono HB2.out.size)
  obtain ⟨a2, c2, hv2, -⟩ := hR2.evs (fun e he => by have := mem_all he; rw [List.mem_singleton.1 this]; exact aw_wide)
  rw [aw_all] at hv2
  subst hv2
  clear hb2 hb2' hE2 hR2 HB2
  go_wp2
  go_ret
  exact ⟨rfl, HB3.out⟩

set_option maxHeartbeats 1000000 in
theorem few_any (ao : Option Addr) (m c : Nat) (E : List Ev) (w : World) (hE : Evs w ao m c E) :
    Calls Try.prog 10 #[.slice ao m c] w fun e w' => ∃ t : Bool, e = .returned (.bool t) ∧ (t = true → m ≤ 200) ∧ Below w.heap.size w w' := by
  have HE : Aside (Evs w ao m c E) := hE
  clear hE
  by_cases hbig : 200 < m
  · have hz : (200 : Int) < (m : Int) := by omega
    go_enter Try.func10, Try.ntmps10
    go_wp2
    go_ret
    exact ⟨_, rfl, by simp, Below.refl _ _⟩
  · have hz : ¬ (200 : Int) < (m : Int) := by omega
    go_enter Try.func10, Try.ntmps10
    go_wp2
    go_loopg [9] m (fun kx s9 wr => ∃ i : Nat, s9 = .int .i64 i ∧ i ≤ m ∧ m - i ≤ kx ∧ Below w.heap.size w wr)
    case atStart => exact ⟨0, rfl, Nat.zero_le _, by omega, Below.refl _ _⟩
    case round =>
      obtain ⟨i, rfl, him, hkx, hb⟩ := hrel
      by_cases hlt : i < m
      · have hltz : (i : Int) < (m : Int) := by omega
        obtain ⟨b, off, u, rfl, hui, hu, hr, hbl⟩ := (HE.out.below hb (Nat.le_refl _)).at hlt
        have hix := fun W : World => index_ev W (b := b) (off := off) (k := i) (m := m) (c := c) hlt
        have ck := range_key hr hu.1
        have cf := range_field hr hu.1
        have HB : Hid (Below w.heap.size w wr) := hb
        clear hr hb
        obtain ⟨z, hzz⟩ : ∃ z, IntKind.i64.wrap (((sb u.key).size : Int) + ((sb u.field).size : Int)) = z := ⟨_, rfl⟩
        by_cases hg : 1000 < z
        · have hgb : decide (1000 < z) = true := decide_eq_true hg
          go_wp2_with fail
          go_quiet (fail)
          go_wp2
          go_ret
          exact ⟨_, rfl, fun _ => by omega, Below.drewN HB.out nq⟩
        · have hgb : decide (1000 < z) = false := decide_eq_false hg
          go_wp2_with fail
          go_quiet (fail)
          go_wp2
          go_roundg (m - (i + 1))
          case measure => omega
          case rel => exact ⟨i + 1, by go_num, by omega, Nat.le_refl _, Below.drewN HB.out nq⟩
      · have hltz : ¬ (i : Int) < (m : Int) := by omega
        have HB : Hid (Below w.heap.size w wr) := hb
        clear hb
        go_wp2
        go_ret
        exact .inr ⟨rfl, by omega, HB.out⟩
end Go.Proofs.Ytmnhbkehicpohaa
