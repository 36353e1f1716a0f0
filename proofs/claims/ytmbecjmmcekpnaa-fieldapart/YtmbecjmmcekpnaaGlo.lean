/-
  What reg's isAny, isSet, latestOf, Latest and Value come to.
-/
import Derived.Test.YtmbecjmmcekpnaaGpu
namespace Go.Proofs.Ytmbecjmmcekpnaa
set_option maxRecDepth 100000
open Go.RowKit

set_option maxHeartbeats 400000 in
theorem isany_any (u : Ev) (_hl : u.deps.length = 16) (w : World) : Calls Try.prog 23 #[.agg (evc u)] w fun e w' => e = .returned (.bool (anyE u)) ∧ Below w.heap.size w w' := by
  have HB : Hid (Below w.heap.size w (w.alloc (.cells (evc u) 40))) := (Below.refl _ w).alloc (Nat.le_refl _) _
  go_enter Try.func23, Try.ntmps23
  go_wp2
  go_ret
  exact ⟨rfl, HB.out⟩
theorem kind_beq (k : Int) : (k == 1) = decide (k = 1) := by rw [Bool.eq_iff_iff]; simp
theorem two_new (w : World) : LiesE ((w.alloc (.cells (evc zv) 40)).alloc (.cells (evc zv) 40)) w.heap.size zv ∧ LiesE ((w.alloc (.cells (evc zv) 40)).alloc (.cells (evc zv) 40)) (w.heap.size + 1) zv ∧ Below w.heap.size w ((w.alloc (.cells (evc zv) 40)).alloc (.cells (evc zv) 40)) := boxedEE w zv zv
set_option maxHeartbeats 4000000 in
theorem lof_isany (ao : Option Addr) (m c : Nat) (E : List Ev) (w : World) (hE : Evs w ao m c E) (hm : m ≤ 1000) :
    Calls Try.prog 22 #[.slice ao m c, .func (.func 23) #[] #[]] w fun e w' => e = .returned (.tuple #[.agg (evc (orz (latL anyE E))), .bool (latL anyE E).isSome]) ∧ Below w.heap.size w w' := by
  have hlen := hE.len
  have HE : Aside (Evs w ao m c E) := hE
  have H0 : Aside (LiesE ((w.alloc (.cells (evc zv) 40)).alloc (.cells (evc zv) 40)) w.heap.size zv ∧ LiesE ((w.alloc (.cells (evc zv) 40)).alloc (.cells (evc zv) 40)) (w.heap.size + 1) (orz (latL anyE (E.take 0))) ∧ Below w.heap.size w ((w.alloc (.cells (evc zv) 40)).alloc (.cells (evc zv) 40))) := two_new w
  clear hE
  go_enter Try.func22, Try.ntmps22
  go_wp2
  go_loopg [7, 12] m (fun kx s7 s12 wr => ∃ i : Nat, s12 = .int .i64 i ∧ s7 = .bool (latL anyE (E.take i)).isSome ∧ i ≤ m ∧ m - i ≤ kx ∧ Aside (LiesE wr w.heap.size zv ∧ LiesE wr (w.heap.size + 1) (orz (latL anyE (E.take i))) ∧ Below w.heap.size w wr))
  case atStart => exact ⟨0, rfl, rfl, Nat.zero_le _, by omega, H0⟩
  case round =>
    clear H0
    obtain ⟨i, rfl, rfl, him, hkx, HS⟩ := hrel
    by_cases hlt : i < m
    · have hltz : (i : Int) < (m : Int) := by omega
      obtain ⟨b, off, u, rfl, hui, hu, hr, hbl⟩ := (HE.out.below HS.out.2.2 (Nat.le_refl _)).at hlt
      have hu16 := hu.1
      have hix := fun W : World => index_ev W (b := b) (off := off) (k := i) (m := m) (c := c) hlt
      have hsz : w.heap.size ≤ wr.heap.size := HS.out.2.2.size
      have hz := liesE_new wr zv
      have hB1 : Below wr.heap.size wr ((wr.alloc (.cells (evc zv) 40)).setRow wr.heap.size (evc u)) := below_setRow ((Below.refl _ _).alloc (Nat.le_refl _) _) (Nat.le_refl _) _
      have HSN : Hid (latL anyE (E.take (i + 1)) = stepL anyE (latL anyE (E.take i)) u) := latL_take hui
      have ho16 : (orz (latL anyE (E.take i))).deps.length = 16 := (orz_wide (fun e he => HE.out.wide e (List.mem_of_mem_take he))).1
      have HS1 : Aside (LiesE ((wr.alloc (.cells (evc zv) 40)).setRow wr.heap.size (evc u)) w.heap.size zv ∧ LiesE ((wr.alloc (.cells (evc zv) 40)).setRow wr.heap.size (evc u)) (w.heap.size + 1) (orz (latL anyE (E.take i))) ∧ Below w.heap.size w ((wr.alloc (.cells (evc zv) 40)).setRow wr.heap.size (evc u)) ∧ LiesE ((wr.alloc (.cells (evc zv) 40)).setRow wr.heap.size (evc u)) wr.heap.size u) :=
        ⟨HS.out.1.below hB1 HS.out.1.lt, HS.out.2.1.below hB1 HS.out.2.1.lt, HS.out.2.2.trans (hB1.mono hsz), hz.row u⟩
      clear hB1
      go_upto_region 6 with (first | refine load_ev_mid rfl rfl rfl hr hu16 ?_ | refine store_ev rfl rfl rfl rfl hz hu16 rfl ?_)
      change Code.wp _ _ _ _ ((wr.alloc (.cells (evc zv) 40)).setRow wr.heap.size (evc u))
      clear hz hr hix HS hbl
      generalize (wr.alloc (.cells (evc zv) 40)).setRow wr.heap.size (evc u) = W at HS1 ⊢
      generalize wr.heap.size = D at *
      generalize latL anyE (E.take i) = o at *
      have hE1 := HS1.out.2.2.2
      go_wp2_with (refine load_ev rfl rfl rfl hE1 hu16 ?_)
      refine (isany_any u hu16 W).mono ?_
      rintro e w2 ⟨rfl, hb2⟩
      have HS2 : Aside (LiesE w2 w.heap.size zv ∧ LiesE w2 (w.heap.size + 1) (orz o) ∧ Below w.heap.size w w2 ∧ LiesE w2 D u) := ⟨HS1.out.1.below hb2 HS1.out.1.lt, HS1.out.2.1.below hb2 HS1.out.2.1.lt, HS1.out.2.2.1.trans (hb2.mono HS1.out.2.2.1.size), hE1.below hb2 hE1.lt⟩
      clear hb2 hE1 HS1
      cases hp : anyE u with
      | false =>
        have HS3 : Aside (stepL anyE o u = o) := by show _ = _; simp [stepL, hp]
        go_wp2
        go_roundg (m - (i + 1))
        case measure => omega
        case rel => exact ⟨i + 1, by go_num, by rw [HSN.out, HS3.out], by omega, Nat.le_refl _, by rw [HSN.out, HS3.out]; exact ⟨HS2.out.1, HS2.out.2.1, HS2.out.2.2.1⟩⟩
      | true =>
        cases o with
        | none =>
          have HS3 : Aside (stepL anyE none u = some u) := by show _ = _; simp [stepL, hp]
          have hE2 := HS2.out.2.2.2
          have hL := HS2.out.2.1
          have HS4 : Aside (LiesE (w2.setRow (w.heap.size + 1) (evc u)) w.heap.size zv ∧ LiesE (w2.setRow (w.heap.size + 1) (evc u)) (w.heap.size + 1) u ∧ Below w.heap.size w (w2.setRow (w.heap.size + 1) (evc u))) := ⟨HS2.out.1.rowOther _ (by omega), hL.row u, below_setRow HS2.out.2.2.1 (by omega) _⟩
          clear HS2
          go_wp2_with (first | refine load_ev rfl rfl rfl hE2 hu16 ?_ | refine store_ev rfl rfl rfl rfl hL hu16 ho16 ?_)
          go_roundg (m - (i + 1))
          case measure => omega
          case rel => exact ⟨i + 1, by go_num, by rw [HSN.out, HS3.out]; rfl, by omega, Nat.le_refl _, by rw [HSN.out, HS3.out]; exact HS4⟩
        | some a =>
          have ha16 : a.deps.length = 16 := ho16
          have hE2 := HS2.out.2.2.2
          have hL : LiesE w2 (w.heap.size + 1) a := HS2.out.2.1
          go_wp2_with (first | refine load_ev rfl rfl rfl hE2 hu16 ?_ | refine load_ev rfl rfl rfl hL ha16 ?_)
          refine (later_any u a w2).mono ?_
          rintro e w3 ⟨rfl, hb3⟩
          have HS3 : Aside (LiesE w3 w.heap.size zv ∧ LiesE w3 (w.heap.size + 1) a ∧ Below w.heap.size w w3 ∧ LiesE w3 D u) := ⟨HS2.out.1.below hb3 HS2.out.1.lt, hL.below hb3 hL.lt, HS2.out.2.2.1.trans (hb3.mono HS2.out.2.2.1.size), hE2.below hb3 hE2.lt⟩
          clear hb3 hE2 hL HS2
          cases hl : laterE u a with
          | true =>
            have HT : Aside (stepL anyE (some a) u = some u) := by show _ = _; simp [stepL, hp, hl]
            have hE3 := HS3.out.2.2.2
            have hL := HS3.out.2.1
            have HS4 : Aside (LiesE (w3.setRow (w.heap.size + 1) (evc u)) w.heap.size zv ∧ LiesE (w3.setRow (w.heap.size + 1) (evc u)) (w.heap.size + 1) u ∧ Below w.heap.size w (w3.setRow (w.heap.size + 1) (evc u))) := ⟨HS3.out.1.rowOther _ (by omega), hL.row u, below_setRow HS3.out.2.2.1 (by omega) _⟩
            clear HS3
            go_wp2_with (first | refine load_ev rfl rfl rfl hE3 hu16 ?_ | refine store_ev rfl rfl rfl rfl hL hu16 ha16 ?_)
            go_roundg (m - (i + 1))
            case measure => omega
            case rel => exact ⟨i + 1, by go_num, by rw [HSN.out, HT.out]; rfl, by omega, Nat.le_refl _, by rw [HSN.out, HT.out]; exact HS4⟩
          | false =>
            have HT : Aside (stepL anyE (some a) u = some a) := by show _ = _; simp [stepL, hp, hl]
            go_wp2
            go_roundg (m - (i + 1))
            case measure => omega
            case rel => exact ⟨i + 1, by go_num, by rw [HSN.out, HT.out]; rfl, by omega, Nat.le_refl _, by rw [HSN.out, HT.out]; exact ⟨HS3.out.1, HS3.out.2.1, HS3.out.2.2.1⟩⟩
    · obtain rfl : i = m := by omega
      have eT : E.take i = E := List.take_of_length_le (by omega)
      have ho16 : (orz (latL anyE E)).deps.length = 16 := (orz_wide HE.out.wide).1
      rw [eT] at HS ⊢
      clear eT
      have hz := HS.out.1
      have hL := HS.out.2.1
      have HB : Hid (Below w.heap.size w wr) := HS.out.2.2
      clear HS
      obtain ⟨f, HF⟩ : ∃ f, Hid (orz (latL anyE E) = f) := ⟨_, show _ = _ from rfl⟩
      obtain ⟨t, HT⟩ : ∃ t, Hid ((latL anyE E).isSome = t) := ⟨_, show _ = _ from rfl⟩
      rw [HF.out] at hL ho16
      rw [HT.out]
      go_wp2_with (first | refine load_ev rfl rfl rfl hL ho16 ?_ | refine store_ev rfl rfl rfl rfl hz ho16 rfl ?_)
      exact ret_ev2 rfl rfl rfl rfl (hz.row f) ho16 ⟨by rw [HF.out, HT.out]; rfl, below_setRow HB.out (Nat.le_refl _) _⟩
set_option maxHeartbeats 1000000 in
theorem glatest_any (ao : Option Addr) (m c : Nat) (E : List Ev) (w : World) (hE : Evs w ao m c E) (hm : m ≤ 1000) :
    Calls Try.prog 19 #[.slice ao m c] w fun e w' => e = .returned (.tuple #[.agg (evc (orz (latL anyE E))), .bool (latL anyE E).isSome]) ∧ Below w.heap.size w w' := by
  have hz := liesE_new w zv
  have hwo := (orz_wide (p := anyE) hE.wide).1
  have hB : Below w.heap.size w (w.alloc (.cells (evc zv) 40)) := (Below.refl _ w).alloc (Nat.le_refl _) _
  have hE0 := hE.below hB (Nat.le_refl _)
  have HB : Hid (Below w.heap.size w (w.alloc (.cells (evc zv) 40))) := hB
  clear hB hE
  go_enter Try.func19, Try.ntmps19
  go_wp2_with fail
  refine (lof_isany ao m c E _ hE0 hm).mono ?_
  rintro e w1 ⟨rfl, hb1⟩
  have hz1 := hz.below hb1 hz.lt
  have HB1 : Hid (Below w.heap.size w w1) := HB.out.trans (hb1.mono HB.out.size)
  clear hz hb1 hE0 HB
  obtain ⟨f, HF⟩ : ∃ f, Hid (orz (latL anyE E) = f) := ⟨_, show _ = _ from rfl⟩
  obtain ⟨t, HT⟩ : ∃ t, Hid ((latL anyE E).isSome = t) := ⟨_, show _ = _ from rfl⟩
  rw [HF.out] at hwo ⊢
  rw [HT.out]
  go_wp2_with (refine store_ev rfl rfl rfl rfl hz1 hwo rfl ?_)
  exact ret_ev2 rfl rfl rfl rfl (hz1.row f) hwo ⟨by rw [HF.out, HT.out]; rfl, below_setRow HB1.out (Nat.le_refl _) _⟩
end Go.Proofs.Ytmbecjmmcekpnaa
