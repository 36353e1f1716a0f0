/-
  What reg's isAny, isSet, latestOf, Latest and Value come to.
-/
import Derived.Test.YtmlfekbmbnfkjabGreatDoorR29
import Derived.Test.YtmlfekbmbnfkjabGreatDoorR28
import Derived.Test.YtmlfekbmbnfkjabGreatDoorR09
import Derived.Lib.MinMax
import Derived.Test.YtmlfekbmbnfkjabGreatDoorR19
import Derived.Test.YtmlfekbmbnfkjabGreatDoorR11
import Derived.Maps.OwnSet
import Derived.Maps.RangeWalk
import Derived.Sort.KeysCollected
import Derived.Laws.OwnMore
import Derived.Laws.AppendOwnNone
import Derived.Great.BuildSlice
import Derived.Deep.MidRow
import Derived.OwnWalk
import Derived.Lib.SliceRun
import Derived.BigQuiet
import Derived.Deep.RegionHeld3
namespace Go.Proofs.YtmlfekbmbnfkjabGreatDoor
set_option maxRecDepth 100000
set_option maxRecDepth 100000
open Go.RowKit

theorem kind_beq (k : Int) : (k == 1) = decide (k = 1) := by rw [Bool.eq_iff_iff]; simp
set_option maxHeartbeats 400000 in
theorem isset_any (u : Ev) (hl : u.deps.length = 16) (w : World) : Calls Tryz.prog 176 #[.agg (evc u)] w fun e w' => e = .returned (.bool (setE u)) ∧ Below w.heap.size w w' := by
  have HB : Hid (Below w.heap.size w (w.alloc (.cells (evc u) 47))) := (Below.refl _ w).alloc (Nat.le_refl _) _
  have c19 := (liesE_new w u).c19 hl
  unfold setE
  go_enter Tryz.func176, Tryz.ntmps176
  go_wp2
  all_goals
    go_ret
    refine ⟨?_, HB.out⟩
    show Ending.returned (.bool (u.kind == 1)) = _
    rw [kind_beq]
theorem two_new (w : World) : LiesE ((w.alloc (.cells (evc zv) 47)).alloc (.cells (evc zv) 47)) w.heap.size zv ∧ LiesE ((w.alloc (.cells (evc zv) 47)).alloc (.cells (evc zv) 47)) (w.heap.size + 1) zv ∧ Below w.heap.size w ((w.alloc (.cells (evc zv) 47)).alloc (.cells (evc zv) 47)) := boxedEE w zv zv
set_option maxHeartbeats 4000000 in
theorem lof_isset (ao : Option Addr) (m c : Nat) (E : List Ev) (w : World) (hE : Evs w ao m c E) (hm : m ≤ 1000) :
    Calls Tryz.prog 175 #[.slice ao m c, .func (.func 176) #[] #[]] w fun e w' => e = .returned (.tuple #[.agg (evc (orz (latL setE E))), .bool (latL setE E).isSome]) ∧ Below w.heap.size w w' := by
  have hlen := hE.len
  have HE : Aside (Evs w ao m c E) := hE
  have H0 : Aside (LiesE ((w.alloc (.cells (evc zv) 47)).alloc (.cells (evc zv) 47)) w.heap.size zv ∧ LiesE ((w.alloc (.cells (evc zv) 47)).alloc (.cells (evc zv) 47)) (w.heap.size + 1) (orz (latL setE (E.take 0))) ∧ Below w.heap.size w ((w.alloc (.cells (evc zv) 47)).alloc (.cells (evc zv) 47))) := two_new w
  clear hE
  go_enter Tryz.func175, Tryz.ntmps175
  go_wp2
  go_loopg [7, 12] m (fun kx s7 s12 wr => ∃ i : Nat, s12 = .int .i64 i ∧ s7 = .bool (latL setE (E.take i)).isSome ∧ i ≤ m ∧ m - i ≤ kx ∧ Aside (LiesE wr w.heap.size zv ∧ LiesE wr (w.heap.size + 1) (orz (latL setE (E.take i))) ∧ Below w.heap.size w wr))
  case atStart => exact ⟨0, rfl, rfl, Nat.zero_le _, by omega, H0⟩
  case round =>
    clear H0
    obtain ⟨i, rfl, rfl, him, hkx, HS⟩ := hrel
    by_cases hlt : i < m
    · have hltz : (i : Int) < (m : Int) := by omega
      obtain ⟨b, off, u, rfl, hui, hu, hr, hbl⟩ := (HE.out.below HS.out.2.2 (Nat.le_refl _)).at hlt
      have hu16 := hu.1
      have hix := fun W : World => index_ev W (b := b) (off := off) (k := i) (m := m) (c := c) hlt
      have hsz : w.heap.size ≤ wr.heap.size := HS.out.2.2.size
      have hz := liesE_new wr zv
      have hB1 : Below wr.heap.size wr ((wr.alloc (.cells (evc zv) 47)).setRow wr.heap.size (evc u)) := below_setRow ((Below.refl _ _).alloc (Nat.le_refl _) _) (Nat.le_refl _) _
      have HSN : Hid (latL setE (E.take (i + 1)) = stepL setE (latL setE (E.take i)) u) := latL_take hui
      have ho16 : (orz (latL setE (E.take i))).deps.length = 16 := (orz_wide (fun e he => HE.out.wide e (List.mem_of_mem_take he))).1
      have HS1 : Aside (LiesE ((wr.alloc (.cells (evc zv) 47)).setRow wr.heap.size (evc u)) w.heap.size zv ∧ LiesE ((wr.alloc (.cells (evc zv) 47)).setRow wr.heap.size (evc u)) (w.heap.size + 1) (orz (latL setE (E.take i))) ∧ Below w.heap.size w ((wr.alloc (.cells (evc zv) 47)).setRow wr.heap.size (evc u)) ∧ LiesE ((wr.alloc (.cells (evc zv) 47)).setRow wr.heap.size (evc u)) wr.heap.size u) :=
        ⟨HS.out.1.below hB1 HS.out.1.lt, HS.out.2.1.below hB1 HS.out.2.1.lt, HS.out.2.2.trans (hB1.mono hsz), hz.row u⟩
      clear hB1
      go_upto_region 6 with (first | refine load_ev_mid rfl rfl rfl hr hu16 ?_ | refine store_ev rfl rfl rfl rfl hz hu16 rfl ?_)
      change Code.wp _ _ _ _ ((wr.alloc (.cells (evc zv) 47)).setRow wr.heap.size (evc u))
      clear hz hr hix HS hbl
      generalize (wr.alloc (.cells (evc zv) 47)).setRow wr.heap.size (evc u) = W at HS1 ⊢
      generalize wr.heap.size = D at *
      generalize latL setE (E.take i) = o at *
      have hE1 := HS1.out.2.2.2
      go_wp2_with (refine load_ev rfl rfl rfl hE1 hu16 ?_)
      refine (isset_any u hu16 W).mono ?_
      rintro e w2 ⟨rfl, hb2⟩
      have HS2 : Aside (LiesE w2 w.heap.size zv ∧ LiesE w2 (w.heap.size + 1) (orz o) ∧ Below w.heap.size w w2 ∧ LiesE w2 D u) := ⟨HS1.out.1.below hb2 HS1.out.1.lt, HS1.out.2.1.below hb2 HS1.out.2.1.lt, HS1.out.2.2.1.trans (hb2.mono HS1.out.2.2.1.size), hE1.below hb2 hE1.lt⟩
      clear hb2 hE1 HS1
      cases hp : setE u with
      | false =>
        have HS3 : Aside (stepL setE o u = o) := by show _ = _; simp [stepL, hp]
        go_wp2
        go_roundg (m - (i + 1))
        case measure => omega
        case rel => exact ⟨i + 1, by go_num, by rw [HSN.out, HS3.out], by omega, Nat.le_refl _, by rw [HSN.out, HS3.out]; exact ⟨HS2.out.1, HS2.out.2.1, HS2.out.2.2.1⟩⟩
      | true =>
        cases o with
        | none =>
          have HS3 : Aside (stepL setE none u = some u) := by show _ = _; simp [stepL, hp]
          have hE2 := HS2.out.2.2.2
          have hL := HS2.out.2.1
          have HS4 : Aside (LiesE (w2.setRow (w.heap.size + 1) (evc u)) w.heap.size zv ∧ LiesE (w2.setRow (w.heap.size + 1) (evc u)) (w.heap.size + 1) u ∧ Below w.heap.size w (w2.setRow (w.heap.size + 1) (evc u))) := ⟨HS2.out.1.rowOther _ (by omega), hL.row u, below_setRow HS2.out.2.2.1 (by omega) _⟩
          clear HS2
          go_wp2_with (first | refine load_ev rfl rfl rfl hE2 hu16 ?_ | refine store_ev rfl rfl rfl rfl hL hu16 ho16 ?_)
          go_roundg (m - (i + 1))
          case measure => omega
          case rel => exact ⟨i + 1, by go_num, by rw [HSN.out, HS3.out]; rfl, by omega, Nat.le_refl _, by rw [HSN.out, HS3.out]; exact HS4⟩
        | some a =>
          have ha16 : a.deps.length = 16 := ho16
          have hE2 := HS2.out.2.2.2
          have hL : LiesE w2 (w.heap.size + 1) a := HS2.out.2.1
          go_wp2_with (first | refine load_ev rfl rfl rfl hE2 hu16 ?_ | refine load_ev rfl rfl rfl hL ha16 ?_)
          refine (later_any u a w2).mono ?_
          rintro e w3 ⟨rfl, hb3⟩
          have HS3 : Aside (LiesE w3 w.heap.size zv ∧ LiesE w3 (w.heap.size + 1) a ∧ Below w.heap.size w w3 ∧ LiesE w3 D u) := ⟨HS2.out.1.below hb3 HS2.out.1.lt, hL.below hb3 hL.lt, HS2.out.2.2.1.trans (hb3.mono HS2.out.2.2.1.size), hE2.below hb3 hE2.lt⟩
          clear hb3 hE2 hL HS2
          cases hl : laterE u a with
          | true =>
            have HT : Aside (stepL setE (some a) u = some u) := by show _ = _; simp [stepL, hp, hl]
            have hE3 := HS3.out.2.2.2
            have hL := HS3.out.2.1
            have HS4 : Aside (LiesE (w3.setRow (w.heap.size + 1) (evc u)) w.heap.size zv ∧ LiesE (w3.setRow (w.heap.size + 1) (evc u)) (w.heap.size + 1) u ∧ Below w.heap.size w (w3.setRow (w.heap.size + 1) (evc u))) := ⟨HS3.out.1.rowOther _ (by omega), hL.row u, below_setRow HS3.out.2.2.1 (by omega) _⟩
            clear HS3
            go_wp2_with (first | refine load_ev rfl rfl rfl hE3 hu16 ?_ | refine store_ev rfl rfl rfl rfl hL hu16 ha16 ?_)
            go_roundg (m - (i + 1))
            case measure => omega
            case rel => exact ⟨i + 1, by go_num, by rw [HSN.out, HT.out]; rfl, by omega, Nat.le_refl _, by rw [HSN.out, HT.out]; exact HS4⟩
          | false =>
            have HT : Aside (stepL setE (some a) u = some a) := by show _ = _; simp [stepL, hp, hl]
            go_wp2
            go_roundg (m - (i + 1))
            case measure => omega
            case rel => exact ⟨i + 1, by go_num, by rw [HSN.out, HT.out]; rfl, by omega, Nat.le_refl _, by rw [HSN.out, HT.out]; exact ⟨HS3.out.1, HS3.out.2.1, HS3.out.2.2.1⟩⟩
    · obtain rfl : i = m := by omega
      have eT : E.take i = E := List.take_of_length_le (by omega)
      have ho16 : (orz (latL setE E)).deps.length = 16 := (orz_wide HE.out.wide).1
      rw [eT] at HS ⊢
      clear eT
      have hz := HS.out.1
      have hL := HS.out.2.1
      have HB : Hid (Below w.heap.size w wr) := HS.out.2.2
      clear HS
      obtain ⟨f, HF⟩ : ∃ f, Hid (orz (latL setE E) = f) := ⟨_, show _ = _ from rfl⟩
      obtain ⟨t, HT⟩ : ∃ t, Hid ((latL setE E).isSome = t) := ⟨_, show _ = _ from rfl⟩
      rw [HF.out] at hL ho16
      rw [HT.out]
      go_wp2_with (first | refine load_ev rfl rfl rfl hL ho16 ?_ | refine store_ev rfl rfl rfl rfl hz ho16 rfl ?_)
      exact ret_ev2 rfl rfl rfl rfl (hz.row f) ho16 ⟨by rw [HF.out, HT.out]; rfl, below_setRow HB.out (Nat.le_refl _) _⟩
set_option maxHeartbeats 1000000 in
theorem gvalue_any (ao : Option Addr) (m c : Nat) (E : List Ev) (w : World) (hE : Evs w ao m c E) (hm : m ≤ 1000) :
    Calls Tryz.prog 139 #[.slice ao m c] w fun e w' => e = .returned (.tuple #[.string (sb (orz (latL setE E)).value), .bool (latL setE E).isSome]) ∧ Below w.heap.size w w' := by
  have hwo := (orz_wide (p := setE) hE.wide).1
  go_enter Tryz.func139, Tryz.ntmps139
  go_wp2_with fail
  refine (lof_isset ao m c E w hE hm).mono ?_
  rintro e w1 ⟨rfl, hb1⟩
  have hz := liesE_new w1 zv
  obtain ⟨f, HF⟩ : ∃ f, Hid (orz (latL setE E) = f) := ⟨_, show _ = _ from rfl⟩
  obtain ⟨t, HT⟩ : ∃ t, Hid ((latL setE E).isSome = t) := ⟨_, show _ = _ from rfl⟩
  rw [HF.out] at hwo ⊢
  rw [HT.out]
  have hz2 := hz.row f
  have HB : Hid (Below w.heap.size w ((w1.alloc (.cells (evc zv) 47)).setRow w1.heap.size (evc f))) := below_setRow (hb1.alloc hb1.size _) hb1.size _
  have c22 := hz2.c22 hwo
  clear hb1 hE
  go_upto_region 2 with (refine store_ev rfl rfl rfl rfl hz hwo rfl ?_)
  change Code.wp _ _ _ _ ((w1.alloc (.cells (evc zv) 47)).setRow w1.heap.size (evc f))
  clear hz hz2
  generalize (w1.alloc (.cells (evc zv) 47)).setRow w1.heap.size (evc f) = W at *
  generalize w1.heap.size = D at *
  go_wp2
  go_ret2
  exact ⟨by rw [HF.out, HT.out]; rfl, HB.out⟩
end Go.Proofs.YtmlfekbmbnfkjabGreatDoor

/-
  What living, there, Type, Text and VV come to; few.
-/
namespace Go.Proofs.YtmlfekbmbnfkjabGreatDoor
set_option maxRecDepth 100000
open Go.RowKit

theorem ev_ne : (47 : Nat) ≠ 112 := by decide
/-- The list so far. -/
structure Lx (w : World) (v : Value) (E : List Ev) (wr : World) : Prop where
  row : Row wr w.heap.size v E
  be : Below w.heap.size w wr
theorem Row.cellsAt {w : World} {base : Nat} {v : Value} {E : List Ev} (h : Row w base v E) : ∀ k, v.ownBlock = some k → base ≤ k ∧ k < w.heap.size ∧ ∃ cur, w.heap[k]? = some (.cells cur 47 (0, 0)) := by
  intro k hk
  rcases h.2 with ⟨rfl, -⟩ | ⟨g, cap, cur, rfl, hbg, hg, -⟩
  · cases hk
  · obtain rfl : g = k := by simpa [Value.ownBlock] using hk
    exact ⟨hbg, (Array.getElem?_eq_some_iff.1 hg).1, cur, hg⟩
set_option maxHeartbeats 4000000 in
theorem living_any (Y : Lay) (w : World) (g : Nat) (s : St) (key : Key) (hS : SpK Y w g s none) (hl : s.L.length ≤ 1000) :
    Calls Tryz.prog 45 #[.pointer (some ⟨g, 0, none⟩), .string (sb key)] w fun e w' => ∃ v, e = .returned v ∧ Row w' w.heap.size v (ofKeyE key s.L) ∧ Below w.heap.size w w' := by
  have hz := sorz_some g w
  have hO := of_core Y w g s none key hS
  have hO2 : Calls Tryz.prog 34 #[.pointer (some ⟨g, 0, none⟩), .string (sb key)] w fun e w' => ∃ hb cs m, e = .returned (.pointer (some ⟨hb, 0, none⟩)) ∧ E.Bg w' hb 0 cs 86 m ((ofKeyE key s.L).map eit) ∧ Below w.heap.size w w' := by
    refine hO.mono ?_
    rintro e w' ⟨hb, rfl, ⟨ha, rfl⟩ | ⟨ha, rfl, rfl⟩⟩
    · obtain ⟨-, hh⟩ := hS.take ha
      exact ⟨hb, _, _, rfl, hh.ho.live, Below.refl _ _⟩
    · obtain ⟨-, hh, -⟩ := hS.take_new ha
      exact ⟨_, _, _, rfl, hh.ho.live, (Below.refl _ w).alloc (Nat.le_refl _) _⟩
  have hwl : ∀ a ∈ ofKeyE key s.L, Wide a := fun a ha => hS.wl a (List.mem_filter.1 ha).1
  have hxl : (ofKeyE key s.L).length ≤ 1000 := Nat.le_trans (List.length_filter_le _ _) hl
  have HWL : Hid _ := hwl
  clear hO hS hwl
  generalize ofKeyE key s.L = X at *
  go_enter Tryz.func45, Tryz.ntmps45
  go_wp2_with fail
  refine Calls.mono hz ?_
  rintro e w1 ⟨rfl, hw1⟩
  obtain rfl := hw1.symm
  go_wp2_with fail
  refine Calls.mono hO2 ?_
  rintro e w2 ⟨hb, cs, m, rfl, hB, hb2⟩
  have hIt := E.items_any hb 0 cs 86 m _ w2 hB (by rw [List.length_map]; omega)
  clear hz hO2 hB
  go_wp2_with fail
  refine Calls.mono hIt ?_
  rintro e w3 ⟨vr, rfl, hr3, hb3⟩
  obtain ⟨ao, cap, hvr, -, -⟩ := hr3.val
  rw [List.length_map] at hvr
  obtain ⟨n, hn⟩ : ∃ n, X.length = n := ⟨_, rfl⟩
  rw [hn] at hvr hxl
  subst hvr
  have H3 : Aside (Lx w (.slice none 0 0) (X.take 0) w3 ∧ E.Rw 112 w3 w2.heap.size (.slice ao n cap) (X.map eit)) := ⟨⟨row_nil w3 _, hb2.trans (hb3.mono hb2.size)⟩, hr3⟩
  clear hIt hr3 hb3 hb2
  go_wp2_with fail
  go_loopw [5, 7, 16] (fun vb _ c wr => ∃ k : Nat, k ≤ n ∧ c = .int .i64 (k : Int) ∧ Aside (Lx w vb (X.take k) wr ∧ E.Rw 112 wr w2.heap.size (.slice ao n cap) (X.map eit))) (fun _ _ c _ => n - (intOf c).toNat)
  case atStart => exact ⟨0, Nat.zero_le _, rfl, H3⟩
  case round =>
    clear H3
    obtain ⟨k, hk, rfl, HX⟩ := hrel
    by_cases hkn : k < n
    · have hkn' : (k : Int) < (n : Int) := by omega
      obtain ⟨gr, capr, i, hv', -, hi, hgb, hgrl, hrg, -⟩ := HX.out.2.atx (k := k) (by rw [List.length_map]; omega)
      rw [List.length_map, hn] at hv'
      simp only [Value.slice.injEq] at hv'
      obtain ⟨rfl, -, rfl⟩ := hv'
      obtain ⟨a, ha, rfl⟩ := map_at hi
      have ham := List.mem_of_getElem? ha
      have haw := HWL.out a ham
      have ha16 := haw.1
      have hld := E.ld_mid hrg
      have hst := E.st_new wr (eit a)
      have hb1 : Below wr.heap.size wr (wr.alloc (.cells (xc (eit a)) 112)) := (Below.refl _ wr).alloc (Nat.le_refl _) _
      have hx := heap_alloc_new wr (.cells (xc (eit a)) 112)
      have hr1 : E.Rw 112 (wr.alloc (.cells (xc (eit a)) 112)) w2.heap.size (.slice (some ⟨gr, 0, none⟩) n cap) (X.map eit) := HX.out.2.alloc _
      have hL1 : Lx w u5 (X.take k) (wr.alloc (.cells (xc (eit a)) 112)) := ⟨HX.out.1.row.below hb1 (Nat.le_refl _), HX.out.1.be.trans (hb1.mono HX.out.1.be.size)⟩
      generalize wr.alloc (.cells (xc (eit a)) 112) = W5 at *
      have hxx := E.ldx_at hx
      rw [show (eit a).x.l.toArray = evc a from evX_c haw.1] at hxx
      have hb6 : Below W5.heap.size W5 (W5.alloc (.cells (evc a) 47)) := (Below.refl _ W5).alloc (Nat.le_refl _) _
      have hF : Evs (W5.alloc (.cells (evc a) 47)) (some ⟨W5.heap.size, 0, none⟩) 1 1 [a] := evs_single _ _ a haw (liesE_new W5 a)
      have hRow : Row (W5.alloc (.cells (evc a) 47)) w.heap.size u5 (X.take k) := hL1.row.below hb6 (Nat.le_refl _)
      have hle : w.heap.size ≤ (W5.alloc (.cells (evc a) 47)).heap.size := Nat.le_trans hL1.be.size hb6.size
      have hlk : (X.take k).length ≤ 1000 := by rw [List.length_take]; omega
      have htk : X.take k ++ [a] = X.take (k + 1) := by rw [List.take_add_one, ha]; rfl
      have HFIN : Hid (∀ v' w', Row w' w.heap.size v' (X.take k ++ [a]) → (W5.alloc (.cells (evc a) 47)).grownBy w' u5.ownBlock → Lx w v' (X.take (k + 1)) w' ∧ E.Rw 112 w' w2.heap.size (.slice (some ⟨gr, 0, none⟩) n cap) (X.map eit)) := fun v' w' h1 h2 => by
        rw [htk] at h1
        refine ⟨⟨h1, (hL1.be.trans (hb6.mono hL1.be.size)).grown h2 hle (fun k e => (hRow.cellsAt k e).1)⟩, ?_⟩
        have hr6 := hr1.below hb6 (Nat.le_refl _)
        refine E.Rw.keep hr6 fun j hj => h2.block j (hr6.lt j hj).2 (fun e => ?_)
        obtain ⟨cur, hc⟩ := E.Rw.cellsAt hr6 j hj
        obtain ⟨-, -, cur2, hc2⟩ := hRow.cellsAt j e.symm
        rw [hc] at hc2
        simp only [Option.some.injEq, Obj.cells.injEq] at hc2
        exact ev_ne hc2.2.1.symm
      generalize X.take k = XT at *
      clear htk hL1 hr1 hrg hb1 hx HX hi ha ham hb6
      go_wp2_with (first
        | (refine wpList_loadR (ty := 112) (x := .tmp 18) (ad := ⟨gr, k * 28, none⟩) (v := .agg (xc (eit a))) rfl rfl rfl hld ?_)
        | (refine wpList_storeR (ty := 112) (x := .tmp 7) (y := .tmp 19) (ad := ⟨wr.heap.size, 0, none⟩) (v := .agg (xc (eit a))) (w' := W5) rfl rfl rfl rfl hst ?_)
        | (refine wpList_loadR (ty := 47) (x := .tmp 21) (ad := ⟨wr.heap.size, 2, none⟩) (v := .agg (evc a)) rfl rfl rfl hxx ?_)
        | refine build_ev1 rfl rfl rfl ha16 ?_
        | refine wpList_appE rfl _ _ rfl w.heap.size _ XT rfl hRow _ 1 1 [a] rfl hF (by omega) hle ?_)
      intro v' w' h1 h2 _
      have H6 : Aside (Lx w v' (X.take (k + 1)) w' ∧ E.Rw 112 w' w2.heap.size (.slice (some ⟨gr, 0, none⟩) n cap) (X.map eit)) := HFIN.out v' w' h1 h2
      clear h1 h2 hld hst hxx hF hRow hle hlk HFIN haw
      go_wp2
      go_roundw
      case rel => exact ⟨k + 1, by omega, by go_num, H6⟩
      case measure => simp [intOf]; omega
    · have hkn' : ¬ (k : Int) < (n : Int) := by omega
      have e1 : X.take k = X := List.take_of_length_le (by omega)
      rw [e1] at HX
      have FIN : Aside (Row wr w.heap.size u5 X ∧ Below w.heap.size w wr) := ⟨HX.out.1.row, HX.out.1.be⟩
      clear HX e1
      go_wp2
      go_ret
      exact ⟨_, rfl, FIN.out⟩
end Go.Proofs.YtmlfekbmbnfkjabGreatDoor

/-
  What Type, there, Text and VV come to; few.
-/
namespace Go.Proofs.YtmlfekbmbnfkjabGreatDoor
set_option maxRecDepth 100000
open Go.RowKit

theorem stype_any (Y : Lay) (w : World) (g : Nat) (s : St) (key : Key) (hS : SpK Y w g s none) (hl : s.L.length ≤ 1000) :
    Calls Tryz.prog 28 #[.pointer (some ⟨g, 0, none⟩), .string (sb key)] w fun e w' => e = .returned (.int .i64 (typeE (ofKeyE key s.L) key)) ∧ Below w.heap.size w w' := by
  have hL := living_any Y w g s key hS hl
  have hwl : ∀ a ∈ ofKeyE key s.L, Wide a := fun a ha => hS.wl a (List.mem_filter.1 ha).1
  have hxl : (ofKeyE key s.L).length ≤ 1000 := Nat.le_trans (List.length_filter_le _ _) hl
  clear hS
  generalize ofKeyE key s.L = X at *
  have hT0 := fun ao c w1 hE => type_any ao X.length c X key w1 hE hxl
  generalize typeE X key = t at *
  go_enter Tryz.func28, Tryz.ntmps28
  go_wp2_with fail
  refine Calls.mono hL ?_
  rintro e w1 ⟨v, rfl, hR, hb1⟩
  obtain ⟨ao, c, rfl, hE⟩ := hR.evs hwl
  have hT := hT0 ao c w1 hE
  obtain ⟨n, hn⟩ : ∃ n, X.length = n := ⟨_, rfl⟩
  rw [hn] at hT ⊢
  clear hR hE hL hn hT0
  go_wp2_with fail
  refine Calls.mono hT ?_
  rintro e w2 ⟨rfl, hb2⟩
  have FIN : Hid (Below w.heap.size w w2) := hb1.trans (hb2.mono hb1.size)
  clear hb1 hb2
  go_wp2
  go_ret
  exact ⟨rfl, FIN.out⟩
theorem there_any (Y : Lay) (w : World) (g : Nat) (s : St) (key : Key) (hS : SpK Y w g s none) (hl : s.L.length ≤ 1000) :
    Calls Tryz.prog 140 #[.pointer (some ⟨g, 0, none⟩), .string (sb key)] w fun e w' => ∃ v, e = .returned v ∧ Row w' w.heap.size v (ofE (ofKeyE key s.L) key) ∧ Below w.heap.size w w' := by
  have hL := living_any Y w g s key hS hl
  have hwl : ∀ a ∈ ofKeyE key s.L, Wide a := fun a ha => hS.wl a (List.mem_filter.1 ha).1
  have hxl : (ofKeyE key s.L).length ≤ 1000 := Nat.le_trans (List.length_filter_le _ _) hl
  clear hS
  generalize ofKeyE key s.L = X at *
  have hT0 := fun ao c w1 hE => of_any ao X.length c X key w1 hE hxl
  generalize ofE X key = Z at *
  go_enter Tryz.func140, Tryz.ntmps140
  go_wp2_with fail
  refine Calls.mono hL ?_
  rintro e w1 ⟨v, rfl, hR, hb1⟩
  obtain ⟨ao, c, rfl, hE⟩ := hR.evs hwl
  have hT := hT0 ao c w1 hE
  obtain ⟨n, hn⟩ : ∃ n, X.length = n := ⟨_, rfl⟩
  rw [hn] at hT ⊢
  clear hR hE hL hn hT0
  go_wp2_with fail
  refine Calls.mono hT ?_
  rintro e w2 ⟨v2, rfl, hR2, hb2⟩
  have FIN : Aside (Row w2 w.heap.size v2 Z ∧ Below w.heap.size w w2) := ⟨hR2.lower hb1.size, hb1.trans (hb2.mono hb1.size)⟩
  clear hb1 hb2 hR2
  go_wp2
  go_ret
  exact ⟨_, rfl, FIN.out⟩
theorem stext_any (Y : Lay) (w : World) (g : Nat) (s : St) (key : Key) (hS : SpK Y w g s none) (hl : s.L.length ≤ 1000) :
    Calls Tryz.prog 107 #[.pointer (some ⟨g, 0, none⟩), .string (sb key)] w fun e w' => e = .returned (.tuple #[.string (sb (orz (latL setE (ofE (ofKeyE key s.L) key))).value), .bool (latL setE (ofE (ofKeyE key s.L) key)).isSome]) ∧ Below w.heap.size w w' := by
  have hL := there_any Y w g s key hS hl
  have hwl : ∀ a ∈ ofE (ofKeyE key s.L) key, Wide a := fun a ha => hS.wl a (List.mem_filter.1 (mem_of ha)).1
  have hxl : (ofE (ofKeyE key s.L) key).length ≤ 1000 := Nat.le_trans (of_len _ _) (Nat.le_trans (List.length_filter_le _ _) hl)
  clear hS
  generalize ofE (ofKeyE key s.L) key = X at *
  have hT0 := fun ao c w1 hE => gvalue_any ao X.length c X w1 hE hxl
  generalize (orz (latL setE X)).value = tx at *
  generalize (latL setE X).isSome = ok at *
  go_enter Tryz.func107, Tryz.ntmps107
  go_wp2_with fail
  refine Calls.mono hL ?_
  rintro e w1 ⟨v, rfl, hR, hb1⟩
  obtain ⟨ao, c, rfl, hE⟩ := hR.evs hwl
  have hT := hT0 ao c w1 hE
  obtain ⟨n, hn⟩ : ∃ n, X.length = n := ⟨_, rfl⟩
  rw [hn] at hT ⊢
  clear hR hE hL hn hT0
  go_wp2_with fail
  refine Calls.mono hT ?_
  rintro e w2 ⟨rfl, hb2⟩
  have FIN : Hid (Below w.heap.size w w2) := hb1.trans (hb2.mono hb1.size)
  clear hb1 hb2
  go_wp2
  go_ret2
  exact ⟨rfl, FIN.out⟩
theorem svv_any (Y : Lay) (w : World) (g : Nat) (s : St) (x : Option Key) (hS : SpK Y w g s x) :
    Calls Tryz.prog 9 #[.pointer (some ⟨g, 0, none⟩)] w fun e w' => e = .returned (.agg (vals s.seen)) ∧ Below w.heap.size w w' := by
  have hb0 : Below w.heap.size w (w.alloc (.cells (vals zeros) 41)) := (Below.refl _ w).alloc (Nat.le_refl _) _
  have hz0 := lies_new w zeros
  have hS0 := hS.below hb0 (Nat.le_refl _)
  have hls := load_seen hS0
  have hl16 := hS.len
  have hst := store_vv hz0 rfl hl16
  have hor := sorz_some g (w.alloc (.cells (vals zeros) 41))
  have hL := setRow_heap (w.alloc (.cells (vals zeros) 41)) w.heap.size _ (vals s.seen) _ _ hz0
  have FIN : Hid (Below w.heap.size w ((w.alloc (.cells (vals zeros) 41)).setRow w.heap.size (vals s.seen))) := below_setRow hb0 (Nat.le_refl _) _
  clear hS hS0 hb0
  generalize hW0 : w.alloc (.cells (vals zeros) 41) = W0 at *
  rw [zeros_vals] at hW0
  obtain ⟨W1, hW1⟩ : ∃ W1, W0.setRow w.heap.size (vals s.seen) = W1 := ⟨_, rfl⟩
  rw [hW1] at hst hL FIN
  generalize s.seen = v at *
  have hLL : Lies W1 w.heap.size v := hL
  clear hL hW1 hz0
  go_enter Tryz.func9, Tryz.ntmps9
  go_wp2_with fail
  refine Calls.mono hor ?_
  rintro e w1 ⟨rfl, hw1⟩
  obtain rfl := hw1.symm
  go_wp2_with (first
    | (refine wpList_loadR (ty := 41) (x := .tmp 6) (ad := ⟨g, 0, none⟩) (v := .agg (vals v)) rfl rfl rfl hls ?_)
    | (refine wpList_storeR (ty := 41) (x := .tmp 2) (y := .tmp 7) (ad := ⟨w.heap.size, 0, none⟩) (v := .agg (vals v)) (w' := W1) rfl rfl rfl rfl hst ?_))
  refine ret_vec rfl rfl rfl hLL hl16 ?_
  exact ⟨rfl, FIN.out⟩
end Go.Proofs.YtmlfekbmbnfkjabGreatDoor

/-
  Tallies, plain: what an event adds, what a list's events add, all together and each replica's.
-/
namespace Go.Proofs.YtmlfekbmbnfkjabGreatDoor
set_option maxRecDepth 100000
namespace T12

/-- What an event adds. -/
def oneE (e : Ev) : Int := if e.kind = 2 then max (-1099511627776) (min e.num 1099511627776) else 0
theorem oneE_not {e : Ev} (h : e.kind ≠ 2) : oneE e = 0 := by simp [oneE, h]
theorem oneE_is {e : Ev} (h : e.kind = 2) : oneE e = max (-1099511627776) (min e.num 1099511627776) := by simp [oneE, h]

/-- What a replica's add. -/
def ofE (r : Int) : List Ev → Int
  | [] => 0
  | e :: E => (if e.r = r then oneE e else 0) + ofE r E
end T12
end Go.Proofs.YtmlfekbmbnfkjabGreatDoor

/-
  What tally's adds, isReplica, isWithin, Sum and Check come to, and the reference's One, Sum, Of and Check.
-/
namespace Go.Proofs.YtmlfekbmbnfkjabGreatDoor
set_option maxRecDepth 100000
namespace T12
set_option maxRecDepth 100000
open Go.RowKit

set_option maxHeartbeats 400000 in
theorem adds_any (u : Ev) (w : World) : Calls Tryz.prog 179 #[.agg (opc u)] w fun e w' => e = .returned (.int .i64 (oneE u)) ∧ Below w.heap.size w w' := by
  have HB : Hid (Below w.heap.size w (w.alloc (.cells (opc u) 34))) := (Below.refl _ w).alloc (Nat.le_refl _) _
  have c0 := (liesO_new w u).c0
  have c4 := (liesO_new w u).c4
  by_cases hk : u.kind = 2
  · rw [oneE_is hk]
    rw [hk] at c0
    clear hk
    go_enter Tryz.func179, Tryz.ntmps179
    go_wp2
    go_ret
    exact ⟨rfl, HB.out⟩
  · rw [oneE_not hk]
    go_enter Tryz.func179, Tryz.ntmps179
    go_wp2
    go_ret
    exact ⟨rfl, HB.out⟩
/-! The program's Sum. -/
/-! The reference's Sum and Of. -/
/-! Check. -/
end T12
end Go.Proofs.YtmlfekbmbnfkjabGreatDoor

/-
  What the reference's All comes to.
-/
namespace Go.Proofs.YtmlfekbmbnfkjabGreatDoor
set_option maxRecDepth 100000
set_option maxRecDepth 100000
open Go.RowKit

end Go.Proofs.YtmlfekbmbnfkjabGreatDoor

/-
  Lists of events that are alike: what Same comes to.
-/
namespace Go.Proofs.YtmlfekbmbnfkjabGreatDoor
set_option maxRecDepth 100000
set_option maxRecDepth 100000
open Go.RowKit

end Go.Proofs.YtmlfekbmbnfkjabGreatDoor

/-
  The plain side of LiveTwice: a list that is laid twice.
-/
namespace Go.Proofs.YtmlfekbmbnfkjabGreatDoor
set_option maxRecDepth 100000
set_option maxRecDepth 100000
open Go.RowKit Go.Shelf Go.Sort

/-! Keys. -/
end Go.Proofs.YtmlfekbmbnfkjabGreatDoor

/-
  What the reference's Key, Of, With and Keys come to.
-/
namespace Go.Proofs.YtmlfekbmbnfkjabGreatDoor
set_option maxRecDepth 100000
set_option maxRecDepth 100000
open Go.RowKit Go.Shelf Go.Sort

/-! A text into texts that rise. -/
end Go.Proofs.YtmlfekbmbnfkjabGreatDoor

/-
  What the reference's With and Keys come to.
-/
namespace Go.Proofs.YtmlfekbmbnfkjabGreatDoor
set_option maxRecDepth 100000
set_option maxRecDepth 100000
open Go.RowKit Go.Shelf Go.Sort

end Go.Proofs.YtmlfekbmbnfkjabGreatDoor

/-
  Plain facts: the members that events tell, and their dots.
-/
namespace Go.Proofs.YtmlfekbmbnfkjabGreatDoor
set_option maxRecDepth 100000
namespace T13
set_option maxRecDepth 100000
open Go.RowKit Go.Lib

end T13
end Go.Proofs.YtmlfekbmbnfkjabGreatDoor

/-
  What isAdd, adds, Has and Dots come to.
-/
namespace Go.Proofs.YtmlfekbmbnfkjabGreatDoor
set_option maxRecDepth 100000
namespace T13
set_option maxRecDepth 100000
open Go.RowKit Go.Sort

end T13
end Go.Proofs.YtmlfekbmbnfkjabGreatDoor

/-
  What All comes to: members are gathered in a map's keys, told in whatever order, and sorted.
-/
namespace Go.Proofs.YtmlfekbmbnfkjabGreatDoor
set_option maxRecDepth 100000
namespace T13
set_option maxRecDepth 100000
open Go.RowKit Go.Maps Go.WideMaps Go.Sort

theorem lawS : Keyed Tryz.prog 9 := string_keyed Tryz.underlying9
/-- The set of the members so far. -/
def setF (F : List (List UInt8)) : DataW Unit := setOf (.agg []) (F.map Lit.string)
theorem keyF {s : List UInt8} (h : s.length ≤ 1000) : keyOf Tryz.prog 9 (.string (sb s)) = some (.string s) := by
  have := keyOf_string_mk (P := Tryz.prog) (k := 9) Tryz.underlying9 (s := sb s) (by rw [sb_size]; unfold maxLen; omega)
  rw [data_sb] at this
  exact this
theorem _root_.Go.Proofs.YtmlfekbmbnfkjabGreatDoor.TRow.keep {w w' : World} {base : Nat} {v : Value} {S : List (List UInt8)} (h : TRow w base v S) (hk : ∀ k, v.ownBlock = some k → w'.heap[k]? = w.heap[k]?) : TRow w' base v S := by
  refine ⟨h.1, ?_⟩
  rcases h.2 with hn | ⟨g, cap, cur, rfl, hbg, hg, rest⟩
  · exact .inl hn
  · exact .inr ⟨g, cap, cur, rfl, hbg, by rw [hk g rfl]; exact hg, rest⟩
end T13
end Go.Proofs.YtmlfekbmbnfkjabGreatDoor

/-
  What the reference's Latest and Value come to.
-/
namespace Go.Proofs.YtmlfekbmbnfkjabGreatDoor
set_option maxRecDepth 100000
set_option maxRecDepth 100000
open Go.RowKit

end Go.Proofs.YtmlfekbmbnfkjabGreatDoor

/-
  Fields and their values, plainly.
-/
namespace Go.Proofs.YtmlfekbmbnfkjabGreatDoor
set_option maxRecDepth 100000
namespace T14
set_option maxRecDepth 100000

/-- A field and its value. -/
abbrev Pr := List UInt8 × List UInt8
end T14
end Go.Proofs.YtmlfekbmbnfkjabGreatDoor

/-
  Rows of pairs of texts: appended to, read; at the program's type and at the reference's.
-/
namespace Go.Proofs.YtmlfekbmbnfkjabGreatDoor
set_option maxRecDepth 100000
namespace T14
set_option maxRecDepth 100000
open Go.RowKit Go.Sort

def prl (d : Pr) : List Value := [.string (sb d.1), .string (sb d.2)]
theorem prl_length (d : Pr) : (prl d).length = 2 := rfl
def prs (S : List Pr) : List Value := S.flatMap prl
theorem prs_length : ∀ S : List Pr, (prs S).length = S.length * 2
  | [] => rfl
  | i :: S => by
    have ih := prs_length S
    have e1 : prs (i :: S) = prl i ++ prs S := by simp [prs]
    rw [e1, List.length_append, ih, prl_length, List.length_cons]; omega
theorem prs_append (S T : List Pr) : prs (S ++ T) = prs S ++ prs T := by simp [prs]
/-- A list of pairs, as it is read. -/
def PL (w : World) (ao : Option Addr) (S : List Pr) : Prop := ∀ j d, S[j]? = some d → ∃ g, ao = some ⟨g, 0, none⟩ ∧ w.cell? ⟨g, j * 2, none⟩ = some (.string (sb d.1)) ∧ w.cell? ⟨g, j * 2 + 1, none⟩ = some (.string (sb d.2))
theorem PL.below {w w' : World} {ao : Option Addr} {S : List Pr} {B : Nat} (h : PL w ao S) (hb : Below B w w') (hB : w.heap.size ≤ B) : PL w' ao S := fun j t ht => by
  obtain ⟨g, hg, hc, hd⟩ := h j t ht
  have hl := Nat.lt_of_lt_of_le (World.block_lt_of_cell? w _ hc) hB
  exact ⟨g, hg, (hb.cell (p := ⟨g, j * 2, none⟩) hl).trans hc, (hb.cell (p := ⟨g, j * 2 + 1, none⟩) hl).trans hd⟩
theorem PL.range {w : World} {g : Nat} {S : List Pr} (h : PL w (some ⟨g, 0, none⟩) S) {k : Nat} {d : Pr} (hd : S[k]? = some d) : w.rangeAt g (k * 2) (prl d) := fun j v hv => by
  obtain ⟨g', hg, h0, h1⟩ := h k d hd
  obtain rfl : g = g' := by simpa using hg
  match j, hv with
  | 0, hv => obtain rfl := Option.some.inj hv; exact h0
  | 1, hv => obtain rfl := Option.some.inj hv; exact h1

/-! At the program's type. -/
abbrev PRow (w : World) (base : Nat) (v : Value) (S : List Pr) : Prop := w.ownsRow base 151 2 v S.length (prs S)
theorem PRow.lower {w : World} {base b : Nat} {v : Value} {S : List Pr} (h : PRow w base v S) (hb : b ≤ base) : PRow w b v S := by
  refine ⟨h.1, ?_⟩
  rcases h.2 with hn | ⟨g, cap, cur, e, hbg, rest⟩
  · exact .inl hn
  · exact .inr ⟨g, cap, cur, e, Nat.le_trans hb hbg, rest⟩
theorem PRow.keep {w w' : World} {base : Nat} {v : Value} {S : List Pr} (h : PRow w base v S) (hk : ∀ k, v.ownBlock = some k → w'.heap[k]? = w.heap[k]?) : PRow w' base v S := by
  refine ⟨h.1, ?_⟩
  rcases h.2 with hn | ⟨g, cap, cur, rfl, hbg, hg, rest⟩
  · exact .inl hn
  · exact .inr ⟨g, cap, cur, rfl, hbg, by rw [hk g rfl]; exact hg, rest⟩
theorem PRow.below {w w' : World} {base B : Nat} {v : Value} {S : List Pr} (h : PRow w base v S) (hb : Below B w w') (hB : w.heap.size ≤ B) : PRow w' base v S :=
  h.keep fun k hk => hb.block k (by have := (h.lt k hk).2; omega)
theorem PRow.own {w : World} {base : Nat} {v : Value} {S : List Pr} (h : PRow w base v S) : ∀ k, v.ownBlock = some k → base ≤ k := fun k hk => (h.lt k hk).1
/-! At the reference's type. -/
end T14
end Go.Proofs.YtmlfekbmbnfkjabGreatDoor

/-
  Lists of events that are built: of none, of two.
-/
namespace Go.Proofs.YtmlfekbmbnfkjabGreatDoor
set_option maxRecDepth 100000
set_option maxRecDepth 100000
open Go.RowKit

end Go.Proofs.YtmlfekbmbnfkjabGreatDoor

/-
  What field's isSet, latest and Get come to.
-/
namespace Go.Proofs.YtmlfekbmbnfkjabGreatDoor
set_option maxRecDepth 100000
namespace T14
set_option maxRecDepth 100000
open Go.RowKit Go.Sort

end T14
end Go.Proofs.YtmlfekbmbnfkjabGreatDoor

/-
  A map from texts to rows of events: no two keys' rows lie in one block.
-/
namespace Go.Proofs.YtmlfekbmbnfkjabGreatDoor
set_option maxRecDepth 100000
namespace T14
set_option maxRecDepth 100000
open Go.RowKit Go.Maps Go.WideMaps Go.Sort

theorem lawS : Keyed Tryz.prog 9 := string_keyed Tryz.underlying9
theorem keyF {s : List UInt8} (h : s.length ≤ 9223372036854775807) : keyOf Tryz.prog 9 (.string (sb s)) = some (.string s) := by
  have := keyOf_string_mk (P := Tryz.prog) (k := 9) Tryz.underlying9 (s := sb s) (by rw [sb_size]; unfold maxLen; omega)
  rw [data_sb] at this
  exact this
/-- An element, as it stands. -/
def tokE (v : Value) : Option (DataW Value × List MemPlace) := some (.held v, [])
theorem tokE_inv {v : Value} {z : DataW Value × List MemPlace} (h : tokE v = some z) : z.1 = .held v := by
  obtain rfl := Option.some.inj h
  rfl
abbrev OwnG (w : World) (b n : Nat) (D : DataW Value) : Prop := w.ownsMap Tryz.prog 9 tokE b n D
theorem ownG_keep {w w' : World} {b n : Nat} {D : DataW Value} (h : OwnG w b n D) (hk : w'.heap[b]? = w.heap[b]?) : OwnG w' b n D := by
  obtain ⟨es, clock, hb1, F1, hs, hD⟩ := h
  exact ⟨es, clock, hk.trans hb1, F1, hs, hD⟩
/-- What the map tells. -/
def Tells (D : DataW Value) (K : List (List UInt8)) (f : List UInt8 → Value) : Prop := IsMap D ∧ (∀ s, D.atKey (.string s) (.held (.slice none 0 0)) = .held (f s)) ∧ ∀ s, Maps.has D (.string s) = true ↔ s ∈ K
theorem Tells.put {D : DataW Value} {K : List (List UInt8)} {f : List UInt8 → Value} (h : Tells D K f) (s : List UInt8) (v : Value) : Tells (D.put (.string s) (.held v)) (K ++ [s]) (fun t => if t = s then v else f t) := by
  have hk : WideAt.IsKeyLit (.string s) := trivial
  refine ⟨h.1.put _ _, fun t => ?_, fun t => ?_⟩
  · by_cases ht : t = s
    · subst ht
      rw [atKey_put_same h.1 hk]
      simp only [if_true]
    · rw [atKey_put_other (fun e => ht (by simpa using e))]
      simp only [if_neg ht]
      exact h.2.1 t
  · by_cases ht : t = s
    · subst ht
      simp [has_put_same h.1 hk]
    · rw [has_put_other (fun e => ht (by simpa using e)), h.2.2 t]
      simp [ht]
/-- The groups: the map's block, the rows from 'base' on. -/
structure Grp (w : World) (b base n : Nat) (D : DataW Value) (K : List (List UInt8)) (f : List UInt8 → Value) (G : List UInt8 → List Ev) : Prop where
  map : OwnG w b n D
  tells : Tells D K f
  rows : ∀ s, Row w base (f s) (G s)
  apart : ∀ s t k, (f s).ownBlock = some k → (f t).ownBlock = some k → s = t
  lt : b < base
theorem Grp.below {w w' : World} {b base n B : Nat} {D : DataW Value} {K : List (List UInt8)} {f : List UInt8 → Value} {G : List UInt8 → List Ev} (h : Grp w b base n D K f G) (hb : Below B w w') (hB : w.heap.size ≤ B) : Grp w' b base n D K f G :=
  ⟨ownG_keep h.map (hb.block b (Nat.lt_of_lt_of_le h.map.lt hB)), h.tells, fun s => (h.rows s).below hb hB, h.apart, h.lt⟩
theorem Grp.mono {w : World} {b base n n' : Nat} {D : DataW Value} {K : List (List UInt8)} {f : List UInt8 → Value} {G : List UInt8 → List Ev} (h : Grp w b base n D K f G) (hn : n ≤ n') : Grp w b base n' D K f G :=
  ⟨h.map.mono hn, h.tells, h.rows, h.apart, h.lt⟩
/-- 'm[s]'. -/
theorem Grp.look {w : World} {b base n : Nat} {D : DataW Value} {K : List (List UInt8)} {f : List UInt8 → Value} {G : List UInt8 → List Ev} (h : Grp w b base n D K f G) {s : List UInt8} (hs : s.length ≤ 9223372036854775807) :
    (Instr.lookup 212 (.map (some b)) (.string (sb s)) false).run Tryz.prog w = .ok (f s) w := by
  have hz : (zeroValue 22).run Tryz.prog w = .ok (.slice none 0 0) w := Tryz.zeroValue22 w
  obtain ⟨v, ps, hr, hv⟩ := h.map.lookup lawS Tryz.underlying212 hz (zd := .held (.slice none 0 0)) (zp := []) rfl (keyF hs)
  have e1 := tokE_inv hv
  rw [h.tells.2.1 s] at e1
  simp only [DataW.held.injEq] at e1
  rw [hr, e1]
/-- 'm[s] = append(m[s], u)': the row is looked up, appended to, laid back. -/
theorem Grp.push {w : World} {b base n : Nat} {D : DataW Value} {K : List (List UInt8)} {f : List UInt8 → Value} {G : List UInt8 → List Ev} (h : Grp w b base n D K f G) {s : List UInt8} (hs : s.length ≤ 9223372036854775807) {u : Ev} (hu : Wide u) (hn : n < 1000000) (hl : (G s).length < 1000000) (hbase : base ≤ w.heap.size) (ty : TypeId) :
    ∃ v w4 w5, (Builtin.append_ #[22, 22] ty #[f s, .slice (some ⟨w.heap.size, 0, none⟩) 1 1]).run Tryz.prog (w.alloc (.cells (evc u) 47)) = .ok v w4 ∧
      (Instr.mapUpdate 212 (.map (some b)) (.string (sb s)) v).run Tryz.prog w4 = .ok () w5 ∧
      Grp w5 b base (n + 1) (D.put (.string s) (.held v)) (K ++ [s]) (fun t => if t = s then v else f t) (fun t => if t = s then G s ++ [u] else G t) ∧
      (∀ k, k < w.heap.size → some k ≠ (f s).ownBlock → w4.heap[k]? = w.heap[k]?) ∧ (∀ k, k < w.heap.size → some k ≠ (f s).ownBlock → k ≠ b → w5.heap[k]? = w.heap[k]?) ∧ Below b w w5 := by
  have hB1 : Below w.heap.size w (w.alloc (.cells (evc u) 47)) := (Below.refl _ _).alloc (Nat.le_refl _) _
  have hG1 := h.below hB1 (Nat.le_refl _)
  have hF : Evs (w.alloc (.cells (evc u) 47)) (some ⟨w.heap.size, 0, none⟩) 1 1 [u] := evs_single _ _ u hu (liesE_new w u)
  obtain ⟨v, w4, hr4, hR4, hg4, ho4⟩ := run_appE (w := w.alloc (.cells (evc u) 47)) ty base (f s) (G s) (hG1.rows s) _ 1 1 [u] hF (by omega) (by simp; omega)
  have hblt : b < (w.alloc (.cells (evc u) 47)).heap.size := hG1.map.lt
  have hbrow : ∀ t, some b ≠ (f t).ownBlock := fun t e => by
    have := ((h.rows t).lt b e.symm).1
    have := h.lt
    omega
  have hM4 : OwnG w4 b n D := ownG_keep hG1.map (hg4.block b hblt (hbrow s))
  obtain ⟨w5, hr5, hM5, hg5⟩ := hM4.update lawS Tryz.underlying212 (by unfold maxLen; omega) (keyF hs) (val := v) (d := .held v) (ps := []) rfl
  have hvb : ∀ k, v.ownBlock = some k → base ≤ k := hR4.own
  have hlt4 : w.heap.size ≤ w4.heap.size := Nat.le_trans hB1.size hg4.size
  refine ⟨v, w4, w5, hr4, hr5, ⟨hM5, h.tells.put s v, fun t => ?_, fun t t' k h1 h2 => ?_, h.lt⟩, fun k hk hne => ?_, fun k hk hne hkb => ?_, ?_⟩
  · by_cases ht : t = s
    · simp only [if_pos ht]
      refine hR4.kept hg5 ?_
      cases hv : v.ownBlock with
      | none => exact .inl rfl
      | some k =>
        refine .inr (fun e => ?_)
        have h1 := hvb k hv
        have h2 := h.lt
        have : k = b := by simpa using e
        omega
    · simp only [if_neg ht]
      refine ((hG1.rows t).kept hg4 ?_).kept hg5 ?_
      · cases hv : (f t).ownBlock with
        | none => exact .inl rfl
        | some k => exact .inr (fun e => ht (h.apart t s k hv e.symm))
      · cases hv : (f t).ownBlock with
        | none => exact .inl rfl
        | some k => exact .inr (fun e => hbrow t (by rw [hv]; exact e.symm))
  · have key : ∀ t, t ≠ s → v.ownBlock = some k → (f t).ownBlock = some k → False := fun t ht e1 e2 => by
      rcases ho4 k e1 with h3 | h3
      · exact ht (h.apart t s k e2 h3)
      · have := ((hG1.rows t).lt k e2).2
        omega
    by_cases ht : t = s <;> by_cases ht' : t' = s
    · rw [ht, ht']
    · simp only [if_pos ht, if_neg ht'] at h1 h2
      exact (key t' ht' h1 h2).elim
    · simp only [if_pos ht', if_neg ht] at h1 h2
      exact (key t ht h2 h1).elim
    · simp only [if_neg ht, if_neg ht'] at h1 h2
      exact h.apart t t' k h1 h2
  · rw [hg4.block k (by simp; omega) hne, hB1.block k hk]
  · rw [hg5.block k (by omega) (by simpa using hkb), hg4.block k (by simp; omega) hne, hB1.block k hk]
  · refine ((hB1.mono (Nat.le_of_lt (by have := h.lt; omega))).grown hg4 (by omega) (fun k hk => ?_)).grown hg5 (by have := hg4.size; omega) (fun k hk => ?_)
    · have h1 := ((h.rows s).lt k hk).1
      have h2 := h.lt
      omega
    · have : b = k := by simpa using hk
      omega
theorem _root_.Go.Proofs.YtmlfekbmbnfkjabGreatDoor.LiesE.kept {w w' : World} {g : Nat} {e : Ev} (h : LiesE w g e) (hk : w'.heap[g]? = w.heap[g]?) : LiesE w' g e := hk.trans h
end T14
end Go.Proofs.YtmlfekbmbnfkjabGreatDoor

/-
  What field's byField comes to: the region 'fields[s] = append(fields[s], e)' draws its order.
-/
namespace Go.Proofs.YtmlfekbmbnfkjabGreatDoor
set_option maxRecDepth 100000
namespace T14
set_option maxRecDepth 100000
open Go.RowKit Go.Maps Go.WideMaps Go.Sort

section
variable {o : Oper} {a : Act} {w w' : World} {K : Act → World → Prop} {Q : Exit → Act → World → Prop} {x y z : Operand} {ty : TypeId} {v v' p q : Value}
end

theorem field_e3 (w : World) (b i : Nat) : (Instr.fieldAt 47 (.pointer (some ⟨b, i, none⟩)) 3).run Tryz.prog w = .ok (.pointer (some ⟨b, i + 19, none⟩)) w := by go_simp
end T14
end Go.Proofs.YtmlfekbmbnfkjabGreatDoor

/-
  What field's names comes to: a map's keys, told in whatever order, and sorted.
-/
namespace Go.Proofs.YtmlfekbmbnfkjabGreatDoor
set_option maxRecDepth 100000
namespace T14
set_option maxRecDepth 100000
open Go.RowKit Go.Maps Go.WideMaps Go.Sort

end T14
end Go.Proofs.YtmlfekbmbnfkjabGreatDoor

/-
  What field's All comes to.
-/
namespace Go.Proofs.YtmlfekbmbnfkjabGreatDoor
set_option maxRecDepth 100000
namespace T14
set_option maxRecDepth 100000
open Go.RowKit Go.Maps Go.WideMaps Go.Sort

end T14
end Go.Proofs.YtmlfekbmbnfkjabGreatDoor

