/-
  What a nil space tells of a key.
-/
import Derived.Test.YthlebgioamcioabGreatQ39
import Derived.Test.YthlebgioamcioabGreatQ40
namespace Go.Proofs.YthlebgioamcioabGreat
set_option maxRecDepth 100000
open Go.RowKit Go.Shelf

theorem sorz_nil (w : World) : Calls Tryz.prog 43 #[.pointer none] w fun e w' => e = .returned (.pointer (some ⟨w.heap.size, 0, none⟩)) ∧ w' = w.alloc (.cells (spc st0 none) 36) := by
  go_enter Tryz.func43, Tryz.ntmps43
  go_wp2
  go_ret
  exact ⟨rfl, rfl⟩
theorem sp_below (w : World) : Below w.heap.size w (w.alloc (.cells (spc st0 none) 36)) := (Below.refl _ w).alloc (Nat.le_refl _) _

theorem stime_nil (w : World) : Calls Tryz.prog 13 #[.pointer none] w fun e w' => e = .returned (.int .i64 0) ∧ Below w.heap.size w w' := by
  have hz := sorz_nil w
  have hc := (sp_new w).c16
  have hb := sp_below w
  obtain ⟨W, hW⟩ : ∃ W, W = w.alloc (.cells (spc st0 none) 36) := ⟨_, rfl⟩
  rw [← hW] at hz hc hb
  obtain ⟨g, hg⟩ : ∃ g, g = w.heap.size := ⟨_, rfl⟩
  rw [← hg] at hz hc
  have FIN : Hid (Below w.heap.size w W) := hb
  clear hW hb hg
  go_enter Tryz.func13, Tryz.ntmps13
  go_wp2_with fail
  refine Calls.mono hz ?_
  rintro e w2 ⟨rfl, hw2⟩
  obtain rfl := hw2.symm
  go_wp2
  go_ret
  exact ⟨rfl, FIN.out⟩
theorem sdead_nil (w : World) : Calls Tryz.prog 14 #[.pointer none] w fun e w' => e = .returned (.int .i64 0) ∧ Below w.heap.size w w' := by
  have hz := sorz_nil w
  have hc := (sp_new w).c17
  have hb := sp_below w
  obtain ⟨W, hW⟩ : ∃ W, W = w.alloc (.cells (spc st0 none) 36) := ⟨_, rfl⟩
  rw [← hW] at hz hc hb
  obtain ⟨g, hg⟩ : ∃ g, g = w.heap.size := ⟨_, rfl⟩
  rw [← hg] at hz hc
  replace hc : W.cell? ⟨g, 17, none⟩ = some (.map none) := hc
  have hrun := run_range_nilMap (P := Tryz.prog) W 34 _ _ Tryz.underlying34
  have hnx := run_next_nilMap (P := Tryz.prog) W 0 0 0 #[]
  have hbe : Below w.heap.size w (W.alloc (.mapIter none 0 #[] 0)) := hb.alloc hb.size _
  generalize W.alloc (.mapIter none 0 #[] 0) = W1 at *
  have FIN : Hid (Below w.heap.size w W1) := hbe
  clear hW hb hg hbe
  go_enter Tryz.func14, Tryz.ntmps14
  go_wp2_with fail
  refine Calls.mono hz ?_
  rintro e w2 ⟨rfl, hw2⟩
  obtain rfl := hw2.symm
  go_wp2_with fail
  go_loopw [3, 5] (fun c _ wr => c = .int .i64 0 ∧ wr = W1) (fun _ _ _ => 0)
  case atStart => exact ⟨rfl, rfl⟩
  case round =>
    obtain ⟨rfl, rfl⟩ := hrel
    go_wp2
    go_ret
    exact ⟨rfl, FIN.out⟩
set_option maxHeartbeats 1000000 in
theorem svv_nil (w : World) : Calls Tryz.prog 12 #[.pointer none] w fun e w' => e = .returned (.agg (vals zeros)) ∧ Below w.heap.size w w' := by
  have hb0 : Below w.heap.size w (w.alloc (.cells (vals zeros) 25)) := (Below.refl _ w).alloc (Nat.le_refl _) _
  have hz0 := lies_new w zeros
  have hlt : w.heap.size < (w.alloc (.cells (vals zeros) 25)).heap.size := by simp
  generalize hW0 : w.alloc (.cells (vals zeros) 25) = W0 at *
  have hor := sorz_nil W0
  have hS := sp_new W0
  have hb1 := sp_below W0
  have hls := load_seen hS
  have hz1 := hz0.below hb1 hlt
  generalize hWs : W0.alloc (.cells (spc st0 none) 36) = Ws at *
  have hst := store_vv (v := zeros) hz1 rfl (by decide)
  have hL := setRow_heap Ws w.heap.size _ (vals zeros) _ _ hz1
  have FIN : Hid (Below w.heap.size w (Ws.setRow w.heap.size (vals zeros))) := below_setRow (hb0.trans (hb1.mono hb0.size)) (Nat.le_refl _) _
  clear hS hb0 hb1 hz0
  obtain ⟨gs, hgs⟩ : ∃ gs, gs = W0.heap.size := ⟨_, rfl⟩
  rw [← hgs] at hor hls
  rw [zeros_vals] at hW0
  obtain ⟨W1, hW1⟩ : ∃ W1, Ws.setRow w.heap.size (vals zeros) = W1 := ⟨_, rfl⟩
  rw [hW1] at hst hL FIN
  have hls : (loadVar 25 ⟨gs, 0, none⟩).run Tryz.prog Ws = .ok (.agg (vals zeros)) Ws := hls
  have hLL : Lies W1 w.heap.size zeros := hL
  clear hL hW1 hz1 hgs hWs
  have hl16 : zeros.length = 16 := rfl
  generalize zeros = v at *
  go_enter Tryz.func12, Tryz.ntmps12
  go_wp2_with fail
  refine Calls.mono hor ?_
  rintro e w1 ⟨rfl, hw1⟩
  obtain rfl := hw1.symm
  go_wp2_with (first
    | (refine wpList_loadR (ty := 25) (x := .tmp 6) (ad := ⟨gs, 0, none⟩) (v := .agg (vals v)) rfl rfl rfl hls ?_)
    | (refine wpList_storeR (ty := 25) (x := .tmp 2) (y := .tmp 7) (ad := ⟨w.heap.size, 0, none⟩) (v := .agg (vals v)) (w' := W1) rfl rfl rfl rfl hst ?_))
  refine ret_vec rfl rfl rfl hLL hl16 ?_
  exact ⟨rfl, FIN.out⟩
set_option maxHeartbeats 1000000 in
theorem living_nil (key : Key) (w : World) : Calls Tryz.prog 63 #[.pointer none, .string (sb key)] w fun e w' => e = .returned (.slice none 0 0) ∧ Below w.heap.size w w' := by
  have hz := sorz_nil w
  have hS := sp_new w
  have hbe := sp_below w
  generalize w.alloc (.cells (spc st0 none) 36) = W at *
  obtain ⟨g, hg⟩ : ∃ g, g = w.heap.size := ⟨_, rfl⟩
  rw [← hg] at hz hS
  have hO := of_core lay0 W g st0 none key hS
  have hO2 : Calls Tryz.prog 46 #[.pointer (some ⟨g, 0, none⟩), .string (sb key)] W fun e w' => ∃ hb cs m, e = .returned (.pointer (some ⟨hb, 0, none⟩)) ∧ E.Bg w' hb 0 cs 96 m [] ∧ Below W.heap.size W w' := by
    refine hO.mono ?_
    rintro e w' ⟨hb, rfl, ⟨ha, rfl⟩ | ⟨ha, rfl, rfl⟩⟩
    · obtain ⟨-, hh⟩ := hS.take ha
      exact ⟨hb, _, _, rfl, hh.ho.live, Below.refl _ _⟩
    · obtain ⟨-, hh, -⟩ := hS.take_new ha
      exact ⟨_, _, _, rfl, hh.ho.live, (Below.refl _ W).alloc (Nat.le_refl _) _⟩
  have HB : Hid (Below w.heap.size w W) := hbe
  clear hO hS hg hbe
  go_enter Tryz.func63, Tryz.ntmps63
  go_wp2_with fail
  refine Calls.mono hz ?_
  rintro e w1 ⟨rfl, hw1⟩
  obtain rfl := hw1.symm
  go_wp2_with fail
  refine Calls.mono hO2 ?_
  rintro e w2 ⟨hb, cs, m, rfl, hB, hb2⟩
  have hIt := E.items_any hb 0 cs 96 m _ w2 hB (by simp)
  have H2 : Hid (Below w.heap.size w w2) := HB.out.trans (hb2.mono HB.out.size)
  clear hz hO2 hB hb2
  go_wp2_with fail
  refine Calls.mono hIt ?_
  rintro e w3 ⟨vr, rfl, hr3, hb3⟩
  obtain ⟨ao, cap, hvr, -, -⟩ := hr3.val
  have hvr : vr = .slice ao 0 cap := hvr
  subst hvr
  have FIN : Hid (Below w.heap.size w w3) := H2.out.trans (hb3.mono H2.out.size)
  clear hIt hr3 hb3
  go_wp2_with fail
  go_loopw [5, 16] (fun vb c wr => vb = .slice none 0 0 ∧ c = .int .i64 0 ∧ wr = w3) (fun _ _ _ => 0)
  case atStart => exact ⟨rfl, rfl, rfl⟩
  case round =>
    obtain ⟨rfl, rfl, rfl⟩ := hrel
    go_wp2
    go_ret
    exact ⟨rfl, FIN.out⟩
end Go.Proofs.YthlebgioamcioabGreat

/-
  What a nil space tells: type, text, sum, members, fields, scores, items.
-/
namespace Go.Proofs.YthlebgioamcioabGreat
set_option maxRecDepth 100000
open Go.RowKit Go.Shelf

theorem stype_nil (key : Key) (w : World) : Calls Tryz.prog 36 #[.pointer none, .string (sb key)] w fun e w' => e = .returned (.int .i64 0) ∧ Below w.heap.size w w' := by
  have hL := living_nil key w
  have hT := fun w1 => type_any none 0 0 [] key w1 (Evs.nil w1) (by decide)
  have ht : typeE [] key = 0 := rfl
  rw [ht] at hT
  go_enter Tryz.func36, Tryz.ntmps36
  go_wp2_with fail
  refine Calls.mono hL ?_
  rintro e w1 ⟨rfl, hb1⟩
  have hT1 := hT w1
  clear hL hT
  go_wp2_with fail
  refine Calls.mono hT1 ?_
  rintro e w2 ⟨rfl, hb2⟩
  have FIN : Hid (Below w.heap.size w w2) := hb1.trans (hb2.mono hb1.size)
  clear hb1 hb2 hT1
  go_wp2
  go_ret
  exact ⟨rfl, FIN.out⟩
theorem there_nil (key : Key) (w : World) : Calls Tryz.prog 60 #[.pointer none, .string (sb key)] w fun e w' => (∃ ao c, e = .returned (.slice ao 0 c) ∧ Evs w' ao 0 c []) ∧ Below w.heap.size w w' := by
  have hL := living_nil key w
  have hT := fun w1 => of_any none 0 0 [] key w1 (Evs.nil w1) (by decide)
  have ht : ofE [] key = [] := rfl
  rw [ht] at hT
  go_enter Tryz.func60, Tryz.ntmps60
  go_wp2_with fail
  refine Calls.mono hL ?_
  rintro e w1 ⟨rfl, hb1⟩
  have hT1 := hT w1
  clear hL hT
  go_wp2_with fail
  refine Calls.mono hT1 ?_
  rintro e w2 ⟨v2, rfl, hR2, hb2⟩
  obtain ⟨ao, c, rfl, hE⟩ := hR2.evs (by simp)
  have FIN : Aside (Evs w2 ao 0 c [] ∧ Below w.heap.size w w2) := ⟨hE, hb1.trans (hb2.mono hb1.size)⟩
  clear hb1 hb2 hR2 hE hT1
  go_wp2
  go_ret
  exact ⟨⟨ao, c, rfl, FIN.out.1⟩, FIN.out.2⟩
theorem stext_nil (key : Key) (w : World) : Calls Tryz.prog 39 #[.pointer none, .string (sb key)] w fun e w' => e = .returned (.tuple #[.string (sb []), .bool false]) ∧ Below w.heap.size w w' := by
  have hL := there_nil key w
  go_enter Tryz.func39, Tryz.ntmps39
  go_wp2_with fail
  refine Calls.mono hL ?_
  rintro e w1 ⟨⟨ao, c, rfl, hE⟩, hb1⟩
  have hT1 := gvalue_any ao 0 c [] w1 hE (by decide)
  have ht : latL setE [] = none := rfl
  rw [ht] at hT1
  have hT1 : Calls Tryz.prog 98 #[.slice ao 0 c] w1 fun e w' => e = .returned (.tuple #[.string (sb []), .bool false]) ∧ Below w1.heap.size w1 w' := hT1
  clear hL hE
  go_wp2_with fail
  refine Calls.mono hT1 ?_
  rintro e w2 ⟨rfl, hb2⟩
  have FIN : Hid (Below w.heap.size w w2) := hb1.trans (hb2.mono hb1.size)
  clear hb1 hb2 hT1
  go_wp2
  go_ret2
  exact ⟨rfl, FIN.out⟩
theorem ssum_nil (key : Key) (w : World) : Calls Tryz.prog 51 #[.pointer none, .string (sb key)] w fun e w' => e = .returned (.int .i64 0) ∧ Below w.heap.size w w' := by
  have hL := there_nil key w
  go_enter Tryz.func51, Tryz.ntmps51
  go_wp2_with fail
  refine Calls.mono hL ?_
  rintro e w1 ⟨⟨ao, c, rfl, -⟩, hb1⟩
  have hT1 := tsum_e ao c w1
  have FIN : Hid (Below w.heap.size w w1) := hb1
  clear hL hb1
  go_wp2_with fail
  refine Calls.mono hT1 ?_
  rintro e w2 ⟨rfl, hw⟩
  obtain rfl := hw.symm
  clear hT1
  go_wp2
  go_ret
  exact ⟨rfl, FIN.out⟩
theorem smembers_nil (key : Key) (w : World) : Calls Tryz.prog 21 #[.pointer none, .string (sb key)] w fun e w' => e = .returned (.slice none 0 0) ∧ Below w.heap.size w w' := by
  have hL := there_nil key w
  go_enter Tryz.func21, Tryz.ntmps21
  go_wp2_with fail
  refine Calls.mono hL ?_
  rintro e w1 ⟨⟨ao, c, rfl, -⟩, hb1⟩
  have hT1 := mall_e ao c w1
  clear hL
  go_wp2_with fail
  refine Calls.mono hT1 ?_
  rintro e w2 ⟨rfl, hb2⟩
  have FIN : Hid (Below w.heap.size w w2) := hb1.trans (hb2.mono hb1.size)
  clear hb1 hb2 hT1
  go_wp2
  go_ret
  exact ⟨rfl, FIN.out⟩
theorem sfields_nil (key : Key) (w : World) : Calls Tryz.prog 22 #[.pointer none, .string (sb key)] w fun e w' => e = .returned (.slice none 0 0) ∧ Below w.heap.size w w' := by
  have hL := there_nil key w
  go_enter Tryz.func22, Tryz.ntmps22
  go_wp2_with fail
  refine Calls.mono hL ?_
  rintro e w1 ⟨⟨ao, c, rfl, -⟩, hb1⟩
  have hT1 := fall_e ao c w1
  clear hL
  go_wp2_with fail
  refine Calls.mono hT1 ?_
  rintro e w2 ⟨rfl, hb2⟩
  have FIN : Hid (Below w.heap.size w w2) := hb1.trans (hb2.mono hb1.size)
  clear hb1 hb2 hT1
  go_wp2
  go_ret
  exact ⟨rfl, FIN.out⟩
theorem sscores_nil (key : Key) (w : World) : Calls Tryz.prog 23 #[.pointer none, .string (sb key)] w fun e w' => e = .returned (.slice none 0 0) ∧ Below w.heap.size w w' := by
  have hL := there_nil key w
  go_enter Tryz.func23, Tryz.ntmps23
  go_wp2_with fail
  refine Calls.mono hL ?_
  rintro e w1 ⟨⟨ao, c, rfl, -⟩, hb1⟩
  have hT1 := zall_e ao c w1
  clear hL
  go_wp2_with fail
  refine Calls.mono hT1 ?_
  rintro e w2 ⟨rfl, hb2⟩
  have FIN : Hid (Below w.heap.size w w2) := hb1.trans (hb2.mono hb1.size)
  clear hb1 hb2 hT1
  go_wp2
  go_ret
  exact ⟨rfl, FIN.out⟩
theorem sitems_nil (key : Key) (w : World) : Calls Tryz.prog 24 #[.pointer none, .string (sb key)] w fun e w' => e = .returned (.slice none 0 0) ∧ Below w.heap.size w w' := by
  have hL := stype_nil key w
  go_enter Tryz.func24, Tryz.ntmps24
  go_wp2_with fail
  refine Calls.mono hL ?_
  rintro e w1 ⟨rfl, hb1⟩
  have FIN : Hid (Below w.heap.size w w1) := hb1
  clear hb1 hL
  go_wp2
  go_ret
  exact ⟨rfl, FIN.out⟩
end Go.Proofs.YthlebgioamcioabGreat

/-
  What Encode comes to at a nil space: Sec's walk behind orZero's new space. (Written by gensek.py.)
-/
namespace Go.Proofs.YthlebgioamcioabGreat
set_option maxRecDepth 100000
open Go.RowKit

set_option maxHeartbeats 8000000 in
theorem sencode_from (V w : World) (g : Nat) (hz : Calls Tryz.prog 43 #[.pointer none] V fun e w' => e = .returned (.pointer (some ⟨g, 0, none⟩)) ∧ w' = w) (hVw : Below V.heap.size V w) (Y : Lay) (s : St) (hS : SpK Y w g s none) (h2 : Inv2 s) (hlL : s.L.length ≤ 1000) (hlD : s.DL.length ≤ 1000) :
    Calls Tryz.prog 19 #[.pointer none] V fun e w' => e = .returned (.string (sb (encS s))) ∧ Below V.heap.size V w' := by
  have HVW : Hid (Below V.heap.size V w) := hVw
  clear hVw
  have hl16 := hS.len
  have hls := load_seen hS
  have HS : Hid (SpK Y w g s none) := hS
  have H2 : Hid (Inv2 s) := h2
  have hT0 : Tx w (.slice none 0 0) (ns (s.seen.take 0)) w := ⟨br_nil w _, Below.refl _ _⟩
  have LS : (ns s.seen).length ≤ 160 := by have := ns_len s.seen; omega
  clear hS h2
  go_enter Tryz.func19, Tryz.ntmps19
  go_wp2_with fail
  refine Calls.mono hz ?_
  rintro e w1 ⟨rfl, hw1⟩
  obtain rfl := hw1.symm
  go_wp2_with (first | (refine wpList_loadR (ty := 25) (x := .tmp 16) (ad := ⟨g, 0, none⟩) (v := .agg (vals s.seen)) rfl rfl rfl hls ?_))
  clear hls hz
  go_loopw [3, 5, 18] (fun vb _ c wr => ∃ k : Nat, k ≤ 16 ∧ c = .int .i64 (k : Int) ∧ Aside (Tx w vb (ns (s.seen.take k)) wr)) (fun _ _ c _ => 16 - (intOf c).toNat)
  case atStart => exact ⟨0, by omega, rfl, hT0⟩
  case round =>
    clear hT0
    obtain ⟨k, hk, rfl, HT⟩ := hrel
    by_cases hk16 : k < 16
    · have hk' : (k : Int) < 16 := by omega
      have hix := run_index_vec wr s.seen k hl16 hk16
      have hnn : Nn (s.seen.getD k 0) := H2.out.seen _ (by
        rw [List.getD_eq_getElem?_getD, List.getElem?_eq_getElem (by omega : k < s.seen.length)]
        exact List.getElem_mem _)
      have hst := ns_succ s.seen k (by omega)
      have hlk : (ns (s.seen.take k)).length ≤ 1000000000 := by
        have := ns_len (s.seen.take k)
        have : (s.seen.take k).length ≤ 16 := by rw [List.length_take]; omega
        omega
      have hC := sputnum_any w.heap.size u3 (ns (s.seen.take k)) (s.seen.getD k 0) wr HT.out.br HT.out.be.size hlk hnn
      rw [← hst] at hC
      clear hst hlk hnn
      generalize s.seen.getD k 0 = x at *
      go_wp2_with fail
      refine Calls.mono hC ?_
      rintro e w2 ⟨v', rfl, hb2, hg2⟩
      have HT2 : Aside (Tx w v' (ns (s.seen.take (k + 1))) w2) := HT.out.step hb2 hg2
      clear hC hb2 hg2 hix HT
      go_wp2
      go_roundw
      case rel => exact ⟨k + 1, by omega, by go_num, HT2⟩
      case measure => simp [intOf]; omega
    · have hk' : ¬ (k : Int) < 16 := by omega
      have e1 : s.seen.take k = s.seen := List.take_of_length_le (by omega)
      rw [e1] at HT
      have hc16 : wr.cell? ⟨g, 16, none⟩ = some (.int .i64 s.time) := (HS.out.below HT.out.be (Nat.le_refl _)).c16
      have hC := sputnum_any w.heap.size u3 (ns s.seen) s.time wr HT.out.br HT.out.be.size (by omega) H2.out.time
      clear e1
      go_wp2_with fail
      refine Calls.mono hC ?_
      rintro e w2 ⟨v2, rfl, hb2, hg2⟩
      have HT2 : Aside (Tx w v2 (ns s.seen ++ nm s.time) w2) := HT.out.step hb2 hg2
      have hS2 := HS.out.below HT2.out.be (Nat.le_refl _)
      have hc17 := hS2.c17
      have hTo := E.together_any w2 Y.km Y.S s.L (hS2.srcE (by omega))
      have LT := nm_le s.time
      clear hC hb2 hg2 HT hc16 hS2
      generalize HP1 : ns s.seen ++ nm s.time = p1 at *
      have LP1 : p1.length ≤ 200 := by rw [← HP1, List.length_append]; omega
      have HQ1 : Hid (ns s.seen ++ nm s.time = p1) := HP1
      clear HP1 LT LS
      go_wp2_with fail
      refine Calls.mono hTo ?_
      rintro e w3 ⟨va, rfl, hra, hba⟩
      obtain ⟨aoa, capa, hva, -, -⟩ := hra.val
      rw [List.length_map] at hva
      obtain ⟨nL, hnL⟩ : ∃ nL, s.L.length = nL := ⟨_, rfl⟩
      rw [hnL] at hva hlL
      subst hva
      have HT3 : Aside (Tx w v2 p1 w3) := HT2.out.below hba
      have HRA : Aside (E.Rw 113 w3 w2.heap.size (.slice aoa nL capa) (s.L.map eit)) := hra
      have hC := sputnum_any w.heap.size v2 p1 (nL : Int) w3 HT3.out.br HT3.out.be.size (by omega) (len_nn hlL)
      have LN := nm_le (nL : Int)
      clear hTo hc17 hra hba HT2
      go_wp2_with fail
      refine Calls.mono hC ?_
      rintro e w4 ⟨v4, rfl, hb4, hg4⟩
      have HT4 : Aside (Tx w v4 (p1 ++ nm (nL : Int)) w4) := HT3.out.step hb4 hg4
      have HRA4 : Aside (E.Rw 113 w4 w2.heap.size (.slice aoa nL capa) (s.L.map eit)) := HT3.out.rowE HRA.out hg4
      clear hC hb4 hg4 HT3 HRA
      generalize HP2 : p1 ++ nm (nL : Int) = p2 at *
      have LP2 : p2.length ≤ 300 := by rw [← HP2, List.length_append]; omega
      have HQ2 : Hid (p1 ++ nm (nL : Int) = p2) := HP2
      clear HP2 LN
      go_wp2_with fail
      go_loopw [3, 8, 42] (fun vb _ c wx => ∃ k : Nat, k ≤ nL ∧ c = .int .i64 (k : Int) ∧ Aside (Tx w vb (p2 ++ (s.L.take k).flatMap liveB) wx ∧ E.Rw 113 wx w2.heap.size (.slice aoa nL capa) (s.L.map eit))) (fun _ _ c _ => nL - (intOf c).toNat)
      case atStart => exact ⟨0, Nat.zero_le _, rfl, by simpa using HT4.out, HRA4.out⟩
      case round =>
        clear HT4 HRA4
        obtain ⟨k2, hk2, rfl, HX⟩ := hrel
        by_cases hkn : k2 < nL
        · have hkn' : (k2 : Int) < (nL : Int) := by omega
          obtain ⟨gr, capr, i, hv', -, hi, hgb, hgrl, hrg, -⟩ := HX.out.2.atx (k := k2) (by rw [List.length_map]; omega)
          rw [List.length_map, hnL] at hv'
          simp only [Value.slice.injEq] at hv'
          obtain ⟨rfl, -, rfl⟩ := hv'
          obtain ⟨a, ha, rfl⟩ := map_at hi
          have ham := List.mem_of_getElem? ha
          have haw := HS.out.wl a ham
          have hld := E.ld_mid hrg
          have hst := E.st_new wr (eit a)
          have hb1 : Below wr.heap.size wr (wr.alloc (.cells (xc (eit a)) 113)) := (Below.refl _ wr).alloc (Nat.le_refl _) _
          have hx := heap_alloc_new wr (.cells (xc (eit a)) 113)
          have hT1 := HX.out.1.below hb1
          have hr1 : E.Rw 113 (wr.alloc (.cells (xc (eit a)) 113)) w2.heap.size (.slice (some ⟨gr, 0, none⟩) nL capa) (s.L.map eit) := HX.out.2.alloc _
          generalize wr.alloc (.cells (xc (eit a)) 113) = W5 at *
          have hxx := E.ldx_at hx
          rw [show (eit a).x.l.toArray = evc a from evX_c haw.1] at hxx
          have hlen : (p2 ++ (s.L.take k2).flatMap liveB).length ≤ 1000000000 := by
            have h1 := live_len H2.out HS.out.wl (s.L.take k2) (fun x hx => List.mem_of_mem_take hx)
            have h3 : (s.L.take k2).length ≤ 1000 := by rw [List.length_take]; omega
            rw [List.length_append]
            omega
          have hC := sputev_any w.heap.size u3 _ a W5 hT1.br hT1.be.size hlen haw (H2.out.okL a ham)
          have hfl : (p2 ++ (s.L.take k2).flatMap liveB) ++ tm (evb a) = p2 ++ (s.L.take (k2 + 1)).flatMap liveB := by
            rw [take_flat liveB ha, List.append_assoc]; rfl
          rw [hfl] at hC
          have H1 : Aside (Tx w u3 (p2 ++ (s.L.take k2).flatMap liveB) W5 ∧ E.Rw 113 W5 w2.heap.size (.slice (some ⟨gr, 0, none⟩) nL capa) (s.L.map eit)) := ⟨hT1, hr1⟩
          clear hfl hlen hT1 hr1 hrg hb1 hx HX hi ha ham
          go_wp2_with (first
            | (refine wpList_loadR (ty := 113) (x := .tmp 44) (ad := ⟨gr, k2 * 28, none⟩) (v := .agg (xc (eit a))) rfl rfl rfl hld ?_)
            | (refine wpList_storeR (ty := 113) (x := .tmp 8) (y := .tmp 45) (ad := ⟨wr.heap.size, 0, none⟩) (v := .agg (xc (eit a))) (w' := W5) rfl rfl rfl rfl hst ?_)
            | (refine wpList_loadR (ty := 29) (x := .tmp 47) (ad := ⟨wr.heap.size, 2, none⟩) (v := .agg (evc a)) rfl rfl rfl hxx ?_))
          refine Calls.mono hC ?_
          rintro e w6 ⟨v6, rfl, hb6, hg6⟩
          have H6 : Aside (Tx w v6 (p2 ++ (s.L.take (k2 + 1)).flatMap liveB) w6 ∧ E.Rw 113 w6 w2.heap.size (.slice (some ⟨gr, 0, none⟩) nL capa) (s.L.map eit)) := ⟨H1.out.1.step hb6 hg6, H1.out.1.rowE H1.out.2 hg6⟩
          clear hC hb6 hg6 hld hst hxx H1 haw
          go_wp2
          go_roundw
          case rel => exact ⟨k2 + 1, by omega, by go_num, H6⟩
          case measure => simp [intOf]; omega
        · have hkn' : ¬ (k2 : Int) < (nL : Int) := by omega
          have e2 : s.L.take k2 = s.L := List.take_of_length_le (by omega)
          rw [e2] at HX
          have HT7 : Aside (Tx w u3 (p2 ++ s.L.flatMap liveB) wr) := HX.out.1
          have LL := live_len H2.out HS.out.wl s.L (fun x hx => hx)
          rw [hnL] at LL
          have hS7 := HS.out.below HT7.out.be (Nat.le_refl _)
          have hc17 := hS7.c17
          have hTo := D.together_any wr Y.km Y.S s.DL (hS7.srcD (by omega))
          clear e2 HX hS7
          generalize HP3 : p2 ++ s.L.flatMap liveB = p3 at *
          have LP3 : p3.length ≤ 1100000 := by rw [← HP3, List.length_append]; omega
          have HQ3 : Hid (p2 ++ s.L.flatMap liveB = p3) := HP3
          clear HP3 LL
          go_wp2_with fail
          refine Calls.mono hTo ?_
          rintro e w8 ⟨vd, rfl, hrd, hbd⟩
          obtain ⟨aod, capd, hvd, -, -⟩ := hrd.val
          rw [List.length_map] at hvd
          obtain ⟨nD, hnD⟩ : ∃ nD, s.DL.length = nD := ⟨_, rfl⟩
          rw [hnD] at hvd hlD
          subst hvd
          have HT8 : Aside (Tx w u3 p3 w8) := HT7.out.below hbd
          have HRD : Aside (D.Rw 120 w8 wr.heap.size (.slice aod nD capd) (s.DL.map dit)) := hrd
          have hC := sputnum_any w.heap.size u3 p3 (nD : Int) w8 HT8.out.br HT8.out.be.size (by omega) (len_nn hlD)
          have LN := nm_le (nD : Int)
          clear hTo hc17 hrd hbd HT7
          go_wp2_with fail
          refine Calls.mono hC ?_
          rintro e w9 ⟨v9, rfl, hb9, hg9⟩
          have HT9 : Aside (Tx w v9 (p3 ++ nm (nD : Int)) w9) := HT8.out.step hb9 hg9
          have HRD9 : Aside (D.Rw 120 w9 wr.heap.size (.slice aod nD capd) (s.DL.map dit)) := HT8.out.rowD HRD.out hg9
          clear hC hb9 hg9 HT8 HRD
          generalize HP4 : p3 ++ nm (nD : Int) = p4 at *
          have LP4 : p4.length ≤ 1200000 := by rw [← HP4, List.length_append]; omega
          have HQ4 : Hid (p3 ++ nm (nD : Int) = p4) := HP4
          clear HP4 LN
          obtain ⟨Bd, hBd⟩ : ∃ Bd, wr.heap.size = Bd := ⟨_, rfl⟩
          rw [hBd] at HRD9
          go_wp2_with fail
          go_loopw [3, 11, 62] (fun vb _ c wx => ∃ k : Nat, k ≤ nD ∧ c = .int .i64 (k : Int) ∧ Aside (Tx w vb (p4 ++ (s.DL.take k).flatMap deadB) wx ∧ D.Rw 120 wx Bd (.slice aod nD capd) (s.DL.map dit))) (fun _ _ c _ => nD - (intOf c).toNat)
          case atStart => exact ⟨0, Nat.zero_le _, rfl, by simpa using HT9.out, HRD9.out⟩
          case round =>
            clear HT9 HRD9
            obtain ⟨k3, hk3, rfl, HX⟩ := hrel
            by_cases hkn2 : k3 < nD
            · have hkn3 : (k3 : Int) < (nD : Int) := by omega
              obtain ⟨gr, capr, i, hv', -, hi, hgb, hgrl, hrg, -⟩ := HX.out.2.atx (k := k3) (by rw [List.length_map]; omega)
              rw [List.length_map, hnD] at hv'
              simp only [Value.slice.injEq] at hv'
              obtain ⟨rfl, -, rfl⟩ := hv'
              obtain ⟨d, hd, rfl⟩ : ∃ d, s.DL[k3]? = some d ∧ i = dit d := by
                rw [List.getElem?_map] at hi
                cases hd : s.DL[k3]? with
                | none => rw [hd] at hi; cases hi
                | some d => rw [hd] at hi; exact ⟨d, rfl, (Option.some.inj hi).symm⟩
              have hdm := List.mem_of_getElem? hd
              have hdw := HS.out.wd d hdm
              obtain ⟨o1, o2, o3⟩ := H2.out.okD d hdm
              have hld := D.ld_mid hrg
              have hst := D.st_new wr (dit d)
              have hb1 : Below wr.heap.size wr (wr.alloc (.cells (xc (dit d)) 120)) := (Below.refl _ wr).alloc (Nat.le_refl _) _
              have hx := heap_alloc_new wr (.cells (xc (dit d)) 120)
              have hT1 := HX.out.1.below hb1
              have hr1 : D.Rw 120 (wr.alloc (.cells (xc (dit d)) 120)) Bd (.slice (some ⟨gr, 0, none⟩) nD capd) (s.DL.map dit) := HX.out.2.alloc _
              generalize wr.alloc (.cells (xc (dit d)) 120) = W5 at *
              obtain ⟨-, c28, -⟩ := ldx_d hdw.1 hx
              have hlen : (p4 ++ (s.DL.take k3).flatMap deadB).length ≤ 100000000 := by
                have h1 := dead_len H2.out HS.out.wd (s.DL.take k3) (fun x hx => List.mem_of_mem_take hx)
                have h3 : (s.DL.take k3).length ≤ 1000 := by rw [List.length_take]; omega
                rw [List.length_append]
                omega
              obtain ⟨q0, hq0⟩ : ∃ q0, p4 ++ (s.DL.take k3).flatMap deadB = q0 := ⟨_, rfl⟩
              have HQ0 : Hid (p4 ++ (s.DL.take k3).flatMap deadB = q0) := hq0
              rw [hq0] at hT1 hlen
              have hC := sputnum_any w.heap.size u3 q0 d.br W5 hT1.br hT1.be.size (by omega) o2
              have H1 : Aside (Tx w u3 q0 W5 ∧ D.Rw 120 W5 Bd (.slice (some ⟨gr, 0, none⟩) nD capd) (s.DL.map dit)) := ⟨hT1, hr1⟩
              have HXB : Hid (W5.heap[wr.heap.size]? = some (.cells (xc (dit d)) 120 (0, 0))) := hx
              have hne : ∀ (v : Value) (l : List UInt8) (Wa Wb : World), Tx w v l Wa → Wa.grownBy Wb v.ownBlock → Wa.heap[wr.heap.size]? = some (.cells (xc (dit d)) 120 (0, 0)) → Wb.heap[wr.heap.size]? = some (.cells (xc (dit d)) 120 (0, 0)) := fun v l Wa Wb ht hg hh => by
                refine (hg.block _ (Array.getElem?_eq_some_iff.1 hh).1 (fun e => ?_)).trans hh
                obtain ⟨-, -, cur2, hc2⟩ := ht.br.cellsAt _ e.symm
                rw [hh] at hc2
                simp only [Option.some.injEq, Obj.cells.injEq] at hc2
                exact u8_ne.2 hc2.2.1.symm
              have HNE : Hid _ := hne
              have L1 := nm_le d.br
              have L2 := nm_le d.bn
              clear hq0 hT1 hr1 hrg hb1 hx HX hi hne
              go_wp2_with (first
                | (refine wpList_loadR (ty := 120) (x := .tmp 64) (ad := ⟨gr, k3 * 30, none⟩) (v := .agg (xc (dit d))) rfl rfl rfl hld ?_)
                | (refine wpList_storeR (ty := 120) (x := .tmp 11) (y := .tmp 65) (ad := ⟨wr.heap.size, 0, none⟩) (v := .agg (xc (dit d))) (w' := W5) rfl rfl rfl rfl hst ?_))
              refine Calls.mono hC ?_
              rintro e w6 ⟨v6, rfl, hb6, hg6⟩
              have H6 : Aside (Tx w v6 (q0 ++ nm d.br) w6 ∧ D.Rw 120 w6 Bd (.slice (some ⟨gr, 0, none⟩) nD capd) (s.DL.map dit)) := ⟨H1.out.1.step hb6 hg6, H1.out.1.rowD H1.out.2 hg6⟩
              have HX6 : Hid (w6.heap[wr.heap.size]? = some (.cells (xc (dit d)) 120 (0, 0))) := HNE.out _ _ _ _ H1.out.1 hg6 HXB.out
              obtain ⟨-, -, c29⟩ := ldx_d hdw.1 HX6.out
              have hC7 := sputnum_any w.heap.size v6 (q0 ++ nm d.br) d.bn w6 H6.out.1.br H6.out.1.be.size (by rw [List.length_append]; omega) o3
              clear hC hb6 hg6 hld hst c28 H1 HXB
              go_wp2_with fail
              refine Calls.mono hC7 ?_
              rintro e w7 ⟨v7, rfl, hb7, hg7⟩
              have H7 : Aside (Tx w v7 ((q0 ++ nm d.br) ++ nm d.bn) w7 ∧ D.Rw 120 w7 Bd (.slice (some ⟨gr, 0, none⟩) nD capd) (s.DL.map dit)) := ⟨H6.out.1.step hb7 hg7, H6.out.1.rowD H6.out.2 hg7⟩
              have HX7 : Hid (w7.heap[wr.heap.size]? = some (.cells (xc (dit d)) 120 (0, 0))) := HNE.out _ _ _ _ H6.out.1 hg7 HX6.out
              obtain ⟨lev, -, -⟩ := ldx_d hdw.1 HX7.out
              have hC8 := sputev_any w.heap.size v7 ((q0 ++ nm d.br) ++ nm d.bn) d.push w7 H7.out.1.br H7.out.1.be.size (by rw [List.length_append, List.length_append]; omega) hdw o1
              have hfl : ((q0 ++ nm d.br) ++ nm d.bn) ++ tm (evb d.push) = p4 ++ (s.DL.take (k3 + 1)).flatMap deadB := by
                rw [take_flat deadB hd, ← List.append_assoc, HQ0.out]
                unfold deadB
                simp only [List.append_assoc]
              rw [hfl] at hC8
              clear hC7 hb7 hg7 c29 H6 HX6 hfl hd hdm
              go_wp2_with (first | (refine wpList_loadR (ty := 29) (x := .tmp 80) (ad := ⟨wr.heap.size, 2, none⟩) (v := .agg (evc d.push)) rfl rfl rfl lev ?_))
              refine Calls.mono hC8 ?_
              rintro e wa ⟨va, rfl, hba, hga⟩
              have HA : Aside (Tx w va (p4 ++ (s.DL.take (k3 + 1)).flatMap deadB) wa ∧ D.Rw 120 wa Bd (.slice (some ⟨gr, 0, none⟩) nD capd) (s.DL.map dit)) := ⟨H7.out.1.step hba hga, H7.out.1.rowD H7.out.2 hga⟩
              clear hC8 hba hga lev H7 HX7 HNE
              go_wp2
              go_roundw
              case rel => exact ⟨k3 + 1, by omega, by go_num, HA⟩
              case measure => simp [intOf]; omega
            · have hkn3 : ¬ (k3 : Int) < (nD : Int) := by omega
              have e3 : s.DL.take k3 = s.DL := List.take_of_length_le (by omega)
              rw [e3] at HX
              have HE : Hid (p4 ++ s.DL.flatMap deadB = encS s) := by
                show _ = _
                unfold encS
                rw [hnL, hnD, HQ1.out, HQ2.out, HQ3.out, HQ4.out]
              rw [HE.out] at HX
              obtain ⟨aoz, capz, hvz, -⟩ := HX.out.1.br.val
              have hcv : (convert 106 9 u3).run Tryz.prog wr = .ok (.string (sb (encS s))) wr := by
                have hne : encS s ≠ [] := fun e => by
                  have h1 := congrArg List.length HE.out
                  rw [e, ← HQ4.out, List.length_append, List.length_append, nm_length] at h1
                  have := Vq.wd_pos (nD : Int).toNat
                  rw [List.length_nil] at h1
                  omega
                rcases HX.out.1.br.2 with ⟨-, h0⟩ | ⟨gz, cz, cur, hv, -⟩
                · exact absurd (List.eq_nil_of_length_eq_zero h0) hne
                · have hb := HX.out.1.br
                  rw [hv] at hb ⊢
                  exact conv_own hb
              have FIN : Hid (Below V.heap.size V wr) := HVW.out.trans (HX.out.1.be.mono HVW.out.size)
              clear e3 HX
              obtain ⟨tx, htx⟩ : ∃ tx, encS s = tx := ⟨_, rfl⟩
              have HTX : Hid (encS s = tx) := htx
              rw [htx] at hcv hvz
              clear htx HE
              subst hvz
              go_wp2
              go_ret
              exact ⟨by rw [HTX.out]; rfl, FIN.out⟩
theorem sencode_nil (w : World) : Calls Tryz.prog 19 #[.pointer none] w fun e w' => e = .returned (.string (sb (encS st0))) ∧ Below w.heap.size w w' :=
  sencode_from w _ w.heap.size (sorz_nil w) (sp_below w) lay0 st0 (sp_new w) inv20 (by simp [st0]) (by simp [st0])
end Go.Proofs.YthlebgioamcioabGreat

