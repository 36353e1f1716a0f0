/-
  What the reference's For comes to.
-/
import Derived.Test.YteanpepmncgagaaPrf
namespace Go.Proofs.Yteanpepmncgagaa
set_option maxRecDepth 100000
open Go.RowKit

theorem range_r {w : World} {b k : Nat} {e : Ev} (h : w.rangeAt b k (evl e)) : w.cell? ⟨b, k, none⟩ = some (.int .i64 e.r) := h 0 _ rfl
theorem range_n {w : World} {b k : Nat} {e : Ev} (h : w.rangeAt b k (evl e)) : w.cell? ⟨b, k + 1, none⟩ = some (.int .i64 e.n) := h 1 _ rfl
theorem load_dtD {w : World} {g : Nat} {r n : Int} (h : LiesD w g r n) : (loadVar 33 ⟨g, 0, none⟩).run Try.prog w = .ok (.agg (dotc r n)) w := load_dot_run h
set_option maxHeartbeats 4000000 in
theorem rfor_any (g : Nat) (lv : Value) (E : List Ev) (v t : List Int) (hv : v.length = 16) (ht : t.length = 16) (m : Int) (hm : E.length ≤ 1000) (w : World) (h : Lp 29 w g lv E) :
    Calls Try.prog 14 #[.pointer (some ⟨g, 0, none⟩), .agg (vals v), .agg (vals t), .int .i64 m] w fun ex w' => ∃ r, ex = .returned r ∧ Row w' w.heap.size r (forE E v t m) ∧ Below w.heap.size w w' := by
  obtain ⟨hV, hT, hb0⟩ := two_vv w v t
  have hL0 := h.below hb0 (Nat.le_refl _)
  generalize hW0 : (w.alloc (.cells (vals v) 35)).alloc (.cells (vals t) 35) = W0 at *
  have HB0 : Hid (Below w.heap.size w W0) := hb0
  obtain ⟨ao, c, rfl, hE⟩ := hL0.val
  have hc := hL0.c0
  have HE : Aside (Evs W0 ao E.length c E) := hE
  have H0 : Aside (Row W0 W0.heap.size (.slice none 0 0) (forE (E.take 0) v t m) ∧ Lies W0 w.heap.size v ∧ Lies W0 (w.heap.size + 1) t ∧ Below W0.heap.size W0 W0) := ⟨by rw [List.take_zero, for_zero]; exact row_nil _ _, hV, hT, Below.refl _ _⟩
  have HLT : Hid (w.heap.size < W0.heap.size ∧ w.heap.size + 1 < W0.heap.size ∧ g < W0.heap.size) := ⟨hV.lt, hT.lt, hL0.lt⟩
  clear hE hL0 hV hT hb0 h
  go_enter Try.func14, Try.ntmps14
  go_wp2
  go_loopg [9, 17] E.length (fun kx s9 s17 wr => ∃ i : Nat, s17 = .int .i64 i ∧ i ≤ E.length ∧ E.length - i ≤ kx ∧ Aside (Row wr W0.heap.size s9 (forE (E.take i) v t m) ∧ Lies wr w.heap.size v ∧ Lies wr (w.heap.size + 1) t ∧ Below W0.heap.size W0 wr))
  case atStart => exact ⟨0, rfl, Nat.zero_le _, by omega, H0⟩
  case round =>
    clear H0 hW0
    obtain ⟨i, rfl, him, hkx, HS⟩ := hrel
    have hcr : wr.cell? ⟨g, 0, none⟩ = some (.slice ao E.length c) := (HS.out.2.2.2.cell HLT.out.2.2).trans hc
    by_cases hlt : i < E.length
    · have hltz : (i : Int) < (E.length : Int) := by omega
      obtain ⟨b, off, u, rfl, hui, hu, hr, hbl⟩ := (HE.out.below HS.out.2.2.2 (Nat.le_refl _)).at hlt
      have hu16 := hu.1
      have hix := fun W : World => index_ev W (b := b) (off := off) (k := i) (m := E.length) (c := c) hlt
      have hsz : W0.heap.size ≤ wr.heap.size := HS.out.2.2.2.size
      have hB0 : Below wr.heap.size wr (wr.alloc (.cells (dotc u.r u.n) 33)) := (Below.refl _ wr).alloc (Nat.le_refl _) _
      obtain ⟨hR1, hV1, hT1, hB1⟩ := HS.out
      have hc0 := range_r hr
      have hc1 := range_n hr
      have hR1 := hR1.below hB0 (Nat.le_refl _)
      have hV1 := hV1.below hB0 hV1.lt
      have hT1 := hT1.below hB0 hT1.lt
      have hB1 := hB1.trans (hB0.mono hB1.size)
      have hD1 := liesD_new wr u.r u.n
      have hr1 := range_below hr hB0 hbl
      have hcr1 : (wr.alloc (.cells (dotc u.r u.n) 33)).cell? ⟨g, 0, none⟩ = some (.slice (some ⟨b, off, none⟩) E.length c) := (hB0.cell (World.block_lt_of_cell? _ _ hcr)).trans hcr
      have hbl1 : b < (wr.alloc (.cells (dotc u.r u.n) 33)).heap.size := Nat.lt_of_lt_of_le hbl hB0.size
      clear HS
      go_upto_region 6 with fail
      change Code.wp _ _ _ _ (wr.alloc (.cells (dotc u.r u.n) 33))
      clear hr hcr hc0 hc1 hB0 hbl
      generalize wr.alloc (.cells (dotc u.r u.n) 33) = W at *
      generalize wr.heap.size = D at *
      have hw : ∀ x ∈ forE (E.take i) v t m, Wide x := fun x hx => HE.out.wide x (List.mem_of_mem_take (for_mem hx))
      obtain ⟨ao2, c2, rfl, -⟩ := hR1.evs hw
      have hll := for_len (E.take i) v t m
      rw [List.length_take] at hll
      obtain ⟨n2, hn2⟩ : ∃ n2, (forE (E.take i) v t m).length = n2 := ⟨_, rfl⟩
      rw [hn2] at hR1 hll ⊢
      have hlv := load_v hT1 ht
      have hld := load_dtD hD1
      by_cases hfull : m ≤ (n2 : Int)
      · have hd : decide ((n2 : Int) < m) = false := decide_eq_false (by omega)
        have HSF : Aside (Row W W0.heap.size (.slice ao2 n2 c2) (forE (E.take (i + 1)) v t m) ∧ Lies W w.heap.size v ∧ Lies W (w.heap.size + 1) t ∧ Below W0.heap.size W0 W) := ⟨by rw [for_more (by rw [hn2]; exact hfull)]; exact hR1, hV1, hT1, hB1⟩
        clear hR1 hV1 hT1 hB1 hD1 hlv hld hw hr1 hcr1 hbl1 hn2
        go_wp2
        go_roundg (E.length - (i + 1))
        case measure => omega
        case rel => exact ⟨i + 1, by go_num, by omega, Nat.le_refl _, HSF⟩
      · have hd : decide ((n2 : Int) < m) = true := decide_eq_true (by omega)
        have hH1 := rhas_any t u.r u.n ht W
        cases hh : hasv t u.r u.n
        · rw [hh] at hH1
          have HP : Hid (tellE v t u = false) := by show _ = _; rw [tellE, hh]; rfl
          go_wp2_with (first
            | (refine wpList_loadW (ty := 35) (x := .tmp 6) (ad := ⟨w.heap.size + 1, 0, none⟩) (v := .agg (vals t)) rfl rfl rfl hlv ?_)
            | (refine wpList_loadW (ty := 33) (x := .tmp 11) (ad := ⟨D, 0, none⟩) (v := .agg (dotc u.r u.n)) rfl rfl rfl hld ?_))
          refine Calls.mono hH1 ?_
          rintro ex w2 ⟨rfl, hb2⟩
          clear hlv hld
          have hR1 : Row w2 W0.heap.size (.slice ao2 n2 c2) (forE (E.take i) v t m) := hR1.below hb2 (Nat.le_refl _)
          have hV1 := hV1.below hb2 hV1.lt
          have hT1 := hT1.below hb2 hT1.lt
          have hD1 := hD1.below hb2 hD1.lt
          have hB1 := hB1.trans (hb2.mono hB1.size)
          have hlv := trivial
          have hld := trivial
          have HSF : Aside (Row w2 W0.heap.size (.slice ao2 n2 c2) (forE (E.take (i + 1)) v t m) ∧ Lies w2 w.heap.size v ∧ Lies w2 (w.heap.size + 1) t ∧ Below W0.heap.size W0 w2) := ⟨by rw [for_skip hui HP.out]; exact hR1, hV1, hT1, hB1⟩
          clear hR1 hV1 hT1 hB1 hD1 hlv hld hb2 hH1 HP hh hd hn2 hw hr1 hcr1 hbl1
          go_wp2
          go_roundg (E.length - (i + 1))
          case measure => omega
          case rel => exact ⟨i + 1, by go_num, by omega, Nat.le_refl _, HSF⟩
        · rw [hh] at hH1
          go_wp2_with (first
            | (refine wpList_loadW (ty := 35) (x := .tmp 6) (ad := ⟨w.heap.size + 1, 0, none⟩) (v := .agg (vals t)) rfl rfl rfl hlv ?_)
            | (refine wpList_loadW (ty := 33) (x := .tmp 11) (ad := ⟨D, 0, none⟩) (v := .agg (dotc u.r u.n)) rfl rfl rfl hld ?_))
          refine Calls.mono hH1 ?_
          rintro ex w2 ⟨rfl, hb2⟩
          clear hlv hld
          have hR1 : Row w2 W0.heap.size (.slice ao2 n2 c2) (forE (E.take i) v t m) := hR1.below hb2 (Nat.le_refl _)
          have hV1 := hV1.below hb2 hV1.lt
          have hT1 := hT1.below hb2 hT1.lt
          have hD1 := hD1.below hb2 hD1.lt
          have hB1 := hB1.trans (hb2.mono hB1.size)
          have hr2 := range_below hr1 hb2 hbl1
          have hcr2 : w2.cell? ⟨g, 0, none⟩ = some (.slice (some ⟨b, off, none⟩) E.length c) := (hb2.cell (World.block_lt_of_cell? _ _ hcr1)).trans hcr1
          have hbl2 : b < w2.heap.size := Nat.lt_of_lt_of_le hbl1 hb2.size
          clear hr1 hcr1 hbl1 hb2 hH1
          have hlv := load_v hV1 hv
          have hld := load_dtD hD1
          have hH2 := rhas_any v u.r u.n hv w2
          cases hh2 : hasv v u.r u.n
          · rw [hh2] at hH2
            have HP : Hid (tellE v t u = true) := by show _ = _; rw [tellE, hh, hh2]; rfl
            go_wp2_with (first
              | (refine wpList_loadW (ty := 35) (x := .tmp 5) (ad := ⟨w.heap.size, 0, none⟩) (v := .agg (vals v)) rfl rfl rfl hlv ?_)
              | (refine wpList_loadW (ty := 33) (x := .tmp 11) (ad := ⟨D, 0, none⟩) (v := .agg (dotc u.r u.n)) rfl rfl rfl hld ?_))
            refine Calls.mono hH2 ?_
            rintro ex w3 ⟨rfl, hb3⟩
            clear hlv hld
            have hR1 : Row w3 W0.heap.size (.slice ao2 n2 c2) (forE (E.take i) v t m) := hR1.below hb3 (Nat.le_refl _)
            have hV1 := hV1.below hb3 hV1.lt
            have hT1 := hT1.below hb3 hT1.lt
            have hD1 := hD1.below hb3 hD1.lt
            have hB1 := hB1.trans (hb3.mono hB1.size)
            have hr3 := range_below hr2 hb3 hbl2
            have hcr3 : w3.cell? ⟨g, 0, none⟩ = some (.slice (some ⟨b, off, none⟩) E.length c) := (hb3.cell (World.block_lt_of_cell? _ _ hcr2)).trans hcr2
            have hba : Below w3.heap.size w3 (w3.alloc (.cells (evc u) 39)) := (Below.refl _ _).alloc (Nat.le_refl _) _
            have hRow : Row (w3.alloc (.cells (evc u) 39)) W0.heap.size (.slice ao2 n2 c2) (forE (E.take i) v t m) := hR1.below hba (Nat.le_refl _)
            have hF : Evs (w3.alloc (.cells (evc u) 39)) (some ⟨w3.heap.size, 0, none⟩) 1 1 [u] := evs_single _ _ u hu (liesE_new w3 u)
            have hle : W0.heap.size ≤ (w3.alloc (.cells (evc u) 39)).heap.size := by have := hB1.size; simp; omega
            have HV4 : Hid (Lies (w3.alloc (.cells (evc u) 39)) w.heap.size v) := hV1.below hba hV1.lt
            have HT4 : Hid (Lies (w3.alloc (.cells (evc u) 39)) (w.heap.size + 1) t) := hT1.below hba hT1.lt
            have HB4 : Hid (Below W0.heap.size W0 (w3.alloc (.cells (evc u) 39))) := hB1.trans (hba.mono hB1.size)
            have HSN : Hid (forE (E.take (i + 1)) v t m = forE (E.take i) v t m ++ [u]) := for_step hui HP.out (by rw [hn2]; omega)
            have hlim : (forE (E.take i) v t m).length + 1 ≤ 1048576 := by omega
            clear hR1 hV1 hT1 hB1 hD1 hr2 hcr2 hbl2 hb3 hH2 hh hh2 HP hba hn2
            go_wp2_with (first | refine load_ev_mid rfl rfl rfl hr3 hu16 ?_ | refine build_ev1 rfl rfl rfl hu16 ?_ | refine wpList_appE rfl _ _ rfl W0.heap.size _ (forE (E.take i) v t m) rfl hRow _ 1 1 [u] rfl hF hlim hle ?_)
            intro v4 w4 hR4 hg4 ho4
            have HSF : Aside (Row w4 W0.heap.size v4 (forE (E.take (i + 1)) v t m) ∧ Lies w4 w.heap.size v ∧ Lies w4 (w.heap.size + 1) t ∧ Below W0.heap.size W0 w4) :=
              ⟨by rw [HSN.out]; exact hR4, (hg4.block w.heap.size HV4.out.lt (fun e1 => by have := hRow.own _ e1.symm; have := HLT.out.1; omega)).trans HV4.out, (hg4.block (w.heap.size + 1) HT4.out.lt (fun e1 => by have := hRow.own _ e1.symm; have := HLT.out.2.1; omega)).trans HT4.out, HB4.out.grown hg4 hle hRow.own⟩
            clear hR4 hg4 ho4 hRow hF HB4 HSN hle hlim HV4 HT4 hr3 hcr3
            go_wp2
            go_roundg (E.length - (i + 1))
            case measure => omega
            case rel => exact ⟨i + 1, by go_num, by omega, Nat.le_refl _, HSF⟩
          · rw [hh2] at hH2
            have HP : Hid (tellE v t u = false) := by show _ = _; rw [tellE, hh, hh2]; rfl
            go_wp2_with (first
              | (refine wpList_loadW (ty := 35) (x := .tmp 5) (ad := ⟨w.heap.size, 0, none⟩) (v := .agg (vals v)) rfl rfl rfl hlv ?_)
              | (refine wpList_loadW (ty := 33) (x := .tmp 11) (ad := ⟨D, 0, none⟩) (v := .agg (dotc u.r u.n)) rfl rfl rfl hld ?_))
            refine Calls.mono hH2 ?_
            rintro ex w3 ⟨rfl, hb3⟩
            clear hlv hld
            have hR1 : Row w3 W0.heap.size (.slice ao2 n2 c2) (forE (E.take i) v t m) := hR1.below hb3 (Nat.le_refl _)
            have hV1 := hV1.below hb3 hV1.lt
            have hT1 := hT1.below hb3 hT1.lt
            have hD1 := hD1.below hb3 hD1.lt
            have hB1 := hB1.trans (hb3.mono hB1.size)
            have hlv := trivial
            have hld := trivial
            have HSF : Aside (Row w3 W0.heap.size (.slice ao2 n2 c2) (forE (E.take (i + 1)) v t m) ∧ Lies w3 w.heap.size v ∧ Lies w3 (w.heap.size + 1) t ∧ Below W0.heap.size W0 w3) := ⟨by rw [for_skip hui HP.out]; exact hR1, hV1, hT1, hB1⟩
            clear hR1 hV1 hT1 hB1 hD1 hlv hld hr2 hcr2 hbl2 hb3 hH2 hh hh2 HP hn2
            go_wp2
            go_roundg (E.length - (i + 1))
            case measure => omega
            case rel => exact ⟨i + 1, by go_num, by omega, Nat.le_refl _, HSF⟩
    · obtain rfl : i = E.length := by omega
      have HR : Hid (Row wr W0.heap.size u9 (forE E v t m) ∧ Below w.heap.size w wr) := ⟨by
        have := HS.out.1
        rwa [List.take_of_length_le (Nat.le_refl _)] at this, HB0.out.trans (HS.out.2.2.2.mono HB0.out.size)⟩
      have HLO : Hid (w.heap.size ≤ W0.heap.size) := HB0.out.size
      clear HS hcr hc
      go_wp2
      go_ret
      exact ⟨_, rfl, HR.out.1.lower HLO.out, HR.out.2⟩
end Go.Proofs.Yteanpepmncgagaa
