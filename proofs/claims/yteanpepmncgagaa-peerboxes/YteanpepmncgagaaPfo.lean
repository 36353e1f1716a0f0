/-
  What For of a log comes to.
-/
import Derived.Test.YteanpepmncgagaaPlg
import Derived.Test.YteanpepmncgagaaJoi
namespace Go.Proofs.Yteanpepmncgagaa
set_option maxRecDepth 100000
open Go.RowKit

theorem load_v {w : World} {g : Nat} {l : List Int} (h : Lies w g l) (hl : l.length = 16) : (loadVar 35 ⟨g, 0, none⟩).run Try.prog w = .ok (.agg (vals l)) w :=
  run_loadVar_row w g 35 35 _ (0, 0) _ h Try.underlying35 rfl (size16 l hl)
theorem LiesE.dotAt {w : World} {g : Nat} {e : Ev} (h : LiesE w g e) : (loadVar 33 ⟨g, 0, none⟩).run Try.prog w = .ok (.agg (dotc e.r e.n)) w :=
  run_loadVar_mid (P := Try.prog) w g 0 33 _ _ h.dot Try.underlying33 rfl (by kernel_rfl)
theorem two_vv (w : World) (a b : List Int) : Lies ((w.alloc (.cells (vals a) 35)).alloc (.cells (vals b) 35)) w.heap.size a ∧ Lies ((w.alloc (.cells (vals a) 35)).alloc (.cells (vals b) 35)) (w.heap.size + 1) b ∧ Below w.heap.size w ((w.alloc (.cells (vals a) 35)).alloc (.cells (vals b) 35)) := by
  refine ⟨(lies_new w a).alloc _, ?_, ((Below.refl _ _).alloc (Nat.le_refl _) _).alloc (by simp) _⟩
  have := lies_new (w.alloc (.cells (vals a) 35)) b
  rwa [World.size_alloc] at this
set_option maxHeartbeats 4000000 in
theorem pfor_any (p : Value) (E : List Ev) (v t : List Int) (hv : v.length = 16) (ht : t.length = 16) (m : Int) (hm : E.length ≤ 1000) (w : World) (h : LP w p E) :
    Calls Try.prog 13 #[p, .agg (vals v), .agg (vals t), .int .i64 m] w fun ex w' => ∃ r, ex = .returned r ∧ Row w' w.heap.size r (forE E v t m) ∧ Below w.heap.size w w' := by
  obtain ⟨hV, hT, hb0⟩ := two_vv w v t
  have hO := porz_any p E _ (h.below hb0)
  generalize hW0 : (w.alloc (.cells (vals v) 35)).alloc (.cells (vals t) 35) = W0 at *
  have HB0 : Hid (Below w.heap.size w W0) := hb0
  clear h hb0
  go_enter Try.func13, Try.ntmps13
  go_wp2_with fail
  refine Calls.mono hO ?_
  rintro ex w1 ⟨g, lv, rfl, hL, hb1, -⟩
  have hV1 := hV.below hb1 hV.lt
  have hT1 := hT.below hb1 hT.lt
  have HB1 : Hid (Below w.heap.size w w1) := HB0.out.trans (hb1.mono HB0.out.size)
  obtain ⟨ao, c, rfl, hE⟩ := hL.val
  have hc := hL.c0
  have HE : Aside (Evs w1 ao E.length c E) := hE
  have H0 : Aside (Row w1 w1.heap.size (.slice none 0 0) (forE (E.take 0) v t m) ∧ Lies w1 w.heap.size v ∧ Lies w1 (w.heap.size + 1) t ∧ Below w1.heap.size w1 w1) := ⟨by rw [List.take_zero, for_zero]; exact row_nil _ _, hV1, hT1, Below.refl _ _⟩
  have HLT : Hid (w.heap.size < w1.heap.size ∧ w.heap.size + 1 < w1.heap.size) := ⟨hV1.lt, hT1.lt⟩
  clear hV hT hb1 hV1 hT1 HB0 hO hL hE hW0
  go_wp2
  go_loopg [9, 18] E.length (fun kx s9 s18 wr => ∃ i : Nat, s18 = .int .i64 i ∧ i ≤ E.length ∧ E.length - i ≤ kx ∧ Aside (Row wr w1.heap.size s9 (forE (E.take i) v t m) ∧ Lies wr w.heap.size v ∧ Lies wr (w.heap.size + 1) t ∧ Below w1.heap.size w1 wr))
  case atStart => exact ⟨0, rfl, Nat.zero_le _, by omega, H0⟩
  case round =>
    clear H0 hc
    obtain ⟨i, rfl, him, hkx, HS⟩ := hrel
    by_cases hlt : i < E.length
    · have hltz : (i : Int) < (E.length : Int) := by omega
      obtain ⟨b, off, u, rfl, hui, hu, hr, hbl⟩ := (HE.out.below HS.out.2.2.2 (Nat.le_refl _)).at hlt
      have hu16 := hu.1
      have hix := fun W : World => index_ev W (b := b) (off := off) (k := i) (m := E.length) (c := c) hlt
      have hsz : w1.heap.size ≤ wr.heap.size := HS.out.2.2.2.size
      have hz := liesE_new wr zv
      have hE1 : LiesE ((wr.alloc (.cells (evc zv) 39)).setRow wr.heap.size (evc u)) wr.heap.size u := hz.row u
      have hB1 : Below wr.heap.size wr ((wr.alloc (.cells (evc zv) 39)).setRow wr.heap.size (evc u)) := below_setRow ((Below.refl _ _).alloc (Nat.le_refl _) _) (Nat.le_refl _) _
      have HS1 : Aside (Row ((wr.alloc (.cells (evc zv) 39)).setRow wr.heap.size (evc u)) w1.heap.size u9 (forE (E.take i) v t m) ∧ Lies ((wr.alloc (.cells (evc zv) 39)).setRow wr.heap.size (evc u)) w.heap.size v ∧ Lies ((wr.alloc (.cells (evc zv) 39)).setRow wr.heap.size (evc u)) (w.heap.size + 1) t ∧ Below w1.heap.size w1 ((wr.alloc (.cells (evc zv) 39)).setRow wr.heap.size (evc u)) ∧ LiesE ((wr.alloc (.cells (evc zv) 39)).setRow wr.heap.size (evc u)) wr.heap.size u) :=
        ⟨HS.out.1.below hB1 (Nat.le_refl _), HS.out.2.1.below hB1 HS.out.2.1.lt, HS.out.2.2.1.below hB1 HS.out.2.2.1.lt, HS.out.2.2.2.trans (hB1.mono hsz), hE1⟩
      clear hB1
      go_upto_region 5 with (first | refine load_ev_mid rfl rfl rfl hr hu16 ?_ | refine store_ev rfl rfl rfl rfl hz hu16 rfl ?_)
      change Code.wp _ _ _ _ ((wr.alloc (.cells (evc zv) 39)).setRow wr.heap.size (evc u))
      clear hE1 hz hr hix HS hbl
      generalize (wr.alloc (.cells (evc zv) 39)).setRow wr.heap.size (evc u) = W at HS1 ⊢
      generalize wr.heap.size = D at *
      obtain ⟨hR1, hV1, hT1, hB1, hE1⟩ := HS1.out
      have hw : ∀ x ∈ forE (E.take i) v t m, Wide x := fun x hx => HE.out.wide x (List.mem_of_mem_take (for_mem hx))
      obtain ⟨ao2, c2, rfl, -⟩ := hR1.evs hw
      have hll := for_len (E.take i) v t m
      rw [List.length_take] at hll
      obtain ⟨n2, hn2⟩ : ∃ n2, (forE (E.take i) v t m).length = n2 := ⟨_, rfl⟩
      rw [hn2] at hR1 hll
      have hlv := load_v hV1 hv
      have hlt' := load_v hT1 ht
      have hld := hE1.dotAt
      by_cases hfull : m ≤ (n2 : Int)
      · have hd : decide (m ≤ (n2 : Int)) = true := decide_eq_true hfull
        have HF : Hid (Row W w1.heap.size (.slice ao2 n2 c2) (forE E v t m) ∧ Below w.heap.size w W) := ⟨by rw [for_full (i := i) (by rw [hn2]; exact hfull)]; exact hR1, HB1.out.trans (hB1.mono HB1.out.size)⟩
        have HLO : Hid (w.heap.size ≤ w1.heap.size) := HB1.out.size
        clear HS1 hR1 hV1 hT1 hB1 hE1 hlv hlt' hld hw
        rw [hn2]
        go_wp2
        go_ret
        exact ⟨_, rfl, HF.out.1.lower HLO.out, HF.out.2⟩
      · have hd : decide (m ≤ (n2 : Int)) = false := decide_eq_false hfull
        have hH1 := has_any t u.r u.n ht W
        rw [hn2]
        cases hh : hasv t u.r u.n
        · rw [hh] at hH1
          have HP : Hid (tellE v t u = false) := by show _ = _; rw [tellE, hh]; rfl
          go_wp2_with (first
            | (refine wpList_loadW (ty := 35) (x := .tmp 6) (ad := ⟨w.heap.size + 1, 0, none⟩) (v := .agg (vals t)) rfl rfl rfl hlt' ?_)
            | (refine wpList_loadW (ty := 33) (x := .tmp 27) (ad := ⟨D, 0, none⟩) (v := .agg (dotc u.r u.n)) rfl rfl rfl hld ?_))
          refine Calls.mono hH1 ?_
          rintro ex w2 ⟨rfl, hb2⟩
          have HSF : Aside (Row w2 w1.heap.size (.slice ao2 n2 c2) (forE (E.take (i + 1)) v t m) ∧ Lies w2 w.heap.size v ∧ Lies w2 (w.heap.size + 1) t ∧ Below w1.heap.size w1 w2) := ⟨by rw [for_skip hui HP.out]; exact hR1.below hb2 (Nat.le_refl _), hV1.below hb2 hV1.lt, hT1.below hb2 hT1.lt, hB1.trans (hb2.mono hB1.size)⟩
          clear HS1 hR1 hV1 hT1 hB1 hE1 hlv hlt' hld hw hb2 hH1 HP hh hd hn2
          go_wp2
          go_roundg (E.length - (i + 1))
          case measure => omega
          case rel => exact ⟨i + 1, by go_num, by omega, Nat.le_refl _, HSF⟩
        · rw [hh] at hH1
          go_wp2_with (first
            | (refine wpList_loadW (ty := 35) (x := .tmp 6) (ad := ⟨w.heap.size + 1, 0, none⟩) (v := .agg (vals t)) rfl rfl rfl hlt' ?_)
            | (refine wpList_loadW (ty := 33) (x := .tmp 27) (ad := ⟨D, 0, none⟩) (v := .agg (dotc u.r u.n)) rfl rfl rfl hld ?_))
          refine Calls.mono hH1 ?_
          rintro ex w2 ⟨rfl, hb2⟩
          have hR2 : Row w2 w1.heap.size (.slice ao2 n2 c2) (forE (E.take i) v t m) := hR1.below hb2 (Nat.le_refl _)
          have hV2 := hV1.below hb2 hV1.lt
          have hT2 := hT1.below hb2 hT1.lt
          have hE2 := hE1.below hb2 hE1.lt
          have hB2 := hB1.trans (hb2.mono hB1.size)
          clear HS1 hR1 hV1 hT1 hB1 hE1 hlv hlt' hld hb2 hH1
          have hlv := load_v hV2 hv
          have hld := hE2.dotAt
          have hH2 := has_any v u.r u.n hv w2
          cases hh2 : hasv v u.r u.n
          · rw [hh2] at hH2
            have HP : Hid (tellE v t u = true) := by show _ = _; rw [tellE, hh, hh2]; rfl
            go_wp2_with (first
              | (refine wpList_loadW (ty := 35) (x := .tmp 5) (ad := ⟨w.heap.size, 0, none⟩) (v := .agg (vals v)) rfl rfl rfl hlv ?_)
              | (refine wpList_loadW (ty := 33) (x := .tmp 32) (ad := ⟨D, 0, none⟩) (v := .agg (dotc u.r u.n)) rfl rfl rfl hld ?_))
            refine Calls.mono hH2 ?_
            rintro ex w3 ⟨rfl, hb3⟩
            have hR3 : Row w3 w1.heap.size (.slice ao2 n2 c2) (forE (E.take i) v t m) := hR2.below hb3 (Nat.le_refl _)
            have hV3 := hV2.below hb3 hV2.lt
            have hT3 := hT2.below hb3 hT2.lt
            have hE3 := hE2.below hb3 hE2.lt
            have hB3 := hB2.trans (hb3.mono hB2.size)
            have hba : Below w3.heap.size w3 (w3.alloc (.cells (evc u) 39)) := (Below.refl _ _).alloc (Nat.le_refl _) _
            have hRow : Row (w3.alloc (.cells (evc u) 39)) w1.heap.size (.slice ao2 n2 c2) (forE (E.take i) v t m) := hR3.below hba (Nat.le_refl _)
            have hF : Evs (w3.alloc (.cells (evc u) 39)) (some ⟨w3.heap.size, 0, none⟩) 1 1 [u] := evs_single _ _ u hu (liesE_new w3 u)
            have hle : w1.heap.size ≤ (w3.alloc (.cells (evc u) 39)).heap.size := by have := hB3.size; simp; omega
            have HV4 : Hid (Lies (w3.alloc (.cells (evc u) 39)) w.heap.size v ∧ w.heap.size < w1.heap.size) := ⟨hV3.below hba hV3.lt, HLT.out.1⟩
            have HT4 : Hid (Lies (w3.alloc (.cells (evc u) 39)) (w.heap.size + 1) t ∧ w.heap.size + 1 < w1.heap.size) := ⟨hT3.below hba hT3.lt, HLT.out.2⟩
            have HB4 : Hid (Below w1.heap.size w1 (w3.alloc (.cells (evc u) 39))) := hB3.trans (hba.mono hB3.size)
            have HSN : Hid (forE (E.take (i + 1)) v t m = forE (E.take i) v t m ++ [u]) := for_step hui HP.out (by rw [hn2]; omega)
            have hlim : (forE (E.take i) v t m).length + 1 ≤ 1048576 := by omega
            clear hR2 hV2 hT2 hE2 hB2 hb3 hlv hld hH2 hh hh2 hR3 hV3 hT3 hB3 hba HP hn2
            go_wp2_with (first | refine load_ev rfl rfl rfl hE3 hu16 ?_ | refine build_ev1 rfl rfl rfl hu16 ?_ | refine wpList_appE rfl _ _ rfl w1.heap.size _ (forE (E.take i) v t m) rfl hRow _ 1 1 [u] rfl hF hlim hle ?_)
            intro v4 w4 hR4 hg4 ho4
            have HSF : Aside (Row w4 w1.heap.size v4 (forE (E.take (i + 1)) v t m) ∧ Lies w4 w.heap.size v ∧ Lies w4 (w.heap.size + 1) t ∧ Below w1.heap.size w1 w4) :=
              ⟨by rw [HSN.out]; exact hR4, (hg4.block w.heap.size HV4.out.1.lt (fun e1 => by have := hRow.own _ e1.symm; have := HV4.out.2; omega)).trans HV4.out.1, (hg4.block (w.heap.size + 1) HT4.out.1.lt (fun e1 => by have := hRow.own _ e1.symm; have := HT4.out.2; omega)).trans HT4.out.1, HB4.out.grown hg4 hle hRow.own⟩
            clear hR4 hg4 ho4 hRow hF hE3 HB4 HSN hle hlim HV4 HT4
            go_wp2
            go_roundg (E.length - (i + 1))
            case measure => omega
            case rel => exact ⟨i + 1, by go_num, by omega, Nat.le_refl _, HSF⟩
          · rw [hh2] at hH2
            have HP : Hid (tellE v t u = false) := by show _ = _; rw [tellE, hh, hh2]; rfl
            go_wp2_with (first
              | (refine wpList_loadW (ty := 35) (x := .tmp 5) (ad := ⟨w.heap.size, 0, none⟩) (v := .agg (vals v)) rfl rfl rfl hlv ?_)
              | (refine wpList_loadW (ty := 33) (x := .tmp 32) (ad := ⟨D, 0, none⟩) (v := .agg (dotc u.r u.n)) rfl rfl rfl hld ?_))
            refine Calls.mono hH2 ?_
            rintro ex w3 ⟨rfl, hb3⟩
            have HSF : Aside (Row w3 w1.heap.size (.slice ao2 n2 c2) (forE (E.take (i + 1)) v t m) ∧ Lies w3 w.heap.size v ∧ Lies w3 (w.heap.size + 1) t ∧ Below w1.heap.size w1 w3) := ⟨by rw [for_skip hui HP.out]; exact hR2.below hb3 (Nat.le_refl _), hV2.below hb3 hV2.lt, hT2.below hb3 hT2.lt, hB2.trans (hb3.mono hB2.size)⟩
            clear hR2 hV2 hT2 hE2 hB2 hb3 hlv hld hH2 hh hh2 HP hn2
            go_wp2
            go_roundg (E.length - (i + 1))
            case measure => omega
            case rel => exact ⟨i + 1, by go_num, by omega, Nat.le_refl _, HSF⟩
    · obtain rfl : i = E.length := by omega
      have HR : Hid (Row wr w1.heap.size u9 (forE E v t m) ∧ Below w.heap.size w wr) := ⟨by
        have := HS.out.1
        rwa [List.take_of_length_le (Nat.le_refl _)] at this, HB1.out.trans (HS.out.2.2.2.mono HB1.out.size)⟩
      have HLO : Hid (w.heap.size ≤ w1.heap.size) := HB1.out.size
      clear HS
      go_wp2
      go_ret
      exact ⟨_, rfl, HR.out.1.lower HLO.out, HR.out.2⟩
end Go.Proofs.Yteanpepmncgagaa
