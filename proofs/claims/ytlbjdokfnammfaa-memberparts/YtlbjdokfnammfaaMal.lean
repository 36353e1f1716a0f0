/-
  What All comes to: members are gathered in a map's keys, told in whatever order, and sorted.
-/
import Derived.Test.YtlbjdokfnammfaaMme
import Derived.Maps.OwnSet
import Derived.Maps.RangeWalk
import Derived.Sort.KeysCollected
namespace Go.Proofs.Ytlbjdokfnammfaa
set_option maxRecDepth 100000
open Go.RowKit Go.Maps Go.WideMaps Go.Sort

theorem lawS : Keyed Try.prog 9 := string_keyed Try.underlying9
/-- The set of the members so far. -/
def setF (F : List (List UInt8)) : DataW Unit := setOf (.agg []) (F.map Lit.string)
theorem setF_nil : setF [] = .map [] := by simp [setF, setOf]
theorem setF_snoc (F : List (List UInt8)) (s : List UInt8) : setF (F ++ [s]) = (setF F).put (.string s) (.agg []) := by
  unfold setF
  rw [List.map_append]
  exact setOf_snoc _ _ _
theorem has_setF (F : List (List UInt8)) (s : List UInt8) : Maps.has (setF F) (.string s) = true ↔ s ∈ F := by
  unfold setF
  rw [has_setOf _ _ _ (fun y hy => by obtain ⟨_, _, rfl⟩ := List.mem_map.1 hy; trivial), List.any_map, List.any_eq_true]
  constructor
  · rintro ⟨x, hx, h⟩
    have : x = s := by simpa [Lit.sameKey] using h
    exact this ▸ hx
  · exact fun h => ⟨s, h, by simp [Lit.sameKey]⟩
theorem keyF {s : List UInt8} (h : s.length ≤ 1000) : keyOf Try.prog 9 (.string (sb s)) = some (.string s) := by
  have := keyOf_string_mk (P := Try.prog) (k := 9) Try.underlying9 (s := sb s) (by rw [sb_size]; unfold maxLen; omega)
  rw [data_sb] at this
  exact this
abbrev OwnS (w : World) (b n : Nat) (F : List (List UInt8)) : Prop := w.ownsMap Try.prog 9 (unitElem (H := Unit)) b n (setF F)
theorem ownS_below {w w' : World} {b n B : Nat} {F : List (List UInt8)} (h : OwnS w b n F) (hb : Below B w w') (hB : w.heap.size ≤ B) : OwnS w' b n F := by
  have hlt := h.lt
  obtain ⟨es, clock, hb1, F1, hs, hD⟩ := h
  exact ⟨es, clock, (hb.block b (by omega)).trans hb1, F1, hs, hD⟩
theorem TRow.keep {w w' : World} {base : Nat} {v : Value} {S : List (List UInt8)} (h : TRow w base v S) (hk : ∀ k, v.ownBlock = some k → w'.heap[k]? = w.heap[k]?) : TRow w' base v S := by
  refine ⟨h.1, ?_⟩
  rcases h.2 with hn | ⟨g, cap, cur, rfl, hbg, hg, rest⟩
  · exact .inl hn
  · exact .inr ⟨g, cap, cur, rfl, hbg, by rw [hk g rfl]; exact hg, rest⟩
set_option maxHeartbeats 2000000 in
theorem mall_any (ao : Option Addr) (m c : Nat) (E : List Ev) (w : World) (hE : Evs w ao m c E) (hm : m ≤ 1000) (hf : ∀ e ∈ E, e.field.length ≤ 1000) :
    Calls Try.prog 9 #[.slice ao m c] w fun e w' => ∃ v R, e = .returned v ∧ TRow w' w.heap.size v R ∧ R.Pairwise (· < ·) ∧ (∀ z, z ∈ R ↔ z ∈ fldE E) ∧ R.length ≤ m ∧ Below w.heap.size w w' := by
  have hlen := hE.len
  have HE : Aside (Evs w ao m c E ∧ ∀ e ∈ E, e.field.length ≤ 1000) := ⟨hE, hf⟩
  have H0 : Aside (OwnS (w.alloc (.map #[] 0)) w.heap.size 0 (fldE (E.take 0)) ∧ Below w.heap.size w (w.alloc (.map #[] 0))) := ⟨by show OwnS _ _ _ []; rw [OwnS, setF_nil]; exact World.ownsMap_made _ _ _ _, (Below.refl _ _).alloc (Nat.le_refl _) _⟩
  clear hE hf
  have hmm := @run_makeMap Try.prog
  go_enter Try.func9, Try.ntmps9
  go_wp2
  clear hmm
  go_loopg [11] m (fun kx s11 wr => ∃ i : Nat, s11 = .int .i64 i ∧ i ≤ m ∧ m - i ≤ kx ∧ Aside (OwnS wr w.heap.size i (fldE (E.take i)) ∧ Below w.heap.size w wr))
  case atStart => exact ⟨0, rfl, Nat.zero_le _, by omega, H0⟩
  case round =>
    clear H0
    obtain ⟨i, rfl, him, hkx, HS⟩ := hrel
    by_cases hlt : i < m
    · have hltz : (i : Int) < (m : Int) := by omega
      obtain ⟨b, off, u, rfl, hui, hu, hr, hbl⟩ := (HE.out.1.below HS.out.2 (Nat.le_refl _)).at hlt
      have hu16 := hu.1
      have hix := fun W : World => index_ev W (b := b) (off := off) (k := i) (m := m) (c := c) hlt
      have hz := liesE_new wr zv
      have hB1 : Below wr.heap.size wr ((wr.alloc (.cells (evc zv) 40)).setRow wr.heap.size (evc u)) := below_setRow ((Below.refl _ _).alloc (Nat.le_refl _) _) (Nat.le_refl _) _
      have HS1 : Aside (LiesE ((wr.alloc (.cells (evc zv) 40)).setRow wr.heap.size (evc u)) wr.heap.size u ∧ OwnS ((wr.alloc (.cells (evc zv) 40)).setRow wr.heap.size (evc u)) w.heap.size i (fldE (E.take i)) ∧ Below w.heap.size w ((wr.alloc (.cells (evc zv) 40)).setRow wr.heap.size (evc u))) := ⟨hz.row u, ownS_below HS.out.1 hB1 (Nat.le_refl _), HS.out.2.trans (hB1.mono HS.out.2.size)⟩
      have HSN : Hid (fldE (E.take (i + 1)) = if isAddE u then fldE (E.take i) ++ [u.field] else fldE (E.take i)) := fldE_take hui
      have hkey := keyF (HE.out.2 u (List.mem_of_getElem? hui))
      clear hB1 HS hui
      go_upto_region 5 with (first | refine load_ev_mid rfl rfl rfl hr hu16 ?_ | refine store_ev rfl rfl rfl rfl hz hu16 rfl ?_)
      change Code.wp _ _ _ _ ((wr.alloc (.cells (evc zv) 40)).setRow wr.heap.size (evc u))
      clear hz hr hix hbl
      generalize (wr.alloc (.cells (evc zv) 40)).setRow wr.heap.size (evc u) = W at HS1 ⊢
      generalize wr.heap.size = D at *
      have hL := HS1.out.1.op hu16
      go_wp2_with (refine load_op_at rfl rfl rfl hL ?_)
      refine (isadd_any u W).mono ?_
      rintro e w2 ⟨rfl, hb2⟩
      have HS2 : Aside (LiesE w2 D u ∧ OwnS w2 w.heap.size i (fldE (E.take i)) ∧ Below w.heap.size w w2) := ⟨HS1.out.1.below hb2 HS1.out.1.lt, ownS_below HS1.out.2.1 hb2 (Nat.le_refl _), HS1.out.2.2.trans (hb2.mono HS1.out.2.2.size)⟩
      clear hb2 HS1 hL
      generalize fldE (E.take i) = T at *
      generalize isAddE u = t at *
      cases t with
      | true =>
        have HSN2 : Hid (fldE (E.take (i + 1)) = T ++ [u.field]) := HSN.out
        have c21 := HS2.out.1.c21 hu16
        have hown := HS2.out.2.1
        have hle : w.heap.size ≤ w2.heap.size := HS2.out.2.2.size
        clear HSN
        go_wp2_with (at_mapUpdate; refine wpList_mapUpdate_own _ rfl _ _ _ 42 rfl 9 44 lawS Try.underlying42 (unitElem (H := Unit)) w.heap.size i _ rfl hown (by unfold maxLen; omega) _ _ _ rfl rfl hkey _ [] unitElem_mk ?_)
        intro w4 hown4 hg4
        have HS4 : Aside (OwnS w4 w.heap.size (i + 1) (fldE (E.take (i + 1))) ∧ Below w.heap.size w w4) := ⟨by rw [HSN2.out, OwnS, setF_snoc]; exact hown4, HS2.out.2.2.grown hg4 hle (fun j hj => by cases hj; exact Nat.le_refl _)⟩
        clear hown4 hg4 HSN2 hle c21 hown HS2 hkey
        go_wp2
        go_roundg (m - (i + 1))
        case measure => omega
        case rel => exact ⟨i + 1, by go_num, by omega, Nat.le_refl _, HS4⟩
      | false =>
        have HS4 : Aside (OwnS w2 w.heap.size (i + 1) (fldE (E.take (i + 1))) ∧ Below w.heap.size w w2) := ⟨by rw [HSN.out]; exact HS2.out.2.1.mono (Nat.le_succ _), HS2.out.2.2⟩
        clear HS2 HSN hkey
        go_wp2
        go_roundg (m - (i + 1))
        case measure => omega
        case rel => exact ⟨i + 1, by go_num, by omega, Nat.le_refl _, HS4⟩
    · obtain rfl : m = i := by omega
      have HS1 : Aside (OwnS wr w.heap.size m (fldE E) ∧ Below w.heap.size w wr) := by
        have := HS.out
        rw [List.take_of_length_le (by omega)] at this
        exact this
      clear HS
      obtain ⟨T, hT⟩ : ∃ T, fldE E = T := ⟨_, rfl⟩
      have HT : Hid (fldE E = T) := hT
      rw [hT] at HS1
      clear hT
      have hown := HS1.out.1
      have hsz : Maps.size (setF T) ≤ m := HS1.out.1.size_le
      go_wp2_with (at_range; refine wpList_range_own _ rfl _ 42 rfl 9 44 lawS Try.underlying42 _ w.heap.size m _ rfl hown ?_; intro w0 hrg0 hg0 hs0)
      go_frame
      have HB0 : Hid (Below w.heap.size w w0 ∧ w0.heap.size = wr.heap.size + 1 ∧ w.heap.size ≤ wr.heap.size) := ⟨HS1.out.2.grown hg0 HS1.out.2.size (fun j hj => by cases hj), hs0, HS1.out.2.size⟩
      have HX : Aside (TRow w0 w0.heap.size (.slice none 0 0) [] ∧ Collected (setF T) (Maps.has (setF T)) [] ∧ w0.ranges Try.prog 9 (unitElem (H := Unit)) w.heap.size wr.heap.size m (setF T) (Maps.has (setF T)) (Maps.size (setF T))) := ⟨World.ownsRow_nil _ _ _ _, Collected.start _, hrg0⟩
      clear hown hrg0 hg0 hs0 HE
      generalize wr.heap.size = r at *
      go_loopw [6] (fun v wr => ∃ (left : Lit → Bool) (cnt : Nat) (ss : List (List UInt8)), ss.length + cnt ≤ m ∧ Aside (TRow wr w0.heap.size v ss ∧ Collected (setF T) left ss ∧ wr.ranges Try.prog 9 (unitElem (H := Unit)) w.heap.size r m (setF T) left cnt ∧ Below w.heap.size w wr ∧ w0.heap.size ≤ wr.heap.size)) (fun _ wr => wr.rangeLeft w.heap.size r)
      case atStart => exact ⟨_, _, [], by simpa using hsz, HX.out.1, HX.out.2.1, HX.out.2.2, HB0.out.1, Nat.le_refl _⟩
      case round =>
        obtain ⟨left, cnt, ss, hcs, HS⟩ := hrel
        have hrg := HS.out.2.2.1
        go_wp2_with (at_next; refine wpList_next_ranges _ rfl _ rfl 9 lawS (unitElem (H := Unit)) encStr (fun c : Value => c) (fun key kl hk => by obtain ⟨x, hx, _⟩ := Maps.keyOf_str Try.underlying9 hk; exact ⟨x, hx⟩) (fun v y hv => ⟨v, rfl⟩) w.heap.size r m _ _ _ rfl hrg ?_ ?_)
        · intro hc0 hl0
          have HR : Aside (TRow wr w.heap.size u6 ss ∧ Below w.heap.size w wr) := ⟨HS.out.1.lower (by have := HB0.out; omega), HS.out.2.2.2.1⟩
          have HC : Hid ((tsort ss).Pairwise (· < ·) ∧ ∀ z, z ∈ tsort ss ↔ z ∈ T) := by
            refine ⟨tsort_strict HS.out.2.1.1, fun z => ?_⟩
            rw [tsort_mem, HS.out.2.1.2 z, hl0, ← has_setF]
            simp
          have hsl : ss.length ≤ 1000 := by omega
          have HSL : Hid ((tsort ss).length ≤ m) := by show _ ≤ _; rw [tsort_len]; omega
          clear HS hrg hl0 hc0 HX
          go_wp2_with fail
          refine (sorts_any w.heap.size _ ss wr HR.out.1 hsl HR.out.2.size).mono ?_
          rintro e w3 ⟨rfl, hR3, hb3⟩
          have HF : Hid (TRow w3 w.heap.size u6 (tsort ss) ∧ Below w.heap.size w w3) := ⟨hR3, HR.out.2.trans hb3⟩
          clear hR3 hb3 HR
          go_wp2
          go_ret
          exact ⟨_, _, rfl, HF.out.1, HC.out.1, by rw [HT.out]; exact HC.out.2, HSL.out, HF.out.2⟩
        · intro x c1 kl yd yp w2 cnt2 hkey hlk hv hat hrg2 hlt2 hg2 hs2 hen
          obtain ⟨x', ex, rfl, _⟩ := Maps.keyOf_str Try.underlying9 hkey
          obtain rfl : x = x' := encStr_inj ex
          have hw0 : Hid (w0.heap.size ≤ w2.heap.size ∧ w.heap.size ≤ w2.heap.size ∧ w.heap.size < w0.heap.size ∧ r < w0.heap.size) := ⟨by have := HS.out.2.2.2.2; omega, by have := HS.out.2.2.2.1.size; omega, by have := HB0.out; omega, by have := HB0.out; omega⟩
          have hrow2 : TRow w2 w0.heap.size u6 ss := HS.out.1.keep (fun k hk => hg2.block k ((HS.out.1.lt k hk).2) (fun e => by
            have h1 := (HS.out.1.lt k hk).1
            have h2 := hw0.out.2.2.2
            cases e
            omega))
          have hRow : TRow (w2.alloc (.cells #[.string (sb x)] 9)) w0.heap.size u6 ss := hrow2.below ((Below.refl _ _).alloc (Nat.le_refl _) _) (Nat.le_refl _)
          have HB2 : Hid (Below w.heap.size w (w2.alloc (.cells #[.string (sb x)] 9))) := (HS.out.2.2.2.1.grown hg2 HS.out.2.2.2.1.size (fun j hj => by cases hj; have := HB0.out; omega)).alloc hw0.out.2.1 _
          have HC2 : Hid (Collected (setF T) (fun z => left z && !z.sameKey (.string x)) (ss ++ [x])) := HS.out.2.1.step hlk hat
          have HG2 : Hid (w2.ranges Try.prog 9 (unitElem (H := Unit)) w.heap.size r m (setF T) (fun z => left z && !z.sameKey (.string x)) cnt2) := hrg2
          have HLT : Hid (wr.rangeLeft w.heap.size r = cnt ∧ cnt2 < cnt) := ⟨hrg.left_eq, hlt2⟩
          have hw0' : w0.heap.size ≤ w2.heap.size := hw0.out.1
          clear hs2 hrow2 HS hrg hrg2 hkey hat hlk hv hg2 hlt2
          go_wp2_with (at_builtin; refine wpList_appT rfl _ _ rfl w0.heap.size _ ss rfl hRow x rfl rfl (by omega) hw0' ?_)
          intro v4 w4 hR4 hg4
          have hrg4 : w4.ranges Try.prog 9 (unitElem (H := Unit)) w.heap.size r m (setF T) (fun z => left z && !z.sameKey (.string x)) cnt2 := (HG2.out.alloc _).kept hg4 (fun e => by have h1 := (hRow.lt _ e.symm).1; have h2 := hw0.out; omega) (fun e => by have h1 := (hRow.lt _ e.symm).1; have h2 := hw0.out; omega)
          have HS4 : Aside (TRow w4 w0.heap.size v4 (ss ++ [x]) ∧ Collected (setF T) (fun z => left z && !z.sameKey (.string x)) (ss ++ [x]) ∧ w4.ranges Try.prog 9 (unitElem (H := Unit)) w.heap.size r m (setF T) (fun z => left z && !z.sameKey (.string x)) cnt2 ∧ Below w.heap.size w w4 ∧ w0.heap.size ≤ w4.heap.size) :=
            ⟨hR4, HC2.out, hrg4, HB2.out.grown hg4 (by have := hw0.out; simp; omega) (fun j hj => by have h1 := (hRow.lt _ hj).1; have h2 := hw0.out; omega), by have h1 := hg4.size; have h2 := hw0.out; simp at h1; omega⟩
          clear hR4 hg4 hRow HB2 HC2 HG2
          go_wp2
          go_roundw
          case rel => exact ⟨_, cnt2, ss ++ [x], by have := HLT.out; simp; omega, HS4⟩
          case measure => rw [hrg4.left_eq, HLT.out.1]; exact HLT.out.2
end Go.Proofs.Ytlbjdokfnammfaa
