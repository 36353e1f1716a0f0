/-
  What score's All and Rank come to.
-/
import Derived.Test.YtmacebekodndjaaZst
import Derived.Test.YtmacebekodndjaaZla
namespace Go.Proofs.Ytmacebekodndjaa
set_option maxRecDepth 100000
open Go.RowKit Go.Maps Go.WideMaps Go.Sort

theorem ranges_below {w w' : World} {b r n B cnt : Nat} {D : DataW Value} {left : Lit → Bool} (h : w.ranges Try.prog 9 tokE b r n D left cnt) (hb : Below B w w') (hB : w.heap.size ≤ B) : w'.ranges Try.prog 9 tokE b r n D left cnt := by
  have h1 := h.owns.lt
  have h2 := h.lt
  obtain ⟨es, clock, since, seen, c0, hbm, F, hs, hD, hr, rest⟩ := h
  exact ⟨es, clock, since, seen, c0, (hb.block b (by omega)).trans hbm, F, hs, hD, (hb.block r (by omega)).trans hr, rest⟩
theorem isAll_of {E : List Ev} {ss : List (List UInt8)} {S : List Pr} (hn : ss.Nodup) (hm : ∀ z, z ∈ ss ↔ z ∈ fldZ E) (hp : (ss.map (pairZ E)).Perm S) (hu : UpP S) : IsAll E S := by
  have hnd : S.Nodup := hp.nodup_iff.1 (List.Pairwise.map _ (fun a b hab e => hab (congrArg Prod.fst e)) hn)
  refine ⟨?_, fun d => ?_⟩
  · unfold StrP
    rw [List.pairwise_iff_getElem]
    intro i j hi hj hij
    exact bef_total (hu i j hi hj hij) (fun e => List.pairwise_iff_getElem.1 hnd i j hi hj hij e.symm)
  · rw [← hp.mem_iff, List.mem_map]
    constructor
    · rintro ⟨s, hs, rfl⟩
      exact ⟨(hm s).1 hs, rfl⟩
    · rintro ⟨h1, h2⟩
      exact ⟨d.1, (hm _).2 h1, Prod.ext rfl h2.symm⟩
set_option maxHeartbeats 4000000 in
theorem zall_any (ao : Option Addr) (m c : Nat) (E : List Ev) (w : World) (hE : Evs w ao m c E) (hm : m ≤ 1000) :
    Calls Try.prog 14 #[.slice ao m c] w fun e w' => ∃ (v : Value) (S : List Pr), e = .returned v ∧ PRow w' w.heap.size v S ∧ IsAll E S ∧ S.length ≤ m ∧ Below w.heap.size w w' := by
  have hwd : Hid (∀ e ∈ E, Wide e) := hE.wide
  go_enter Try.func14, Try.ntmps14
  go_wp2_with fail
  refine (zlatest_any ao m c E w hE hm).mono ?_
  rintro e w1 ⟨rfl, ⟨D, hM, hT⟩, hb1⟩
  have hown := hM
  have hsz : Maps.size D ≤ m := hM.size_le
  have HT : Hid (TellsE D (fldZ E) (fun s => orz (lastZ E s))) := hT
  have hbw : Hid (w.heap.size < w1.heap.size ∧ Below w.heap.size w w1) := ⟨hM.lt, hb1⟩
  clear hM hT hE hb1
  go_wp2_with (at_range; refine wpList_range_own _ rfl _ 47 rfl 9 43 lawS Try.underlying47 _ w.heap.size m _ rfl hown ?_; intro w0 hrg0 hg0 hs0)
  go_frame
  have HB0 : Hid (Below w1.heap.size w1 w0 ∧ w0.heap.size = w1.heap.size + 1) := ⟨(Below.refl _ _).grown hg0 (Nat.le_refl _) (fun j hj => by cases hj), hs0⟩
  have HX : Aside (PRow w0 w0.heap.size (.slice none 0 0) (([] : List (List UInt8)).map (pairZ E)) ∧ Collected D (Maps.has D) [] ∧ w0.ranges Try.prog 9 tokE w.heap.size w1.heap.size m D (Maps.has D) (Maps.size D)) := ⟨Prow_nil _ _, Collected.start _, hrg0⟩
  clear hown hrg0 hg0 hs0
  go_loopw [3] (fun v wr => ∃ (left : Lit → Bool) (cnt : Nat) (ss : List (List UInt8)), ss.length + cnt ≤ m ∧ Aside (PRow wr w0.heap.size v (ss.map (pairZ E)) ∧ Collected D left ss ∧ wr.ranges Try.prog 9 tokE w.heap.size w1.heap.size m D left cnt ∧ Below w1.heap.size w1 wr ∧ w0.heap.size ≤ wr.heap.size)) (fun _ wr => wr.rangeLeft w.heap.size w1.heap.size)
  case atStart => exact ⟨_, _, [], by simpa using hsz, HX.out.1, HX.out.2.1, HX.out.2.2, HB0.out.1, Nat.le_refl _⟩
  case round =>
    obtain ⟨left, cnt, ss, hcs, HS⟩ := hrel
    have hrg := HS.out.2.2.1
    go_wp2_with (at_next; refine wpList_next_ranges _ rfl _ rfl 9 lawS tokE encStr (fun c : Value => c) (fun key kl hk => by obtain ⟨x, hx, _⟩ := Maps.keyOf_str Try.underlying9 hk; exact ⟨x, hx⟩) (fun v y hv => ⟨v, rfl⟩) w.heap.size w1.heap.size m _ _ _ rfl hrg ?_ ?_)
    · intro hc0 hl0
      have HR : Aside (PRow wr w.heap.size u3 (ss.map (pairZ E)) ∧ Below w.heap.size w wr) := ⟨HS.out.1.lower (by have := HB0.out; have := hbw.out; omega), hbw.out.2.trans (HS.out.2.2.2.1.mono (by have := hbw.out; omega))⟩
      have HC : Hid (ss.Nodup ∧ ∀ z, z ∈ ss ↔ z ∈ fldZ E) := by
        refine ⟨HS.out.2.1.1, fun z => ?_⟩
        rw [HS.out.2.1.2 z, hl0, ← HT.out.2.2]
        simp
      have hsl : (ss.map (pairZ E)).length ≤ 1000 := by rw [List.length_map]; omega
      have HSL : Hid ((ss.map (pairZ E)).length ≤ m) := by show _ ≤ _; rw [List.length_map]; omega
      obtain ⟨L, HL⟩ : ∃ L, Hid (ss.map (pairZ E) = L) := ⟨_, show _ = _ from rfl⟩
      rw [HL.out] at HR hsl HSL
      clear HS hrg hl0 hc0 HX
      go_wp2_with fail
      refine (sortp_any _ L w.heap.size wr HR.out.1 (by omega) HR.out.2.size).mono ?_
      rintro e w3 ⟨rfl, S, hp3, hu3, hR3, hb3⟩
      have HF : Hid (PRow w3 w.heap.size u3 S ∧ IsAll E S ∧ S.length ≤ m ∧ Below w.heap.size w w3) := ⟨hR3, isAll_of HC.out.1 HC.out.2 (by rw [HL.out]; exact hp3) hu3, by rw [← hp3.length_eq]; exact HSL.out, HR.out.2.trans hb3⟩
      clear hR3 hb3 HR hp3 hu3
      go_wp2
      go_ret
      exact ⟨_, S, rfl, HF.out⟩
    · intro x c1 kl yd yp w2 cnt2 hkey hlk hv hat hrg2 hlt2 hg2 hs2 hen
      obtain ⟨x', ex, rfl, _⟩ := Maps.keyOf_str Try.underlying9 hkey
      obtain rfl : x = x' := encStr_inj ex
      obtain ⟨f, HF⟩ : ∃ f, Hid (orz (lastZ E x) = f) := ⟨_, show _ = _ from rfl⟩
      have hc1 : c1 = .agg (evc f) := by
        have e1 : D.atKey (.string x) (.held (.agg (evc zv))) = .held (.agg (evc (orz (lastZ E x)))) := HT.out.2.1 x
        rw [hat, HF.out] at e1
        have e2 := tokE_inv hv
        rw [e1] at e2
        simpa using e2.symm
      subst hc1
      have hwf : Wide f := by rw [← HF.out]; exact orz_wide hwd.out
      have hf16 := hwf.1
      have HPZ : Hid (pairZ E x = (x, f.num)) := by show _ = _; unfold pairZ numZ; rw [HF.out]
      have hsz2 : Hid (w0.heap.size ≤ w2.heap.size ∧ w1.heap.size ≤ w2.heap.size ∧ w1.heap.size < w0.heap.size ∧ w.heap.size < w1.heap.size) := ⟨by have := HS.out.2.2.2.2; omega, by have := HS.out.2.2.2.1.size; omega, by have := HB0.out; omega, hbw.out.1⟩
      have hrow2 : PRow w2 w0.heap.size u3 (ss.map (pairZ E)) := HS.out.1.keep (fun k hk => hg2.block k ((HS.out.1.lt k hk).2) (fun e => by
        have h1 := (HS.out.1.lt k hk).1
        have h2 := hsz2.out.2.2.1
        cases e
        omega))
      have hz := liesE_new w2 zv
      have hB3 : Below w2.heap.size w2 ((w2.alloc (.cells (evc zv) 43)).setRow w2.heap.size (evc f)) := below_setRow ((Below.refl _ _).alloc (Nat.le_refl _) _) (Nat.le_refl _) _
      have HS3 : Aside (LiesE ((w2.alloc (.cells (evc zv) 43)).setRow w2.heap.size (evc f)) w2.heap.size f ∧ PRow ((w2.alloc (.cells (evc zv) 43)).setRow w2.heap.size (evc f)) w0.heap.size u3 (ss.map (pairZ E)) ∧ ((w2.alloc (.cells (evc zv) 43)).setRow w2.heap.size (evc f)).ranges Try.prog 9 tokE w.heap.size w1.heap.size m D (fun z => left z && !z.sameKey (.string x)) cnt2 ∧ Below w1.heap.size w1 ((w2.alloc (.cells (evc zv) 43)).setRow w2.heap.size (evc f)) ∧ w0.heap.size ≤ ((w2.alloc (.cells (evc zv) 43)).setRow w2.heap.size (evc f)).heap.size) :=
        ⟨hz.row f, hrow2.below hB3 (Nat.le_refl _), ranges_below hrg2 hB3 (Nat.le_refl _), (HS.out.2.2.2.1.grown hg2 HS.out.2.2.2.1.size (fun j hj => by cases hj; exact Nat.le_refl _)).trans (hB3.mono hsz2.out.2.1), Nat.le_trans hsz2.out.1 hB3.size⟩
      have HC2 : Hid (Collected D (fun z => left z && !z.sameKey (.string x)) (ss ++ [x])) := HS.out.2.1.step hlk hat
      have HLT : Hid (wr.rangeLeft w.heap.size w1.heap.size = cnt ∧ cnt2 < cnt) := ⟨hrg.left_eq, hlt2⟩
      have HPQ : Hid ((ss ++ [x]).map (pairZ E) = ss.map (pairZ E) ++ [(x, f.num)]) := by show _ = _; rw [List.map_append, ← HPZ.out]; rfl
      have hll : (ss.map (pairZ E)).length ≤ 1000 := by rw [List.length_map]; omega
      clear hs2 hrow2 HS hrg hrg2 hkey hat hlk hv hg2 hlt2 hB3
      generalize ss.map (pairZ E) = Z at *
      go_upto_region 5 with (refine store_ev rfl rfl rfl rfl hz hf16 rfl ?_)
      change Code.wp _ _ _ _ ((w2.alloc (.cells (evc zv) 43)).setRow w2.heap.size (evc f))
      clear hz hen hsz2
      generalize (w2.alloc (.cells (evc zv) 43)).setRow w2.heap.size (evc f) = w3 at HS3 ⊢
      generalize w2.heap.size = D2 at *
      have c23 : w3.cell? ⟨D2, 23, none⟩ = some (.int .i64 f.num) := HS3.out.1.co hf16 4
      obtain ⟨y, HY⟩ : ∃ y, Hid (f.num = y) := ⟨_, show _ = _ from rfl⟩
      rw [HY.out] at c23 HPQ
      have hRow : PRow (w3.alloc (.cells (prc (x, y)) 45)) w0.heap.size u3 Z := HS3.out.2.1.below ((Below.refl _ _).alloc (Nat.le_refl _) _) (Nat.le_refl _)
      have hle : w0.heap.size ≤ w3.heap.size := HS3.out.2.2.2.2
      have hgt : Hid (w1.heap.size < w0.heap.size ∧ w.heap.size < w1.heap.size) := ⟨by have := HB0.out; omega, hbw.out.1⟩
      have HB3 : Hid (Below w1.heap.size w1 (w3.alloc (.cells (prc (x, y)) 45))) := HS3.out.2.2.2.1.alloc HS3.out.2.2.2.1.size _
      have HG3 : Hid (w3.ranges Try.prog 9 tokE w.heap.size w1.heap.size m D (fun z => left z && !z.sameKey (.string x)) cnt2) := HS3.out.2.2.1
      clear HS3
      go_wp2_with (first | refine build_P1 (d := (x, y)) rfl rfl rfl ?_ | refine wpList_appP (x, y) rfl _ _ rfl w0.heap.size _ Z rfl hRow rfl (by omega) hle ?_)
      intro v4 w4 hR4 hg4
      have hrg4 : w4.ranges Try.prog 9 tokE w.heap.size w1.heap.size m D (fun z => left z && !z.sameKey (.string x)) cnt2 := (HG3.out.alloc _).kept hg4 (fun e => by have h1 := (hRow.lt _ e.symm).1; have h2 := hgt.out; omega) (fun e => by have h1 := (hRow.lt _ e.symm).1; have h2 := hgt.out; omega)
      have HS4 : Aside (PRow w4 w0.heap.size v4 ((ss ++ [x]).map (pairZ E)) ∧ Collected D (fun z => left z && !z.sameKey (.string x)) (ss ++ [x]) ∧ w4.ranges Try.prog 9 tokE w.heap.size w1.heap.size m D (fun z => left z && !z.sameKey (.string x)) cnt2 ∧ Below w1.heap.size w1 w4 ∧ w0.heap.size ≤ w4.heap.size) :=
        ⟨by rw [HPQ.out]; exact hR4, HC2.out, hrg4, HB3.out.grown hg4 HB3.out.size (fun j hj => by have h1 := (hRow.lt _ hj).1; have h2 := hgt.out; omega), by have h1 := hg4.size; simp at h1; omega⟩
      clear hR4 hg4 hRow HB3 HC2 HG3
      go_wp2
      go_roundw
      case rel => exact ⟨_, cnt2, ss ++ [x], by have := HLT.out; simp; omega, HS4⟩
      case measure => rw [hrg4.left_eq, HLT.out.1]; exact HLT.out.2
end Go.Proofs.Ytmacebekodndjaa
