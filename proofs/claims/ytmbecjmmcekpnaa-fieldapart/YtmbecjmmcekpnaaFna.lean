/-
  What field's names comes to: a map's keys, told in whatever order, and sorted.
-/
import Derived.Test.YtmbecjmmcekpnaaFgr
namespace Go.Proofs.Ytmbecjmmcekpnaa
set_option maxRecDepth 100000
open Go.RowKit Go.Maps Go.WideMaps Go.Sort

/-- Texts that are unlike, sorted: they rise. -/
theorem tsort_strict {S : List (List UInt8)} (h : S.Nodup) : (tsort S).Pairwise (· < ·) := by
  have hp : (tsort S).Pairwise (fun a b => decide (a ≤ b) = true) := List.pairwise_mergeSort (fun a b c h1 h2 => by simp only [decide_eq_true_eq] at *; exact List.le_trans h1 h2) (fun a b => by simp only [Bool.or_eq_true, decide_eq_true_eq]; exact List.le_total a b) S
  have hn : (tsort S).Nodup := (List.mergeSort_perm S _).nodup_iff.2 h
  exact (hp.and hn).imp fun {a b} hab => lt_of_le_ne (of_decide_eq_true hab.1) hab.2
theorem tsort_mem {S : List (List UInt8)} {z : List UInt8} : z ∈ tsort S ↔ z ∈ S := (List.mergeSort_perm S _).mem_iff
theorem TRow.keep {w w' : World} {base : Nat} {v : Value} {S : List (List UInt8)} (h : TRow w base v S) (hk : ∀ k, v.ownBlock = some k → w'.heap[k]? = w.heap[k]?) : TRow w' base v S := by
  refine ⟨h.1, ?_⟩
  rcases h.2 with hn | ⟨g, cap, cur, rfl, hbg, hg, rest⟩
  · exact .inl hn
  · exact .inr ⟨g, cap, cur, rfl, hbg, by rw [hk g rfl]; exact hg, rest⟩
set_option maxHeartbeats 2000000 in
theorem fna_any (b m : Nat) (D : DataW Value) (K : List (List UInt8)) (f : List UInt8 → Value) (w : World) (hM : OwnG w b m D) (hT : Tells D K f) (hm : m ≤ 1000) :
    Calls Try.prog 17 #[.map (some b)] w fun e w' => ∃ v R, e = .returned v ∧ TRow w' w.heap.size v R ∧ R.Pairwise (· < ·) ∧ (∀ z, z ∈ R ↔ z ∈ K) ∧ R.length ≤ m ∧ Below w.heap.size w w' := by
  have hown := hM
  have hsz : Maps.size D ≤ m := hM.size_le
  have HK : Hid (∀ s, Maps.has D (.string s) = true ↔ s ∈ K) := hT.2.2
  have hbw : Hid (b < w.heap.size) := hM.lt
  clear hM hT
  go_enter Try.func17, Try.ntmps17
  go_wp2_with (at_range; refine wpList_range_own _ rfl _ 48 rfl 9 22 lawS Try.underlying48 _ b m _ rfl hown ?_; intro w0 hrg0 hg0 hs0)
  go_frame
  have HB0 : Hid (Below w.heap.size w w0 ∧ w0.heap.size = w.heap.size + 1) := ⟨(Below.refl _ _).grown hg0 (Nat.le_refl _) (fun j hj => by cases hj), hs0⟩
  have HX : Aside (TRow w0 w0.heap.size (.slice none 0 0) [] ∧ Collected D (Maps.has D) [] ∧ w0.ranges Try.prog 9 tokE b w.heap.size m D (Maps.has D) (Maps.size D)) := ⟨World.ownsRow_nil _ _ _ _, Collected.start _, hrg0⟩
  clear hown hrg0 hg0 hs0
  go_loopw [3] (fun v wr => ∃ (left : Lit → Bool) (cnt : Nat) (ss : List (List UInt8)), ss.length + cnt ≤ m ∧ Aside (TRow wr w0.heap.size v ss ∧ Collected D left ss ∧ wr.ranges Try.prog 9 tokE b w.heap.size m D left cnt ∧ Below w.heap.size w wr ∧ w0.heap.size ≤ wr.heap.size)) (fun _ wr => wr.rangeLeft b w.heap.size)
  case atStart => exact ⟨_, _, [], by simpa using hsz, HX.out.1, HX.out.2.1, HX.out.2.2, HB0.out.1, Nat.le_refl _⟩
  case round =>
    obtain ⟨left, cnt, ss, hcs, HS⟩ := hrel
    have hrg := HS.out.2.2.1
    go_wp2_with (at_next; refine wpList_next_ranges _ rfl _ rfl 9 lawS tokE encStr (fun c : Value => c) (fun key kl hk => by obtain ⟨x, hx, _⟩ := Maps.keyOf_str Try.underlying9 hk; exact ⟨x, hx⟩) (fun v y hv => ⟨v, rfl⟩) b w.heap.size m _ _ _ rfl hrg ?_ ?_)
    · intro hc0 hl0
      have HR : Aside (TRow wr w.heap.size u3 ss ∧ Below w.heap.size w wr) := ⟨HS.out.1.lower (by have := HB0.out; omega), HS.out.2.2.2.1⟩
      have HC : Hid ((tsort ss).Pairwise (· < ·) ∧ ∀ z, z ∈ tsort ss ↔ z ∈ K) := by
        refine ⟨tsort_strict HS.out.2.1.1, fun z => ?_⟩
        rw [tsort_mem, HS.out.2.1.2 z, hl0, ← HK.out]
        simp
      have hsl : ss.length ≤ 1000 := by omega
      have HSL : Hid ((tsort ss).length ≤ m) := by show _ ≤ _; rw [tsort_len]; omega
      clear HS hrg hl0 hc0 HX
      go_wp2_with fail
      refine (sorts_any w.heap.size _ ss wr HR.out.1 hsl HR.out.2.size).mono ?_
      rintro e w3 ⟨rfl, hR3, hb3⟩
      have HF : Hid (TRow w3 w.heap.size u3 (tsort ss) ∧ Below w.heap.size w w3) := ⟨hR3, HR.out.2.trans hb3⟩
      clear hR3 hb3 HR
      go_wp2
      go_ret
      exact ⟨_, _, rfl, HF.out.1, HC.out.1, HC.out.2, HSL.out, HF.out.2⟩
    · intro x c1 kl yd yp w2 cnt2 hkey hlk hv hat hrg2 hlt2 hg2 hs2 hen
      obtain ⟨x', ex, rfl, _⟩ := Maps.keyOf_str Try.underlying9 hkey
      obtain rfl : x = x' := encStr_inj ex
      have hw0 : Hid (w0.heap.size ≤ w2.heap.size ∧ w.heap.size ≤ w2.heap.size ∧ w.heap.size < w0.heap.size ∧ b < w.heap.size) := ⟨by have := HS.out.2.2.2.2; omega, by have := HS.out.2.2.2.1.size; omega, by have := HB0.out; omega, hbw.out⟩
      have hrow2 : TRow w2 w0.heap.size u3 ss := HS.out.1.keep (fun k hk => hg2.block k ((HS.out.1.lt k hk).2) (fun e => by
        have h1 := (HS.out.1.lt k hk).1
        have h2 := hw0.out.2.2.1
        cases e
        omega))
      have hRow : TRow (w2.alloc (.cells #[.string (sb x)] 9)) w0.heap.size u3 ss := hrow2.below ((Below.refl _ _).alloc (Nat.le_refl _) _) (Nat.le_refl _)
      have HB2 : Hid (Below w.heap.size w (w2.alloc (.cells #[.string (sb x)] 9))) := (HS.out.2.2.2.1.grown hg2 HS.out.2.2.2.1.size (fun j hj => by cases hj; exact Nat.le_refl _)).alloc hw0.out.2.1 _
      have HC2 : Hid (Collected D (fun z => left z && !z.sameKey (.string x)) (ss ++ [x])) := HS.out.2.1.step hlk hat
      have HG2 : Hid (w2.ranges Try.prog 9 tokE b w.heap.size m D (fun z => left z && !z.sameKey (.string x)) cnt2) := hrg2
      have HLT : Hid (wr.rangeLeft b w.heap.size = cnt ∧ cnt2 < cnt) := ⟨hrg.left_eq, hlt2⟩
      have hw0' : w0.heap.size ≤ w2.heap.size := hw0.out.1
      clear hs2 hrow2 HS hrg hrg2 hkey hat hlk hv hg2 hlt2
      go_wp2_with (at_builtin; refine wpList_appT rfl _ _ rfl w0.heap.size _ ss rfl hRow x rfl rfl (by omega) hw0' ?_)
      intro v4 w4 hR4 hg4
      have hrg4 : w4.ranges Try.prog 9 tokE b w.heap.size m D (fun z => left z && !z.sameKey (.string x)) cnt2 := (HG2.out.alloc _).kept hg4 (fun e => by have h1 := (hRow.lt _ e.symm).1; have h2 := hw0.out; omega) (fun e => by have h1 := (hRow.lt _ e.symm).1; have h2 := hw0.out; omega)
      have HS4 : Aside (TRow w4 w0.heap.size v4 (ss ++ [x]) ∧ Collected D (fun z => left z && !z.sameKey (.string x)) (ss ++ [x]) ∧ w4.ranges Try.prog 9 tokE b w.heap.size m D (fun z => left z && !z.sameKey (.string x)) cnt2 ∧ Below w.heap.size w w4 ∧ w0.heap.size ≤ w4.heap.size) :=
        ⟨hR4, HC2.out, hrg4, HB2.out.grown hg4 (by have := hw0.out; simp; omega) (fun j hj => by have h1 := (hRow.lt _ hj).1; have h2 := hw0.out; omega), by have h1 := hg4.size; have h2 := hw0.out; simp at h1; omega⟩
      clear hR4 hg4 hRow HB2 HC2 HG2
      go_wp2
      go_roundw
      case rel => exact ⟨_, cnt2, ss ++ [x], by have := HLT.out; simp; omega, HS4⟩
      case measure => rw [hrg4.left_eq, HLT.out.1]; exact HLT.out.2
end Go.Proofs.Ytmbecjmmcekpnaa
