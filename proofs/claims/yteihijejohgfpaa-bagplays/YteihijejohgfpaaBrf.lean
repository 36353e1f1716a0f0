/-
  What the reference bag's calls come to.
-/
import Derived.Test.YteihijejohgfpaaBor
namespace Go.Proofs.Yteihijejohgfpaa
set_option maxRecDepth 100000
open Go.RowKit

theorem elR : El 27 64 #[.int .i64 0, .int .i64 0, .int .i64 0] 24 := ⟨Try.underlying27, by kernel_rfl, rfl, by decide⟩
/-- The reference bag: its list lies in a row of its own. -/
structure Rb (w : World) (B G : Nat) (v : Value) (S : List (It Int)) : Prop where
  blk : w.heap[G]? = some (.cells #[v] 29 (0, 0))
  row : Rw 64 w B v S
theorem Rb.lt {w : World} {B G : Nat} {v : Value} {S : List (It Int)} (h : Rb w B G v S) : G < w.heap.size := (Array.getElem?_eq_some_iff.1 h.blk).1
theorem Rb.c0 {w : World} {B G : Nat} {v : Value} {S : List (It Int)} (h : Rb w B G v S) : w.cell? ⟨G, 0, none⟩ = some v := cell_of_row w G 0 _ _ _ h.blk
theorem Rb.f0 {w : World} {B G : Nat} {v : Value} {S : List (It Int)} (h : Rb w B G v S) (i : Nat) : w.frozen? ⟨G, i, none⟩ = false := frozen_of_row w G i _ _ h.blk
theorem Rb.below {w w' : World} {B G C : Nat} {v : Value} {S : List (It Int)} (h : Rb w B G v S) (hb : Below C w w') (hC : w.heap.size ≤ C) : Rb w' B G v S :=
  ⟨by rw [hb.block G (Nat.lt_of_lt_of_le h.lt hC)]; exact h.blk, h.row.below hb hC⟩
theorem Rb.turn {w w' : World} {B G g : Nat} {m m' : Option Nat} {v : Value} {S : List (It Int)} (h : Rb w B G v S) (t : Turn g m m' w w') (h1 : g ≠ G) (h2 : m ≠ some G) (h3 : ∀ d, v.ownBlock = some d → d ≠ g ∧ m ≠ some d) : Rb w' B G v S :=
  ⟨by rw [t.block G h.lt h1.symm h2]; exact h.blk, h.row.keep fun k hk => t.block k (h.row.lt k hk).2 (h3 k hk).1 (h3 k hk).2⟩
/-- A list is laid in place of the one that lay there. -/
theorem Rb.lay {w w' : World} {B G : Nat} {v v' : Value} {S S' : List (It Int)} (h : Rb w B G v S) (hb : Below w.heap.size w w') (hr : Rw 64 w' w.heap.size v' S') : Rb (w'.setCell ⟨G, 0, none⟩ v') w.heap.size G v' S' ∧ Turn G none none w (w'.setCell ⟨G, 0, none⟩ v') := by
  have hblk : w'.heap[G]? = some (.cells #[v] 29 (0, 0)) := by rw [hb.block G h.lt]; exact h.blk
  have hlt := h.lt
  refine ⟨⟨by rw [heap_setCell_same _ _ 0 _ _ _ hblk]; rfl, hr.keep fun k hk => Below.heap_setCell _ _ _ k (fun e => ?_)⟩, ⟨hb.os, hb.tape, hb.output, by have := hb.size; simp [World.setCell]; omega, fun k hk hg _ => (Below.heap_setCell _ _ _ k hg).trans (hb.block k hk), fun k e => by cases e⟩⟩
  have := (hr.lt k hk).1
  have e' : k = G := e
  omega

section
variable {α : Type}
theorem del_take {S : List (It α)} {k : Nat} {i : It α} (hi : S[k]? = some i) (r n : Int) : del (S.take (k + 1)) r n = if isAt r n i then del (S.take k) r n else del (S.take k) r n ++ [i] := by
  rw [List.take_add_one, hi]
  unfold del
  rw [List.filter_append]
  cases h : isAt r n i <;> simp [h]
theorem del_lt (S : List (It α)) (r n : Int) : decide ((del S r n).length < S.length) = hasD S r n := by
  have h : ((del S r n).length < S.length) ↔ hasD S r n = true := by
    unfold del hasD
    induction S with
    | nil => simp
    | cons a S ih =>
      simp only [List.filter_cons, List.any_cons, List.length_cons]
      have := List.length_filter_le (fun i => !isAt r n i) S
      cases ha : isAt r n a
      · simp only [Bool.not_false, if_true, List.length_cons, Bool.false_or, ← ih]; omega
      · simp only [Bool.not_true, Bool.false_eq_true, if_false, Bool.true_or, iff_true]; omega
  rw [Bool.eq_iff_iff, decide_eq_true_eq, ← h]
theorem del_len_le (S : List (It α)) (r n : Int) : (del S r n).length ≤ S.length := List.length_filter_le _ _
end

set_option maxHeartbeats 2000000 in
theorem rremove_any (B G : Nat) (v : Value) (S : List (It Int)) (r n : Int) (w : World) (h : Rb w B G v S) (hl : S.length ≤ 1048575) :
    Calls Try.prog 16 #[.pointer (some ⟨G, 0, none⟩), .agg (dotc r n)] w fun e w' => e = .returned (.bool (hasD S r n)) ∧ ∃ v', Rb w' w.heap.size G v' (del S r n) ∧ Turn G none none w w' := by
  obtain ⟨W, hW⟩ : ∃ W, w.alloc (.cells (dotc r n) 34) = W := ⟨_, rfl⟩
  have hD : LiesD W w.heap.size r n := hW ▸ liesD_new w r n
  have hb : Below w.heap.size w W := hW ▸ (Below.refl _ w).alloc (Nat.le_refl _) _
  have hs : W.heap.size = w.heap.size + 1 := by rw [← hW]; simp
  have hR := h.below hb (Nat.le_refl _)
  obtain ⟨ao, cap, rfl, hcap, hmx⟩ := h.row.val
  obtain ⟨len, hlen⟩ : ∃ len, S.length = len := ⟨_, rfl⟩
  have HH : Hid (Rb w B G (.slice ao S.length cap) S) := h
  rw [hlen] at hR hl hcap HH
  have hc0 := hR.c0
  clear h
  go_enter Try.func16, Try.ntmps16
  go_wp2_with fail
  clear hW hc0
  go_loopw [13, 5] (fun c q wr => ∃ k : Nat, k ≤ len ∧ c = .int .i64 (k : Int) ∧ Rw 64 wr W.heap.size q (del (S.take k) r n) ∧ Below W.heap.size W wr) (fun c _ _ => len - (intOf c).toNat)
  case atStart => exact ⟨0, Nat.zero_le _, rfl, rw_nil _ _ _, Below.refl _ _⟩
  case round =>
    obtain ⟨k, hk, rfl, hrow, hbw⟩ := hrel
    have hRr := hR.below hbw (Nat.le_refl _)
    have hc0 := hRr.c0
    obtain ⟨ao2, cap2, hq2, -, -⟩ := hrow.val
    subst hq2
    by_cases hkl : k < len
    · have hkl' : (k : Int) < (len : Int) := by omega
      obtain ⟨g, _, i, e1, -, hi, -, -, c0, c1, c2, -⟩ := hRr.row.at3 (k := k) (by omega)
      simp only [Value.slice.injEq] at e1
      obtain ⟨rfl, -, rfl⟩ := e1
      have d0 := (hD.below hbw hD.lt).cell0
      have d1 := (hD.below hbw hD.lt).cell1
      have hpl := plain_dot
      have heq : ∀ W, (Op.equalIn 10000 34 (.agg #[.int .i64 i.r, .int .i64 i.n]) (.agg #[.int .i64 r, .int .i64 n])).run Try.prog W = .ok (decide (i.r = r ∧ i.n = n)) W := fun W => run_equalIn_dot W 9998 i.r i.n r n
      have hdt := del_take hi r n
      have hdl := del_len_le (S.take k) r n
      rw [List.length_take] at hdl
      cases hq : isAt r n i
      · rw [show decide (i.r = r ∧ i.n = n) = false from hq] at heq
        rw [hq] at hdt
        have hbd := run_build1 elR wr.drew i
        simp only [itc] at hbd
        have HR : Hid (Rw 64 wr.drew W.heap.size _ (del (S.take k) r n)) := hrow.keep fun _ _ => rfl
        have HB : Hid (Below W.heap.size W wr.drew) := hbw.drew
        have hsz : W.heap.size ≤ (wr.drew.alloc (.cells (itc i) 64)).heap.size := by rw [World.size_alloc]; have h9 := hbw.size; have h8 : wr.drew.heap.size = wr.heap.size := rfl; omega
        have hats := ats_new wr.drew 64 i
        simp only [itc] at hats hsz
        clear hrow hbw hRr
        go_wp2_with fail
        go_region
        go_wp2_with (first | (refine wpList_app1 elR rfl _ _ rfl W.heap.size (.slice ao2 (del (S.take k) r n).length cap2) _ rfl (HR.out.alloc _) _ 1 i rfl hats (by omega) hsz ?_; intro v2 w2 h2 h3 h4))
        go_roundw
        case rel => exact ⟨k + 1, by omega, by go_num, by rw [hdt]; exact h2, (HB.out.alloc HB.out.size _).grown h3 hsz (fun q e => (HR.out.lt q e).1)⟩
        case measure => simp [intOf]; omega
      · rw [show decide (i.r = r ∧ i.n = n) = true from hq] at heq
        rw [hq] at hdt
        have HR : Hid (Rw 64 wr.drew W.heap.size (.slice ao2 (del (S.take k) r n).length cap2) (del (S.take k) r n)) := hrow.keep fun _ _ => rfl
        have HB : Hid (Below W.heap.size W wr.drew) := hbw.drew
        clear hrow hbw hRr
        go_wp2_with fail
        go_region
        go_wp2
        go_roundw
        case rel => exact ⟨k + 1, by omega, by go_num, by rw [hdt]; exact HR.out, HB.out⟩
        case measure => simp [intOf]; omega
    · have hkl' : ¬ (k : Int) < (len : Int) := by omega
      rw [List.take_of_length_le (by omega)] at hrow ⊢
      have hdl := del_lt S r n
      rw [hlen] at hdl
      have HDL : Hid (decide ((del S r n).length < len) = hasD S r n) := hdl
      clear hdl
      have hf0 := hRr.f0 0
      have hbb := hb.trans (hbw.mono hb.size)
      have HF := HH.out.lay hbb (hrow.lower (by omega))
      clear hRr hrow hbw hR hD HH
      go_wp2
      go_ret
      exact ⟨congrArg (fun b => Ending.returned (.bool b)) HDL.out, ⟨_, HF.1⟩, HF.2⟩
end Go.Proofs.Yteihijejohgfpaa
