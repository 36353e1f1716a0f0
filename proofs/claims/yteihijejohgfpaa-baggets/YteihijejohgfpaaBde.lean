/-
  What slices.DeleteFunc comes to over Drop's function: the things of which it isn't true, in their order.
-/
import Derived.Test.YteihijejohgfpaaBdf
namespace Go.Proofs.Yteihijejohgfpaa
set_option maxRecDepth 100000
open Go.RowKit Go.Sort

theorem idx_none {p : It Int → Bool} {S : List (It Int)} (h : S.findIdx? p = none) : S.filter (fun i => !p i) = S := by
  rw [List.findIdx?_eq_none_iff] at h
  exact List.filter_eq_self.2 fun x hx => by rw [h x hx]; rfl
theorem idx_some {p : It Int → Bool} {S : List (It Int)} {k : Nat} (h : S.findIdx? p = some k) : k < S.length ∧ (S.take (k + 1)).filter (fun i => !p i) = S.take k := by
  rw [List.findIdx?_eq_some_iff_getElem] at h
  obtain ⟨h1, h2, h3⟩ := h
  refine ⟨h1, ?_⟩
  rw [List.take_succ_eq_append_getElem h1, List.filter_append]
  have e1 : (S.take k).filter (fun i => !p i) = S.take k := List.filter_eq_self.2 fun x hx => by
    obtain ⟨j, hj⟩ := List.getElem?_of_mem hx
    obtain ⟨hj1, hj2⟩ := List.getElem?_eq_some_iff.1 hj
    have hjk : j < k := by rw [List.length_take] at hj1; omega
    have := h3 j hjk
    rw [List.getElem_take] at hj2
    rw [← hj2]
    simpa using this
  rw [e1]
  simp [h2]

set_option maxHeartbeats 2000000 in
theorem deletefunc_any (p : It Int → Bool) (Bv Bw B : Nat) (w0 : World) (hp : PredD p Bv Bw B w0) (v : Value) (S : List (It Int)) (base : Nat) (w : World) (hrow : Rw 60 w base v S) (hB : Below B w0 w) (hBw : B ≤ w.heap.size) (hBb : B ≤ base) :
    Calls Try.prog 36 #[v, .func (.func 37) #[] #[.pointer (some ⟨Bv, 0, none⟩), .pointer (some ⟨Bw, 0, none⟩)]] w fun e w' => ∃ v', e = .returned v' ∧ Rw 60 w' base v' (S.filter fun i => !p i) ∧ w.grownBy w' v.ownBlock := by
  have hI := indexfunc_any p Bv Bw B w0 hp v S base w hrow hB hBw
  cases hf : S.findIdx? p with
  | none =>
    rw [idx_none hf]
    have e1 : idxI p S = -1 := by unfold idxI; rw [hf]
    rw [e1] at hI
    obtain ⟨ao, cap, hv, -, -⟩ := hrow.val
    subst hv
    clear hf e1
    go_enter Try.func36, Try.ntmps36
    go_wp2_with fail
    refine Calls.mono hI ?_
    rintro e w1 ⟨rfl, hb⟩
    have hr := hrow.below hb (Nat.le_refl _)
    have hg : w.grownBy w1 (Value.slice ao S.length cap).ownBlock := ⟨hb.os, hb.tape, hb.output, hb.size, fun k hk _ => hb.block k hk⟩
    go_wp2
    go_ret
    exact ⟨_, rfl, hr, hg⟩
  | some k =>
    obtain ⟨hk, hfk⟩ := idx_some hf
    have e1 : idxI p S = (k : Int) := by unfold idxI; rw [hf]
    rw [e1] at hI
    obtain ⟨g, cap, i0, hv, hnc, -, hbg, hgl, -⟩ := hrow.at3 hk
    subst hv
    have hcm' : S.length ≤ 9223372036854775807 := by obtain ⟨_, cap', -, h2, h3⟩ := hrow.val; unfold maxLen at h3; omega
    have hcc : cap ≤ 9223372036854775807 := by
      rcases hrow.2 with ⟨hv, -⟩ | ⟨g', cap', cur, hv, -, -, -, hc, -⟩
      · cases hv
      · simp only [Value.slice.injEq] at hv; unfold maxLen at hc; omega
    have HF : Hid _ := hfk
    clear hf e1 hfk
    obtain ⟨n, hn⟩ : ∃ n, S.length = n := ⟨_, rfl⟩
    rw [hn] at hnc hcm' hk hrow hI ⊢
    have hk1 : ((k : Int) == -1) = false := by simp
    go_enter Try.func36, Try.ntmps36
    go_wp2_with fail
    refine Calls.mono hI ?_
    rintro e w1 ⟨rfl, hb⟩
    have hr1 := hrow.below hb (Nat.le_refl _)
    have hg1 : w.grownBy w1 (some g) := ⟨hb.os, hb.tape, hb.output, hb.size, fun k hk _ => hb.block k hk⟩
    clear hI hb hrow
    go_wp2
    go_loopw [5, 6] (fun ci cj wr => ∃ (a j : Nat) (R : List (It Int)), a < j ∧ j ≤ n ∧ ci = .int .i64 (a : Int) ∧ cj = .int .i64 (j : Int) ∧ R.length = n ∧ R.take a = (S.take j).filter (fun i => !p i) ∧ R.drop j = S.drop j ∧ Rw 60 wr base (.slice (some ⟨g, 0, none⟩) n cap) R ∧ w.grownBy wr (some g)) (fun _ cj _ => n - (intOf cj).toNat)
    case atStart => exact ⟨k, k + 1, S, by omega, by omega, rfl, by go_num, hn, HF.out.symm, rfl, hr1, hg1⟩
    case round =>
      clear hr1 hg1
      obtain ⟨a, j, R, haj, hjn, rfl, rfl, hRn, hta, hdr, hr, hg⟩ := hrel
      by_cases hlt : j < n
      · have hlt' : (j : Int) < (n : Int) := by omega
        obtain ⟨g', cap', i, hv', -, hi, -, -, c0, c1, c2, -⟩ := hr.at3 (k := j) (by omega)
        simp only [Value.slice.injEq, Option.some.injEq, Addr.mk.injEq, and_true] at hv'
        obtain ⟨rfl, -, rfl⟩ := hv'
        have hSi : S[j]? = some i := by
          have h1 : (R.drop j)[0]? = (S.drop j)[0]? := by rw [hdr]
          rw [List.getElem?_drop, List.getElem?_drop, Nat.add_zero, hi] at h1
          exact h1.symm
        obtain ⟨W1, hW1⟩ : ∃ W1, wr.alloc (.cells (itc i) 60) = W1 := ⟨_, rfl⟩
        have hb1 : Below wr.heap.size wr W1 := hW1 ▸ (Below.refl _ wr).alloc (Nat.le_refl _) _
        have hx : W1.heap[wr.heap.size]? = some (.cells (itc i) 60 (0, 0)) := by rw [← hW1]; exact heap_alloc_new wr _
        have hlW : wr.heap.size < W1.heap.size := (Array.getElem?_eq_some_iff.1 hx).1
        have x0 : W1.cell? ⟨wr.heap.size, 0, none⟩ = some (.int .i64 i.r) := cell_of_row W1 _ 0 _ _ _ hx
        have x1 : W1.cell? ⟨wr.heap.size, 1, none⟩ = some (.int .i64 i.n) := cell_of_row W1 _ 1 _ _ _ hx
        have x2 : W1.cell? ⟨wr.heap.size, 2, none⟩ = some (Value.int .i64 i.x) := cell_of_row W1 _ 2 _ _ _ hx
        have hg1 := grown_below hg hb1
        have hc := hp i W1 (hB.grown hg1 hBw (fun k e => by cases e; omega))
        have hr1 := hr.below hb1 (Nat.le_refl _)
        simp only [itc] at hW1
        clear hr hg
        rcases Bool.eq_false_or_eq_true (p i) with hpi | hpi
        · rw [hpi] at hc
          have ht : R.take a = (S.take (j + 1)).filter (fun i => !p i) := by
            rw [hta, List.take_add_one, hSi, List.filter_append]
            simp [hpi]
          have hd : R.drop (j + 1) = S.drop (j + 1) := by rw [← List.drop_drop, ← List.drop_drop, hdr]
          have HT : Hid _ := ht
          have HD : Hid _ := hd
          clear hta hdr hp ht hd
          go_wp2_with fail
          refine Calls.mono hc ?_
          rintro e w2 ⟨rfl, hb2⟩
          have hr2 := hr1.below hb2 (Nat.le_refl _)
          have hg2 := grown_below hg1 hb2
          clear hr1 hg1 hc hx
          go_wp2
          go_roundw
          case rel => exact ⟨a, j + 1, R, by omega, by omega, rfl, by go_num, hRn, HT.out, HD.out, hr2, hg2⟩
          case measure => simp [intOf]; omega
        · rw [hpi] at hc
          have ht : (R.set a i).take (a + 1) = (S.take (j + 1)).filter (fun i => !p i) := by
            have hal : a < (R.set a i).length := by rw [List.length_set]; omega
            rw [List.take_succ_eq_append_getElem hal, List.getElem_set_self, List.take_set_of_le (Nat.le_refl _), hta, List.take_add_one, hSi, List.filter_append]
            simp [hpi]
          have hd : (R.set a i).drop (j + 1) = S.drop (j + 1) := by
            rw [List.drop_set_of_lt (by omega), ← List.drop_drop, ← List.drop_drop, hdr]
          have HT : Hid _ := ht
          have HD : Hid _ := hd
          clear hta hdr hp ht hd
          go_wp2_with fail
          refine Calls.mono hc ?_
          rintro e w2 ⟨rfl, hb2⟩
          have hr2 := hr1.below hb2 (Nat.le_refl _)
          have hg2 := grown_below hg1 hb2
          have y0 := (hb2.cell (p := ⟨wr.heap.size, 0, none⟩) hlW).trans x0
          have y1 := (hb2.cell (p := ⟨wr.heap.size, 1, none⟩) hlW).trans x1
          have y2 := (hb2.cell (p := ⟨wr.heap.size, 2, none⟩) hlW).trans x2
          obtain ⟨g', cap', ia, hv', -, -, -, -, d0, d1, d2, df⟩ := hr2.at3 (k := a) (by omega)
          simp only [Value.slice.injEq, Option.some.injEq, Addr.mk.injEq, and_true] at hv'
          obtain ⟨rfl, -, rfl⟩ := hv'
          have df0 := df (a * 3)
          have df1 := df (a * 3 + 1)
          have df2 := df (a * 3 + 2)
          have hr3 := hr2.set3 (k := a) (by omega) i
          have hg3 := grown_set3 w2 g (a * 3) (a * 3 + 1) (a * 3 + 2) (.int .i64 i.r) (.int .i64 i.n) (Value.int .i64 i.x)
          have hg4 : w.grownBy (((w2.setCell ⟨g, a * 3, none⟩ (.int .i64 i.r)).setCell ⟨g, a * 3 + 1, none⟩ (.int .i64 i.n)).setCell ⟨g, a * 3 + 2, none⟩ (Value.int .i64 i.x)) (some g) := hg2.andThen hg3 (fun j e => .inr e)
          have H3 : Hid _ := hr3
          have G4 : Hid _ := hg4
          have han : (a : Int) < (n : Int) := by omega
          clear hr1 hg1 hc hx c0 c1 c2 x0 x1 x2 df hr2 hg2 hr3 hg3 hg4
          go_wp2
          go_roundw
          case rel => exact ⟨a + 1, j + 1, R.set a i, by omega, by omega, by go_num, by go_num, by rw [List.length_set]; exact hRn, HT.out, HD.out, H3.out, G4.out⟩
          case measure => simp [intOf]; omega
      · have hlt' : ¬ (j : Int) < (n : Int) := by omega
        have hjn' : j = n := by omega
        have hfin : S.take j = S := List.take_of_length_le (by omega)
        rw [hfin] at hta
        obtain ⟨w3, hcl, hr3, hg3⟩ := hr.clear (a := a) (by omega)
        rw [hta] at hr3
        have hg4 := hg.andThen hg3 (fun j e => .inr e)
        have R3 : Hid _ := hr3
        have G4 : Hid (w.grownBy w3 (some g)) := hg4
        have ha0 : (0 : Int) ≤ (a : Int) := by omega
        have han : (a : Int) ≤ (n : Int) := by omega
        have hac : (a : Int) ≤ (cap : Int) := by omega
        clear hta hdr hp hr hr3 hg hg3 hg4 hfin
        go_wp2
        go_ret
        exact ⟨_, rfl, R3.out, G4.out⟩
end Go.Proofs.Yteihijejohgfpaa
