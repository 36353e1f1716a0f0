/-
  What Drop comes to.
-/
import Derived.Test.YteihijejohgfpaaBde
import Derived.Test.YteihijejohgfpaaBit
import Derived.Test.YteihijejohgfpaaHas
namespace Go.Proofs.Yteihijejohgfpaa
set_option maxRecDepth 100000
open Go.RowKit
open Go.ChangeMaps (setBlock)

/-- What isTrue tells of each thing. -/
def WhP (q : Int → Bool) (wv : Value) : Prop := ∀ (x : Int) (W : World), Calls Try.prog 39 #[wv, Value.int .i64 x] W fun e w' => e = .returned (.bool (q x)) ∧ Below W.heap.size W w'
theorem whp_nil : WhP (fun _ => true) .nilFunc := fun x W => by
  have he : (binOp .eql 45 .nilFunc .nilFunc).run Try.prog W = .ok (.bool true) W := by kernel_rfl
  go_enter Try.func39, Try.ntmps39
  go_wp2
  go_ret
  exact ⟨rfl, Below.refl _ _⟩

set_option maxHeartbeats 1000000 in
theorem dropf_any (v : List Int) (hv : v.length = 16) (q : Int → Bool) (wv : Value) (hq : WhP q wv) (i : It Int) (Bv Bw : Nat) (w : World) (hV : Lies w Bv v) (hW : w.cell? ⟨Bw, 0, none⟩ = some wv) :
    Calls Try.prog 37 #[.agg (itc i), .pointer (some ⟨Bv, 0, none⟩), .pointer (some ⟨Bw, 0, none⟩)] w fun e w' => e = .returned (.bool (!(hasv v i.r i.n && q i.x))) ∧ Below w.heap.size w w' := by
  obtain ⟨W, hWw⟩ : ∃ W, w.alloc (.cells (itc i) 60) = W := ⟨_, rfl⟩
  have hb : Below w.heap.size w W := hWw ▸ (Below.refl _ w).alloc (Nat.le_refl _) _
  have hx : W.heap[w.heap.size]? = some (.cells (itc i) 60 (0, 0)) := by rw [← hWw]; exact heap_alloc_new w _
  have hlW : w.heap.size < W.heap.size := (Array.getElem?_eq_some_iff.1 hx).1
  have x0 : W.cell? ⟨w.heap.size, 0, none⟩ = some (.int .i64 i.r) := cell_of_row W _ 0 _ _ _ hx
  have x1 : W.cell? ⟨w.heap.size, 1, none⟩ = some (.int .i64 i.n) := cell_of_row W _ 1 _ _ _ hx
  have x2 : W.cell? ⟨w.heap.size, 2, none⟩ = some (Value.int .i64 i.x) := cell_of_row W _ 2 _ _ _ hx
  have hV1 := hV.below hb hV.lt
  have hH := has_any v i.r i.n hv W
  have hwl : Bw < w.heap.size := World.block_lt_of_cell? w _ hW
  have HE : Hid _ := hx
  clear hx
  rcases Bool.eq_false_or_eq_true (hasv v i.r i.n) with hh | hh
  · rw [hh] at hH ⊢
    rw [Bool.true_and]
    go_enter Try.func37, Try.ntmps37
    go_wp2_with (first | (refine load_vec rfl rfl rfl hV1 hv ?_))
    refine Calls.mono hH ?_
    rintro e w2 ⟨rfl, hb2⟩
    have hw2 := (hb2.cell (p := ⟨Bw, 0, none⟩) (by show Bw < _; omega)).trans ((hb.cell (p := ⟨Bw, 0, none⟩) hwl).trans hW)
    have y2 := (hb2.cell (p := ⟨w.heap.size, 2, none⟩) hlW).trans x2
    have hQ := hq i.x w2
    have hb3 := hb.trans (hb2.mono hb.size)
    clear hH hb2 hWw
    go_wp2_with fail
    refine Calls.mono hQ ?_
    rintro e w3 ⟨rfl, hb4⟩
    have hb5 := hb3.trans (hb4.mono hb3.size)
    go_wp2
    go_ret
    exact ⟨rfl, hb5⟩
  · rw [hh] at hH ⊢
    rw [Bool.false_and, Bool.not_false]
    go_enter Try.func37, Try.ntmps37
    go_wp2_with (first | (refine load_vec rfl rfl rfl hV1 hv ?_))
    refine Calls.mono hH ?_
    rintro e w2 ⟨rfl, hb2⟩
    have hb3 := hb.trans (hb2.mono hb.size)
    go_wp2
    go_ret
    exact ⟨rfl, hb3⟩

/-- What goes. -/
def gone (v : List Int) (q : Int → Bool) (i : It Int) : Bool := hasv v i.r i.n && q i.x
/-- Taken away one behind the other. -/
def dels (S G : List (It Int)) : List (It Int) := G.foldl (fun T i => del T i.r i.n) S
theorem dels_snoc (S G : List (It Int)) (i : It Int) : dels S (G ++ [i]) = del (dels S G) i.r i.n := by simp [dels]
theorem dels_eq (S : List (It Int)) : ∀ G : List (It Int), dels S G = S.filter (fun i => !G.any (fun j => isAt j.r j.n i)) := by
  intro G
  unfold dels
  induction G generalizing S with
  | nil => exact (List.filter_eq_self.2 (by simp)).symm
  | cons a G ih =>
    rw [List.foldl_cons, ih]
    unfold del
    rw [List.filter_filter]
    refine List.filter_congr fun i _ => ?_
    simp [Bool.and_comm]
theorem dels_gone (S : List (It Int)) (hS : Srt S) (P : It Int → Bool) : dels S (S.filter P) = S.filter (fun i => !P i) := by
  rw [dels_eq]
  refine List.filter_congr fun i hi => ?_
  congr 1
  cases hp : P i
  · cases ha : (S.filter P).any (fun j => isAt j.r j.n i)
    · rfl
    · obtain ⟨j, hj, hji⟩ := List.any_eq_true.1 ha
      obtain ⟨hj1, hj2⟩ := List.mem_filter.1 hj
      rw [isAt_iff] at hji
      have e1 := find_some hS hi
      have e2 := find_some hS hj1
      rw [← hji.1, ← hji.2, e1] at e2
      cases e2
      rw [hp] at hj2; cases hj2
  · exact List.any_eq_true.2 ⟨i, List.mem_filter.2 ⟨hi, hp⟩, isAt_iff.2 ⟨rfl, rfl⟩⟩
theorem filter_nn (S : List (It Int)) (P : It Int → Bool) : (S.filter fun i => !(!P i)) = S.filter P := by simp

set_option maxHeartbeats 2000000 in
theorem drop_core (p : Option Addr) (g : Nat) (m : Option Nat) (S : List (It Int)) (v : List Int) (hv : v.length = 16) (q : Int → Bool) (wv : Value) (hq : WhP q wv) (w W : World)
    (hz : Orz ((w.alloc (.cells (vals v) 36)).alloc (.cells #[wv] 45)) p g W) (h : Bg W g m S) (hl : S.length ≤ 1048576) (hVl : Lies W w.heap.size v) (hWl : W.cell? ⟨w.heap.size + 1, 0, none⟩ = some wv) (hwv : wv = .nilFunc ∨ ∃ f, wv = .func (.func f) #[] #[]) :
    Calls Try.prog 26 #[.pointer p, .agg (vals v), wv] w fun e w' => e = .returned (.int .i64 ((S.filter (gone v q)).length : Int)) ∧ Bg w' g m (S.filter fun i => !gone v q i) ∧ Turn g m m W w' := by
  have hmf : ∀ (fn : Fn) (first cap : Array Value) (w : World), (Instr.makeFunc fn first cap).run Try.prog w = .ok (.func fn first cap) w := fun _ _ _ _ => rfl
  have hIt := items_any g m S W h hl
  have hWlt : w.heap.size + 1 < W.heap.size := World.block_lt_of_cell? W _ hWl
  have hpd : PredD (fun i => !gone v q i) w.heap.size (w.heap.size + 1) W.heap.size W := fun i W' hb => dropf_any v hv q wv hq i _ _ W' (hVl.below hb hVl.lt) ((hb.cell (p := ⟨w.heap.size + 1, 0, none⟩) hWlt).trans hWl)
  have hgl := h.lt
  have hml := fun k hk => (h.own k hk).1
  have HS : Hid _ := h.srt
  have HD : Hid _ := dels_gone S h.srt (gone v q)
  have HN : Hid _ := filter_nn S (gone v q)
  have hGl : (S.filter (gone v q)).length ≤ 1048576 := Nat.le_trans (List.length_filter_le _ _) hl
  generalize S.filter (gone v q) = G at *
  generalize gone v q = P at *
  have HP : Hid _ := hpd
  have HB : Hid _ := h
  clear hpd h hq hVl hWl
  rcases hwv with rfl | ⟨f, rfl⟩
  all_goals
    go_enter Try.func26, Try.ntmps26
    go_wp2_with fail
    refine Calls.mono hz ?_
    rintro e W' ⟨rfl, hW'⟩
    obtain rfl := hW'.symm
    go_wp2_with fail
    refine Calls.mono hIt ?_
    rintro e w1 ⟨vr, rfl, hr1, hb1⟩
    have hDF := deletefunc_any _ _ _ _ _ HP.out vr S W.heap.size w1 hr1 hb1 hb1.size (Nat.le_refl _)
    rw [HN.out] at hDF
    obtain ⟨ao, cap, hvr, -, -⟩ := hr1.val
    subst hvr
    go_wp2_with fail
    refine Calls.mono hDF ?_
    rintro e w2 ⟨vg, rfl, hr2, hg2⟩
    have hb2 : Below W.heap.size W w2 := hb1.grown hg2 hb1.size (fun k e => (hr1.lt k e).1)
    have hB2 := HB.out.below hb2 (Nat.le_refl _)
    have ht2 : Turn g m m W w2 := Turn.of_below m hb2
    clear hDF hIt hr1 hb1 hg2 HN HP HB hz
    obtain ⟨ao', cap', hvg, -, -⟩ := hr2.val
    obtain ⟨n, hn⟩ : ∃ n, G.length = n := ⟨_, rfl⟩
    rw [hn] at hGl hvg
    subst hvg
    go_wp2_with fail
    go_loopw [18] (fun c wr => ∃ k : Nat, k ≤ n ∧ c = .int .i64 (k : Int) ∧ Bg wr g m (dels S (G.take k)) ∧ Rw 60 wr W.heap.size (.slice ao' n cap') G ∧ Turn g m m W wr) (fun c _ => n - (intOf c).toNat)
    case atStart => exact ⟨0, Nat.zero_le _, rfl, hB2, hr2, ht2⟩
    case round =>
      clear hB2 hr2 ht2
      obtain ⟨k, hk, rfl, hB, hr, ht⟩ := hrel
      by_cases hlt : k < n
      · have hlt' : (k : Int) < (n : Int) := by omega
        obtain ⟨gr, capr, i, hv', -, hi, hgb, -, c0, c1, c2, -⟩ := hr.at3 (k := k) (by omega)
        simp only [Value.slice.injEq] at hv'
        obtain ⟨rfl, -, rfl⟩ := hv'
        obtain ⟨W1, hW1⟩ : ∃ W1, wr.alloc (.cells (itc i) 60) = W1 := ⟨_, rfl⟩
        have hb1 : Below wr.heap.size wr W1 := hW1 ▸ (Below.refl _ wr).alloc (Nat.le_refl _) _
        have hx : W1.heap[wr.heap.size]? = some (.cells (itc i) 60 (0, 0)) := by rw [← hW1]; exact heap_alloc_new wr _
        have x0 : W1.cell? ⟨wr.heap.size, 0, none⟩ = some (.int .i64 i.r) := cell_of_row W1 _ 0 _ _ _ hx
        have x1 : W1.cell? ⟨wr.heap.size, 1, none⟩ = some (.int .i64 i.n) := cell_of_row W1 _ 1 _ _ _ hx
        have hB1 := hB.below hb1 (Nat.le_refl _)
        have cb := hB1.c0
        obtain ⟨w3, hd, hB3, ht3⟩ := hB1.delete i.r i.n 0 W1.drew rfl rfl rfl rfl
        have hr3 := (hr.below hb1 (Nat.le_refl _)).keep (w' := w3) (fun j hj => by
          simp only [Value.ownBlock, Option.some.injEq] at hj
          have hl1 := hb1.size
          have hs := ht.size
          have hgw := (hr.lt gr rfl).2
          exact ht3.block j (by omega) (by omega) (fun e => by have := hml j e; omega))
        have ht4 := (ht.trans (Turn.of_below m hb1)).trans ht3
        have HB3 : Hid (Bg w3 g m (dels S (G.take (k + 1)))) := by
          rw [List.take_add_one, hi, Option.toList_some, dels_snoc]; exact hB3
        have HR3 : Hid _ := hr3
        have HT4 : Hid _ := ht4
        simp only [itc] at hW1
        simp only [dotc] at hd
        clear hr hB hB1 hB3 hr3 ht4 ht3 ht hx hb1
        go_wp2_with fail
        clear hW1 c0 c1 c2
        go_region
        go_wp2
        go_roundw
        case rel => exact ⟨k + 1, by omega, by go_num, HB3.out, HR3.out, HT4.out⟩
        case measure => simp [intOf]; omega
      · have hlt' : ¬ (k : Int) < (n : Int) := by omega
        rw [List.take_of_length_le (by omega), HD.out] at hB
        go_wp2
        go_ret
        exact ⟨rfl, hB, ht⟩
theorem drop_any (g : Nat) (m : Option Nat) (S : List (It Int)) (v : List Int) (hv : v.length = 16) (q : Int → Bool) (wv : Value) (hq : WhP q wv) (w : World) (h : Bg w g m S) (hl : S.length ≤ 1048576) (hwv : wv = .nilFunc ∨ ∃ f, wv = .func (.func f) #[] #[]) :
    Calls Try.prog 26 #[.pointer (some ⟨g, 0, none⟩), .agg (vals v), wv] w fun e w' => e = .returned (.int .i64 ((S.filter (gone v q)).length : Int)) ∧ Bg w' g m (S.filter fun i => !gone v q i) ∧ Turn g m m w w' := by
  have hb : Below w.heap.size w ((w.alloc (.cells (vals v) 36)).alloc (.cells #[wv] 45)) := ((Below.refl _ w).alloc (Nat.le_refl _) _).alloc (by simp) _
  have hc : ((w.alloc (.cells (vals v) 36)).alloc (.cells #[wv] 45)).cell? ⟨w.heap.size + 1, 0, none⟩ = some wv := by
    have h1 := heap_alloc_new (w.alloc (.cells (vals v) 36)) (.cells #[wv] 45)
    rw [World.size_alloc] at h1
    exact cell_of_row _ _ 0 _ _ _ h1
  refine (drop_core _ g m S v hv q wv hq w _ (Orz.some g _) (h.below hb (Nat.le_refl _)) hl ((lies_new w v).alloc _) hc hwv).mono ?_
  rintro e w' ⟨he, h1, h2⟩
  exact ⟨he, h1, (Turn.of_below m hb).trans h2⟩
end Go.Proofs.Yteihijejohgfpaa
