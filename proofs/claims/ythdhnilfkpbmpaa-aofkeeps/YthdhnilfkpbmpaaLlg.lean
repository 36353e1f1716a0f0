/-
  A log in memory; what orZero, Fast, Snapshot, Events and Sync come to.
-/
import Derived.Test.YthdhnilfkpbmpaaLev
import Derived.Test.YthdhnilfkpbmpaaFsc
namespace Go.Proofs.Ythdhnilfkpbmpaa
set_option maxRecDepth 100000
open Go.RowKit

theorem own_blk {w : World} {base size : Nat} {t : TypeId} {v : Value} {n : Nat} {xs : List Value} (h : w.ownsRow base t size v n xs) {k : Nat} (hk : v.ownBlock = some k) : ∃ cur, w.heap[k]? = some (.cells cur t (0, 0)) := by
  rcases h.2 with ⟨rfl, _⟩ | ⟨g, cap, cur, rfl, _, hg, _⟩
  · cases hk
  · obtain rfl := Option.some.inj hk
    exact ⟨cur, hg⟩
theorem blk_ne {w : World} {k k' : Nat} {c c' : Array Value} {t t' : TypeId} (h : w.heap[k]? = some (.cells c t (0, 0))) (h' : w.heap[k']? = some (.cells c' t' (0, 0))) (ht : t ≠ t') : k ≠ k' := by
  rintro rfl
  rw [h] at h'
  simp only [Option.some.injEq, Obj.cells.injEq] at h'
  exact ht h'.2.1
theorem own_same {w w' : World} {base size : Nat} {t : TypeId} {v : Value} {n : Nat} {xs : List Value} (h : w.ownsRow base t size v n xs) (hs : ∀ k, v.ownBlock = some k → w'.heap[k]? = w.heap[k]?) : w'.ownsRow base t size v n xs := by
  refine ⟨h.1, ?_⟩
  rcases h.2 with hn | ⟨g, cap, cur, rfl, hbg, hg, rest⟩
  · exact .inl hn
  · exact .inr ⟨g, cap, cur, rfl, hbg, by rw [hs g rfl]; exact hg, rest⟩

/-- A log lies in a block: its disk, its snapshot, whether there is one, its events (a row of its own), how many are fast. -/
structure Lg (w : World) (base g : Nat) (p : Option Addr) (v : Value) (b : Bool) (s : List UInt8) (E : List Ev) (k : Nat) : Prop where
  blk : w.heap[g]? = some (.cells #[.pointer p, .string (sb s), .bool b, v, .int .i64 (k : Int)] 59 (0, 0))
  row : Row w base v E
  low : base ≤ g
  wide : ∀ e ∈ E, Wide e
  few : E.length ≤ 65536
  fast : k ≤ E.length

section
variable {w w' : World} {base g gd k : Nat} {p : Option Addr} {v v' vd vd' : Value} {b : Bool} {s : List UInt8} {E : List Ev} {l : List UInt8} {f r : Nat}
theorem Lg.lt (h : Lg w base g p v b s E k) : g < w.heap.size := (Array.getElem?_eq_some_iff.1 h.blk).1
theorem Lg.own (h : Lg w base g p v b s E k) : ∀ j, v.ownBlock = some j → base ≤ j ∧ j < w.heap.size ∧ j ≠ g := by
  intro j hj
  obtain ⟨cur, hc⟩ := own_blk h.row hj
  have h1 := h.row.lt j hj
  exact ⟨h1.1, h1.2, blk_ne hc h.blk (by decide)⟩
theorem Lg.notown (h : Lg w base g p v b s E k) : v.ownBlock ≠ some g := fun e => (h.own g e).2.2 rfl
theorem Lg.kept (h : Lg w base g p v b s E k) (hs : ∀ j, (j = g ∨ v.ownBlock = some j) → w'.heap[j]? = w.heap[j]?) : Lg w' base g p v b s E k :=
  ⟨by rw [hs g (.inl rfl)]; exact h.blk, own_same h.row (fun j hj => hs j (.inr hj)), h.low, h.wide, h.few, h.fast⟩
theorem Lg.below (h : Lg w base g p v b s E k) {B : Nat} (hb : Below B w w') (hB : w.heap.size ≤ B) : Lg w' base g p v b s E k :=
  h.kept (fun j hj => hb.block j (by
    rcases hj with rfl | hj
    · have := h.lt; omega
    · have := (h.own j hj).2.1; omega))
theorem Lg.c0 (h : Lg w base g p v b s E k) : w.cell? ⟨g, 0, none⟩ = some (.pointer p) := cell_of_row w g 0 _ _ _ h.blk
theorem Lg.c1 (h : Lg w base g p v b s E k) : w.cell? ⟨g, 1, none⟩ = some (.string (sb s)) := cell_of_row w g 1 _ _ _ h.blk
theorem Lg.c2 (h : Lg w base g p v b s E k) : w.cell? ⟨g, 2, none⟩ = some (.bool b) := cell_of_row w g 2 _ _ _ h.blk
theorem Lg.c3 (h : Lg w base g p v b s E k) : w.cell? ⟨g, 3, none⟩ = some v := cell_of_row w g 3 _ _ _ h.blk
theorem Lg.c4 (h : Lg w base g p v b s E k) : w.cell? ⟨g, 4, none⟩ = some (.int .i64 (k : Int)) := cell_of_row w g 4 _ _ _ h.blk
theorem Lg.fz (h : Lg w base g p v b s E k) (i : Nat) : w.frozen? ⟨g, i, none⟩ = false := frozen_of_row w g i _ _ h.blk
theorem Lg.val (h : Lg w base g p v b s E k) : ∃ ao c, v = .slice ao E.length c ∧ Evs w ao E.length c E := Row.evs h.row h.wide
theorem Lg.new (w : World) (base : Nat) (p : Option Addr) (hb : base ≤ w.heap.size) : Lg (w.alloc (.cells #[.pointer p, .string ⟨#[]⟩, .bool false, .slice none 0 0, .int .i64 0] 59)) base w.heap.size p (.slice none 0 0) false [] [] 0 :=
  ⟨heap_alloc_new w _, row_nil _ _, hb, by simp, by simp, Nat.le_refl _⟩
/-- What a log's step may have turned leaves its disk, and the other way round. -/
theorem Dsk.log (hd : Dsk w base gd vd l f r) (h : Lg w base g p v b s E k) (hs : Step g v v' w w') : Dsk w' base gd vd l f r :=
  hd.kept (fun j hj hk => by
    rcases hk with rfl | hk
    · refine hs.block _ hj (blk_ne hd.blk h.blk (by decide)) (fun e => ?_)
      obtain ⟨cur, hc⟩ := own_blk h.row e
      exact blk_ne hc hd.blk (by decide) rfl
    · obtain ⟨cur, hc⟩ := own_blk hd.row hk
      refine hs.block _ hj (blk_ne hc h.blk (by decide)) (fun e => ?_)
      obtain ⟨cur', hc'⟩ := own_blk h.row e
      exact blk_ne hc hc' (by decide) rfl)
theorem Lg.disk (h : Lg w base g p v b s E k) (hd : Dsk w base gd vd l f r) (hs : Step gd vd vd' w w') : Lg w' base g p v b s E k :=
  h.kept (fun j hk => by
    rcases hk with rfl | hk
    · refine hs.block _ h.lt (blk_ne h.blk hd.blk (by decide)) (fun e => ?_)
      obtain ⟨cur, hc⟩ := own_blk hd.row e
      exact blk_ne hc h.blk (by decide) rfl
    · obtain ⟨cur, hc⟩ := own_blk h.row hk
      refine hs.block _ (h.own j hk).2.1 (blk_ne hc hd.blk (by decide)) (fun e => ?_)
      obtain ⟨cur', hc'⟩ := own_blk hd.row e
      exact blk_ne hc hc' (by decide) rfl)
theorem row_set (h : Row w base v E) (hg : v.ownBlock ≠ some g) (i : Nat) (x : Value) : Row (w.setCell ⟨g, i, none⟩ x) base v E :=
  own_same h (fun j hj => Below.heap_setCell w _ _ j (fun e => hg (by rw [hj, e])))
/-- Its cells laid anew. -/
theorem Lg.set4 (h : Lg w base g p v b s E k) (m : Nat) (hm : m ≤ E.length) : Lg (w.setCell ⟨g, 4, none⟩ (.int .i64 (m : Int))) base g p v b s E m :=
  ⟨by rw [heap_setCell_same w g 4 _ _ _ h.blk]; rfl, row_set h.row h.notown _ _, h.low, h.wide, h.few, hm⟩
theorem Lg.set1 (h : Lg w base g p v b s E k) (t : List UInt8) : Lg (w.setCell ⟨g, 1, none⟩ (.string (sb t))) base g p v b t E k :=
  ⟨by rw [heap_setCell_same w g 1 _ _ _ h.blk]; rfl, row_set h.row h.notown _ _, h.low, h.wide, h.few, h.fast⟩
theorem Lg.set2 (h : Lg w base g p v b s E k) (c : Bool) : Lg (w.setCell ⟨g, 2, none⟩ (.bool c)) base g p v c s E k :=
  ⟨by rw [heap_setCell_same w g 2 _ _ _ h.blk]; rfl, row_set h.row h.notown _ _, h.low, h.wide, h.few, h.fast⟩
end

/-- The log that a pointer stands for. -/
def LOrz (w : World) (p : Option Addr) (g : Nat) (w1 : World) : Prop := Calls Try.prog 24 #[.pointer p] w fun e w' => e = .returned (.pointer (some ⟨g, 0, none⟩)) ∧ w' = w1
set_option maxHeartbeats 400000 in
theorem lorz_some (g : Nat) (w : World) : LOrz w (some ⟨g, 0, none⟩) g w := by
  unfold LOrz
  go_enter Try.func24, Try.ntmps24
  go_wp2
  go_ret
  exact ⟨rfl, rfl⟩
set_option maxHeartbeats 400000 in
theorem lorz_nil (w : World) : LOrz w none w.heap.size (w.alloc (.cells #[.pointer none, .string ⟨#[]⟩, .bool false, .slice none 0 0, .int .i64 0] 59)) := by
  unfold LOrz
  go_enter Try.func24, Try.ntmps24
  go_wp2
  go_ret
  exact ⟨rfl, rfl⟩

section
variable (q : Option Addr) (base g : Nat) (p : Option Addr) (v : Value) (b : Bool) (s : List UInt8) (E : List Ev) (k : Nat) (w w1 : World)
set_option maxHeartbeats 400000 in
theorem lfast_any (hz : LOrz w q g w1) (h : Lg w1 base g p v b s E k) : Calls Try.prog 15 #[.pointer q] w fun e w' => e = .returned (.int .i64 (k : Int)) ∧ w' = w1 := by
  have hc := h.c4
  clear h
  go_enter Try.func15, Try.ntmps15
  go_wp2_with fail
  refine Calls.mono hz ?_
  rintro e w2 ⟨rfl, rfl⟩
  go_wp2
  go_ret
  exact ⟨rfl, rfl⟩
set_option maxHeartbeats 400000 in
theorem snapshot_any (hz : LOrz w q g w1) (h : Lg w1 base g p v b s E k) : Calls Try.prog 16 #[.pointer q] w fun e w' => e = .returned (.tuple #[.string (sb s), .bool b]) ∧ Below w1.heap.size w1 w' := by
  have hc1 := h.c1
  have hc2 := h.c2
  clear h
  go_enter Try.func16, Try.ntmps16
  go_wp2_with fail
  refine Calls.mono hz ?_
  rintro e w2 ⟨rfl, rfl⟩
  go_wp2_with fail
  go_quiet (fail)
  go_wp2
  go_ret2
  exact ⟨rfl, drawn _ _⟩
set_option maxHeartbeats 400000 in
theorem events_any (hz : LOrz w q g w1) (h : Lg w1 base g p v b s E k) : Calls Try.prog 14 #[.pointer q] w fun e w' => ∃ v', e = .returned v' ∧ Row w' w1.heap.size v' E ∧ Below w1.heap.size w1 w' := by
  have hc := h.c3
  have hf := h.few
  obtain ⟨ao, c, rfl, hE⟩ := h.val
  clear h
  generalize hn : E.length = n at *
  go_enter Try.func14, Try.ntmps14
  go_wp2_with fail
  refine Calls.mono hz ?_
  rintro e w2 ⟨rfl, rfl⟩
  go_wp2_with fail
  refine (eclone_any _ _ _ _ _ hE (by omega)).mono ?_
  rintro e w3 ⟨v', rfl, h1, h2⟩
  clear hE
  go_wp2
  go_ret
  exact ⟨v', rfl, h1, h2⟩
end

set_option maxHeartbeats 1000000 in
theorem lsync_any (q : Option Addr) (base g gd : Nat) (p : Option Addr) (v vd : Value) (b : Bool) (s l : List UInt8) (E : List Ev) (k f r : Nat) (w w1 w2 : World) (hz : LOrz w q g w1) (hp : Orz w1 p gd w2)
    (h0 : Lg w1 base g p v b s E k) (h : Lg w2 base g p v b s E k) (hd : Dsk w2 base gd vd l f r) :
    Calls Try.prog 12 #[.pointer q] w fun e w' => e = .returned (.tuple #[]) ∧ Lg w' base g p v b s E E.length ∧ Dsk w' base gd vd l l.length r ∧ ∃ w3, Step gd vd vd w2 w3 ∧ Step g v v w3 w' := by
  have hc0 := h0.c0
  have hf := h.few
  clear h0
  go_enter Try.func12, Try.ntmps12
  go_wp2_with fail
  refine Calls.mono hz ?_
  rintro e w9 ⟨rfl, rfl⟩
  go_wp2_with fail
  refine (sync_any _ _ _ _ _ _ _ _ _ hp hd).mono ?_
  rintro e w3 ⟨rfl, h3, h4⟩
  have hL := h.disk hd h4
  have H5 : Hid _ := hL.set4 E.length (Nat.le_refl _)
  have HD : Hid _ := h3.log hL (Step.set g 4 v w3 (.int .i64 (E.length : Int)))
  have d3 := hL.c3
  have d4 := hL.c4
  have df := hL.fz 4
  obtain ⟨ao, c, rfl, -⟩ := hL.val
  clear h hd hL h3 hc0
  generalize hn : E.length = n at *
  go_wp2
  go_end0
  subst hn
  exact ⟨rfl, H5.out, HD.out, w3, h4, Step.set _ _ _ _ _⟩
end Go.Proofs.Ythdhnilfkpbmpaa
