/-
  A range over a bag's map under way; maps.Values's iterator: each thing comes once, in some order.
-/
import Derived.Test.YtmlfekbmbnfkjabGreatDoorR14
import Derived.Maps.Range
import Derived.Laws.OwnMore
import Derived.Laws.AppendOwnNone
import Derived.Great.BuildSlice
import Derived.Deep.MidRow
import Derived.Test.YtmlfekbmbnfkjabGreatDoorProg
import Derived.Shelf.SlSortCmp.WholeK
import Derived.Test.YtmlfekbmbnfkjabGreatDoorR09
import Derived.Shelf.SlSortCmp.NoneTotal
import Derived.Deep.RegionHeld3
import Derived.Sort.OwnSorted
namespace Go.Proofs.YtmlfekbmbnfkjabGreatDoor.E
set_option maxRecDepth 100000
set_option maxRecDepth 100000
open Go.RowKit Go.Shelf
open Go.ChangeMaps (setBlock heap_setBlock_same heap_setBlock_other)
open Go.MapKept (Stamped stamped_iff)

theorem filter_born : ∀ {l : List MapEntry} {j : Nat} {e : MapEntry}, (l.map (·.born)).Nodup → l[j]? = some e → l.filter (fun x => !(x.born == e.born)) = l.eraseIdx j
  | [], j, e, _, h => by simp at h
  | a :: l, 0, e, hn, h => by
    obtain rfl : a = e := by simpa using h
    simp only [List.map_cons, List.nodup_cons] at hn
    simp only [List.filter_cons, beq_self_eq_true, Bool.not_true, Bool.false_eq_true, if_false, List.eraseIdx_cons_zero]
    refine List.filter_eq_self.2 fun x hx => ?_
    cases hb : x.born == a.born
    · rfl
    · exact absurd (List.mem_map.2 ⟨x, hx, by simpa using hb⟩) hn.1
  | a :: l, j + 1, e, hn, h => by
    simp only [List.map_cons, List.nodup_cons] at hn
    have h' : l[j]? = some e := by simpa using h
    have hne : a.born ≠ e.born := fun hb => hn.1 (List.mem_map.2 ⟨e, List.mem_of_getElem? h', hb.symm⟩)
    have hb : (a.born == e.born) = false := by simpa using hne
    simp only [List.filter_cons, hb, Bool.not_false, if_true, List.eraseIdx_cons_succ]
    rw [filter_born hn.2 h']
theorem left_push (es : Array MapEntry) (seen : Array Nat) (b : Nat) : (leftOf es (seen.push b)).toList = (leftOf es seen).toList.filter (fun x => !(x.born == b)) := by
  unfold leftOf
  rw [Array.toList_filter, Array.toList_filter, List.filter_filter]
  refine List.filter_congr fun x _ => ?_
  rw [contains_push]
  cases seen.contains x.born <;> cases x.born == b <;> rfl

theorem size_it (i : It (Cx 26)) : (Tryz.prog.info? 112).map (·.size) = some (xc i).size := by
  rw [xc_size]; kernel_rfl
theorem st_new (w : World) (i : It (Cx 26)) : (storeVar 112 ⟨w.heap.size, 0, none⟩ (.agg (xc i))).run Tryz.prog (w.alloc (.cells #[Value.int IntKind.i64 0, Value.int IntKind.i64 0, Value.int IntKind.i64 0, Value.int IntKind.i64 0, Value.int IntKind.i64 0, Value.int IntKind.i64 0, Value.int IntKind.i64 0, Value.int IntKind.i64 0, Value.int IntKind.i64 0, Value.int IntKind.i64 0, Value.int IntKind.i64 0, Value.int IntKind.i64 0, Value.int IntKind.i64 0, Value.int IntKind.i64 0, Value.int IntKind.i64 0, Value.int IntKind.i64 0, Value.int IntKind.i64 0, Value.int IntKind.i64 0, Value.int IntKind.i64 0, Value.int IntKind.i64 0, Value.int IntKind.i64 0, Value.int IntKind.i64 0, Value.string { data := #[] }, Value.string { data := #[] }, Value.string { data := #[] }, Value.int IntKind.i64 0, Value.int IntKind.i64 0, Value.int IntKind.i64 0] 112)) = .ok () (w.alloc (.cells (xc i) 112)) := by
  rw [run_storeVar_row (P := Tryz.prog) (w.alloc (.cells #[Value.int IntKind.i64 0, Value.int IntKind.i64 0, Value.int IntKind.i64 0, Value.int IntKind.i64 0, Value.int IntKind.i64 0, Value.int IntKind.i64 0, Value.int IntKind.i64 0, Value.int IntKind.i64 0, Value.int IntKind.i64 0, Value.int IntKind.i64 0, Value.int IntKind.i64 0, Value.int IntKind.i64 0, Value.int IntKind.i64 0, Value.int IntKind.i64 0, Value.int IntKind.i64 0, Value.int IntKind.i64 0, Value.int IntKind.i64 0, Value.int IntKind.i64 0, Value.int IntKind.i64 0, Value.int IntKind.i64 0, Value.int IntKind.i64 0, Value.int IntKind.i64 0, Value.string { data := #[] }, Value.string { data := #[] }, Value.string { data := #[] }, Value.int IntKind.i64 0, Value.int IntKind.i64 0, Value.int IntKind.i64 0] 112)) w.heap.size 112 112 #[Value.int IntKind.i64 0, Value.int IntKind.i64 0, Value.int IntKind.i64 0, Value.int IntKind.i64 0, Value.int IntKind.i64 0, Value.int IntKind.i64 0, Value.int IntKind.i64 0, Value.int IntKind.i64 0, Value.int IntKind.i64 0, Value.int IntKind.i64 0, Value.int IntKind.i64 0, Value.int IntKind.i64 0, Value.int IntKind.i64 0, Value.int IntKind.i64 0, Value.int IntKind.i64 0, Value.int IntKind.i64 0, Value.int IntKind.i64 0, Value.int IntKind.i64 0, Value.int IntKind.i64 0, Value.int IntKind.i64 0, Value.int IntKind.i64 0, Value.int IntKind.i64 0, Value.string { data := #[] }, Value.string { data := #[] }, Value.string { data := #[] }, Value.int IntKind.i64 0, Value.int IntKind.i64 0, Value.int IntKind.i64 0] (xc i) (heap_alloc_new w _) (size_it i) (by rw [xc_size]; rfl) (xc_one i), setRow_new]
theorem ld_at {w : World} {g : Nat} {i : It (Cx 26)} (h : w.heap[g]? = some (.cells (xc i) 112 (0, 0))) : (loadVar 112 ⟨g, 0, none⟩).run Tryz.prog w = .ok (.agg (xc i)) w :=
  run_loadVar_row w g 112 112 _ (0, 0) _ h Tryz.underlying112 rfl (size_it i)
theorem ld_new (w : World) (i : It (Cx 26)) : (loadVar 112 ⟨w.heap.size, 0, none⟩).run Tryz.prog (w.alloc (.cells (xc i) 112)) = .ok (.agg (xc i)) (w.alloc (.cells (xc i) 112)) := ld_at (heap_alloc_new w _)
/-- A range over the map: pre has come, rest is to come. -/
def Rng (w : World) (b r : Nat) (L pre rest : List (It (Cx 26))) : Prop :=
  ∃ (es : Array MapEntry) (clock : Nat) (seen : Array Nat) (c0 : Nat), w.heap[b]? = some (.map es clock) ∧ Stamped es clock ∧ w.heap[r]? = some (.mapIter (some b) clock seen c0) ∧ clock ≤ c0 ∧ (leftOf es seen).toList.map kvE = rest.map kvI ∧ (pre ++ rest).Perm L
theorem Rng.kept {w w' : World} {b r : Nat} {L pre rest : List (It (Cx 26))} (h : Rng w b r L pre rest) (hb : w'.heap[b]? = w.heap[b]?) (hr : w'.heap[r]? = w.heap[r]?) : Rng w' b r L pre rest := by
  obtain ⟨es, clock, seen, c0, h1, h2, h3, rest⟩ := h
  exact ⟨es, clock, seen, c0, hb.trans h1, h2, hr.trans h3, rest⟩
theorem Rng.walks {w w' : World} {b r : Nat} {L pre rest : List (It (Cx 26))} (h : Rng w b r L pre rest) (hk : KeepsWalks w w') : Rng w' b r L pre rest := by
  obtain ⟨es, clock, seen, c0, h1, h2, h3, rest⟩ := h
  exact ⟨es, clock, seen, c0, hk.same b _ h1 rfl, h2, hk.same r _ h3 rfl, rest⟩
theorem Rng.lt {w : World} {b r : Nat} {L pre rest : List (It (Cx 26))} (h : Rng w b r L pre rest) : b < w.heap.size ∧ r < w.heap.size ∧ r ≠ b := by
  obtain ⟨es, clock, seen, c0, h1, h2, h3, -⟩ := h
  refine ⟨(Array.getElem?_eq_some_iff.1 h1).1, (Array.getElem?_eq_some_iff.1 h3).1, ?_⟩
  rintro rfl
  rw [h1] at h3; cases h3
theorem Rng.alloc {w : World} {b r : Nat} {L pre rest : List (It (Cx 26))} (h : Rng w b r L pre rest) (o : Obj) : Rng (w.alloc o) b r L pre rest := h.kept (Below.heap_alloc w o b h.lt.1) (Below.heap_alloc w o r h.lt.2.1)
theorem Rng.walk {w : World} {b r : Nat} {L pre rest : List (It (Cx 26))} (h : Rng w b r L pre rest) : ∃ o : Obj, w.heap[r]? = some o ∧ o.isWalk = true := by
  obtain ⟨es, clock, seen, c0, h1, h2, h3, -⟩ := h
  exact ⟨_, h3, rfl⟩
theorem Rng.perm {w : World} {b r : Nat} {L pre rest : List (It (Cx 26))} (h : Rng w b r L pre rest) : (pre ++ rest).Perm L := by
  obtain ⟨es, clock, seen, c0, h1, h2, h3, h4, h5, h6⟩ := h
  exact h6
theorem Rng.left {w : World} {b r : Nat} {L pre rest : List (It (Cx 26))} (h : Rng w b r L pre rest) : w.rangeLeft b r = rest.length := by
  obtain ⟨es, clock, seen, c0, h1, h2, h3, h4, h5, -⟩ := h
  simp only [World.rangeLeft, h1, h3]
  have := congrArg List.length h5
  simpa using this
/-- 'range m'. -/
theorem Mp.range {w : World} {b : Nat} {S : List (It (Cx 26))} (h : Mp w b S) : ∃ (clock : Nat) (L : List (It (Cx 26))), (Instr.range 79 (.map (some b))).run Tryz.prog w = .ok (.pointer (some ⟨w.heap.size, 0, none⟩)) (w.alloc (.mapIter (some b) clock #[] clock)) ∧
    L.Perm S ∧ Rng (w.alloc (.mapIter (some b) clock #[] clock)) b w.heap.size L [] L := by
  have hlt := h.lt
  obtain ⟨es, clock, L, hb, hst, hL, hp, hS⟩ := h
  refine ⟨clock, L, run_range_map w 79 _ _ b es clock Tryz.underlying79 hb, hp, es, clock, #[], clock, ((MapKept.heap_alloc w _).2 b hlt).trans hb, hst, (MapKept.heap_alloc w _).1, Nat.le_refl _, ?_, List.Perm.refl _⟩
  have e0 : leftOf es #[] = es := Array.filter_eq_self.2 (by simp)
  rw [e0]; exact hL
/-- The step. -/
theorem Rng.next {w : World} {b r : Nat} {L pre rest : List (It (Cx 26))} (h : Rng w b r L pre rest) (ty : TypeId) :
    (rest = [] ∧ (Instr.next (.pointer (some ⟨r, 0, none⟩)) false ty).run Tryz.prog w = .ok (.tuple #[.bool false]) w) ∨
    ∃ (i : It (Cx 26)) (rest' : List (It (Cx 26))) (w' : World), (Instr.next (.pointer (some ⟨r, 0, none⟩)) false ty).run Tryz.prog w = .ok (.tuple #[.bool true, .agg (dotc i.r i.n), .agg (xc i)]) w' ∧
      (Instr.entry (.pointer (some ⟨r, 0, none⟩))).run Tryz.prog w' = .ok (.tuple #[.agg (dotc i.r i.n), .agg (xc i)]) w' ∧ Rng w' b r L (pre ++ [i]) rest' ∧ rest'.length < rest.length ∧ w.grownBy w' (some r) := by
  have hne := h.lt.2.2
  obtain ⟨es, clock, seen, c0, hb, hst, hr, hc, hL, hp⟩ := h
  obtain ⟨s1, s2, s3⟩ := hst
  rcases run_next_at (P := Tryz.prog) w ty r b clock c0 seen es clock hr hb s1 hc with ⟨h0, hrun⟩ | ⟨e, he, w1, hal, hrun⟩
  · refine .inl ⟨?_, hrun⟩
    have : (leftOf es seen).toList = [] := by
      have h2 : leftOf es seen = #[] := Array.eq_empty_of_size_eq_zero h0
      rw [h2]
    rw [this] at hL
    cases rest with
    | nil => rfl
    | cons a l => simp at hL
  · obtain ⟨j, hj⟩ := List.getElem?_of_mem he
    have hnd : ((leftOf es seen).toList.map (·.born)).Nodup := by
      unfold leftOf
      rw [Array.toList_filter]
      exact List.Nodup.sublist (List.Sublist.map _ List.filter_sublist) s2
    have hjL : (rest.map kvI)[j]? = some (kvE e) := by rw [← hL, List.getElem?_map, hj]; rfl
    rw [List.getElem?_map, Option.map_eq_some_iff] at hjL
    obtain ⟨i, hi, hkv⟩ := hjL
    have hk : e.key = .agg (dotc i.r i.n) := (congrArg Prod.fst hkv).symm
    have hv : e.val = .agg (xc i) := (congrArg Prod.snd hkv).symm
    have hr1 : w1.heap[r]? = some (.mapIter (some b) clock seen c0) := by rcases hal with rfl | rfl <;> exact hr
    have hb1 : w1.heap[b]? = some (.map es clock) := by rcases hal with rfl | rfl <;> exact hb
    have hset := MapKept.heap_set (o' := .mapIter (some b) clock (seen.push e.born) clock) hr1
    have hb' : (setBlock w1 r (.mapIter (some b) clock (seen.push e.born) clock)).heap[b]? = some (.map es clock) := (hset.2 b (fun e1 => hne e1.symm)).trans hb1
    refine .inr ⟨i, rest.eraseIdx j, _, by rw [← hk, ← hv]; exact hrun, by rw [← hk, ← hv]; exact run_entry_at _ r b clock seen es clock e hset.1 hb' (mem_left he).1 s2, ⟨es, clock, seen.push e.born, clock, hb', ⟨s1, s2, s3⟩, hset.1, Nat.le_refl _, ?_, ?_⟩, ?_, ?_⟩
    · rw [left_push, filter_born hnd hj, map_erase, hL, map_erase]
    · rw [List.append_assoc]
      refine List.Perm.trans (List.Perm.append_left pre ?_) hp
      exact (perm_erase hi).symm
    · have := (List.getElem?_eq_some_iff.1 hi).1
      rw [List.length_eraseIdx, if_pos this]; omega
    · rcases hal with rfl | rfl <;> exact ⟨rfl, rfl, rfl, by simp [setBlock], fun k _ hk => hset.2 k (fun e1 => hk (by rw [e1]))⟩

set_option maxHeartbeats 1000000 in
/-- What the iterator of maps.Values gives, whatever the loop's body does, so that it leaves maps and iterators alone. -/
theorem valuesf_in (n l Bm b : Nat) (S : List (It (Cx 26))) (hn : 1 ≤ n) (J Jx : List (It (Cx 26)) → World → Prop) (W : World)
    (hY : ∀ pre x W1, J pre W1 → pre.length < S.length → YieldAt Fence.wide (n - 1) Tryz.prog l #[.agg (xc x)] W1 fun e W' =>
      (e = .returned (.bool true) ∧ J (pre ++ [x]) W' ∧ KeepsWalks W1 W') ∨ (e = .returned (.bool false) ∧ Jx (pre ++ [x]) W'))
    (hJ : AbidesFrom W.heap.size J) (hm : W.cell? ⟨Bm, 0, none⟩ = some (.map (some b))) (hM : Mp W b S) (h0 : J [] W) :
    CallsIn Fence.wide n Tryz.prog 172 #[.func (.yield l) #[] #[], .pointer (some ⟨Bm, 0, none⟩)] W fun e W' => (∃ v, e = .returned v) ∧ ((∃ xs, xs.Perm S ∧ J xs W') ∨ (∃ pre, True ∧ Jx pre W')) := by
  obtain ⟨clock, L, hrun, hp, hR⟩ := hM.range
  have hlen := hp.length_eq
  have hJ0 := hJ [] W (W.alloc (.mapIter (some b) clock #[] clock)) none h0 (World.grownBy_alloc W _ none) (fun r e => by cases e)
  have hs0 : W.heap.size < (W.alloc (.mapIter (some b) clock #[] clock)).heap.size := by simp
  refine callsIn_of_wp Tryz.func172 rfl trivial ?_ rfl
  simp only [Tryz.ntmps172, List.size_toArray, List.length_cons, List.length_nil, Nat.reduceAdd, Nat.reduceSub, Array.replicate_succ, Array.replicate_zero, List.push_toArray, List.append_toArray, List.nil_append, List.cons_append]
  gi_wp2
  clear hrun hm
  gi_loopw [4] (fun _ wr => ∃ pre rest : List (It (Cx 26)), Rng wr b W.heap.size L pre rest ∧ J pre wr) (fun _ wr => wr.rangeLeft b W.heap.size)
  case atStart => exact ⟨[], L, hR, hJ0⟩
  case round =>
    clear hR hJ0
    obtain ⟨pre, rest, hR, hJs⟩ := hrel
    have hlr := hR.left
    rcases hR.next 0 with ⟨rfl, hnx⟩ | ⟨i, rest', w2, hnx, hen, hR2, hlt, hg2⟩
    · have hpm := hR.perm
      rw [List.append_nil] at hpm
      clear hY hlr
      gi_wp2
      go_end0
      exact ⟨⟨_, rfl⟩, .inl ⟨pre, hpm.trans hp, hJs⟩⟩
    · have hJ2 : J pre w2 := hJ pre wr w2 (some W.heap.size) hJs hg2 (fun r e => by cases e; exact ⟨Nat.le_refl _, hR.walk⟩)
      have hJ3 : J pre (w2.alloc (.cells (xc i) 112)) := hJ pre w2 _ none hJ2 (World.grownBy_alloc w2 _ none) (fun r e => by cases e)
      have hpl : pre.length < S.length := by
        have := hR2.perm.length_eq
        simp at this
        omega
      obtain ⟨fn, tmps, assign, body, hy, hRd⟩ := hY pre i _ hJ3 hpl
      have hR3 := hR2.alloc (.cells (xc i) 112)
      have HL : Hid _ := hlr
      have HR : Hid (Rng (w2.alloc (.cells (xc i) 112)) b W.heap.size L (pre ++ [i]) rest') := hR3
      have HT : Hid _ := hlt
      have hst := st_new w2 i
      have hld := ld_new w2 i
      clear hY hlr hR3 hJ2 hJ3 hg2 hR2 hR hJs hpl hlt
      gi_wp2_with (first
        | (refine wpListIn_storeR (ty := 112) (x := .tmp 4) (y := .tmp 10) (ad := ⟨w2.heap.size, 0, none⟩) (v := .agg (xc i)) (w' := w2.alloc (.cells (xc i) 112)) rfl rfl rfl rfl hst ?_)
        | (refine wpListIn_loadR (ty := 112) (x := .tmp 4) (ad := ⟨w2.heap.size, 0, none⟩) (v := .agg (xc i)) rfl rfl rfl hld ?_)
        | gi_in)
      refine hRd.mono ?_
      rintro e W3 (⟨rfl, hJ4, hk3⟩ | ⟨rfl, hJx⟩)
      · gi_wp2
        have hR4 := HR.out.walks hk3
        go_roundw
        case rel => exact ⟨pre ++ [i], rest', hR4, hJ4⟩
        case measure => rw [hR4.left, HL.out]; exact HT.out
      · gi_wp2
        refine bodyPost_ret (results_none rfl _ _ _) rfl ?_
        exact ⟨⟨_, rfl⟩, .inr ⟨pre ++ [i], trivial, hJx⟩⟩
theorem values_stops (n Bm b : Nat) (S : List (It (Cx 26))) (hn : 1 ≤ n) (w : World) (hBm : Bm < w.heap.size) (hm : w.cell? ⟨Bm, 0, none⟩ = some (.map (some b))) (hM : Mp w b S) :
    SeqStopsK Fence.wide n Tryz.prog 172 #[.pointer (some ⟨Bm, 0, none⟩)] (fun i : It (Cx 26) => #[.agg (xc i)]) KeepsWalks (fun xs => xs.Perm S) (fun _ => True) S.length w := fun l J Jx W hW hJ _ hY h0 =>
  valuesf_in n l Bm b S hn J Jx W hY hJ ((hW.cell (p := ⟨Bm, 0, none⟩) hBm).trans hm) (hM.below hW hM.lt) h0
end Go.Proofs.YtmlfekbmbnfkjabGreatDoor.E

/-
  Rows of items of the program's own: append, one item read out of the midst, what the sort leaves.
-/
namespace Go.Proofs.YtmlfekbmbnfkjabGreatDoor.E
set_option maxRecDepth 100000
set_option maxRecDepth 100000
open Go.RowKit

/-- What is known of a list's type and xs elements'. -/
structure El (T e : TypeId) (z : Array Value) (bt : Nat) : Prop where
  ht : Tryz.prog.underlying T = some (.slice e)
  hi : (Tryz.prog.info? e).map (fun i => (i.zero, i.size, i.bytes)) = some (some (.agg z), 28, bt)
  hz : z.size = 28
  hb : bt ≤ 512
/-- A row of the program's own. -/
abbrev Rw (e : TypeId) (w : World) (base : Nat) (v : Value) (S : List (It (Cx 26))) : Prop := w.ownsRow base e 28 v S.length (xs S)
theorem rw_nil (e : TypeId) (w : World) (base : Nat) : Rw e w base (.slice none 0 0) [] := World.ownsRow_nil w base _ _
theorem Rw.lower {e : TypeId} {w : World} {base b : Nat} {v : Value} {S : List (It (Cx 26))} (h : Rw e w base v S) (hb : b ≤ base) : Rw e w b v S := by
  refine ⟨h.1, ?_⟩
  rcases h.2 with hn | ⟨g, cap, cur, e, hbg, rest⟩
  · exact .inl hn
  · exact .inr ⟨g, cap, cur, e, Nat.le_trans hb hbg, rest⟩
theorem Rw.keep {e : TypeId} {w w' : World} {base : Nat} {v : Value} {S : List (It (Cx 26))} (h : Rw e w base v S) (hk : ∀ k, v.ownBlock = some k → w'.heap[k]? = w.heap[k]?) : Rw e w' base v S := by
  refine ⟨h.1, ?_⟩
  rcases h.2 with hn | ⟨g, cap, cur, rfl, hbg, hg, rest⟩
  · exact .inl hn
  · exact .inr ⟨g, cap, cur, rfl, hbg, by rw [hk g rfl]; exact hg, rest⟩
theorem Rw.below {e : TypeId} {w w' : World} {base B : Nat} {v : Value} {S : List (It (Cx 26))} (h : Rw e w base v S) (hb : Below B w w') (hB : w.heap.size ≤ B) : Rw e w' base v S :=
  h.keep fun k hk => hb.block k (by have := (h.lt k hk).2; omega)
/-- Which slice it is. -/
theorem Rw.val {e : TypeId} {w : World} {base : Nat} {v : Value} {S : List (It (Cx 26))} (h : Rw e w base v S) : ∃ ao cap, v = .slice ao S.length cap ∧ S.length ≤ cap ∧ cap ≤ maxLen := by
  rcases h.2 with ⟨rfl, h0⟩ | ⟨g, cap, cur, rfl, hbg, hg, hn, hc, rest⟩
  · exact ⟨none, 0, by rw [h0], by omega, Nat.zero_le _⟩
  · exact ⟨_, cap, rfl, hn, hc⟩
/-- One item of it. -/
theorem Rw.atx {e : TypeId} {w : World} {base : Nat} {v : Value} {S : List (It (Cx 26))} (h : Rw e w base v S) {k : Nat} (hk : k < S.length) : ∃ g cap i, v = .slice (some ⟨g, 0, none⟩) S.length cap ∧ S.length ≤ cap ∧ S[k]? = some i ∧ base ≤ g ∧ g < w.heap.size ∧
    w.rangeAt g (k * 28) (xl i) ∧ ∃ cur, w.heap[g]? = some (.cells cur e (0, 0)) := by
  obtain ⟨i, hi⟩ : ∃ i, S[k]? = some i := ⟨_, List.getElem?_eq_getElem hk⟩
  rcases h.2 with ⟨rfl, h0⟩ | ⟨g, cap, cur, rfl, hbg, hg, hn, hc, rest⟩
  · omega
  · have hc := fun j u hu => h.cells (g := g) rfl j u hu
    refine ⟨g, cap, i, rfl, hn, hi, hbg, (Array.getElem?_eq_some_iff.1 hg).1, fun j v hv => ?_, cur, hg⟩
    have := hc _ _ (xs_at k i hi j v hv)
    rw [Addr.add_mid, Nat.zero_add] at this
    exact this

/-- Items that lie at an address. -/
structure Ats (w : World) (ad : Addr) (F : List (It (Cx 26))) : Prop where
  cells : ∀ j u, (xs F)[j]? = some u → w.cell? (ad.add j) = some u
theorem app_new {T e : TypeId} {z : Array Value} {bt : Nat} (E : El T e z bt) {w : World} (base : Nat) (ty : TypeId) (i : TypeInfo) (hi : Tryz.prog.info? e = some i) (hz : i.zero = some (.agg z)) (hsize : i.size = 28) (hbytes : i.bytes = bt)
    (v : Value) (n : Nat) (xs : List Value) (hown : w.ownsRow base e 28 v n xs)
    (a : Addr) (m c : Nat) (news : List Value) (hl : news.length = m * 28) (hnews : ∀ j u, news[j]? = some u → w.cell? (a.add j) = some u) (h1 : ∀ u ∈ news, u.oneCell' = true)
    (hnm : n + m ≤ 1048576) (hm : 0 < m) (v' : Value) (w' : World) (hr : (Builtin.append_ #[T, T] ty #[v, .slice (some a) m c]).run Tryz.prog w = .ok v' w') :
    ∀ k, v'.ownBlock = some k → v.ownBlock = some k ∨ w.heap.size ≤ k := by
  intro k hk
  have ht := E.ht
  have hbt := E.hb
  have hown' := hown
  have hmul : (n + m) * bt ≤ 1048576 * 512 := Nat.mul_le_mul hnm hbt
  have hmul2 : m * bt ≤ 1048576 * 512 := Nat.mul_le_mul (by omega) hbt
  rcases hown.2 with ⟨rfl, rfl⟩ | ⟨g, cap, cur, rfl, hbg, hg, hnc, hcm, hcs, htake⟩
  · have h2 := run_append_nil (P := Tryz.prog) w T ty e i _ ht hi hz a m c news (by rw [hsize]; omega) hnews (by omega) (by omega) (by rw [hbytes]; omega)
    rw [h2] at hr
    simp only [Result.ok.injEq] at hr
    rw [← hr.1] at hk
    simp only [Value.ownBlock, Option.some.injEq] at hk
    right; omega
  · by_cases hroom : n + m ≤ cap
    · obtain ⟨w2, h2, -⟩ := run_append_fits (P := Tryz.prog) w base T ty e i 28 ht hi hsize g n cap xs hown' a m c news (by omega) hnews h1 hroom
      rw [h2] at hr
      simp only [Result.ok.injEq] at hr
      rw [← hr.1] at hk
      exact .inl hk
    · have h2 := run_append_grow (P := Tryz.prog) w T ty e i _ ht hi hz ⟨g, 0, none⟩ n cap xs (by rw [hsize]; exact hown.1) (hown'.cells (g := g) rfl) a m c news (by rw [hsize]; omega) hnews (by omega) (by omega) (growslice_fits (by omega) (by rw [hbytes]; omega))
      rw [h2] at hr
      simp only [Result.ok.injEq] at hr
      rw [← hr.1] at hk
      simp only [Value.ownBlock, Option.some.injEq] at hk
      right; omega
/-- What 'append' of one item does. -/
theorem run_app1 {T e : TypeId} {z : Array Value} {bt : Nat} (E : El T e z bt) {w : World} (ty : TypeId) (base : Nat) (v : Value) (S : List (It (Cx 26))) (hown : Rw e w base v S)
    (ad : Addr) (c : Nat) (i : It (Cx 26)) (hF : Ats w ad [i]) (hnm : S.length < 1048576) (hbase : base ≤ w.heap.size) :
    ∃ v' w', (Builtin.append_ #[T, T] ty #[v, .slice (some ad) 1 c]).run Tryz.prog w = .ok v' w' ∧ Rw e w' base v' (S ++ [i]) ∧ w.grownBy w' v.ownBlock ∧ (∀ k, v'.ownBlock = some k → v.ownBlock = some k ∨ w.heap.size ≤ k) := by
  obtain ⟨i0, hi, hz0, hz1, hz2⟩ := info_parts E.hi
  have hbt := E.hb
  have hmul : (S.length + 1) * bt ≤ 1048576 * 512 := Nat.mul_le_mul (by omega) hbt
  obtain ⟨v', w', hr, h2, h3, -⟩ := run_append_own (P := Tryz.prog) w base T ty e i0 (.agg z) 28 i0.bytes E.ht hi hz0 hz1 rfl E.hz (by omega) v S.length (xs S) hown ad 1 c (xs [i]) (xs_length [i]) hF.cells (xs_one [i]) (by unfold maxLen; omega) (by rw [hz2]; omega) hbase
  have h4 := app_new E base ty i0 hi hz0 hz1 hz2 v S.length (xs S) hown ad 1 c (xs [i]) (xs_length [i]) hF.cells (xs_one [i]) (by omega) (by omega) v' w' hr
  exact ⟨v', w', hr, by rw [Rw, xs_append, List.length_append]; exact h2, h3, h4⟩
/-- A list of one item. -/
theorem run_build1 {T e : TypeId} {z : Array Value} {bt : Nat} (E : El T e z bt) (w : World) (i : It (Cx 26)) : (Instr.buildSlice T 1 #[(0, .agg (xc i))]).run Tryz.prog w = .ok (.slice (some ⟨w.heap.size, 0, none⟩) 1 1) (w.alloc (.cells (xc i) e)) := by
  obtain ⟨i0, hi, hz0, hz1, hz2⟩ := info_parts E.hi
  have hz := E.hz
  refine run_buildSlice w T e 1 _ (xc i) i0 _ E.ht hi hz0 (by rw [hz1]; decide) (by rw [hz1]; decide) ?_
  rw [hz1]
  have := Great.fill_whole (s := 28) (by omega) [.agg (xc i)] ((Array.range (1 * 28)).map ((Value.agg z).cells[· % (Value.agg z).cells.size]!)) (by
    intro v hv
    rw [List.mem_singleton.1 hv]
    exact xc_size i) (by simp)
  refine Eq.trans this ?_
  simp [Value.cells]
theorem ats_new (w : World) (e : TypeId) (i : It (Cx 26)) : Ats (w.alloc (.cells (xc i) e)) ⟨w.heap.size, 0, none⟩ [i] := ⟨fun j u hu => by
  have e1 : xs [i] = xl i := by simp [xs]
  rw [e1] at hu
  rw [Addr.add_mid, Nat.zero_add, cell_of_row (w.alloc (.cells (xc i) e)) w.heap.size j _ _ _ (heap_alloc_new w _)]
  simpa [xc] using hu⟩
theorem ld_mid {w : World} {g off : Nat} {i : It (Cx 26)} (h : w.rangeAt g off (xl i)) : (loadVar 112 ⟨g, off, none⟩).run Tryz.prog w = .ok (.agg (xc i)) w :=
  run_loadVar_mid (P := Tryz.prog) w g off 112 _ _ h Tryz.underlying112 rfl (by rw [xl_length]; kernel_rfl)
theorem Rw.alloc {e : TypeId} {w : World} {base : Nat} {v : Value} {S : List (It (Cx 26))} (h : Rw e w base v S) (o : Obj) : Rw e (w.alloc o) base v S := h.below ((Below.refl _ w).alloc (Nat.le_refl _) o) (Nat.le_refl _)
end Go.Proofs.YtmlfekbmbnfkjabGreatDoor.E

/-
  Where the sort's functions and types stand in this program.
-/
namespace Go.Proofs.YtmlfekbmbnfkjabGreatDoor.E
set_option maxRecDepth 100000

def sortRen : Go.Shelf.Ren := ⟨fun
   
    | 6 => 171
    | 15 => 211
    | 14 => 210
    | 28 => 244
    | 29 => 231
    | 20 => 236
    | 21 => 237
    | 22 => 238
    | 23 => 239
    | 24 => 240
    | 25 => 241
    | 26 => 242
    | 27 => 243
    | 46 => 273
    | 47 => 274
    | 48 => 275
    | 49 => 276
    | 50 => 277
    | 57 => 293
    | n => n, fun
   
    | 22 => 121
    | 24 => 112
    | 25 => 174
    | 3 => 3
    | 39 => 239
    | 0 => 0
    | 53 => 270
    | 55 => 236
    | 4 => 4
    | 46 => 274
    | 45 => 273
    | 50 => 278
    | 5 => 5
    | 9 => 9
    | 66 => 297
    | 70 => 96
    | 76 => 314
    | 77 => 157
    | n => n, fun
   
    | n => n⟩
theorem sortLaid : Go.Proofs.SlLaysF0.n6 Tryz.prog sortRen :=
  {
    mixed := by kernel_rfl,
    f6 := ⟨Tryz.f171.name, by decide, Tryz.func171.trans (congrArg some (by kernel_rfl))⟩,
    f14 := ⟨Tryz.f210.name, by decide, Tryz.func210.trans (congrArg some (by kernel_rfl))⟩,
    f15 := Tryz.func211.trans (congrArg some (by kernel_rfl)),
    f20 := ⟨Tryz.f236.name, by decide, Tryz.func236.trans (congrArg some (by kernel_rfl))⟩,
    f21 := ⟨Tryz.f237.name, by decide, Tryz.func237.trans (congrArg some (by kernel_rfl))⟩,
    f22 := ⟨Tryz.f238.name, by decide, Tryz.func238.trans (congrArg some (by kernel_rfl))⟩,
    f23 := ⟨Tryz.f239.name, by decide, Tryz.func239.trans (congrArg some (by kernel_rfl))⟩,
    f24 := ⟨Tryz.f240.name, by decide, Tryz.func240.trans (congrArg some (by kernel_rfl))⟩,
    f25 := ⟨Tryz.f241.name, by decide, Tryz.func241.trans (congrArg some (by kernel_rfl))⟩,
    f26 := ⟨Tryz.f242.name, by decide, Tryz.func242.trans (congrArg some (by kernel_rfl))⟩,
    f27 := ⟨Tryz.f243.name, by decide, Tryz.func243.trans (congrArg some (by kernel_rfl))⟩,
    f28 := Tryz.func244.trans (congrArg some (by kernel_rfl)),
    f29 := Tryz.func231.trans (congrArg some (by kernel_rfl)),
    f46 := ⟨Tryz.f273.name, by decide, Tryz.func273.trans (congrArg some (by kernel_rfl))⟩,
    f47 := Tryz.func274.trans (congrArg some (by kernel_rfl)),
    f48 := Tryz.func275.trans (congrArg some (by kernel_rfl)),
    f49 := ⟨Tryz.f276.name, by decide, Tryz.func276.trans (congrArg some (by kernel_rfl))⟩,
    f50 := ⟨Tryz.f277.name, by decide, Tryz.func277.trans (congrArg some (by kernel_rfl))⟩,
    f57 := ⟨Tryz.f293.name, by decide, Tryz.func293.trans (congrArg some (by kernel_rfl))⟩,
    t0 := Tryz.underlying0,
    a0 := Tryz.isAgg0,
    z0 := Tryz.sizeOf0,
    v0 := Tryz.zeroValue0,
    t3 := Tryz.underlying3,
    a3 := Tryz.isAgg3,
    z3 := Tryz.sizeOf3,
    v3 := Tryz.zeroValue3,
    t4 := Tryz.underlying4,
    a4 := Tryz.isAgg4,
    z4 := Tryz.sizeOf4,
    v4 := Tryz.zeroValue4,
    t5 := Tryz.underlying5,
    a5 := Tryz.isAgg5,
    z5 := Tryz.sizeOf5,
    v5 := Tryz.zeroValue5,
    t9 := Tryz.underlying9,
    a9 := Tryz.isAgg9,
    z9 := Tryz.sizeOf9,
    v9 := Tryz.zeroValue9,
    t22 := Tryz.underlying121,
    a22 := Tryz.isAgg121,
    z22 := Tryz.sizeOf121,
    v22 := Tryz.zeroValue121,
    t25 := Tryz.underlying174,
    a25 := Tryz.isAgg174,
    z25 := Tryz.sizeOf174,
    v25 := Tryz.zeroValue174,
    t39 := Tryz.underlying239,
    a39 := Tryz.isAgg239,
    z39 := Tryz.sizeOf239,
    v39 := Tryz.zeroValue239,
    t45 := Tryz.underlying273,
    a45 := Tryz.isAgg273,
    z45 := Tryz.sizeOf273,
    v45 := Tryz.zeroValue273,
    t46 := Tryz.underlying274,
    a46 := Tryz.isAgg274,
    z46 := Tryz.sizeOf274,
    v46 := Tryz.zeroValue274,
    t50 := Tryz.underlying278,
    a50 := Tryz.isAgg278,
    z50 := Tryz.sizeOf278,
    v50 := Tryz.zeroValue278,
    t53 := Tryz.underlying270,
    a53 := Tryz.isAgg270,
    z53 := Tryz.sizeOf270,
    v53 := Tryz.zeroValue270,
    t55 := Tryz.underlying236,
    a55 := Tryz.isAgg236,
    z55 := Tryz.sizeOf236,
    v55 := Tryz.zeroValue236,
    t66 := Tryz.underlying297,
    a66 := Tryz.isAgg297,
    z66 := Tryz.sizeOf297,
    v66 := Tryz.zeroValue297,
    t70 := Tryz.underlying96,
    a70 := Tryz.isAgg96,
    z70 := Tryz.sizeOf96,
    v70 := Tryz.zeroValue96,
    t76 := Tryz.underlying314,
    a76 := Tryz.isAgg314,
    z76 := Tryz.sizeOf314,
    v76 := Tryz.zeroValue314,
    t77 := Tryz.underlying157,
    a77 := Tryz.isAgg157,
    z77 := Tryz.sizeOf157,
    v77 := Tryz.zeroValue157 }
end Go.Proofs.YtmlfekbmbnfkjabGreatDoor.E

/-
  What byDots and slices.SortFunc come to: the things in their dots' order.
-/
namespace Go.Proofs.YtmlfekbmbnfkjabGreatDoor.E
set_option maxRecDepth 100000
open Go.RowKit Go.Sort

def cfI (i j : It (Cx 26)) : Int := orI (cmpI i.r j.r) (cmpI i.n j.n)

set_option maxHeartbeats 1000000 in
set_option maxRecDepth 100000 in
theorem bydots_any (i j : It (Cx 26)) (w : World) : Calls Tryz.prog 136 #[.agg (xc i), .agg (xc j)] w fun e w' => e = .returned (.int .i64 (cfI i j)) ∧ ∃ q os', w' = grow (w.drewN q) os' := by
  have hr := fun W => compare_any i.r j.r W
  have hn := fun W => compare_any i.n j.n W
  obtain ⟨W, hW⟩ : ∃ W, (w.alloc (.cells (xc i) 112)).alloc (.cells (xc j) 112) = W := ⟨_, rfl⟩
  have hs : W.heap.size = w.heap.size + 2 := by rw [← hW]; simp
  have ha : W.heap[w.heap.size]? = some (.cells (xc i) 112 (0, 0)) := by
    rw [← hW, Below.heap_alloc _ _ _ (by simp)]
    exact heap_alloc_new w _
  have hb : W.heap[w.heap.size + 1]? = some (.cells (xc j) 112 (0, 0)) := by
    rw [← hW]
    have := heap_alloc_new (w.alloc (.cells (xc i) 112)) (.cells (xc j) 112)
    rwa [World.size_alloc] at this
  have c0 : W.cell? ⟨w.heap.size, 0, none⟩ = some (.int .i64 i.r) := cell_of_row W _ 0 _ _ _ ha
  have c1 : W.cell? ⟨w.heap.size, 1, none⟩ = some (.int .i64 i.n) := cell_of_row W _ 1 _ _ _ ha
  have d0 : W.cell? ⟨w.heap.size + 1, 0, none⟩ = some (.int .i64 j.r) := cell_of_row W _ 0 _ _ _ hb
  have d1 : W.cell? ⟨w.heap.size + 1, 1, none⟩ = some (.int .i64 j.n) := cell_of_row W _ 1 _ _ _ hb
  have hor := fun (b : Nat) (W' : World) => or_any (cmpI i.r j.r) (cmpI i.n j.n) b W'
  rw [show cfI i j = orI (cmpI i.r j.r) (cmpI i.n j.n) from rfl]
  have HO : Hid _ := hor
  generalize orI (cmpI i.r j.r) (cmpI i.n j.n) = c at *
  generalize cmpI i.r j.r = p at *
  generalize cmpI i.n j.n = q at *
  obtain ⟨W2, hW2⟩ : ∃ W2, (W.alloc (.cells #[.int .i64 p, .int .i64 q] 3)).drew = W2 := ⟨_, rfl⟩
  have hb2 : Below W.heap.size W W2 := hW2 ▸ ((Below.refl _ W).alloc (Nat.le_refl _) _).drew
  have f0 := (hb2.cell (p := ⟨w.heap.size, 0, none⟩) (by show w.heap.size < _; omega)).trans c0
  have f1 := (hb2.cell (p := ⟨w.heap.size, 1, none⟩) (by show w.heap.size < _; omega)).trans c1
  have f2 := (hb2.cell (p := ⟨w.heap.size + 1, 0, none⟩) (by show w.heap.size + 1 < _; omega)).trans d0
  have f3 := (hb2.cell (p := ⟨w.heap.size + 1, 1, none⟩) (by show w.heap.size + 1 < _; omega)).trans d1
  have hnew : W2.heap[w.heap.size + 2]? = some (.cells #[.int .i64 p, .int .i64 q] 3 (0, 0)) := by
    rw [← hW2, ← hs]
    exact heap_alloc_new W _
  have g0 : W2.cell? ⟨w.heap.size + 2, 0, none⟩ = some (.int .i64 p) := cell_of_row W2 _ 0 _ _ _ hnew
  have g1 : W2.cell? ⟨w.heap.size + 2, 1, none⟩ = some (.int .i64 q) := cell_of_row W2 _ 1 _ _ _ hnew
  have hgw : Hid (∃ k os', W2 = grow (w.drewN k) os') := ⟨1, _, by
    rw [← hW2, ← hW, alloc_eq_grow, alloc_eq_grow, alloc_eq_grow, grow_grow, grow_grow, drew_grow]; rfl⟩
  have hr' : Hid _ := hr
  have hn' : Hid _ := hn
  clear hor hr hn ha hb hb2 hnew
  go_enter Tryz.func136, Tryz.ntmps136
  go_wp2
  clear hW
  go_region_held3 (fun w' => w'.cell? ⟨w.heap.size, 0, none⟩ = some (.int .i64 i.r) ∧ w'.cell? ⟨w.heap.size, 1, none⟩ = some (.int .i64 i.n) ∧ w'.cell? ⟨w.heap.size + 1, 0, none⟩ = some (.int .i64 j.r) ∧ w'.cell? ⟨w.heap.size + 1, 1, none⟩ = some (.int .i64 j.n))
    (first | assumption | exact ⟨f0, f1, f2, f3⟩ | exact ⟨c0, c1, d0, d1⟩)
    (first
    | (go_at_call_of 174 (Value.int IntKind.i64 i.r); refine Calls.mono (hr'.out _) ?_; rintro e wx ⟨rfl, rfl⟩)
    | (go_at_call_of 174 (Value.int IntKind.i64 i.n); refine Calls.mono (hn'.out _) ?_; rintro e wx ⟨rfl, rfl⟩)
    | (go_at_call 173; refine Calls.mono (HO.out _ _ g0 g1) ?_; rintro e wx ⟨rfl, rfl⟩))
  all_goals
    go_wp2
    go_ret
    exact ⟨rfl, hgw.out⟩
end Go.Proofs.YtmlfekbmbnfkjabGreatDoor.E

/-
  What slices.SortFunc by dots comes to: the same slice, in order.
-/
namespace Go.Proofs.YtmlfekbmbnfkjabGreatDoor.E
set_option maxRecDepth 100000
set_option maxRecDepth 100000
open Go.RowKit Go.Sort

instance : Inhabited (It (Cx 26)) := ⟨⟨0, 0, zx⟩⟩
theorem cfI_lt (i j : It (Cx 26)) : ltOf cfI i j = bef i j := by
  unfold ltOf cfI orI cmpI bef
  by_cases h1 : i.r < j.r
  · simp [h1]
  · by_cases h2 : j.r < i.r
    · have : ¬ i.r = j.r := by omega
      simp [h1, h2, this]
    · have e : i.r = j.r := by omega
      by_cases h3 : i.n < j.n
      · simp [e, h3]
      · by_cases h4 : j.n < i.n <;> simp [e, h3, h4]
theorem cfI_swo : SWO (ltOf (α := It (Cx 26)) cfI) where
  irrefl x := by rw [cfI_lt]; exact bef_irrefl x
  trans x y z h1 h2 := by rw [cfI_lt] at *; exact bef_trans h1 h2
  ntrans x y z h1 h2 := by
    rw [cfI_lt] at *
    cases h : bef x z
    · rfl
    · rw [bef_iff] at h
      have k1 : ¬ (x.r < y.r ∨ (x.r = y.r ∧ x.n < y.n)) := fun e => by rw [bef_iff.2 e] at h1; cases h1
      have k2 : ¬ (y.r < z.r ∨ (y.r = z.r ∧ y.n < z.n)) := fun e => by rw [bef_iff.2 e] at h2; cases h2
      omega
theorem flat_xs (d : Array (It (Cx 26))) : (flatK xl 28 d).toList = xs d.toList := by
  apply List.ext_getElem?
  intro t
  by_cases ht : t < d.size * 28
  · have hk : t / 28 < d.size := by omega
    have hi : d.toList[t / 28]? = some d[t / 28] := by simp [hk]
    have hm : t % 28 < (xl d[t / 28]).length := by rw [xl_length]; omega
    obtain ⟨v, hv⟩ : ∃ v, (xl d[t / 28])[t % 28]? = some v := ⟨_, List.getElem?_eq_getElem hm⟩
    have h1 := xs_at (t / 28) _ hi (t % 28) v hv
    rw [show t / 28 * 28 + t % 28 = t by omega] at h1
    have hsz : t < (flatK xl 28 d).size := by rw [size_flatK]; exact ht
    have h2 := get_flatK xl 28 d t ht
    rw [getElem!_pos _ t hsz, getElem!_pos d _ hk] at h2
    rw [h1, Array.getElem?_toList, Array.getElem?_eq_getElem hsz, h2]
    obtain ⟨h3, h4⟩ := List.getElem?_eq_some_iff.1 hv
    rw [getElem!_pos (xl d[t / 28]) (t % 28) h3, h4]
  · rw [List.getElem?_eq_none (by rw [Array.length_toList, size_flatK]; omega), List.getElem?_eq_none (by rw [xs_length, Array.length_toList]; omega)]
theorem holds_xs {w : World} {g : Nat} {cur : Array Value} {e : TypeId} {L : List (It (Cx 26))} (hb : w.heap[g]? = some (.cells cur e (0, 0))) (ht : cur.toList.take (L.length * 28) = xs L) : HoldsK xl 28 w g 0 L.toArray := by
  intro j hj
  have hj' : j < L.length * 28 := by rw [size_flatK] at hj; simpa using hj
  refine ⟨?_, by simp [World.frozen?, hb]⟩
  have h1 : (cur.toList.take (L.length * 28))[j]? = (flatK xl 28 L.toArray).toList[j]? := by rw [ht, flat_xs]
  rw [List.getElem?_take_of_lt hj', Array.getElem?_toList, Array.getElem?_toList, Array.getElem?_eq_getElem hj] at h1
  simp only [World.cell?, hb, Nat.zero_add]
  simp only [Option.isSome_none, Bool.false_eq_true, if_false]
  rw [h1, getElem!_pos _ j hj]
  rfl
theorem heap_sortedK {w : World} {g n : Nat} {os : Array Obj} {cur : Array Value} {e : TypeId} {fr : Nat × Nat} (d : Array (It (Cx 26))) (hb : w.heap[g]? = some (.cells cur e fr)) :
    (sortWorldK xl 28 w g 0 n d os).heap[g]? = some (.cells (putCells id 0 (flatK xl 28 d) cur) e fr) := by
  have hg : g < w.heap.size := (Array.getElem?_eq_some_iff.1 hb).1
  unfold sortWorldK putRowK
  rw [heap_grow_old _ _ (by simpa using hg)]
  simp [putRow, mapBlock, Sort.ahead, Array.getElem?_modify, hb, onCells]
theorem grownBy_sortedK {w : World} {g n : Nat} {os : Array Obj} (d : Array (It (Cx 26))) : w.grownBy (sortWorldK xl 28 w g 0 n d os) (some g) := by
  unfold sortWorldK putRowK
  refine ⟨rfl, rfl, rfl, by simp, fun k hk hne => ?_⟩
  rw [heap_grow_old _ _ (by simpa using hk)]
  have : g ≠ k := fun e => hne (by rw [e])
  simp [putRow, mapBlock, Sort.ahead, Array.getElem?_modify, this]
theorem take_putCellsK (cur : Array Value) (d : Array (It (Cx 26))) (h : d.size * 28 ≤ cur.size) : (putCells id 0 (flatK xl 28 d) cur).toList.take (d.size * 28) = xs d.toList := by
  rw [← flat_xs]
  apply List.ext_getElem?
  intro j
  by_cases hj : j < d.size * 28
  · have hj2 : j < (flatK xl 28 d).size := by rw [size_flatK]; exact hj
    rw [List.getElem?_take_of_lt hj, Array.getElem?_toList, Array.getElem?_toList, Array.getElem?_eq_getElem hj2]
    simp [putCells, hj, show j < cur.size by omega]
  · rw [List.getElem?_take_eq_none (by omega), List.getElem?_eq_none (by rw [Array.length_toList, size_flatK]; omega)]

theorem sorted_is {L S : List (It (Cx 26))} (hp : L.Perm S) (hS : Srt S) (d : Array (It (Cx 26))) (h1 : PermIn 0 L.toArray.size L.toArray d) (h2 : SortedIn (ltOf cfI) 0 L.toArray.size d) : d.toList = S := by
  obtain ⟨hs, -, hpm⟩ := h1
  have e1 : (d.extract 0 L.toArray.size) = d := by rw [← hs]; exact Array.extract_size
  have e2 : (L.toArray.extract 0 L.toArray.size) = L.toArray := Array.extract_size
  rw [e1, e2] at hpm
  have p1 : d.toList.Perm S := hpm.trans hp
  have ap : d.toList.Pairwise fun a b => ¬ (a.r = b.r ∧ a.n = b.n) := (p1.symm.pairwise_iff (fun {a b} (hh : ¬ (a.r = b.r ∧ a.n = b.n)) e => hh ⟨e.1.symm, e.2.symm⟩)).1 hS.apart
  have sr : Srt d.toList := by
    unfold Srt
    rw [List.pairwise_iff_getElem] at ap ⊢
    intro i j hi hj hij
    have hi' : i < d.size := by simpa using hi
    have hj' : j < d.size := by simpa using hj
    have := h2 i j (Nat.zero_le _) hij (by rw [← hs]; exact hj')
    rw [getElem!_pos d j hj', getElem!_pos d i hi', cfI_lt] at this
    have hne := ap i j hi hj hij
    rcases bef_tri d[i] d[j] with h | h | h
    · rw [isAt_iff] at h
      exact absurd h (by simpa using hne)
    · simpa using h
    · rw [this] at h; cases h
  exact Srt.eq_of_perm sr hS p1

theorem sort_any (v : Value) (L S : List (It (Cx 26))) (base : Nat) (w : World) (hrow : Rw 112 w base v L) (hl : L.length ≤ 1048576) (hp : L.Perm S) (hS : Srt S) :
    Calls Tryz.prog 171 #[v, .func (.func 136) #[] #[]] w fun e w' => e = .returned (.tuple #[]) ∧ Rw 112 w' base v S ∧ w.grownBy w' v.ownBlock := by
  have hlen := hp.length_eq
  rcases hrow.2 with ⟨rfl, h0⟩ | ⟨g, cap, cur, rfl, hbg, hg, hn, hc, hcs, htk⟩
  · have hL : L = [] := List.eq_nil_of_length_eq_zero h0
    subst hL
    have hS0 : S = [] := List.eq_nil_of_length_eq_zero hlen.symm
    subst hS0
    have hcon := AnyF.slices_SortFunc_none sortLaid none 0 (.func (.func 136) #[] #[]) w
    change Calls Tryz.prog 171 _ _ _ at hcon
    refine hcon.mono ?_
    rintro e w' ⟨he, rfl⟩
    exact ⟨he, hrow, World.grownBy.refl _ _⟩
  · have hgl : g < w.heap.size := (Array.getElem?_eq_some_iff.1 hg).1
    have eg : ∀ args w, (callFunc 136 args).run Tryz.prog w = .ok (.enter 136 args) w := enters_of Tryz.func136 (by kernel_rfl) rfl
    have hcmp : CmpLays Tryz.prog 136 #[] xl 28 cfI g 0 L.toArray.size w := fun m os dk _ x y => bydots_any x y _
    have hcon := AnyQ.slices_SortFunc sortLaid 28 Tryz.isAgg112 Tryz.sizeOf112 xl xl_length xl_one cfI cfI_swo 136 #[] g 0 cap L.toArray w eg hcmp (holds_xs hg htk) hgl (by simp; omega)
    change Calls Tryz.prog 171 _ _ _ at hcon
    rw [List.size_toArray] at hcon
    refine hcon.mono ?_
    rintro e w' ⟨he, d, n, os, h1, h2, rfl⟩
    have hd := sorted_is hp hS d (by rw [List.size_toArray]; exact h1) (by rw [List.size_toArray]; exact h2)
    have hds : d.size = L.length := by have := congrArg List.length hd; rw [Array.length_toList] at this; omega
    refine ⟨he, ⟨xs_length S, .inr ⟨g, cap, _, by rw [hlen], hbg, heap_sortedK d hg, by omega, hc, by simp [putCells, hcs], ?_⟩⟩, grownBy_sortedK d⟩
    have := take_putCellsK cur d (by rw [hcs, hds]; omega)
    rw [hd, hds, hlen] at this
    exact this
end Go.Proofs.YtmlfekbmbnfkjabGreatDoor.E

