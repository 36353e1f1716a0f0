/-
  A range over a bag's map under way; maps.Values's iterator: each thing comes once, in some order.
-/
import Derived.Test.YtmlfekbmbnfkjabGreatDoorQ12
import Derived.Test.YtmlfekbmbnfkjabGreatDoorQ36
import Derived.Maps.Range
namespace Go.Proofs.YtmlfekbmbnfkjabGreatDoor.E
set_option maxRecDepth 100000
set_option maxRecDepth 100000
open Go.RowKit Go.Shelf
open Go.ChangeMaps (setBlock heap_setBlock_same heap_setBlock_other)
open Go.MapKept (Stamped stamped_iff)

theorem filter_born : ∀ {l : List MapEntry} {j : Nat} {e : MapEntry}, (l.map (·.born)).Nodup → l[j]? = some e → l.filter (fun x => !(x.born == e.born)) = l.eraseIdx j
  | [], j, e, _, h => by simp at h
  | a :: l, 0, e, hn, h => by
    obtain rfl : a = e := by simpa using h
    simp only [List.map_cons, List.nodup_cons] at hn
    simp only [List.filter_cons, beq_self_eq_true, Bool.not_true, Bool.false_eq_true, if_false, List.eraseIdx_cons_zero]
    refine List.filter_eq_self.2 fun x hx => ?_
    cases hb : x.born == a.born
    · rfl
    · exact absurd (List.mem_map.2 ⟨x, hx, by simpa using hb⟩) hn.1
  | a :: l, j + 1, e, hn, h => by
    simp only [List.map_cons, List.nodup_cons] at hn
    have h' : l[j]? = some e := by simpa using h
    have hne : a.born ≠ e.born := fun hb => hn.1 (List.mem_map.2 ⟨e, List.mem_of_getElem? h', hb.symm⟩)
    have hb : (a.born == e.born) = false := by simpa using hne
    simp only [List.filter_cons, hb, Bool.not_false, if_true, List.eraseIdx_cons_succ]
    rw [filter_born hn.2 h']
theorem left_push (es : Array MapEntry) (seen : Array Nat) (b : Nat) : (leftOf es (seen.push b)).toList = (leftOf es seen).toList.filter (fun x => !(x.born == b)) := by
  unfold leftOf
  rw [Array.toList_filter, Array.toList_filter, List.filter_filter]
  refine List.filter_congr fun x _ => ?_
  rw [contains_push]
  cases seen.contains x.born <;> cases x.born == b <;> rfl

theorem size_it (i : It (Cx 26)) : (Tryz.prog.info? 112).map (·.size) = some (xc i).size := by
  rw [xc_size]; kernel_rfl
theorem st_new (w : World) (i : It (Cx 26)) : (storeVar 112 ⟨w.heap.size, 0, none⟩ (.agg (xc i))).run Tryz.prog (w.alloc (.cells #[Value.int IntKind.i64 0, Value.int IntKind.i64 0, Value.int IntKind.i64 0, Value.int IntKind.i64 0, Value.int IntKind.i64 0, Value.int IntKind.i64 0, Value.int IntKind.i64 0, Value.int IntKind.i64 0, Value.int IntKind.i64 0, Value.int IntKind.i64 0, Value.int IntKind.i64 0, Value.int IntKind.i64 0, Value.int IntKind.i64 0, Value.int IntKind.i64 0, Value.int IntKind.i64 0, Value.int IntKind.i64 0, Value.int IntKind.i64 0, Value.int IntKind.i64 0, Value.int IntKind.i64 0, Value.int IntKind.i64 0, Value.int IntKind.i64 0, Value.int IntKind.i64 0, Value.string { data := #[] }, Value.string { data := #[] }, Value.string { data := #[] }, Value.int IntKind.i64 0, Value.int IntKind.i64 0, Value.int IntKind.i64 0] 112)) = .ok () (w.alloc (.cells (xc i) 112)) := by
  rw [run_storeVar_row (P := Tryz.prog) (w.alloc (.cells #[Value.int IntKind.i64 0, Value.int IntKind.i64 0, Value.int IntKind.i64 0, Value.int IntKind.i64 0, Value.int IntKind.i64 0, Value.int IntKind.i64 0, Value.int IntKind.i64 0, Value.int IntKind.i64 0, Value.int IntKind.i64 0, Value.int IntKind.i64 0, Value.int IntKind.i64 0, Value.int IntKind.i64 0, Value.int IntKind.i64 0, Value.int IntKind.i64 0, Value.int IntKind.i64 0, Value.int IntKind.i64 0, Value.int IntKind.i64 0, Value.int IntKind.i64 0, Value.int IntKind.i64 0, Value.int IntKind.i64 0, Value.int IntKind.i64 0, Value.int IntKind.i64 0, Value.string { data := #[] }, Value.string { data := #[] }, Value.string { data := #[] }, Value.int IntKind.i64 0, Value.int IntKind.i64 0, Value.int IntKind.i64 0] 112)) w.heap.size 112 112 #[Value.int IntKind.i64 0, Value.int IntKind.i64 0, Value.int IntKind.i64 0, Value.int IntKind.i64 0, Value.int IntKind.i64 0, Value.int IntKind.i64 0, Value.int IntKind.i64 0, Value.int IntKind.i64 0, Value.int IntKind.i64 0, Value.int IntKind.i64 0, Value.int IntKind.i64 0, Value.int IntKind.i64 0, Value.int IntKind.i64 0, Value.int IntKind.i64 0, Value.int IntKind.i64 0, Value.int IntKind.i64 0, Value.int IntKind.i64 0, Value.int IntKind.i64 0, Value.int IntKind.i64 0, Value.int IntKind.i64 0, Value.int IntKind.i64 0, Value.int IntKind.i64 0, Value.string { data := #[] }, Value.string { data := #[] }, Value.string { data := #[] }, Value.int IntKind.i64 0, Value.int IntKind.i64 0, Value.int IntKind.i64 0] (xc i) (heap_alloc_new w _) (size_it i) (by rw [xc_size]; rfl) (xc_one i), setRow_new]
theorem ld_at {w : World} {g : Nat} {i : It (Cx 26)} (h : w.heap[g]? = some (.cells (xc i) 112 (0, 0))) : (loadVar 112 ⟨g, 0, none⟩).run Tryz.prog w = .ok (.agg (xc i)) w :=
  run_loadVar_row w g 112 112 _ (0, 0) _ h Tryz.underlying112 rfl (size_it i)
theorem ld_new (w : World) (i : It (Cx 26)) : (loadVar 112 ⟨w.heap.size, 0, none⟩).run Tryz.prog (w.alloc (.cells (xc i) 112)) = .ok (.agg (xc i)) (w.alloc (.cells (xc i) 112)) := ld_at (heap_alloc_new w _)
/-- A range over the map: pre has come, rest is to come. -/
def Rng (w : World) (b r : Nat) (L pre rest : List (It (Cx 26))) : Prop :=
  ∃ (es : Array MapEntry) (clock : Nat) (seen : Array Nat) (c0 : Nat), w.heap[b]? = some (.map es clock) ∧ Stamped es clock ∧ w.heap[r]? = some (.mapIter (some b) clock seen c0) ∧ clock ≤ c0 ∧ (leftOf es seen).toList.map kvE = rest.map kvI ∧ (pre ++ rest).Perm L
theorem Rng.kept {w w' : World} {b r : Nat} {L pre rest : List (It (Cx 26))} (h : Rng w b r L pre rest) (hb : w'.heap[b]? = w.heap[b]?) (hr : w'.heap[r]? = w.heap[r]?) : Rng w' b r L pre rest := by
  obtain ⟨es, clock, seen, c0, h1, h2, h3, rest⟩ := h
  exact ⟨es, clock, seen, c0, hb.trans h1, h2, hr.trans h3, rest⟩
theorem Rng.walks {w w' : World} {b r : Nat} {L pre rest : List (It (Cx 26))} (h : Rng w b r L pre rest) (hk : KeepsWalks w w') : Rng w' b r L pre rest := by
  obtain ⟨es, clock, seen, c0, h1, h2, h3, rest⟩ := h
  exact ⟨es, clock, seen, c0, hk.same b _ h1 rfl, h2, hk.same r _ h3 rfl, rest⟩
theorem Rng.lt {w : World} {b r : Nat} {L pre rest : List (It (Cx 26))} (h : Rng w b r L pre rest) : b < w.heap.size ∧ r < w.heap.size ∧ r ≠ b := by
  obtain ⟨es, clock, seen, c0, h1, h2, h3, -⟩ := h
  refine ⟨(Array.getElem?_eq_some_iff.1 h1).1, (Array.getElem?_eq_some_iff.1 h3).1, ?_⟩
  rintro rfl
  rw [h1] at h3; cases h3
theorem Rng.alloc {w : World} {b r : Nat} {L pre rest : List (It (Cx 26))} (h : Rng w b r L pre rest) (o : Obj) : Rng (w.alloc o) b r L pre rest := h.kept (Below.heap_alloc w o b h.lt.1) (Below.heap_alloc w o r h.lt.2.1)
theorem Rng.walk {w : World} {b r : Nat} {L pre rest : List (It (Cx 26))} (h : Rng w b r L pre rest) : ∃ o : Obj, w.heap[r]? = some o ∧ o.isWalk = true := by
  obtain ⟨es, clock, seen, c0, h1, h2, h3, -⟩ := h
  exact ⟨_, h3, rfl⟩
theorem Rng.perm {w : World} {b r : Nat} {L pre rest : List (It (Cx 26))} (h : Rng w b r L pre rest) : (pre ++ rest).Perm L := by
  obtain ⟨es, clock, seen, c0, h1, h2, h3, h4, h5, h6⟩ := h
  exact h6
theorem Rng.left {w : World} {b r : Nat} {L pre rest : List (It (Cx 26))} (h : Rng w b r L pre rest) : w.rangeLeft b r = rest.length := by
  obtain ⟨es, clock, seen, c0, h1, h2, h3, h4, h5, -⟩ := h
  simp only [World.rangeLeft, h1, h3]
  have := congrArg List.length h5
  simpa using this
/-- 'range m'. -/
theorem Mp.range {w : World} {b : Nat} {S : List (It (Cx 26))} (h : Mp w b S) : ∃ (clock : Nat) (L : List (It (Cx 26))), (Instr.range 79 (.map (some b))).run Tryz.prog w = .ok (.pointer (some ⟨w.heap.size, 0, none⟩)) (w.alloc (.mapIter (some b) clock #[] clock)) ∧
    L.Perm S ∧ Rng (w.alloc (.mapIter (some b) clock #[] clock)) b w.heap.size L [] L := by
  have hlt := h.lt
  obtain ⟨es, clock, L, hb, hst, hL, hp, hS⟩ := h
  refine ⟨clock, L, run_range_map w 79 _ _ b es clock Tryz.underlying79 hb, hp, es, clock, #[], clock, ((MapKept.heap_alloc w _).2 b hlt).trans hb, hst, (MapKept.heap_alloc w _).1, Nat.le_refl _, ?_, List.Perm.refl _⟩
  have e0 : leftOf es #[] = es := Array.filter_eq_self.2 (by simp)
  rw [e0]; exact hL
/-- The step. -/
theorem Rng.next {w : World} {b r : Nat} {L pre rest : List (It (Cx 26))} (h : Rng w b r L pre rest) (ty : TypeId) :
    (rest = [] ∧ (Instr.next (.pointer (some ⟨r, 0, none⟩)) false ty).run Tryz.prog w = .ok (.tuple #[.bool false]) w) ∨
    ∃ (i : It (Cx 26)) (rest' : List (It (Cx 26))) (w' : World), (Instr.next (.pointer (some ⟨r, 0, none⟩)) false ty).run Tryz.prog w = .ok (.tuple #[.bool true, .agg (dotc i.r i.n), .agg (xc i)]) w' ∧
      (Instr.entry (.pointer (some ⟨r, 0, none⟩))).run Tryz.prog w' = .ok (.tuple #[.agg (dotc i.r i.n), .agg (xc i)]) w' ∧ Rng w' b r L (pre ++ [i]) rest' ∧ rest'.length < rest.length ∧ w.grownBy w' (some r) := by
  have hne := h.lt.2.2
  obtain ⟨es, clock, seen, c0, hb, hst, hr, hc, hL, hp⟩ := h
  obtain ⟨s1, s2, s3⟩ := hst
  rcases run_next_at (P := Tryz.prog) w ty r b clock c0 seen es clock hr hb s1 hc with ⟨h0, hrun⟩ | ⟨e, he, w1, hal, hrun⟩
  · refine .inl ⟨?_, hrun⟩
    have : (leftOf es seen).toList = [] := by
      have h2 : leftOf es seen = #[] := Array.eq_empty_of_size_eq_zero h0
      rw [h2]
    rw [this] at hL
    cases rest with
    | nil => rfl
    | cons a l => simp at hL
  · obtain ⟨j, hj⟩ := List.getElem?_of_mem he
    have hnd : ((leftOf es seen).toList.map (·.born)).Nodup := by
      unfold leftOf
      rw [Array.toList_filter]
      exact List.Nodup.sublist (List.Sublist.map _ List.filter_sublist) s2
    have hjL : (rest.map kvI)[j]? = some (kvE e) := by rw [← hL, List.getElem?_map, hj]; rfl
    rw [List.getElem?_map, Option.map_eq_some_iff] at hjL
    obtain ⟨i, hi, hkv⟩ := hjL
    have hk : e.key = .agg (dotc i.r i.n) := (congrArg Prod.fst hkv).symm
    have hv : e.val = .agg (xc i) := (congrArg Prod.snd hkv).symm
    have hr1 : w1.heap[r]? = some (.mapIter (some b) clock seen c0) := by rcases hal with rfl | rfl <;> exact hr
    have hb1 : w1.heap[b]? = some (.map es clock) := by rcases hal with rfl | rfl <;> exact hb
    have hset := MapKept.heap_set (o' := .mapIter (some b) clock (seen.push e.born) clock) hr1
    have hb' : (setBlock w1 r (.mapIter (some b) clock (seen.push e.born) clock)).heap[b]? = some (.map es clock) := (hset.2 b (fun e1 => hne e1.symm)).trans hb1
    refine .inr ⟨i, rest.eraseIdx j, _, by rw [← hk, ← hv]; exact hrun, by rw [← hk, ← hv]; exact run_entry_at _ r b clock seen es clock e hset.1 hb' (mem_left he).1 s2, ⟨es, clock, seen.push e.born, clock, hb', ⟨s1, s2, s3⟩, hset.1, Nat.le_refl _, ?_, ?_⟩, ?_, ?_⟩
    · rw [left_push, filter_born hnd hj, map_erase, hL, map_erase]
    · rw [List.append_assoc]
      refine List.Perm.trans (List.Perm.append_left pre ?_) hp
      exact (perm_erase hi).symm
    · have := (List.getElem?_eq_some_iff.1 hi).1
      rw [List.length_eraseIdx, if_pos this]; omega
    · rcases hal with rfl | rfl <;> exact ⟨rfl, rfl, rfl, by simp [setBlock], fun k _ hk => hset.2 k (fun e1 => hk (by rw [e1]))⟩

set_option maxHeartbeats 1000000 in
/-- What the iterator of maps.Values gives, whatever the loop's body does, so that it leaves maps and iterators alone. -/
theorem valuesf_in (n l Bm b : Nat) (S : List (It (Cx 26))) (hn : 1 ≤ n) (J Jx : List (It (Cx 26)) → World → Prop) (W : World)
    (hY : ∀ pre x W1, J pre W1 → pre.length < S.length → YieldAt Fence.wide (n - 1) Tryz.prog l #[.agg (xc x)] W1 fun e W' =>
      (e = .returned (.bool true) ∧ J (pre ++ [x]) W' ∧ KeepsWalks W1 W') ∨ (e = .returned (.bool false) ∧ Jx (pre ++ [x]) W'))
    (hJ : AbidesFrom W.heap.size J) (hm : W.cell? ⟨Bm, 0, none⟩ = some (.map (some b))) (hM : Mp W b S) (h0 : J [] W) :
    CallsIn Fence.wide n Tryz.prog 172 #[.func (.yield l) #[] #[], .pointer (some ⟨Bm, 0, none⟩)] W fun e W' => (∃ v, e = .returned v) ∧ ((∃ xs, xs.Perm S ∧ J xs W') ∨ (∃ pre, True ∧ Jx pre W')) := by
  obtain ⟨clock, L, hrun, hp, hR⟩ := hM.range
  have hlen := hp.length_eq
  have hJ0 := hJ [] W (W.alloc (.mapIter (some b) clock #[] clock)) none h0 (World.grownBy_alloc W _ none) (fun r e => by cases e)
  have hs0 : W.heap.size < (W.alloc (.mapIter (some b) clock #[] clock)).heap.size := by simp
  refine callsIn_of_wp Tryz.func172 rfl trivial ?_ rfl
  simp only [Tryz.ntmps172, List.size_toArray, List.length_cons, List.length_nil, Nat.reduceAdd, Nat.reduceSub, Array.replicate_succ, Array.replicate_zero, List.push_toArray, List.append_toArray, List.nil_append, List.cons_append]
  gi_wp2
  clear hrun hm
  gi_loopw [4] (fun _ wr => ∃ pre rest : List (It (Cx 26)), Rng wr b W.heap.size L pre rest ∧ J pre wr) (fun _ wr => wr.rangeLeft b W.heap.size)
  case atStart => exact ⟨[], L, hR, hJ0⟩
  case round =>
    clear hR hJ0
    obtain ⟨pre, rest, hR, hJs⟩ := hrel
    have hlr := hR.left
    rcases hR.next 0 with ⟨rfl, hnx⟩ | ⟨i, rest', w2, hnx, hen, hR2, hlt, hg2⟩
    · have hpm := hR.perm
      rw [List.append_nil] at hpm
      clear hY hlr
      gi_wp2
      go_end0
      exact ⟨⟨_, rfl⟩, .inl ⟨pre, hpm.trans hp, hJs⟩⟩
    · have hJ2 : J pre w2 := hJ pre wr w2 (some W.heap.size) hJs hg2 (fun r e => by cases e; exact ⟨Nat.le_refl _, hR.walk⟩)
      have hJ3 : J pre (w2.alloc (.cells (xc i) 112)) := hJ pre w2 _ none hJ2 (World.grownBy_alloc w2 _ none) (fun r e => by cases e)
      have hpl : pre.length < S.length := by
        have := hR2.perm.length_eq
        simp at this
        omega
      obtain ⟨fn, tmps, assign, body, hy, hRd⟩ := hY pre i _ hJ3 hpl
      have hR3 := hR2.alloc (.cells (xc i) 112)
      have HL : Hid _ := hlr
      have HR : Hid (Rng (w2.alloc (.cells (xc i) 112)) b W.heap.size L (pre ++ [i]) rest') := hR3
      have HT : Hid _ := hlt
      have hst := st_new w2 i
      have hld := ld_new w2 i
      clear hY hlr hR3 hJ2 hJ3 hg2 hR2 hR hJs hpl hlt
      gi_wp2_with (first
        | (refine wpListIn_storeR (ty := 112) (x := .tmp 4) (y := .tmp 10) (ad := ⟨w2.heap.size, 0, none⟩) (v := .agg (xc i)) (w' := w2.alloc (.cells (xc i) 112)) rfl rfl rfl rfl hst ?_)
        | (refine wpListIn_loadR (ty := 112) (x := .tmp 4) (ad := ⟨w2.heap.size, 0, none⟩) (v := .agg (xc i)) rfl rfl rfl hld ?_)
        | gi_in)
      refine hRd.mono ?_
      rintro e W3 (⟨rfl, hJ4, hk3⟩ | ⟨rfl, hJx⟩)
      · gi_wp2
        have hR4 := HR.out.walks hk3
        go_roundw
        case rel => exact ⟨pre ++ [i], rest', hR4, hJ4⟩
        case measure => rw [hR4.left, HL.out]; exact HT.out
      · gi_wp2
        refine bodyPost_ret (results_none rfl _ _ _) rfl ?_
        exact ⟨⟨_, rfl⟩, .inr ⟨pre ++ [i], trivial, hJx⟩⟩
theorem values_stops (n Bm b : Nat) (S : List (It (Cx 26))) (hn : 1 ≤ n) (w : World) (hBm : Bm < w.heap.size) (hm : w.cell? ⟨Bm, 0, none⟩ = some (.map (some b))) (hM : Mp w b S) :
    SeqStopsK Fence.wide n Tryz.prog 172 #[.pointer (some ⟨Bm, 0, none⟩)] (fun i : It (Cx 26) => #[.agg (xc i)]) KeepsWalks (fun xs => xs.Perm S) (fun _ => True) S.length w := fun l J Jx W hW hJ _ hY h0 =>
  valuesf_in n l Bm b S hn J Jx W hY hJ ((hW.cell (p := ⟨Bm, 0, none⟩) hBm).trans hm) (hM.below hW hM.lt) h0
end Go.Proofs.YtmlfekbmbnfkjabGreatDoor.E

/-
  A range over a bag's map under way; maps.Values's iterator: each thing comes once, in some order.
-/
namespace Go.Proofs.YtmlfekbmbnfkjabGreatDoor.D
set_option maxRecDepth 100000
set_option maxRecDepth 100000
open Go.RowKit Go.Shelf
open Go.ChangeMaps (setBlock heap_setBlock_same heap_setBlock_other)
open Go.MapKept (Stamped stamped_iff)

theorem filter_born : ∀ {l : List MapEntry} {j : Nat} {e : MapEntry}, (l.map (·.born)).Nodup → l[j]? = some e → l.filter (fun x => !(x.born == e.born)) = l.eraseIdx j
  | [], j, e, _, h => by simp at h
  | a :: l, 0, e, hn, h => by
    obtain rfl : a = e := by simpa using h
    simp only [List.map_cons, List.nodup_cons] at hn
    simp only [List.filter_cons, beq_self_eq_true, Bool.not_true, Bool.false_eq_true, if_false, List.eraseIdx_cons_zero]
    refine List.filter_eq_self.2 fun x hx => ?_
    cases hb : x.born == a.born
    · rfl
    · exact absurd (List.mem_map.2 ⟨x, hx, by simpa using hb⟩) hn.1
  | a :: l, j + 1, e, hn, h => by
    simp only [List.map_cons, List.nodup_cons] at hn
    have h' : l[j]? = some e := by simpa using h
    have hne : a.born ≠ e.born := fun hb => hn.1 (List.mem_map.2 ⟨e, List.mem_of_getElem? h', hb.symm⟩)
    have hb : (a.born == e.born) = false := by simpa using hne
    simp only [List.filter_cons, hb, Bool.not_false, if_true, List.eraseIdx_cons_succ]
    rw [filter_born hn.2 h']
theorem left_push (es : Array MapEntry) (seen : Array Nat) (b : Nat) : (leftOf es (seen.push b)).toList = (leftOf es seen).toList.filter (fun x => !(x.born == b)) := by
  unfold leftOf
  rw [Array.toList_filter, Array.toList_filter, List.filter_filter]
  refine List.filter_congr fun x _ => ?_
  rw [contains_push]
  cases seen.contains x.born <;> cases x.born == b <;> rfl

theorem size_it (i : It (Cx 28)) : (Tryz.prog.info? 135).map (·.size) = some (xc i).size := by
  rw [xc_size]; kernel_rfl
theorem st_new (w : World) (i : It (Cx 28)) : (storeVar 135 ⟨w.heap.size, 0, none⟩ (.agg (xc i))).run Tryz.prog (w.alloc (.cells #[Value.int IntKind.i64 0, Value.int IntKind.i64 0, Value.int IntKind.i64 0, Value.int IntKind.i64 0, Value.int IntKind.i64 0, Value.int IntKind.i64 0, Value.int IntKind.i64 0, Value.int IntKind.i64 0, Value.int IntKind.i64 0, Value.int IntKind.i64 0, Value.int IntKind.i64 0, Value.int IntKind.i64 0, Value.int IntKind.i64 0, Value.int IntKind.i64 0, Value.int IntKind.i64 0, Value.int IntKind.i64 0, Value.int IntKind.i64 0, Value.int IntKind.i64 0, Value.int IntKind.i64 0, Value.int IntKind.i64 0, Value.int IntKind.i64 0, Value.int IntKind.i64 0, Value.string { data := #[] }, Value.string { data := #[] }, Value.string { data := #[] }, Value.int IntKind.i64 0, Value.int IntKind.i64 0, Value.int IntKind.i64 0, Value.int IntKind.i64 0, Value.int IntKind.i64 0] 135)) = .ok () (w.alloc (.cells (xc i) 135)) := by
  rw [run_storeVar_row (P := Tryz.prog) (w.alloc (.cells #[Value.int IntKind.i64 0, Value.int IntKind.i64 0, Value.int IntKind.i64 0, Value.int IntKind.i64 0, Value.int IntKind.i64 0, Value.int IntKind.i64 0, Value.int IntKind.i64 0, Value.int IntKind.i64 0, Value.int IntKind.i64 0, Value.int IntKind.i64 0, Value.int IntKind.i64 0, Value.int IntKind.i64 0, Value.int IntKind.i64 0, Value.int IntKind.i64 0, Value.int IntKind.i64 0, Value.int IntKind.i64 0, Value.int IntKind.i64 0, Value.int IntKind.i64 0, Value.int IntKind.i64 0, Value.int IntKind.i64 0, Value.int IntKind.i64 0, Value.int IntKind.i64 0, Value.string { data := #[] }, Value.string { data := #[] }, Value.string { data := #[] }, Value.int IntKind.i64 0, Value.int IntKind.i64 0, Value.int IntKind.i64 0, Value.int IntKind.i64 0, Value.int IntKind.i64 0] 135)) w.heap.size 135 135 #[Value.int IntKind.i64 0, Value.int IntKind.i64 0, Value.int IntKind.i64 0, Value.int IntKind.i64 0, Value.int IntKind.i64 0, Value.int IntKind.i64 0, Value.int IntKind.i64 0, Value.int IntKind.i64 0, Value.int IntKind.i64 0, Value.int IntKind.i64 0, Value.int IntKind.i64 0, Value.int IntKind.i64 0, Value.int IntKind.i64 0, Value.int IntKind.i64 0, Value.int IntKind.i64 0, Value.int IntKind.i64 0, Value.int IntKind.i64 0, Value.int IntKind.i64 0, Value.int IntKind.i64 0, Value.int IntKind.i64 0, Value.int IntKind.i64 0, Value.int IntKind.i64 0, Value.string { data := #[] }, Value.string { data := #[] }, Value.string { data := #[] }, Value.int IntKind.i64 0, Value.int IntKind.i64 0, Value.int IntKind.i64 0, Value.int IntKind.i64 0, Value.int IntKind.i64 0] (xc i) (heap_alloc_new w _) (size_it i) (by rw [xc_size]; rfl) (xc_one i), setRow_new]
theorem ld_at {w : World} {g : Nat} {i : It (Cx 28)} (h : w.heap[g]? = some (.cells (xc i) 135 (0, 0))) : (loadVar 135 ⟨g, 0, none⟩).run Tryz.prog w = .ok (.agg (xc i)) w :=
  run_loadVar_row w g 135 135 _ (0, 0) _ h Tryz.underlying135 rfl (size_it i)
theorem ld_new (w : World) (i : It (Cx 28)) : (loadVar 135 ⟨w.heap.size, 0, none⟩).run Tryz.prog (w.alloc (.cells (xc i) 135)) = .ok (.agg (xc i)) (w.alloc (.cells (xc i) 135)) := ld_at (heap_alloc_new w _)
/-- A range over the map: pre has come, rest is to come. -/
def Rng (w : World) (b r : Nat) (L pre rest : List (It (Cx 28))) : Prop :=
  ∃ (es : Array MapEntry) (clock : Nat) (seen : Array Nat) (c0 : Nat), w.heap[b]? = some (.map es clock) ∧ Stamped es clock ∧ w.heap[r]? = some (.mapIter (some b) clock seen c0) ∧ clock ≤ c0 ∧ (leftOf es seen).toList.map kvE = rest.map kvI ∧ (pre ++ rest).Perm L
theorem Rng.kept {w w' : World} {b r : Nat} {L pre rest : List (It (Cx 28))} (h : Rng w b r L pre rest) (hb : w'.heap[b]? = w.heap[b]?) (hr : w'.heap[r]? = w.heap[r]?) : Rng w' b r L pre rest := by
  obtain ⟨es, clock, seen, c0, h1, h2, h3, rest⟩ := h
  exact ⟨es, clock, seen, c0, hb.trans h1, h2, hr.trans h3, rest⟩
theorem Rng.walks {w w' : World} {b r : Nat} {L pre rest : List (It (Cx 28))} (h : Rng w b r L pre rest) (hk : KeepsWalks w w') : Rng w' b r L pre rest := by
  obtain ⟨es, clock, seen, c0, h1, h2, h3, rest⟩ := h
  exact ⟨es, clock, seen, c0, hk.same b _ h1 rfl, h2, hk.same r _ h3 rfl, rest⟩
theorem Rng.lt {w : World} {b r : Nat} {L pre rest : List (It (Cx 28))} (h : Rng w b r L pre rest) : b < w.heap.size ∧ r < w.heap.size ∧ r ≠ b := by
  obtain ⟨es, clock, seen, c0, h1, h2, h3, -⟩ := h
  refine ⟨(Array.getElem?_eq_some_iff.1 h1).1, (Array.getElem?_eq_some_iff.1 h3).1, ?_⟩
  rintro rfl
  rw [h1] at h3; cases h3
theorem Rng.alloc {w : World} {b r : Nat} {L pre rest : List (It (Cx 28))} (h : Rng w b r L pre rest) (o : Obj) : Rng (w.alloc o) b r L pre rest := h.kept (Below.heap_alloc w o b h.lt.1) (Below.heap_alloc w o r h.lt.2.1)
theorem Rng.walk {w : World} {b r : Nat} {L pre rest : List (It (Cx 28))} (h : Rng w b r L pre rest) : ∃ o : Obj, w.heap[r]? = some o ∧ o.isWalk = true := by
  obtain ⟨es, clock, seen, c0, h1, h2, h3, -⟩ := h
  exact ⟨_, h3, rfl⟩
theorem Rng.perm {w : World} {b r : Nat} {L pre rest : List (It (Cx 28))} (h : Rng w b r L pre rest) : (pre ++ rest).Perm L := by
  obtain ⟨es, clock, seen, c0, h1, h2, h3, h4, h5, h6⟩ := h
  exact h6
theorem Rng.left {w : World} {b r : Nat} {L pre rest : List (It (Cx 28))} (h : Rng w b r L pre rest) : w.rangeLeft b r = rest.length := by
  obtain ⟨es, clock, seen, c0, h1, h2, h3, h4, h5, -⟩ := h
  simp only [World.rangeLeft, h1, h3]
  have := congrArg List.length h5
  simpa using this
/-- 'range m'. -/
theorem Mp.range {w : World} {b : Nat} {S : List (It (Cx 28))} (h : Mp w b S) : ∃ (clock : Nat) (L : List (It (Cx 28))), (Instr.range 82 (.map (some b))).run Tryz.prog w = .ok (.pointer (some ⟨w.heap.size, 0, none⟩)) (w.alloc (.mapIter (some b) clock #[] clock)) ∧
    L.Perm S ∧ Rng (w.alloc (.mapIter (some b) clock #[] clock)) b w.heap.size L [] L := by
  have hlt := h.lt
  obtain ⟨es, clock, L, hb, hst, hL, hp, hS⟩ := h
  refine ⟨clock, L, run_range_map w 82 _ _ b es clock Tryz.underlying82 hb, hp, es, clock, #[], clock, ((MapKept.heap_alloc w _).2 b hlt).trans hb, hst, (MapKept.heap_alloc w _).1, Nat.le_refl _, ?_, List.Perm.refl _⟩
  have e0 : leftOf es #[] = es := Array.filter_eq_self.2 (by simp)
  rw [e0]; exact hL
/-- The step. -/
theorem Rng.next {w : World} {b r : Nat} {L pre rest : List (It (Cx 28))} (h : Rng w b r L pre rest) (ty : TypeId) :
    (rest = [] ∧ (Instr.next (.pointer (some ⟨r, 0, none⟩)) false ty).run Tryz.prog w = .ok (.tuple #[.bool false]) w) ∨
    ∃ (i : It (Cx 28)) (rest' : List (It (Cx 28))) (w' : World), (Instr.next (.pointer (some ⟨r, 0, none⟩)) false ty).run Tryz.prog w = .ok (.tuple #[.bool true, .agg (dotc i.r i.n), .agg (xc i)]) w' ∧
      (Instr.entry (.pointer (some ⟨r, 0, none⟩))).run Tryz.prog w' = .ok (.tuple #[.agg (dotc i.r i.n), .agg (xc i)]) w' ∧ Rng w' b r L (pre ++ [i]) rest' ∧ rest'.length < rest.length ∧ w.grownBy w' (some r) := by
  have hne := h.lt.2.2
  obtain ⟨es, clock, seen, c0, hb, hst, hr, hc, hL, hp⟩ := h
  obtain ⟨s1, s2, s3⟩ := hst
  rcases run_next_at (P := Tryz.prog) w ty r b clock c0 seen es clock hr hb s1 hc with ⟨h0, hrun⟩ | ⟨e, he, w1, hal, hrun⟩
  · refine .inl ⟨?_, hrun⟩
    have : (leftOf es seen).toList = [] := by
      have h2 : leftOf es seen = #[] := Array.eq_empty_of_size_eq_zero h0
      rw [h2]
    rw [this] at hL
    cases rest with
    | nil => rfl
    | cons a l => simp at hL
  · obtain ⟨j, hj⟩ := List.getElem?_of_mem he
    have hnd : ((leftOf es seen).toList.map (·.born)).Nodup := by
      unfold leftOf
      rw [Array.toList_filter]
      exact List.Nodup.sublist (List.Sublist.map _ List.filter_sublist) s2
    have hjL : (rest.map kvI)[j]? = some (kvE e) := by rw [← hL, List.getElem?_map, hj]; rfl
    rw [List.getElem?_map, Option.map_eq_some_iff] at hjL
    obtain ⟨i, hi, hkv⟩ := hjL
    have hk : e.key = .agg (dotc i.r i.n) := (congrArg Prod.fst hkv).symm
    have hv : e.val = .agg (xc i) := (congrArg Prod.snd hkv).symm
    have hr1 : w1.heap[r]? = some (.mapIter (some b) clock seen c0) := by rcases hal with rfl | rfl <;> exact hr
    have hb1 : w1.heap[b]? = some (.map es clock) := by rcases hal with rfl | rfl <;> exact hb
    have hset := MapKept.heap_set (o' := .mapIter (some b) clock (seen.push e.born) clock) hr1
    have hb' : (setBlock w1 r (.mapIter (some b) clock (seen.push e.born) clock)).heap[b]? = some (.map es clock) := (hset.2 b (fun e1 => hne e1.symm)).trans hb1
    refine .inr ⟨i, rest.eraseIdx j, _, by rw [← hk, ← hv]; exact hrun, by rw [← hk, ← hv]; exact run_entry_at _ r b clock seen es clock e hset.1 hb' (mem_left he).1 s2, ⟨es, clock, seen.push e.born, clock, hb', ⟨s1, s2, s3⟩, hset.1, Nat.le_refl _, ?_, ?_⟩, ?_, ?_⟩
    · rw [left_push, filter_born hnd hj, map_erase, hL, map_erase]
    · rw [List.append_assoc]
      refine List.Perm.trans (List.Perm.append_left pre ?_) hp
      exact (perm_erase hi).symm
    · have := (List.getElem?_eq_some_iff.1 hi).1
      rw [List.length_eraseIdx, if_pos this]; omega
    · rcases hal with rfl | rfl <;> exact ⟨rfl, rfl, rfl, by simp [setBlock], fun k _ hk => hset.2 k (fun e1 => hk (by rw [e1]))⟩

set_option maxHeartbeats 1000000 in
/-- What the iterator of maps.Values gives, whatever the loop's body does, so that it leaves maps and iterators alone. -/
theorem valuesf_in (n l Bm b : Nat) (S : List (It (Cx 28))) (hn : 1 ≤ n) (J Jx : List (It (Cx 28)) → World → Prop) (W : World)
    (hY : ∀ pre x W1, J pre W1 → pre.length < S.length → YieldAt Fence.wide (n - 1) Tryz.prog l #[.agg (xc x)] W1 fun e W' =>
      (e = .returned (.bool true) ∧ J (pre ++ [x]) W' ∧ KeepsWalks W1 W') ∨ (e = .returned (.bool false) ∧ Jx (pre ++ [x]) W'))
    (hJ : AbidesFrom W.heap.size J) (hm : W.cell? ⟨Bm, 0, none⟩ = some (.map (some b))) (hM : Mp W b S) (h0 : J [] W) :
    CallsIn Fence.wide n Tryz.prog 222 #[.func (.yield l) #[] #[], .pointer (some ⟨Bm, 0, none⟩)] W fun e W' => (∃ v, e = .returned v) ∧ ((∃ xs, xs.Perm S ∧ J xs W') ∨ (∃ pre, True ∧ Jx pre W')) := by
  obtain ⟨clock, L, hrun, hp, hR⟩ := hM.range
  have hlen := hp.length_eq
  have hJ0 := hJ [] W (W.alloc (.mapIter (some b) clock #[] clock)) none h0 (World.grownBy_alloc W _ none) (fun r e => by cases e)
  have hs0 : W.heap.size < (W.alloc (.mapIter (some b) clock #[] clock)).heap.size := by simp
  refine callsIn_of_wp Tryz.func222 rfl trivial ?_ rfl
  simp only [Tryz.ntmps222, List.size_toArray, List.length_cons, List.length_nil, Nat.reduceAdd, Nat.reduceSub, Array.replicate_succ, Array.replicate_zero, List.push_toArray, List.append_toArray, List.nil_append, List.cons_append]
  gi_wp2
  clear hrun hm
  gi_loopw [4] (fun _ wr => ∃ pre rest : List (It (Cx 28)), Rng wr b W.heap.size L pre rest ∧ J pre wr) (fun _ wr => wr.rangeLeft b W.heap.size)
  case atStart => exact ⟨[], L, hR, hJ0⟩
  case round =>
    clear hR hJ0
    obtain ⟨pre, rest, hR, hJs⟩ := hrel
    have hlr := hR.left
    rcases hR.next 0 with ⟨rfl, hnx⟩ | ⟨i, rest', w2, hnx, hen, hR2, hlt, hg2⟩
    · have hpm := hR.perm
      rw [List.append_nil] at hpm
      clear hY hlr
      gi_wp2
      go_end0
      exact ⟨⟨_, rfl⟩, .inl ⟨pre, hpm.trans hp, hJs⟩⟩
    · have hJ2 : J pre w2 := hJ pre wr w2 (some W.heap.size) hJs hg2 (fun r e => by cases e; exact ⟨Nat.le_refl _, hR.walk⟩)
      have hJ3 : J pre (w2.alloc (.cells (xc i) 135)) := hJ pre w2 _ none hJ2 (World.grownBy_alloc w2 _ none) (fun r e => by cases e)
      have hpl : pre.length < S.length := by
        have := hR2.perm.length_eq
        simp at this
        omega
      obtain ⟨fn, tmps, assign, body, hy, hRd⟩ := hY pre i _ hJ3 hpl
      have hR3 := hR2.alloc (.cells (xc i) 135)
      have HL : Hid _ := hlr
      have HR : Hid (Rng (w2.alloc (.cells (xc i) 135)) b W.heap.size L (pre ++ [i]) rest') := hR3
      have HT : Hid _ := hlt
      have hst := st_new w2 i
      have hld := ld_new w2 i
      clear hY hlr hR3 hJ2 hJ3 hg2 hR2 hR hJs hpl hlt
      gi_wp2_with (first
        | (refine wpListIn_storeR (ty := 135) (x := .tmp 4) (y := .tmp 10) (ad := ⟨w2.heap.size, 0, none⟩) (v := .agg (xc i)) (w' := w2.alloc (.cells (xc i) 135)) rfl rfl rfl rfl hst ?_)
        | (refine wpListIn_loadR (ty := 135) (x := .tmp 4) (ad := ⟨w2.heap.size, 0, none⟩) (v := .agg (xc i)) rfl rfl rfl hld ?_)
        | gi_in)
      refine hRd.mono ?_
      rintro e W3 (⟨rfl, hJ4, hk3⟩ | ⟨rfl, hJx⟩)
      · gi_wp2
        have hR4 := HR.out.walks hk3
        go_roundw
        case rel => exact ⟨pre ++ [i], rest', hR4, hJ4⟩
        case measure => rw [hR4.left, HL.out]; exact HT.out
      · gi_wp2
        refine bodyPost_ret (results_none rfl _ _ _) rfl ?_
        exact ⟨⟨_, rfl⟩, .inr ⟨pre ++ [i], trivial, hJx⟩⟩
theorem values_stops (n Bm b : Nat) (S : List (It (Cx 28))) (hn : 1 ≤ n) (w : World) (hBm : Bm < w.heap.size) (hm : w.cell? ⟨Bm, 0, none⟩ = some (.map (some b))) (hM : Mp w b S) :
    SeqStopsK Fence.wide n Tryz.prog 222 #[.pointer (some ⟨Bm, 0, none⟩)] (fun i : It (Cx 28) => #[.agg (xc i)]) KeepsWalks (fun xs => xs.Perm S) (fun _ => True) S.length w := fun l J Jx W hW hJ _ hY h0 =>
  valuesf_in n l Bm b S hn J Jx W hY hJ ((hW.cell (p := ⟨Bm, 0, none⟩) hBm).trans hm) (hM.below hW hM.lt) h0
end Go.Proofs.YtmlfekbmbnfkjabGreatDoor.D

