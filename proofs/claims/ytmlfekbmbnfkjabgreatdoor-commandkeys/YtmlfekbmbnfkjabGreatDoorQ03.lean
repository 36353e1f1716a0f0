/-
  What vec.Has and the reference's Has come to: whether the dot can be, and its number is at most that of its replica.
-/
import Derived.Test.YtmlfekbmbnfkjabGreatDoorQ02
import Derived.Test.YtmlfekbmbnfkjabGreatDoorQ01
import Derived.Deep.Slices
import Derived.ProofKit
import Derived.OpenShut
import Derived.ChangeOld
namespace Go.Proofs.YtmlfekbmbnfkjabGreatDoor
set_option maxRecDepth 100000
open Go.RowKit

/-- Has the vector the dot? -/
def hasv (v : List Int) (r n : Int) : Bool := okdot r n && decide (n ≤ v.getD r.toNat 0)

theorem okcall {f : FuncId} {as' : Array Value} {W : World} {b c : Bool} (h : Calls Tryz.prog f as' W fun e w' => e = .returned (.bool b) ∧ Below W.heap.size W w') (hb : b = c) :
    Calls Tryz.prog f as' W fun e w' => e = .returned (.bool c) ∧ Below W.heap.size W w' := by rw [← hb]; exact h

theorem boxedVD (w : World) (v : List Int) (r n : Int) :
    Lies ((w.alloc (.cells (vals v) 41)).alloc (.cells (dotc r n) 32)) w.heap.size v ∧
    LiesD ((w.alloc (.cells (vals v) 41)).alloc (.cells (dotc r n) 32)) (w.heap.size + 1) r n ∧
    Below w.heap.size w ((w.alloc (.cells (vals v) 41)).alloc (.cells (dotc r n) 32)) := by
  refine ⟨(lies_new w v).alloc _, ?_, ((Below.refl _ _).alloc (Nat.le_refl _) _).alloc (by simp) _⟩
  have := liesD_new (w.alloc (.cells (vals v) 41)) r n
  simpa using this

set_option maxHeartbeats 400000 in
theorem has_any (v : List Int) (r n : Int) (hv : v.length = 16) (w : World) : Calls Tryz.prog 50 #[.agg (vals v), .agg (dotc r n)] w fun e w' => e = .returned (.bool (hasv v r n)) ∧ Below w.heap.size w w' := by
  obtain ⟨hV, hD, hB⟩ := boxedVD w v r n
  have HB : Hid (Below w.heap.size w ((w.alloc (.cells (vals v) 41)).alloc (.cells (dotc r n) 32))) := hB
  clear hB
  rcases Bool.eq_false_or_eq_true (okdot r n) with hk | hk
  · obtain ⟨h0, h1, -, -⟩ := of_decide_eq_true hk
    obtain ⟨k, rfl⟩ : ∃ k : Nat, r = (k : Int) := ⟨r.toNat, by omega⟩
    have hk16 : k < 16 := by omega
    have c0 := hD.cell0
    have c1 := hD.cell1
    have cv := hV.cell (k := k) (by omega)
    have HR : Hid (hasv v (k : Int) n = decide (n ≤ v.getD k 0)) := by show _ = _; rw [hasv, hk, Int.toNat_natCast, Bool.true_and]
    clear h0 h1
    go_enter Tryz.func50, Tryz.ntmps50
    go_wp2_with fail
    refine region_vals [5, 6, 7, 8, 9, 10, 11, 12, 13, 14, 15, 4] [.agg (dotc ((k : Int)) (n)), .bool true, .bool true, .pointer (some ⟨(w.heap.size + 1), 1, none⟩), .int .i64 (n), .pointer (some ⟨(w.heap.size + 1), 0, none⟩), .int .i64 ((k : Int)), .pointer (some ⟨w.heap.size, k, none⟩), .int .i64 ((v.getD k 0)), .bool (decide (n ≤ (v.getD k 0))), .bool (decide (n ≤ (v.getD k 0))), .bool (decide (n ≤ (v.getD k 0)))] _ (by kernel_rfl) (by kernel_rfl) (by rfl) (by decide) (by kernel_rfl) (by simp only [lay, Act.put, List.setIfInBounds_toArray, List.set_cons_zero, List.set_cons_succ, List.getD_cons_zero, List.getD_cons_succ, Nat.reduceAdd]; rfl) ⟨?_, ?_, ?_, ?_, ?_, ?_, ?_, ?_, ?_, ?_, ?_, ?_, trivial⟩ ?_
    · exact .inl ⟨rfl, fun W hb => yields_load rfl rfl (load_dot_run ((hD).below hb (hD).lt))⟩
    · exact .inl ⟨rfl, fun W hb => yields_call (vs := [.agg (dotc ((k : Int)) (n))]) (v := .bool true) rfl rfl (enters_rightdot _ _) (okcall (rightdot_any _ _ W) hk)⟩
    · exact .inl ⟨rfl, fun W hb => yields_move rfl rfl⟩
    · exact .inl ⟨rfl, fun W hb => yields_field rfl rfl (field1_run W _)⟩
    · exact .inl ⟨rfl, fun W hb => yields_load rfl rfl (load_int_run ((hb.cell (block_lt_of_cell c1)).trans c1))⟩
    · exact .inl ⟨rfl, fun W hb => yields_field rfl rfl (field0_run W _)⟩
    · exact .inl ⟨rfl, fun W hb => yields_load rfl rfl (load_int_run ((hb.cell (block_lt_of_cell c0)).trans c0))⟩
    · exact .inl ⟨rfl, fun W hb => yields_indexAddr rfl rfl rfl (run_indexAt_vec W _ k hk16)⟩
    · exact .inl ⟨rfl, fun W hb => yields_load rfl rfl (load_int_run ((hb.cell (block_lt_of_cell cv)).trans cv))⟩
    · exact .inl ⟨rfl, fun W hb => yields_bin rfl rfl rfl (eqGuard_int W) (leq_run W _ _)⟩
    · exact .inl ⟨rfl, fun W hb => yields_pick (b := true) rfl rfl rfl⟩
    · exact .inl ⟨rfl, fun W hb => yields_assign rfl rfl⟩
    intro w2 hb2
    clear c0 c1 cv hD hV
    go_wp2
    go_ret
    exact ⟨by rw [HR.out]; rfl, HB.out.trans (hb2.mono HB.out.size)⟩
  · have HR : Hid (hasv v r n = false) := by show _ = _; rw [hasv, hk, Bool.false_and]
    go_enter Tryz.func50, Tryz.ntmps50
    go_wp2_with fail
    refine region_vals [5, 6, 7, 8, 9, 10, 11, 12, 13, 14, 15, 4] [.agg (dotc (r) (n)), .bool false, .bool false, undef, undef, undef, undef, undef, undef, undef, .bool false, .bool false] _ (by kernel_rfl) (by kernel_rfl) (by rfl) (by decide) (by kernel_rfl) (by simp only [lay, Act.put, List.setIfInBounds_toArray, List.set_cons_zero, List.set_cons_succ, List.getD_cons_zero, List.getD_cons_succ, Nat.reduceAdd]; rfl) ⟨?_, ?_, ?_, ?_, ?_, ?_, ?_, ?_, ?_, ?_, ?_, ?_, trivial⟩ ?_
    · exact .inl ⟨rfl, fun W hb => yields_load rfl rfl (load_dot_run ((hD).below hb (hD).lt))⟩
    · exact .inl ⟨rfl, fun W hb => yields_call (vs := [.agg (dotc (r) (n))]) (v := .bool false) rfl rfl (enters_rightdot _ _) (okcall (rightdot_any _ _ W) hk)⟩
    · exact .inl ⟨rfl, fun W hb => yields_move rfl rfl⟩
    · exact .inr ⟨rfl, rfl⟩
    · exact .inr ⟨rfl, rfl⟩
    · exact .inr ⟨rfl, rfl⟩
    · exact .inr ⟨rfl, rfl⟩
    · exact .inr ⟨rfl, rfl⟩
    · exact .inr ⟨rfl, rfl⟩
    · exact .inr ⟨rfl, rfl⟩
    · exact .inl ⟨rfl, fun W hb => yields_pick (b := false) rfl rfl rfl⟩
    · exact .inl ⟨rfl, fun W hb => yields_assign rfl rfl⟩
    intro w2 hb2
    clear hD hV
    go_wp2
    go_ret
    exact ⟨by rw [HR.out]; rfl, HB.out.trans (hb2.mono HB.out.size)⟩

end Go.Proofs.YtmlfekbmbnfkjabGreatDoor

/-
  Whether a kind adds, whether an event covers another one, which one is later: the program's answers and the reference's.
-/
namespace Go.Proofs.YtmlfekbmbnfkjabGreatDoor
set_option maxRecDepth 100000
set_option maxRecDepth 100000
open Go.RowKit

def coversE (b a : Ev) : Bool := hasv b.deps a.r a.n
set_option maxHeartbeats 400000 in
theorem adds_any (k : Int) (w : World) : Calls Tryz.prog 36 #[.int .i64 k] w fun e w' => e = .returned (.bool (addsE k)) ∧ w' = w := by
  go_enter Tryz.func36, Tryz.ntmps36
  go_wp2
  all_goals
    go_ret
    refine ⟨congrArg (fun b => Ending.returned (.bool b)) (?_ : _ = addsE k), rfl⟩
    simp only [beq_iff_eq, beq_eq_false_iff_ne, ne_eq] at *
    unfold addsE
    first
    | exact (decide_eq_true (by omega)).symm
    | exact (decide_eq_false (by omega)).symm
set_option maxHeartbeats 400000 in
theorem covers_any (b a : Ev) (hl : b.deps.length = 16) (w : World) : Calls Tryz.prog 100 #[.agg (evc b), .agg (evc a)] w fun e w' => e = .returned (.bool (coversE b a)) ∧ Below w.heap.size w w' := by
  obtain ⟨hb, ha, hB⟩ := boxedEE w b a
  have HB : Hid (Below w.heap.size w ((w.alloc (.cells (evc b) 47)).alloc (.cells (evc a) 47))) := hB
  clear hB
  have hd := hb.deps hl
  have hr := ha.dot
  clear hb ha
  go_enter Tryz.func100, Tryz.ntmps100
  go_wp2_with (first | refine load_vec_at rfl rfl rfl hd hl ?_ | refine load_dot_at rfl rfl rfl hr ?_)
  refine (has_any b.deps a.r a.n hl _).mono ?_
  rintro e w1 ⟨rfl, hb1⟩
  clear hd hr
  go_wp2
  go_ret
  exact ⟨rfl, HB.out.trans (hb1.mono HB.out.size)⟩
theorem later_iff (b a : Ev) : laterE b a = true ↔ a.t < b.t ∨ (a.t = b.t ∧ (a.r < b.r ∨ (a.r = b.r ∧ a.n < b.n))) := by
  unfold laterE
  split
  · rw [decide_eq_true_iff]; omega
  · split <;> rw [decide_eq_true_iff] <;> omega
theorem later_both {a b : Ev} (h1 : laterE b a = true) (h2 : laterE a b = true) : False := by
  rw [later_iff] at *; omega
end Go.Proofs.YtmlfekbmbnfkjabGreatDoor

/-
  What is live, plainly: what ends what, the live events of a list in their order, a key's type and what there is of it.
-/
namespace Go.Proofs.YtmlfekbmbnfkjabGreatDoor
set_option maxRecDepth 100000
open Go.Sort
set_option maxRecDepth 100000

deriving instance DecidableEq for Ev
/-- x stands ahead of y. -/
def ltE (x y : Ev) : Bool := laterE y x
theorem ltE_iff {x y : Ev} : ltE x y = true ↔ x.t < y.t ∨ (x.t = y.t ∧ (x.r < y.r ∨ (x.r = y.r ∧ x.n < y.n))) := later_iff y x
theorem ltE_false {x y : Ev} : ltE x y = false ↔ ¬ (x.t < y.t ∨ (x.t = y.t ∧ (x.r < y.r ∨ (x.r = y.r ∧ x.n < y.n)))) := by
  rw [← ltE_iff]; cases ltE x y <;> simp
theorem ltE_swo : SWO ltE where
  irrefl x := by rw [ltE_false]; omega
  trans x y z h1 h2 := by rw [ltE_iff] at *; omega
  ntrans x y z h1 h2 := by rw [ltE_false] at *; omega

/-- S is L in the stable order. -/
structure IsSt (L S : List Ev) : Prop where
  ord : S.Pairwise fun x y => ltE y x = false
  same : ∀ x, S.filter (eqv ltE x) = L.filter (eqv ltE x)
theorem IsSt.uniq {L S T : List Ev} (h : IsSt L S) (k : IsSt L T) : S = T := stable_one ltE_swo h.ord k.ord (fun x => (h.same x).trans (k.same x).symm)
/-- One more. -/
def insE (e : Ev) : List Ev → List Ev
  | [] => [e]
  | x :: S => if laterE x e then e :: x :: S else x :: insE e S
theorem ins_perm (e : Ev) : ∀ S : List Ev, (insE e S).Perm (e :: S)
  | [] => List.Perm.refl _
  | x :: S => by
    rw [insE]
    split
    · exact List.Perm.refl _
    · exact ((ins_perm e S).cons x).trans (List.Perm.swap e x S)
theorem ins_where (e : Ev) : ∀ S : List Ev, S.Pairwise (fun x y => ltE y x = false) → ∃ A B, S = A ++ B ∧ insE e S = A ++ e :: B ∧ (∀ a ∈ A, laterE a e = false) ∧ (∀ b ∈ B, laterE b e = true)
  | [], _ => ⟨[], [], rfl, rfl, by simp, by simp⟩
  | x :: S, h => by
    obtain ⟨h1, h2⟩ := List.pairwise_cons.1 h
    by_cases hx : laterE x e = true
    · refine ⟨[], x :: S, rfl, by rw [insE, if_pos hx]; rfl, by simp, fun b hb => ?_⟩
      rcases List.mem_cons.1 hb with rfl | hb
      · exact hx
      · have h3 : ltE e x = true := hx
        exact (swo_lt_le ltE_swo h3 (h1 b hb) : ltE e b = true)
    · obtain ⟨A, B, e1, e2, e3, e4⟩ := ins_where e S h2
      refine ⟨x :: A, B, by rw [e1]; rfl, by rw [insE, if_neg hx, e2]; rfl, fun a ha => ?_, e4⟩
      rcases List.mem_cons.1 ha with rfl | ha
      · simpa using hx
      · exact e3 a ha
theorem IsSt.ins {L S : List Ev} (h : IsSt L S) (e : Ev) : IsSt (L ++ [e]) (insE e S) := by
  obtain ⟨A, B, e1, e2, e3, e4⟩ := ins_where e S h.ord
  have ho := h.ord
  rw [e1, List.pairwise_append] at ho
  obtain ⟨o1, o2, o3⟩ := ho
  refine ⟨?_, fun x => ?_⟩
  · rw [e2, List.pairwise_append]
    refine ⟨o1, List.pairwise_cons.2 ⟨fun b hb => ?_, o2⟩, fun a ha b hb => ?_⟩
    · exact swo_asym ltE_swo (show ltE e b = true from e4 b hb)
    · rcases List.mem_cons.1 hb with rfl | hb
      · exact e3 a ha
      · exact o3 a ha b hb
  · have hs := h.same x
    rw [e1, List.filter_append] at hs
    rw [e2, List.filter_append, List.filter_append, ← hs]
    by_cases hx : eqv ltE x e = true
    · have hB : B.filter (eqv ltE x) = [] := by
        rw [List.filter_eq_nil_iff]
        intro b hb hxb
        have h1 := ltE_swo.ntrans _ _ _ (eqv_iff.1 hx).2 (eqv_iff.1 hxb).1
        have h2 : ltE e b = true := e4 b hb
        rw [h1] at h2; cases h2
      rw [List.filter_cons_of_pos hx, hB, List.append_nil, List.filter_cons_of_pos hx, List.filter_nil]
    · rw [List.filter_cons_of_neg hx, List.filter_cons_of_neg hx, List.filter_nil, List.append_nil]
def srtE (l : List Ev) : List Ev := l.foldl (fun S e => insE e S) []
theorem foldl_st : ∀ (l L S : List Ev), IsSt L S → IsSt (L ++ l) (l.foldl (fun S e => insE e S) S)
  | [], L, S, h => by rw [List.append_nil]; exact h
  | e :: l, L, S, h => by
    have := foldl_st l (L ++ [e]) (insE e S) (h.ins e)
    rw [List.append_assoc] at this
    exact this
theorem srt_st (l : List Ev) : IsSt l (srtE l) := by
  have := foldl_st l [] [] ⟨List.Pairwise.nil, fun _ => rfl⟩
  rw [List.nil_append] at this
  exact this
theorem foldl_perm : ∀ (l S : List Ev), (l.foldl (fun S e => insE e S) S).Perm (S ++ l)
  | [], S => by rw [List.append_nil]; exact List.Perm.refl _
  | e :: l, S => by
    refine (foldl_perm l (insE e S)).trans ?_
    refine ((ins_perm e S).append_right l).trans ?_
    exact (List.perm_middle (l₁ := S) (l₂ := l) (a := e)).symm
theorem srt_perm (l : List Ev) : (srtE l).Perm l := by
  have := foldl_perm l []
  rw [List.nil_append] at this
  exact this
theorem srt_mem {l : List Ev} {e : Ev} : e ∈ srtE l ↔ e ∈ l := (srt_perm l).mem_iff
theorem srt_length (l : List Ev) : (srtE l).length = l.length := (srt_perm l).length_eq
theorem filter_comm {p q : Ev → Bool} (l : List Ev) : (l.filter p).filter q = (l.filter q).filter p := by
  rw [List.filter_filter, List.filter_filter]
  congr 1
  funext x
  exact Bool.and_comm _ _
theorem srt_filter (p : Ev → Bool) (l : List Ev) : srtE (l.filter p) = (srtE l).filter p := by
  refine (srt_st _).uniq ⟨(srt_st l).ord.filter _, fun x => ?_⟩
  rw [filter_comm, (srt_st l).same x, filter_comm]
/-- Dots. -/
def sameDot (x y : Ev) : Prop := x.r = y.r ∧ x.n = y.n
def Unlike (l : List Ev) : Prop := l.Pairwise fun x y => ¬ sameDot x y
theorem eqv_dot {x y : Ev} (h : eqv ltE x y = true) : sameDot x y := by
  obtain ⟨h1, h2⟩ := eqv_iff.1 h
  rw [ltE_false] at h1 h2
  unfold sameDot
  omega
theorem perm_few {l m : List Ev} (h : l.Perm m) (hl : l.length ≤ 1) : l = m := by
  match l, hl with
  | [], _ => exact (List.Perm.nil_eq h)
  | [a], _ => exact (List.singleton_perm.1 h)
theorem unlike_few {l : List Ev} (h : Unlike l) (x : Ev) : (l.filter (eqv ltE x)).length ≤ 1 := by
  have h1 : (l.filter (eqv ltE x)).Pairwise fun a b => ¬ sameDot a b := h.filter _
  have h2 : ∀ a ∈ l.filter (eqv ltE x), sameDot x a := fun a ha => eqv_dot (List.mem_filter.1 ha).2
  match hh : l.filter (eqv ltE x) with
  | [] => simp
  | [a] => simp
  | a :: b :: t =>
    rw [hh] at h1 h2
    have := (List.pairwise_cons.1 h1).1 b (by simp)
    obtain ⟨a1, a2⟩ := h2 a (by simp)
    obtain ⟨b1, b2⟩ := h2 b (by simp)
    exact absurd ⟨a1.symm.trans b1, a2.symm.trans b2⟩ this
theorem srt_order {l m : List Ev} (h : l.Perm m) (hu : Unlike l) : srtE l = srtE m := by
  refine (srt_st l).uniq ⟨(srt_st m).ord, fun x => ?_⟩
  rw [(srt_st m).same x]
  exact (perm_few (h.filter _) (unlike_few hu x)).symm

/-- Types. -/
def typE (k : Int) : Int := if k = 1 then 1 else if k = 2 then 2 else if k = 3 then 3 else if k = 5 then 4 else if k = 7 then 5 else if k = 9 then 6 else 0
/-- b ends a. -/
def hits (b a : Ev) : Bool := decide (b.kind = 11) || (decide ((b.kind = 4 ∨ b.kind = 3) ∧ a.kind = 3 ∧ b.field = a.field) || (decide ((b.kind = 6 ∨ b.kind = 5) ∧ a.kind = 5 ∧ b.field = a.field) || (decide ((b.kind = 8 ∨ b.kind = 7) ∧ a.kind = 7 ∧ b.field = a.field) || (decide (b.kind = 1 ∧ a.kind = 1) || decide (b.kind = 10 ∧ a.kind = 9 ∧ b.rr = a.r ∧ b.rn = a.n)))))
def endsE (b a : Ev) : Bool := coversE b a && (addsE a.kind && (decide (b.key = a.key) && hits b a))
def isLive (l : List Ev) (a : Ev) : Bool := addsE a.kind && !l.any (fun b => endsE b a)
def liveE (l : List Ev) : List Ev := l.filter (isLive l)
def allE (l : List Ev) : List Ev := srtE (liveE l)
def ofKeyE (key : List UInt8) (l : List Ev) : List Ev := l.filter fun e => decide (e.key = key)
theorem ends_key {b a : Ev} (h : endsE b a = true) : b.key = a.key := by
  unfold endsE at h
  simp only [Bool.and_eq_true, decide_eq_true_eq] at h
  exact h.2.2.1
theorem live_key (key : List UInt8) (l : List Ev) : liveE (ofKeyE key l) = ofKeyE key (liveE l) := by
  unfold liveE ofKeyE
  rw [List.filter_filter, List.filter_filter]
  apply List.filter_congr
  intro a ha
  by_cases hk : a.key = key
  · simp only [hk, decide_true, Bool.and_true, Bool.true_and]
    unfold isLive
    congr 2
    rw [Bool.eq_iff_iff, List.any_eq_true, List.any_eq_true]
    constructor
    · rintro ⟨b, hb, he⟩
      exact ⟨b, (List.mem_filter.1 hb).1, he⟩
    · rintro ⟨b, hb, he⟩
      exact ⟨b, List.mem_filter.2 ⟨hb, by rw [ends_key he, hk]; simp⟩, he⟩
  · simp [hk]
theorem all_key (key : List UInt8) (l : List Ev) : allE (ofKeyE key l) = ofKeyE key (allE l) := by
  unfold allE
  rw [live_key]
  exact srt_filter _ _
theorem all_mem {l : List Ev} {e : Ev} : e ∈ allE l ↔ e ∈ l ∧ isLive l e = true := by
  unfold allE liveE
  rw [srt_mem, List.mem_filter]
theorem all_length (l : List Ev) : (allE l).length ≤ l.length := by
  unfold allE
  rw [srt_length]
  exact List.length_filter_le _ _
/-- The type of the last. -/
def lastE (S : List Ev) : Int := match S.getLast? with | some e => typE e.kind | none => 0
def typeE (l : List Ev) (key : List UInt8) : Int := lastE (ofKeyE key (allE l))
def ofE (l : List Ev) (key : List UInt8) : List Ev := (ofKeyE key (allE l)).filter fun e => decide (typE e.kind = typeE l key)
theorem ofKey_two (key : List UInt8) (l : List Ev) : ofKeyE key (ofKeyE key l) = ofKeyE key l := by
  unfold ofKeyE
  rw [List.filter_filter]
  simp
theorem type_key (l : List Ev) (key : List UInt8) : typeE (ofKeyE key l) key = typeE l key := by
  unfold typeE
  rw [all_key, ofKey_two]
theorem of_key (l : List Ev) (key : List UInt8) : ofE (ofKeyE key l) key = ofE l key := by
  unfold ofE
  rw [all_key, ofKey_two, type_key]
/-- What is live among all, and stands in a part, is live in the part. -/
theorem live_part {l m : List Ev} (hs : ∀ b ∈ m, b ∈ l) {a : Ev} (h : isLive l a = true) : isLive m a = true := by
  unfold isLive at *
  simp only [Bool.and_eq_true, Bool.not_eq_true'] at *
  refine ⟨h.1, ?_⟩
  cases hh : m.any fun b => endsE b a
  · rfl
  · obtain ⟨b, hb, he⟩ := List.any_eq_true.1 hh
    rw [List.any_eq_true.2 ⟨b, hs b hb, he⟩] at h
    exact absurd h.2 (by simp)
end Go.Proofs.YtmlfekbmbnfkjabGreatDoor

/-
  Two operations, two events compared.
-/
namespace Go.Proofs.YtmlfekbmbnfkjabGreatDoor
set_option maxRecDepth 100000
open Go.RowKit

/-- A struct's fields, by name, type and offset, and whether each is the same. -/
def FieldsEq (P : Program) (w : World) (d : Nat) (xs ys : Array Value) : List (String × TypeId × Nat) → List Bool → Prop
  | [], [] => True
  | t :: ts, b :: bs => t.1 ≠ "_" ∧ (∃ x y, (part t.2.1 xs t.2.2).run P w = .ok x w ∧ (part t.2.1 ys t.2.2).run P w = .ok y w ∧ (Op.equalIn d t.2.1 x y).run P w = .ok b w) ∧ FieldsEq P w d xs ys ts bs
  | _, _ => False

theorem run_eqFields {P : Program} {w : World} {d : Nat} {xs ys : Array Value} : ∀ {fs : List Field} {ts : List (String × TypeId × Nat)} {bs : List Bool}, fs.map (fun f => (f.name, f.type, f.offset)) = ts → FieldsEq P w d xs ys ts bs →
    (Op.eqFields d xs ys fs).run P w = .ok (bs.all id) w
  | [], [], [], _, _ => by simp [Op.eqFields]
  | [], [], _ :: _, _, h => h.elim
  | [], _ :: _, _, h, _ => by simp at h
  | _ :: _, [], _, h, _ => by simp at h
  | _ :: _, _ :: _, [], _, h => h.elim
  | f :: fs, t :: ts, b :: bs, h, ⟨h1, ⟨x, y, h2, h3, h4⟩, h5⟩ => by
    simp only [List.map_cons, List.cons.injEq] at h
    obtain ⟨rfl, h⟩ := h
    have ih := run_eqFields h h5
    simp only at h1 h2 h3 h4
    simp only [Op.eqFields, ne_eq, h1, not_false_eq_true, if_true, Sem.run_bind, h2, h3, h4, Result.andThen_ok]
    cases b
    · simp
    · simp [ih]

section
variable (w : World) (d : Nat)
theorem part_int {cs : Array Value} {k : Nat} {v : Value} (h : cs[k]? = some v) : (part 3 cs k).run Tryz.prog w = .ok v w := by
  have h3 : Tryz.prog.underlying 3 = some (.int .i64) := by kernel_rfl
  simp [part, isAgg, run_underlying h3, Sem.run_bind, h]
theorem part_str {cs : Array Value} {k : Nat} {v : Value} (h : cs[k]? = some v) : (part 9 cs k).run Tryz.prog w = .ok v w := by
  have h3 : Tryz.prog.underlying 9 = some .string := by kernel_rfl
  simp [part, isAgg, run_underlying h3, Sem.run_bind, h]
theorem part_dot {cs ds : Array Value} {k : Nat} (h : cs.extract k (k + 2) = ds) : (part 32 cs k).run Tryz.prog w = .ok (.agg ds) w := by
  have ha : (isAgg 32).run Tryz.prog w = .ok true w := by kernel_rfl
  simp [part, Sem.run_bind, ha, h]
theorem equal_int (a b : Int) : (Op.equalIn (d + 1) 3 (.int .i64 a) (.int .i64 b)).run Tryz.prog w = .ok (decide (a = b)) w := by
  have h3 : Tryz.prog.underlying 3 = some (.int .i64) := by kernel_rfl
  rw [run_equalIn_int w d 3 .i64 .i64 a b h3]
  rfl
theorem equal_str (a b : List UInt8) : (Op.equalIn (d + 1) 9 (.string (sb a)) (.string (sb b))).run Tryz.prog w = .ok (decide (a = b)) w := by
  have h3 : Tryz.prog.underlying 9 = some .string := by kernel_rfl
  rw [run_equalIn_string w d 9 _ _ h3, ByteArray.toList_eq, ByteArray.toList_eq, data_sb, data_sb]
  congr 1
  rw [Bool.eq_iff_iff]
  simp
end

/-- Are the operations, the events the same? -/
def sameO (e f : Ev) : Bool := [decide (e.kind = f.kind), decide (e.key = f.key), decide (e.field = f.field), decide (e.value = f.value), decide (e.num = f.num), decide (e.rr = f.rr ∧ e.rn = f.rn)].all id
theorem run_equalIn_op (w : World) (d : Nat) (e f : Ev) : (Op.equalIn (d + 3) 34 (.agg (opc e)) (.agg (opc f))).run Tryz.prog w = .ok (sameO e f) w := by
  rw [run_equalIn_struct w (d + 2) 34 _ _ (by kernel_rfl) (by kernel_rfl)]
  have hm : (Tryz.prog.fieldsOf 34).toList.map (fun f => (f.name, f.type, f.offset)) = [("Kind", 3, 0), ("Key", 9, 1), ("Field", 9, 2), ("Value", 9, 3), ("Num", 3, 4), ("Ref", 32, 5)] := by kernel_rfl
  refine run_eqFields hm ⟨by decide, ⟨_, _, part_int w rfl, part_int w rfl, equal_int w _ _ _⟩, by decide, ⟨_, _, part_str w rfl, part_str w rfl, equal_str w _ _ _⟩, by decide, ⟨_, _, part_str w rfl, part_str w rfl, equal_str w _ _ _⟩,
    by decide, ⟨_, _, part_str w rfl, part_str w rfl, equal_str w _ _ _⟩, by decide, ⟨_, _, part_int w rfl, part_int w rfl, equal_int w _ _ _⟩, by decide, ⟨_, _, part_dot w (ds := dotc e.rr e.rn) rfl, part_dot w (ds := dotc f.rr f.rn) rfl, run_equalIn_dot w _ _ _ _ _⟩, trivial⟩

theorem run_eql_op (w : World) (e f : Ev) : (binOp .eql 34 (.agg (opc e)) (.agg (opc f))).run Tryz.prog w = .ok (.bool (sameO e f)) w := by
  rw [run_eql_struct, run_equalIn_op w 9997, Result.andThen_ok]
theorem plain_op : Tryz.prog.eqGuardType Tryz.prog.depth 34 = false := by kernel_rfl
end Go.Proofs.YtmlfekbmbnfkjabGreatDoor

/-
  An event as an argument: opened.
-/
namespace Go.Proofs.YtmlfekbmbnfkjabGreatDoor
set_option maxRecDepth 100000
set_option maxRecDepth 100000
open Go.ChangeShapes Go.WideShapes Go.ChangeAt Go.RowKit

structure Room (e : Ev) : Prop where
  k : e.key.length ≤ 9223372036854775807
  f : e.field.length ≤ 9223372036854775807
  v : e.value.length ≤ 9223372036854775807
def zv : Ev := ⟨0, 0, 0, zeros, 0, [], [], [], 0, 0, 0⟩
theorem load_ev_run {w : World} {g : Nat} {e : Ev} (h : LiesE w g e) (hl : e.deps.length = 16) : (loadVar 47 ⟨g, 0, none⟩).run Tryz.prog w = .ok (.agg (evc e)) w :=
  run_loadVar_row w g 47 47 _ (0, 0) _ h Tryz.underlying47 rfl (size26 e hl)
theorem field_at {fs : Array Field} {ts : List (TypeId × Nat)} (h : fs.toList.map (fun f => (f.type, f.offset)) = ts) {i : Nat} {t : TypeId × Nat} (hi : ts[i]? = some t) : ∃ f, fs[i]? = some f ∧ f.type = t.1 ∧ f.offset = t.2 := by
  subst h
  rw [List.getElem?_map, Option.map_eq_some_iff] at hi
  obtain ⟨f, hf, rfl⟩ := hi
  exact ⟨f, by simpa using hf, rfl, rfl⟩
theorem one_at {L : List Value} {a : Nat} {v : Value} (h : (L.drop a).take 1 = [v]) : L[a]? = some v := by
  have := congrArg (fun l : List Value => l[0]?) h
  simpa using this
theorem in_at {L : List Value} {a b c : Nat} {v : Value} (h : ((L.drop a).take b)[c]? = some v) : L[a + c]? = some v := by
  rw [List.getElem?_take] at h
  split at h
  · rwa [List.getElem?_drop] at h
  · cases h

section
variable {H : Type} {enc : TypeId × Value → H} {w : World} {base : Nat} {spare : Nat → Bool} {held : Bool} {fuel : Nat} {L : List Value} {x : DataW H × List MemPlace}

/-- A field of a struct. -/
theorem open_field {t : TypeId} {ts : List (TypeId × Nat)} (hu : Tryz.prog.underlying t = some (.struct (Tryz.prog.fieldsOf t))) (hm : (Tryz.prog.fieldsOf t).toList.map (fun f => (f.type, f.offset)) = ts)
    (h : DataW.trod enc Tryz.prog w base spare held fuel t L = some x) : ∃ m, ∀ (i : Nat) (q : TypeId × Nat), ts[i]? = some q → ∃ y, DataW.trod enc Tryz.prog w base spare held m q.1 ((L.drop q.2).take (Tryz.prog.cellsOf q.1)) = some y := by
  obtain ⟨xs, n, -, -, -, hlen, hf⟩ := DataW.trod_struct hu h
  refine ⟨n, fun i q hq => ?_⟩
  obtain ⟨f, h1, h2, h3⟩ := field_at hm hq
  have := hf i f h1
  rw [h2, h3] at this
  have hi : i < xs.length := by
    have := (Array.getElem?_eq_some_iff.1 h1).1
    omega
  rw [List.getElem?_eq_getElem hi] at this
  exact ⟨_, this⟩

theorem cells_int : Tryz.prog.cellsOf 3 = 1 := by kernel_rfl
theorem cells_str : Tryz.prog.cellsOf 9 = 1 := by kernel_rfl
theorem int_in {a m : Nat} {y : DataW H × List MemPlace} (h : DataW.trod enc Tryz.prog w base spare held m 3 ((L.drop a).take (Tryz.prog.cellsOf 3)) = some y) : ∃ n, L[a]? = some (.int .i64 n) := by
  have h3 : Tryz.prog.underlying 3 = some (.int .i64) := by kernel_rfl
  rw [cells_int] at h
  obtain ⟨n, hn, -, -⟩ := DataW.trod_int h3 h
  exact ⟨n, one_at hn⟩
theorem str_in {a m : Nat} {y : DataW H × List MemPlace} (h : DataW.trod enc Tryz.prog w base spare held m 9 ((L.drop a).take (Tryz.prog.cellsOf 9)) = some y) : ∃ s : List UInt8, L[a]? = some (.string (sb s)) ∧ s.length ≤ 9223372036854775807 := by
  have h3 : Tryz.prog.underlying 9 = some .string := by kernel_rfl
  rw [cells_str] at h
  obtain ⟨s, hs, -, hl⟩ := DataW.trod_string h3 h
  have e : s.data.toList.length = s.size := by show s.data.toList.length = s.data.size; simp
  exact ⟨s.data.toList, one_at hs, by rw [e]; unfold maxLen at hl; omega⟩
theorem dot_in (h : DataW.trod enc Tryz.prog w base spare held fuel 32 L = some x) : ∃ r n, L[0]? = some (.int .i64 r) ∧ L[1]? = some (.int .i64 n) := by
  obtain ⟨m, hm⟩ := open_field (ts := [(3, 0), (3, 1)]) (by kernel_rfl) (by kernel_rfl) h
  obtain ⟨y0, h0⟩ := hm 0 _ rfl
  obtain ⟨y1, h1⟩ := hm 1 _ rfl
  obtain ⟨r, hr⟩ := int_in h0
  obtain ⟨n, hn⟩ := int_in h1
  exact ⟨r, n, hr, hn⟩
theorem vec_in (h : DataW.trod enc Tryz.prog w base spare held fuel 41 L = some x) : ∀ i, i < 16 → ∃ n, L[i]? = some (.int .i64 n) := by
  have hu : Tryz.prog.underlying 41 = some (.array 16 3) := by kernel_rfl
  obtain ⟨xs, m, -, -, -, hlx, hget⟩ := DataW.trod_array hu h
  intro i hi
  have := hget i hi
  rw [List.getElem?_eq_getElem (by omega : i < xs.length), cells_int, Nat.mul_one] at this
  exact int_in (a := i) (by rw [cells_int]; exact this)
theorem op_in (h : DataW.trod enc Tryz.prog w base spare held fuel 34 L = some x) : ∃ (k : Int) (s0 s1 s2 : List UInt8) (n r m : Int), L[0]? = some (.int .i64 k) ∧ (L[1]? = some (.string (sb s0)) ∧ L[2]? = some (.string (sb s1)) ∧ L[3]? = some (.string (sb s2))) ∧
    (L[4]? = some (.int .i64 n) ∧ L[5]? = some (.int .i64 r) ∧ L[6]? = some (.int .i64 m)) ∧ s0.length ≤ 9223372036854775807 ∧ s1.length ≤ 9223372036854775807 ∧ s2.length ≤ 9223372036854775807 := by
  obtain ⟨m, hm⟩ := open_field (ts := [(3, 0), (9, 1), (9, 2), (9, 3), (3, 4), (32, 5)]) (by kernel_rfl) (by kernel_rfl) h
  obtain ⟨y0, h0⟩ := hm 0 _ rfl
  obtain ⟨y1, h1⟩ := hm 1 _ rfl
  obtain ⟨y2, h2⟩ := hm 2 _ rfl
  obtain ⟨y3, h3⟩ := hm 3 _ rfl
  obtain ⟨y4, h4⟩ := hm 4 _ rfl
  obtain ⟨y5, h5⟩ := hm 5 _ rfl
  obtain ⟨k, e0⟩ := int_in h0
  obtain ⟨s0, e1, l1⟩ := str_in h1
  obtain ⟨s1, e2, l2⟩ := str_in h2
  obtain ⟨s2, e3, l3⟩ := str_in h3
  obtain ⟨n, e4⟩ := int_in h4
  obtain ⟨r, q, e5, e6⟩ := dot_in h5
  exact ⟨k, s0, s1, s2, n, r, q, e0, ⟨e1, e2, e3⟩, ⟨e4, in_at (a := 5) (c := 0) e5, in_at (a := 5) (c := 1) e6⟩, l1, l2, l3⟩

end

end Go.Proofs.YtmlfekbmbnfkjabGreatDoor

