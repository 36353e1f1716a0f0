/-
  What see comes to.
-/
import Derived.Test.YtmlfekbmbnfkjabGreatDoorQ45
import Derived.Lib.MinMax
import Derived.Test.YtmlfekbmbnfkjabGreatDoorQ18
namespace Go.Proofs.YtmlfekbmbnfkjabGreatDoor
set_option maxRecDepth 100000
open Go.RowKit
open Go.ChangeMaps (setBlock)

/-- Maps that are new belong to the key. -/
def Lay.more (Y : Lay) (key : Key) (m1 m2 : Option Nat) : Lay := { Y with own := fun k => if m1 = some k ∨ m2 = some k then some key else Y.own k }
theorem SpK.step {Y : Lay} {w w' : World} {g : Nat} {s : St} {key : Key} {h : Nat} {m1 m2 m1' m2' : Option Nat} {L L' : List Ev} {DL DL' : List Ed} (hS : SpK Y w g s (some key)) (hd : Hand Y w key h m1 m2 L DL) (ht : To h m1 m2 m1' m2' w w') (hH : Ho w' h m1' m2' L' DL') :
    SpK (Y.more key m1' m2') w' g s (some key) ∧ Hand (Y.more key m1' m2') w' key h m1' m2' L' DL' ∧ Tm g Y (Y.more key m1' m2') w w' := by
  have hnew : ∀ k, (m1' = some k ∨ m2' = some k) → Y.own k = some key ∨ w.heap.size ≤ k := fun k hk => by
    rcases hk with hk | hk
    · rcases ht.own1 k hk with q | q
      · exact .inl (hd.o1 k q)
      · exact .inr q
    · rcases ht.own2 k hk with q | q
      · exact .inl (hd.o2 k q)
      · exact .inr q
  have hkeep : ∀ k, k < w.heap.size → Y.own k ≠ some key → w'.heap[k]? = w.heap[k]? := fun k hk hne => ht.block k hk (fun e => hne (by rw [e]; exact hd.oh)) (fun e => hne (hd.o1 k e)) (fun e => hne (hd.o2 k e))
  have hold : ∀ k, k < w.heap.size → Y.own k ≠ some key → (Y.more key m1' m2').own k = Y.own k := fun k hk hne => by
    unfold Lay.more
    simp only
    rw [if_neg]
    intro e
    rcases hnew k e with q | q
    · exact hne q
    · omega
  have hgk : Y.own g ≠ some key := by rw [hS.og]; simp
  have hoth : ∀ p ∈ Y.S, some key ≠ some p.1 → ∀ k, Y.own k = some p.1 → k < w.heap.size ∧ Y.own k ≠ some key := fun p hp hx k hk => ⟨hS.ol k (by rw [hk]; simp), fun e => hx (e.symm.trans hk)⟩
  refine ⟨⟨by rw [hkeep g hS.lt hgk]; exact hS.blk, hS.len, ?_, fun p hp hx => ?_, hS.has, by rw [hold g hS.lt hgk]; exact hS.og, fun b hb => ?_, fun p hp hx => ?_, fun k hk => ?_, hS.srL, hS.srD, hS.wl, hS.wd⟩, ⟨hH, ?_, fun k hk => ?_, fun k hk => ?_, hd.mem⟩, ht.os, ht.tape, ht.output, ht.size, fun k hk _ _ ho => hkeep k hk (by rw [ho]; simp), fun _ e => .inl e, fun k hk => ?_⟩
  · rcases hS.map with hn | ⟨b, e, hm⟩
    · exact .inl hn
    · exact .inr ⟨b, e, hm.kept (hkeep b hm.lt (by rw [hS.ob b e]; simp))⟩
  · refine (hS.ho p hp hx).kept fun i hi ho => ?_
    obtain ⟨q1, q2, q3⟩ := hS.oh p hp hx
    rcases ho with rfl | ho | ho
    · exact hkeep _ hi (hoth p hp hx _ q1).2
    · exact hkeep _ hi (hoth p hp hx _ (q2 i ho)).2
    · exact hkeep _ hi (hoth p hp hx _ (q3 i ho)).2
  · have hb' : Y.own b = none := hS.ob b hb
    rw [hold b (hS.mlt b hb).1 (by rw [hb']; simp)]
    exact hb'
  · obtain ⟨q1, q2, q3⟩ := hS.oh p hp hx
    refine ⟨?_, fun k hk => ?_, fun k hk => ?_⟩
    · obtain ⟨a, c⟩ := hoth p hp hx _ q1
      rw [hold _ a c]; exact q1
    · obtain ⟨a, c⟩ := hoth p hp hx _ (q2 k hk)
      rw [hold _ a c]; exact q2 k hk
    · obtain ⟨a, c⟩ := hoth p hp hx _ (q3 k hk)
      rw [hold _ a c]; exact q3 k hk
  · unfold Lay.more at hk
    simp only at hk
    split at hk
    · rename_i e
      rcases e with e | e
      · exact (hH.live.own k e).1
      · exact (hH.dead.own k e).1
    · exact Nat.lt_of_lt_of_le (hS.ol k hk) ht.size
  · unfold Lay.more
    simp only
    split
    · rfl
    · exact hd.oh
  · unfold Lay.more
    simp only
    rw [if_pos (.inl hk)]
  · unfold Lay.more
    simp only
    rw [if_pos (.inr hk)]
  · unfold Lay.more at hk
    simp only at hk
    split at hk
    · rename_i e
      rcases hnew k e with q | q
      · exact .inl (by rw [q]; simp)
      · exact .inr q
    · exact .inl hk
/-- Another key's part of it plays no part. -/
theorem SpK.swap {Y : Lay} {w : World} {g : Nat} {s s' : St} {key : Key} (hS : SpK Y w g s (some key)) (h1 : s'.seen = s.seen) (h2 : s'.time = s.time) (hL : ∀ k, k ≠ key → ofKeyE k s'.L = ofKeyE k s.L) (hD : ∀ k, k ≠ key → ofKeyD k s'.DL = ofKeyD k s.DL)
    (srL : SrE s'.L) (srD : SrD s'.DL) (wl : ∀ a ∈ s'.L, Wide a) (wd : ∀ d ∈ s'.DL, Wide d.push) : SpK Y w g s' (some key) := by
  refine ⟨?_, by rw [h1]; exact hS.len, hS.map, fun p hp hx => ?_, fun k hx => ?_, hS.og, hS.ob, hS.oh, hS.ol, srL, srD, wl, wd⟩
  · have : spc s' Y.km = spc s Y.km := by unfold spc; rw [h1, h2]
    rw [this]; exact hS.blk
  · have hk : p.1 ≠ key := fun e => hx (by rw [e])
    rw [hL _ hk, hD _ hk]
    exact hS.ho p hp hx
  · have hk : k ≠ key := fun e => hx (by rw [e])
    rw [hL _ hk, hD _ hk]
    exact hS.has k hx
/-- The key's block comes into hand. -/
theorem SpK.take {Y : Lay} {w : World} {g : Nat} {s : St} {key : Key} {h : Nat} (hS : SpK Y w g s none) (ha : at? Y.S key = some h) : SpK Y w g s (some key) ∧ Hand Y w key h (Y.m1 h) (Y.m2 h) (ofKeyE key s.L) (ofKeyD key s.DL) := by
  have hm := at_mem ha
  obtain ⟨q1, q2, q3⟩ := hS.oh _ hm (by simp)
  exact ⟨⟨hS.blk, hS.len, hS.map, fun p hp _ => hS.ho p hp (by simp), fun k _ => hS.has k (by simp), hS.og, hS.ob, fun p hp _ => hS.oh p hp (by simp), hS.ol, hS.srL, hS.srD, hS.wl, hS.wd⟩, hS.ho _ hm (by simp), q1, q2, q3, fun h' hm' => nodup_one hS.nodup hm' hm⟩
def Lay.gain (Y : Lay) (key : Key) (h : Nat) : Lay := { Y with own := fun k => if k = h then some key else Y.own k }
theorem SpK.take_new {Y : Lay} {w : World} {g : Nat} {s : St} {key : Key} (hS : SpK Y w g s none) (ha : at? Y.S key = none) : SpK (Y.gain key w.heap.size) (w.alloc (.cells #[.map none, .map none] 86)) g s (some key) ∧
    Hand (Y.gain key w.heap.size) (w.alloc (.cells #[.map none, .map none] 86)) key w.heap.size none none (ofKeyE key s.L) (ofKeyD key s.DL) ∧ Tm g Y (Y.gain key w.heap.size) w (w.alloc (.cells #[.map none, .map none] 86)) := by
  have hb : Below w.heap.size w (w.alloc (.cells #[.map none, .map none] 86)) := (Below.refl _ w).alloc (Nat.le_refl _) _
  have hS1 := hS.below hb (Nat.le_refl _)
  have hno : ofKeyE key s.L = [] ∧ ofKeyD key s.DL = [] := by
    have this : ¬ (ofKeyE key s.L ≠ [] ∨ ofKeyD key s.DL ≠ []) := fun q => by
      obtain ⟨h, hm⟩ := (hS.has key (by simp)).2 q
      exact at_none ha h hm
    refine ⟨?_, ?_⟩
    · by_cases e : ofKeyE key s.L = []
      · exact e
      · exact absurd (.inl e) this
    · by_cases e : ofKeyD key s.DL = []
      · exact e
      · exact absurd (.inr e) this
  have hold : ∀ k, Y.own k ≠ none → (Y.gain key w.heap.size).own k = Y.own k := fun k hk => by
    unfold Lay.gain
    simp only
    rw [if_neg (by have := hS.ol k hk; omega)]
  have hlt : ∀ k, k < w.heap.size → (Y.gain key w.heap.size).own k = Y.own k := fun k hk => by
    unfold Lay.gain
    simp only
    rw [if_neg (by omega)]
  refine ⟨⟨hS1.blk, hS.len, hS1.map, fun p hp _ => hS1.ho p hp (by simp), fun k _ => hS.has k (by simp), by rw [hlt g hS.lt]; exact hS.og, fun b hb' => by rw [hlt b (hS.mlt b hb').1]; exact hS.ob b hb', fun p hp _ => ?_, fun k hk => ?_, hS.srL, hS.srD, hS.wl, hS.wd⟩, ⟨?_, ?_, fun k e => (by cases e), fun k e => (by cases e), fun h' hm => absurd hm (at_none ha h')⟩, hb.os, hb.tape, hb.output, hb.size, fun k hk _ _ _ => hb.block k hk, fun _ e => .inl e, fun k hk => ?_⟩
  · obtain ⟨q1, q2, q3⟩ := hS.oh p hp (by simp)
    exact ⟨by rw [hold _ (by rw [q1]; simp)]; exact q1, fun k hk => by rw [hold _ (by rw [q2 k hk]; simp)]; exact q2 k hk, fun k hk => by rw [hold _ (by rw [q3 k hk]; simp)]; exact q3 k hk⟩
  · by_cases e : k = w.heap.size
    · rw [e]; simp
    · have : (Y.gain key w.heap.size).own k = Y.own k := by unfold Lay.gain; simp only; rw [if_neg e]
      rw [this] at hk
      have := hS.ol k hk
      have := hb.size
      omega
  · rw [hno.1, hno.2]; exact hold_new w
  · unfold Lay.gain
    simp
  · by_cases e : k = w.heap.size
    · exact .inr (by omega)
    · have : (Y.gain key w.heap.size).own k = Y.own k := by unfold Lay.gain; simp only; rw [if_neg e]
      rw [this] at hk
      exact .inl hk
theorem sof_any (Y : Lay) (w : World) (g : Nat) (s : St) (key : Key) (h : SpK Y w g s none) :
    Calls Tryz.prog 34 #[.pointer (some ⟨g, 0, none⟩), .string (sb key)] w fun e w' => ∃ hb Y' m1 m2, e = .returned (.pointer (some ⟨hb, 0, none⟩)) ∧ SpK Y' w' g s (some key) ∧ Hand Y' w' key hb m1 m2 (ofKeyE key s.L) (ofKeyD key s.DL) ∧ Tm g Y Y' w w' := by
  refine (of_core Y w g s none key h).mono ?_
  rintro e w' ⟨hb, rfl, ⟨ha, rfl⟩ | ⟨ha, rfl, rfl⟩⟩
  · obtain ⟨h1, h2⟩ := h.take ha
    exact ⟨hb, Y, _, _, rfl, h1, h2, Tm.refl _ _ _⟩
  · obtain ⟨h1, h2, h3⟩ := h.take_new ha
    exact ⟨_, _, _, _, rfl, h1, h2, h3⟩
end Go.Proofs.YtmlfekbmbnfkjabGreatDoor

/-
  What see comes to.
-/
namespace Go.Proofs.YtmlfekbmbnfkjabGreatDoor
set_option maxRecDepth 100000
open Go.RowKit
open Go.ChangeMaps (setBlock)

/-- What an event leaves of the live and dead ones. -/
def stA (s : St) (e : Ev) : St := { s with L := s.L.filter fun a => !endsE e a, DL := deadTo e s.L s.DL }
def stB (s : St) (e : Ev) : St := { s with L := if addsE e.kind then putE (s.L.filter fun a => !endsE e a) e else s.L.filter fun a => !endsE e a, DL := deadTo e s.L s.DL }
/-- Ready as far as see asks. -/
structure Rdy (s : St) (e : Ev) : Prop where
  wide : Wide e
  r0 : 0 ≤ e.r
  r1 : e.r < 16
  new : hasv s.seen e.r e.n = false
theorem Inv.noDot {s : St} {e : Ev} (h : Inv s) (hr : Rdy s e) : noDot s.L e := fun a ha hs => by
  have h1 := h.seenL a ha
  rw [hs.1, hs.2, hr.new] at h1
  cases h1
theorem keys1 {s : St} {e : Ev} (h : Inv s) : (∀ k, k ≠ e.key → ofKeyE k (stA s e).L = ofKeyE k s.L) ∧ (∀ k, k ≠ e.key → ofKeyD k (stA s e).DL = ofKeyD k s.DL) ∧ SrE (stA s e).L ∧ SrD (stA s e).DL ∧
    ofKeyE e.key (stA s e).L = (ofKeyE e.key s.L).filter (fun a => !endsE e a) ∧ ofKeyD e.key (stA s e).DL = deadTo e (ofKeyE e.key s.L) (ofKeyD e.key s.DL) := by
  obtain ⟨d1, d2⟩ := dead_facts (e := e) s.L s.DL h.srD h.apart h.srL.unlike
  refine ⟨fun k hk => ?_, fun k hk => ?_, h.srL.filter _, d1, ?_, ?_⟩
  · show ofKeyE k (s.L.filter fun a => !endsE e a) = _
    rw [ends_of, if_neg (fun e' => hk e'.symm)]
  · show ofKeyD k (deadTo e s.L s.DL) = _
    rw [d2, if_neg (fun e' => hk e'.symm)]
  · show ofKeyE e.key (s.L.filter fun a => !endsE e a) = _
    rw [ends_of, if_pos rfl]
  · show ofKeyD e.key (deadTo e s.L s.DL) = _
    rw [d2, if_pos rfl]
theorem keys2 {s : St} {e : Ev} (h : Inv s) (hr : Rdy s e) (ha : addsE e.kind = true) : (∀ k, k ≠ e.key → ofKeyE k (stB s e).L = ofKeyE k (stA s e).L) ∧ SrE (stB s e).L ∧ ofKeyE e.key (stB s e).L = putE (ofKeyE e.key (stA s e).L) e := by
  have hn : noDot (stA s e).L e := fun a hm => h.noDot hr a (List.mem_filter.1 hm).1
  have hs : SrE (stA s e).L := h.srL.filter _
  have e1 : (stB s e).L = putE (stA s e).L e := by unfold stB stA; simp only [ha, if_true]
  rw [e1]
  refine ⟨fun k hk => ?_, hs.put e, ?_⟩
  · rw [ofKeyE_put hs hn, if_neg (fun e' => hk e'.symm)]
  · rw [ofKeyE_put hs hn, if_pos rfl]
theorem s2_none {s : St} {e : Ev} (ha : addsE e.kind = false) : stB s e = stA s e := by unfold stB stA; simp only [ha, Bool.false_eq_true, if_false]
theorem mem_putE {L : List Ev} {d x : Ev} (h : x ∈ putE L d) : x = d ∨ x ∈ L := by
  unfold putE at h
  rcases List.mem_append.1 h with h | h
  · exact .inr (List.mem_filter.1 h).1
  · rcases List.mem_cons.1 h with h | h
    · exact .inl h
    · exact .inr (List.mem_filter.1 h).1
theorem wide1 {s : St} {e : Ev} (wl : ∀ a ∈ s.L, Wide a) (wd : ∀ d ∈ s.DL, Wide d.push) : (∀ a ∈ (stA s e).L, Wide a) ∧ ∀ d ∈ (stA s e).DL, Wide d.push := by
  refine ⟨fun a ha => wl a (List.mem_filter.1 ha).1, fun d hd => ?_⟩
  rcases mem_dead _ _ hd with ⟨a, ha, rfl⟩ | h1
  · exact wl a ha
  · exact wd d h1
theorem enters_pute (xs : Array Value) (w : World) : (callFunc 37 xs).run Tryz.prog w = .ok (.enter 37 xs) w := enters Tryz.func37 (by kernel_rfl) (by kernel_rfl) xs w
theorem Tm.lies {g : Nat} {Y Y' : Lay} {w w' : World} {B : Nat} {e : Ev} (t : Tm g Y Y' w w') (h : LiesE w B e) (h1 : B ≠ g) (h2 : Y.km ≠ some B) (h3 : Y.own B = none) : LiesE w' B e := by
  rw [LiesE, t.block B h.lt h1 h2 h3]; exact h
/-- What see needs and leaves, ahead of the vector and the time. -/
structure Mid (g : Nat) (Y Y' : Lay) (w w' : World) (s : St) (B : Nat) (e : Ev) : Prop where
  sp : SpK Y' w' g s none
  tm : Tm g Y Y' w w'
  ev : LiesE w' B e
/-- A block that is none of a space's. -/
structure Free (Y : Lay) (g B : Nat) : Prop where
  g : B ≠ g
  km : Y.km ≠ some B
  own : Y.own B = none
theorem Tm.free {g B : Nat} {Y Y' : Lay} {w w' : World} (t : Tm g Y Y' w w') (hB : B < w.heap.size) (h : Free Y g B) : Free Y' g B := by
  refine ⟨h.g, fun e => ?_, ?_⟩
  · rcases t.km B e with q | q
    · exact h.km q
    · omega
  · cases hy : Y'.own B with
    | none => rfl
    | some k =>
      rcases t.own B (by rw [hy]; simp) with q | q
      · exact absurd h.own q
      · omega
theorem SpK.free {Y : Lay} {w : World} {g : Nat} {s : St} {x : Option Key} (h : SpK Y w g s x) : Free Y g w.heap.size := by
  refine ⟨by have := h.lt; omega, fun e => by have := (h.mlt _ e).1; omega, ?_⟩
  cases hy : Y.own w.heap.size with
  | none => rfl
  | some k => have := h.ol w.heap.size (by rw [hy]; simp); omega
theorem Tm.ev {g : Nat} {Y Y' : Lay} {w w' : World} {B : Nat} {e : Ev} (t : Tm g Y Y' w w') (h : LiesE w B e) (f : Free Y g B) : LiesE w' B e := t.lies h f.g f.km f.own
/-- Put into the live ones in hand. -/
theorem Ho.putL {w w' : World} {h : Nat} {m1 m2 m1' : Option Nat} {L : List Ev} {DL : List Ed} {e : Ev} (k : Ho w h m1 m2 L DL) (hw : Wide e) (hB : E.Bg w' h 0 ((#[.map m1, .map m2] : Array Value).setIfInBounds 0 (.map m1')) 86 m1' (put (L.map eit) (eit e))) (t : Tn h m1 m1' w w') :
    Ho w' h m1' m2 (putE L e) DL ∧ To h m1 m2 m1' m2 w w' := by
  have hB' : E.Bg w' h 0 #[.map m1', .map m2] 86 m1' ((putE L e).map eit) := by rw [← put_eit]; exact hB
  refine ⟨⟨hB', k.dead.other hB'.blk rfl (fun i hi hm => t.block i hi (fun e' => (k.dead.own i hm).2 e') (fun e' => k.ne i e' hm)), fun i hi hm => ?_, fun a ha => ?_, k.wd⟩, To.ofTn1 m2 t⟩
  · rcases t.own i hi with q | q
    · exact k.ne i q hm
    · have := (k.dead.own i hm).1; omega
  · rcases mem_putE ha with rfl | h1
    · exact hw
    · exact k.wl a h1
theorem index_vv (w : World) (g n k : Nat) (hk : k < 16) : (Instr.indexAt 41 (.pointer (some ⟨g, n, none⟩)) (.int .i64 (k : Int))).run Tryz.prog w = .ok (.pointer (some ⟨g, n + k, none⟩)) w := by
  have hu : Tryz.prog.underlying 41 = some (.array 16 3) := by kernel_rfl
  have e : (⟨g, n, none⟩ : Addr).add k = ⟨g, n + k, none⟩ := by unfold Addr.add; split <;> simp_all
  simp [Instr.indexAt, asIntOf, run_underlying hu, Sem.run_bind, Instr.sureAddr, hk, e]
theorem field_s0 (w : World) (g : Nat) : (Instr.fieldAt 58 (.pointer (some ⟨g, 0, none⟩)) 0).run Tryz.prog w = .ok (.pointer (some ⟨g, 0, none⟩)) w := by kernel_rfl
theorem field_s1 (w : World) (g : Nat) : (Instr.fieldAt 58 (.pointer (some ⟨g, 0, none⟩)) 1).run Tryz.prog w = .ok (.pointer (some ⟨g, 16, none⟩)) w := by kernel_rfl
theorem field_d0 (w : World) (g : Nat) : (Instr.fieldAt 32 (.pointer (some ⟨g, 0, none⟩)) 0).run Tryz.prog w = .ok (.pointer (some ⟨g, 0, none⟩)) w := by kernel_rfl
theorem field_d1 (w : World) (g : Nat) : (Instr.fieldAt 32 (.pointer (some ⟨g, 0, none⟩)) 1).run Tryz.prog w = .ok (.pointer (some ⟨g, 1, none⟩)) w := by kernel_rfl
theorem field_ev1 (w : World) (g : Nat) : (Instr.fieldAt 47 (.pointer (some ⟨g, 0, none⟩)) 1).run Tryz.prog w = .ok (.pointer (some ⟨g, 2, none⟩)) w := by kernel_rfl
theorem load_int {w : World} {ad : Addr} {v : Value} (h : w.cell? ad = some v) : (loadVar 3 ad).run Tryz.prog w = .ok v w := by
  have h3 : Tryz.prog.underlying 3 = some (.int .i64) := by kernel_rfl
  go_simp
theorem store_int {w : World} {ad : Addr} {u : Value} (n : Int) (h : w.cell? ad = some u) (hf : w.frozen? ad = false) : (storeVar 3 ad (.int .i64 n)).run Tryz.prog w = .ok () (w.setCell ad (.int .i64 n)) := by
  have h3 : Tryz.prog.underlying 3 = some (.int .i64) := by kernel_rfl
  go_simp
theorem y_ex {o : Oper} {a : Act} {w : World} {K : Act → World → Prop} {Q : Exit → Act → World → Prop} {v : Value} (he : (execOp a.eval o).run Tryz.prog w = .ok (.value v) w) (h : K (a.put o.dst v) w) : o.wp Tryz.prog a w K Q := by
  unfold Oper.wp
  rw [he]
  exact h
theorem y_max {o : Oper} {a : Act} {w : World} {x y : Operand} {m n : Int} {ts : Array TypeId} (ho : o.op = .call { callee := .builtin .max, args := #[x, y], argTypes := ts }) (hx : a.eval x = .int .i64 m) (hy : a.eval y = .int .i64 n) : (execOp a.eval o).run Tryz.prog w = .ok (.value (.int .i64 (max m n))) w := by
  unfold execOp
  simp only [ho, resolve, invoke, builtin, Sem.run_bind, Sem.run_pure, Result.andThen_ok, List.map_toArray, List.map_cons, List.map_nil, hx, hy, Go.Lib.run_max_ints]
/-- The vector's number. -/
theorem SpK.seenTo {Y : Lay} {w W : World} {g : Nat} {s : St} (h : SpK Y w g s none) (hW : W.heap = w.heap) (h1 : W.os = w.os) (h2 : W.tape = w.tape) (h3 : W.output = w.output) {r : Nat} (hr : r < 16) (n : Int) :
    SpK Y (W.setCell ⟨g, r, none⟩ (.int .i64 n)) g { s with seen := s.seen.set r n } none ∧ Tm g Y Y w (W.setCell ⟨g, r, none⟩ (.int .i64 n)) := by
  have hblk : W.heap[g]? = some (.cells (spc s Y.km) 58 (0, 0)) := by rw [hW]; exact h.blk
  have hot : ∀ k, k ≠ g → (W.setCell ⟨g, r, none⟩ (.int .i64 n)).heap[k]? = w.heap[k]? := fun k hk => by rw [Below.heap_setCell _ _ _ k hk, hW]
  have hsz : w.heap.size ≤ (W.setCell ⟨g, r, none⟩ (.int .i64 n)).heap.size := by simp [World.setCell, hW]
  have hgne : ∀ k, Y.own k ≠ none → k ≠ g := fun k hk e => by rw [e, h.og] at hk; exact hk rfl
  refine ⟨⟨?_, by simp [h.len], ?_, fun p hp hx => ?_, h.has, h.og, h.ob, h.oh, fun k hk => Nat.lt_of_lt_of_le (h.ol k hk) hsz, h.srL, h.srD, h.wl, h.wd⟩, h1, h2, h3, hsz, fun k _ hk _ _ => hot k hk, fun _ e => .inl e, fun _ e => .inl e⟩
  · rw [heap_setCell_same _ g r _ _ _ hblk]
    congr 2
    unfold spc
    rw [List.setIfInBounds_toArray, List.set_append_left _ _ (by simp [h.len]; exact hr), ← List.map_set]
  · rcases h.map with hn | ⟨b, e, hm⟩
    · exact .inl hn
    · exact .inr ⟨b, e, hm.kept (hot b (h.mlt b e).2)⟩
  · refine (h.ho p hp hx).kept fun i hi ho => hot i ?_
    obtain ⟨q1, q2, q3⟩ := h.oh p hp hx
    rcases ho with rfl | ho | ho
    · exact hgne _ (by rw [q1]; simp)
    · exact hgne _ (by rw [q2 i ho]; simp)
    · exact hgne _ (by rw [q3 i ho]; simp)
theorem SpK.timeTo {Y : Lay} {w W : World} {g : Nat} {s : St} (h : SpK Y w g s none) (hW : W.heap = w.heap) (h1 : W.os = w.os) (h2 : W.tape = w.tape) (h3 : W.output = w.output) (n : Int) :
    SpK Y (W.setCell ⟨g, 16, none⟩ (.int .i64 n)) g { s with time := n } none ∧ Tm g Y Y w (W.setCell ⟨g, 16, none⟩ (.int .i64 n)) := by
  have hblk : W.heap[g]? = some (.cells (spc s Y.km) 58 (0, 0)) := by rw [hW]; exact h.blk
  have hot : ∀ k, k ≠ g → (W.setCell ⟨g, 16, none⟩ (.int .i64 n)).heap[k]? = w.heap[k]? := fun k hk => by rw [Below.heap_setCell _ _ _ k hk, hW]
  have hsz : w.heap.size ≤ (W.setCell ⟨g, 16, none⟩ (.int .i64 n)).heap.size := by simp [World.setCell, hW]
  have hgne : ∀ k, Y.own k ≠ none → k ≠ g := fun k hk e => by rw [e, h.og] at hk; exact hk rfl
  refine ⟨⟨?_, h.len, ?_, fun p hp hx => ?_, h.has, h.og, h.ob, h.oh, fun k hk => Nat.lt_of_lt_of_le (h.ol k hk) hsz, h.srL, h.srD, h.wl, h.wd⟩, h1, h2, h3, hsz, fun k _ hk _ _ => hot k hk, fun _ e => .inl e, fun _ e => .inl e⟩
  · rw [heap_setCell_same _ g 16 _ _ _ hblk]
    congr 2
    unfold spc
    rw [List.setIfInBounds_toArray, List.set_append_right _ _ (by simp [h.len])]
    simp [h.len]
  · rcases h.map with hn | ⟨b, e, hm⟩
    · exact .inl hn
    · exact .inr ⟨b, e, hm.kept (hot b (h.mlt b e).2)⟩
  · refine (h.ho p hp hx).kept fun i hi ho => hot i ?_
    obtain ⟨q1, q2, q3⟩ := h.oh p hp hx
    rcases ho with rfl | ho | ho
    · exact hgne _ (by rw [q1]; simp)
    · exact hgne _ (by rw [q2 i ho]; simp)
    · exact hgne _ (by rw [q3 i ho]; simp)
end Go.Proofs.YtmlfekbmbnfkjabGreatDoor

/-
  What see comes to: its walk.
-/
namespace Go.Proofs.YtmlfekbmbnfkjabGreatDoor
set_option maxRecDepth 100000
open Go.RowKit
open Go.ChangeMaps (setBlock)

/-- Behind end and Put: the key's block in hand, the space but for it as it shall be. -/
structure InH (g : Nat) (Y Y' : Lay) (w w' : World) (s : St) (key : Key) (h : Nat) (B : Nat) (e : Ev) : Prop where
  sp : SpK Y' w' g s (some key)
  hd : ∃ m1 m2, Hand Y' w' key h m1 m2 (ofKeyE key s.L) (ofKeyD key s.DL)
  tm : Tm g Y Y' w w'
  ev : LiesE w' B e
  fr : Free Y' g B
theorem Hand.below {Y : Lay} {w w' : World} {key : Key} {h : Nat} {m1 m2 : Option Nat} {L : List Ev} {DL : List Ed} (k : Hand Y w key h m1 m2 L DL) (hb : Below w.heap.size w w') : Hand Y w' key h m1 m2 L DL :=
  ⟨k.ho.below hb (Nat.le_refl _), k.oh, k.o1, k.o2, k.mem⟩
theorem InH.drew {g : Nat} {Y Y' : Lay} {w w' : World} {s : St} {key : Key} {h : Nat} {B : Nat} {e : Ev} (k : InH g Y Y' w w' s key h B e) : InH g Y Y' w w'.drew s key h B e := by
  have hb : Below w'.heap.size w' w'.drew := (Below.refl _ w').drew
  obtain ⟨m1, m2, hd⟩ := k.hd
  exact ⟨k.sp.below hb (Nat.le_refl _), ⟨m1, m2, hd.below hb⟩, k.tm.trans (Tm.of_below _ hb), k.ev, k.fr⟩
theorem SpK.len_le {Y : Lay} {w : World} {g : Nat} {s : St} {x : Option Key} (_h : SpK Y w g s x) (hl : s.L.length ≤ 1048576) (key : Key) : (ofKeyE key s.L).length ≤ 1048576 := Nat.le_trans (List.length_filter_le _ _) hl

set_option maxHeartbeats 2000000 in
theorem see_any (Y : Lay) (w : World) (g : Nat) (s : St) (e : Ev) (hS : SpK Y w g s none) (hI : Inv s) (hr : Rdy s e) (hl : s.L.length ≤ 1048576) :
    Calls Tryz.prog 20 #[.pointer (some ⟨g, 0, none⟩), .agg (evc e)] w fun ex w' => ex = .returned (.tuple #[]) ∧ ∃ Y', SpK Y' w' g (seeE s e) none ∧ Tm g Y Y' w w' := by
  have he16 := hr.wide.1
  have hb0 : Below w.heap.size w (w.alloc (.cells (evc e) 47)) := (Below.refl _ w).alloc (Nat.le_refl _) _
  have hE0 := liesE_new w e
  have hF0 := hS.free
  have hS0 := hS.below hb0 (Nat.le_refl _)
  have T0 : Hid (Tm g Y Y w (w.alloc (.cells (evc e) 47))) := Tm.of_below Y hb0
  have hBl : w.heap.size < (w.alloc (.cells (evc e) 47)).heap.size := by simp
  generalize hW0 : w.alloc (.cells (evc e) 47) = W0 at *
  obtain ⟨B, hB⟩ : ∃ B, w.heap.size = B := ⟨_, rfl⟩
  rw [hB] at hE0 hF0 hBl
  have hOf := sof_any Y W0 g s e.key hS0
  have c20 := hE0.c20
  obtain ⟨hk1, hk2, hk3, hk4, hk5, hk6⟩ := keys1 (e := e) hI
  have HK1 : Hid _ := hk1
  have HK2 : Hid _ := hk2
  have HK3 : Hid _ := hk3
  have HK4 : Hid _ := hk4
  have HK5 : Hid _ := hk5
  have HK6 : Hid _ := hk6
  have HW1 : Hid _ := wide1 (e := e) hS.wl hS.wd
  have HI : Hid _ := hI
  have HR : Hid _ := hr
  obtain ⟨rn, hrn⟩ : ∃ rn : Nat, e.r = (rn : Int) := ⟨e.r.toNat, by have := hr.r0; omega⟩
  have hrn16 : rn < 16 := by have := hr.r1; omega
  have HRN : Hid (e.r.toNat = rn) := by show _ = _; omega
  clear hk1 hk2 hk3 hk4 hk5 hk6 hI hr hS hb0 hS0
  go_enter Tryz.func20, Tryz.ntmps20
  go_wp2_with fail
  refine Calls.mono hOf ?_
  rintro ex w1 ⟨hb, Y1, m1, m2, rfl, hS1, hd1, ht1⟩
  have hE1 := ht1.ev hE0 hF0
  have hF1 := ht1.free hBl hF0
  have hBl1 := Nat.lt_of_lt_of_le hBl ht1.size
  have hEn := hend_any e HR.out.wide hb m1 m2 _ _ w1 hd1.ho (hS1.len_le hl e.key)
  have HS1 : Hid _ := hS1
  have HD1 : Hid _ := hd1
  have HT1 : Hid (Tm g Y Y1 w w1) := T0.out.trans ht1
  clear hOf hE0 c20 hS1 hd1 ht1 T0 hF0
  go_wp2_with (first | refine load_ev rfl rfl rfl hE1 he16 ?_)
  refine Calls.mono hEn ?_
  rintro ex w2 ⟨rfl, m2', hH2, hto2⟩
  obtain ⟨hS2, hd2, ht2⟩ := HS1.out.step HD1.out hto2 hH2
  have hE2 := ht2.ev hE1 hF1
  have hF2 := ht2.free hBl1 hF1
  have hBl2 := Nat.lt_of_lt_of_le hBl1 ht2.size
  have hS2' := hS2.swap (s' := stA s e) rfl rfl HK1.out HK2.out HK3.out HK4.out HW1.out.1 HW1.out.2
  rw [← HK5.out, ← HK6.out] at hd2
  have HI2 : Hid (InH g Y (Y1.more e.key m1 m2') w w2 (stA s e) e.key hb B e) := ⟨hS2', ⟨_, _, hd2⟩, HT1.out.trans ht2, hE2, hF2⟩
  have hAd := adds_any e.kind w2
  have hkc := hE2.c19
  clear hEn hE1 hF1 hBl1 HS1 HD1 HT1 hS2 hS2' hd2 ht2 hH2 hto2 hF2
  generalize Y1.more e.key m1 m2' = Y2 at *
  go_wp2_with fail
  refine Calls.mono hAd ?_
  rintro ex w3 ⟨rfl, hw3⟩
  obtain rfl := hw3.symm
  clear hAd hkc
  go_upto_if 16 with fail
  go_cut [0, 3, 4] from 16 (fun v0 v3 v4 wr => v0 = .pointer (some ⟨g, 0, none⟩) ∧ v3 = .pointer (some ⟨B, 0, none⟩) ∧ v4 = .pointer (some ⟨hb, 0, none⟩) ∧ ∃ Y3, InH g Y Y3 w wr (stB s e) e.key hb B e)
  case first =>
    cases ha : addsE e.kind
    · go_wp2
      go_meet
      case rel => exact ⟨rfl, rfl, rfl, Y2, by rw [s2_none ha]; exact HI2.out⟩
    · have hI3 := HI2.out.drew
      obtain ⟨n1, n2, hd3⟩ := hI3.hd
      have hHs : LiesE w2.drew B e := hI3.ev
      have hP := E.put_any hb 0 #[.map n1, .map n2] 86 n1 _ (eit e) w2.drew hd3.ho.live
      have HP : Hid (Calls Tryz.prog 37 #[.pointer (some ⟨hb, 0, none⟩), .agg (dotc e.r e.n), .agg (evc e)] w2.drew fun ex w' => ex = .returned (.tuple #[]) ∧ LiesE w' B e ∧ ∃ Y3, InH g Y Y3 w w' (stB s e) e.key hb B e) := by
        rw [← evX_c he16]
        refine hP.mono ?_
        rintro ex w' ⟨rfl, m1', hB', ht'⟩
        obtain ⟨hH', hto'⟩ := hd3.ho.putL HR.out.wide hB' ht'
        obtain ⟨hS', hd', htm'⟩ := hI3.sp.step hd3 hto' hH'
        obtain ⟨q1, q2, q3⟩ := keys2 HI.out HR.out ha
        have hsw := hS'.swap (s' := stB s e) rfl rfl q1 (fun _ _ => rfl) q2 HK4.out (fun a ham => by
          unfold stB at ham
          simp only [ha, if_true] at ham
          rcases mem_putE ham with rfl | h1
          · exact HR.out.wide
          · exact HW1.out.1 a h1) HW1.out.2
        rw [← q3] at hd'
        exact ⟨rfl, htm'.ev hI3.ev hI3.fr, _, hsw, ⟨_, _, hd'⟩, hI3.tm.trans htm', htm'.ev hI3.ev hI3.fr, htm'.free hI3.ev.lt hI3.fr⟩
      clear hP hd3 hI3 HI2 hE2
      go_wp2_with fail
      refine wp_region_noPanic ?_
      refine wp_region_held_drew (S := fun W' : World => LiesE W' B e) (by kernel_rfl) hHs (fun hHeld => ?_)
      refine wpAnyH_take (i := 0) (oi := { dst := some 17, op := _, type := _, pos := _, after := _, guard := _ }) (v := .pointer (some ⟨hb, 0, none⟩)) rfl (by kernel_rfl) (by kernel_rfl) (by kernel_rfl) (fun _ _ _ h => h) (Or.inl ⟨by rfl, ?_⟩) (by assumption) ?_
      · intro w9 hSw
        exact y_move rfl rfl
      simp only [Act.put, List.setIfInBounds_toArray, List.set_cons_zero, List.set_cons_succ]
      refine wpAnyH_take (i := 1) (oi := { dst := some 18, op := _, type := _, pos := _, after := _, guard := _ }) (v := .pointer (some ⟨hb, 0, none⟩)) rfl (by kernel_rfl) (by kernel_rfl) (by kernel_rfl) (fun _ _ _ h => h) (Or.inl ⟨by rfl, ?_⟩) (by assumption) ?_
      · intro w9 hSw
        exact y_nil rfl rfl
      simp only [Act.put, List.setIfInBounds_toArray, List.set_cons_zero, List.set_cons_succ]
      refine wpAnyH_take (i := 2) (oi := { dst := some 19, op := _, type := _, pos := _, after := _, guard := _ }) (v := .pointer (some ⟨hb, 0, none⟩)) rfl (by kernel_rfl) (by kernel_rfl) (by kernel_rfl) (fun _ _ _ h => h) (Or.inl ⟨by rfl, ?_⟩) (by assumption) ?_
      · intro w9 hSw
        exact y_field rfl rfl (field_h0 _ _)
      simp only [Act.put, List.setIfInBounds_toArray, List.set_cons_zero, List.set_cons_succ]
      refine wpAnyH_take (i := 3) (oi := { dst := some 20, op := _, type := _, pos := _, after := _, guard := _ }) (v := .pointer (some ⟨B, 0, none⟩)) rfl (by kernel_rfl) (by kernel_rfl) (by kernel_rfl) (fun _ _ _ h => h) (Or.inl ⟨by rfl, ?_⟩) (by assumption) ?_
      · intro w9 hSw
        exact y_field rfl rfl (field_ev0 _ _)
      simp only [Act.put, List.setIfInBounds_toArray, List.set_cons_zero, List.set_cons_succ]
      refine wpAnyH_take (i := 4) (oi := { dst := some 21, op := _, type := _, pos := _, after := _, guard := _ }) (v := .agg (dotc e.r e.n)) rfl (by kernel_rfl) (by kernel_rfl) (by kernel_rfl) (fun _ _ _ h => h) (Or.inl ⟨by rfl, ?_⟩) (by assumption) ?_
      · intro w9 hSw
        exact y_load rfl rfl hSw.dotAt
      simp only [Act.put, List.setIfInBounds_toArray, List.set_cons_zero, List.set_cons_succ]
      refine wpAnyH_take (i := 5) (oi := { dst := some 22, op := _, type := _, pos := _, after := _, guard := _ }) (v := .agg (evc e)) rfl (by kernel_rfl) (by kernel_rfl) (by kernel_rfl) (fun _ _ _ h => h) (Or.inl ⟨by rfl, ?_⟩) (by assumption) ?_
      · intro w9 hSw
        exact y_load rfl rfl (load_evx hSw he16)
      simp only [Act.put, List.setIfInBounds_toArray, List.set_cons_zero, List.set_cons_succ]
      clear hHeld
      refine wpAnyH_ready (rs := [6]) (by kernel_rfl) (by simp) ?_
      refine AllReadyH.cons (o := { dst := some 23, op := _, type := _, pos := _, after := _, guard := _ }) rfl (fun K hK => ?_) AllReadyH.nil
      rw [if_pos (by rfl)]
      refine y_call (f := 37) (xs := [.tmp 19, .tmp 21, .tmp 22]) (vs := [.pointer (some ⟨hb, 0, none⟩), .agg (dotc e.r e.n), .agg (evc e)]) rfl rfl (enters_pute _ _) HP.out ?_
      rintro ex w5 ⟨rfl, hE5, hFIN⟩
      refine ⟨_, rfl, ?_⟩
      have FIN : Hid (∃ Y3, InH g Y Y3 w w5 (stB s e) e.key hb B e) := hFIN
      clear hFIN
      refine hK.out _ _ hE5 (fun hHeld => ?_)
      clear hK K
      simp only [Act.put, List.setIfInBounds_toArray, List.set_cons_zero, List.set_cons_succ]
      refine wpAnyH_done (by kernel_rfl) ?_ _
      refine NoPanic.normal ?_
      clear hHeld
      go_wp2
      go_meet
      case rel => exact ⟨rfl, rfl, rfl, FIN.out⟩
  case rest =>
    obtain ⟨rfl, rfl, rfl, Y3, hI3⟩ := hcut
    clear HI2 hE2 hBl2
    obtain ⟨n1, n2, hd3⟩ := hI3.hd
    have hE3 := hI3.ev
    have c20 := hE3.c20
    have hKe := keep_any Y3 wc g (stB s e) e.key hb n1 n2 hI3.sp hd3
    have HT3 : Hid _ := hI3.tm
    have HF3 : Hid _ := hI3.fr
    clear hI3 hd3
    go_wp2_with fail
    refine Calls.mono hKe ?_
    rintro ex w4 ⟨rfl, Y4, hS4, ht4⟩
    have hE4 := ht4.ev hE3 HF3.out
    have hF4 := ht4.free hE3.lt HF3.out
    have HT4 : Hid (Tm g Y Y4 w w4) := HT3.out.trans ht4
    clear hKe c20 hE3 HT3 HF3 ht4
    obtain ⟨hS5, ht5⟩ := hS4.seenTo (W := w4.drew) rfl rfl rfl rfl hrn16 e.n
    have hE5 := ht5.ev hE4 hF4
    have hF5 := ht5.free hE4.lt hF4
    have hcs : w4.drew.cell? ⟨g, rn, none⟩ = (spc (stB s e) Y4.km)[rn]? := hS4.cell rn
    obtain ⟨u0, hu0⟩ : ∃ u0, w4.drew.cell? ⟨g, rn, none⟩ = some u0 := by
      refine ⟨_, hcs.trans (Array.getElem?_eq_getElem ?_)⟩
      have := hS4.len
      simp [spc, this]
      omega
    have hst6 := store_int e.n hu0 (hS4.fz rn)
    have hHs : LiesE w4.drew B e := hE4
    obtain ⟨W5, hW5⟩ : ∃ W5, w4.drew.setCell ⟨g, rn, none⟩ (.int .i64 e.n) = W5 := ⟨_, rfl⟩
    rw [hW5] at hS5 ht5 hE5 hst6
    have HT5 : Hid (Tm g Y Y4 w W5) := HT4.out.trans ht5
    have HS5 : Hid _ := hS5
    have hx5 : LiesE W5 B e := hE5
    clear hS4 ht5 hcs hu0 HT4 hF4
    go_wp2_with fail
    refine wp_region_noPanic ?_
    refine wp_region_held_drew (S := fun W' : World => LiesE W' B e) (by kernel_rfl) hHs (fun hHeld => ?_)
    refine wpAnyH_take (i := 0) (oi := { dst := some 30, op := _, type := _, pos := _, after := _, guard := _ }) (v := .pointer (some ⟨g, 0, none⟩)) rfl (by kernel_rfl) (by kernel_rfl) (by kernel_rfl) (fun _ _ _ h => h) (Or.inl ⟨by rfl, ?_⟩) (by assumption) ?_
    · intro w9 hSw
      exact y_move rfl rfl
    simp only [Act.put, List.setIfInBounds_toArray, List.set_cons_zero, List.set_cons_succ]
    refine wpAnyH_take (i := 1) (oi := { dst := some 31, op := _, type := _, pos := _, after := _, guard := _ }) (v := .pointer (some ⟨B, 0, none⟩)) rfl (by kernel_rfl) (by kernel_rfl) (by kernel_rfl) (fun _ _ _ h => h) (Or.inl ⟨by rfl, ?_⟩) (by assumption) ?_
    · intro w9 hSw
      exact y_field rfl rfl (field_ev0 _ _)
    simp only [Act.put, List.setIfInBounds_toArray, List.set_cons_zero, List.set_cons_succ]
    refine wpAnyH_take (i := 2) (oi := { dst := some 32, op := _, type := _, pos := _, after := _, guard := _ }) (v := .pointer (some ⟨B, 0, none⟩)) rfl (by kernel_rfl) (by kernel_rfl) (by kernel_rfl) (fun _ _ _ h => h) (Or.inl ⟨by rfl, ?_⟩) (by assumption) ?_
    · intro w9 hSw
      exact y_field rfl rfl (field_d0 _ _)
    simp only [Act.put, List.setIfInBounds_toArray, List.set_cons_zero, List.set_cons_succ]
    refine wpAnyH_take (i := 3) (oi := { dst := some 33, op := _, type := _, pos := _, after := _, guard := _ }) (v := .int .i64 (rn : Int)) rfl (by kernel_rfl) (by kernel_rfl) (by kernel_rfl) (fun _ _ _ h => h) (Or.inl ⟨by rfl, ?_⟩) (by assumption) ?_
    · intro w9 hSw
      exact y_load rfl rfl (load_int (hrn ▸ hSw.c0))
    simp only [Act.put, List.setIfInBounds_toArray, List.set_cons_zero, List.set_cons_succ]
    refine wpAnyH_take (i := 4) (oi := { dst := some 34, op := _, type := _, pos := _, after := _, guard := _ }) (v := .pointer (some ⟨B, 0, none⟩)) rfl (by kernel_rfl) (by kernel_rfl) (by kernel_rfl) (fun _ _ _ h => h) (Or.inl ⟨by rfl, ?_⟩) (by assumption) ?_
    · intro w9 hSw
      exact y_field rfl rfl (field_ev0 _ _)
    simp only [Act.put, List.setIfInBounds_toArray, List.set_cons_zero, List.set_cons_succ]
    refine wpAnyH_take (i := 5) (oi := { dst := some 35, op := _, type := _, pos := _, after := _, guard := _ }) (v := .pointer (some ⟨B, 1, none⟩)) rfl (by kernel_rfl) (by kernel_rfl) (by kernel_rfl) (fun _ _ _ h => h) (Or.inl ⟨by rfl, ?_⟩) (by assumption) ?_
    · intro w9 hSw
      exact y_field rfl rfl (field_d1 _ _)
    simp only [Act.put, List.setIfInBounds_toArray, List.set_cons_zero, List.set_cons_succ]
    refine wpAnyH_take (i := 6) (oi := { dst := some 36, op := _, type := _, pos := _, after := _, guard := _ }) (v := .int .i64 e.n) rfl (by kernel_rfl) (by kernel_rfl) (by kernel_rfl) (fun _ _ _ h => h) (Or.inl ⟨by rfl, ?_⟩) (by assumption) ?_
    · intro w9 hSw
      exact y_load rfl rfl (load_int hSw.c1)
    simp only [Act.put, List.setIfInBounds_toArray, List.set_cons_zero, List.set_cons_succ]
    refine wpAnyH_take (i := 7) (oi := { dst := some 37, op := _, type := _, pos := _, after := _, guard := _ }) (v := .pointer (some ⟨g, 0, none⟩)) rfl (by kernel_rfl) (by kernel_rfl) (by kernel_rfl) (fun _ _ _ h => h) (Or.inl ⟨by rfl, ?_⟩) (by assumption) ?_
    · intro w9 hSw
      exact y_nil rfl rfl
    simp only [Act.put, List.setIfInBounds_toArray, List.set_cons_zero, List.set_cons_succ]
    refine wpAnyH_take (i := 8) (oi := { dst := some 38, op := _, type := _, pos := _, after := _, guard := _ }) (v := .pointer (some ⟨g, 0, none⟩)) rfl (by kernel_rfl) (by kernel_rfl) (by kernel_rfl) (fun _ _ _ h => h) (Or.inl ⟨by rfl, ?_⟩) (by assumption) ?_
    · intro w9 hSw
      exact y_field rfl rfl (field_s0 _ _)
    simp only [Act.put, List.setIfInBounds_toArray, List.set_cons_zero, List.set_cons_succ]
    refine wpAnyH_take (i := 9) (oi := { dst := some 39, op := _, type := _, pos := _, after := _, guard := _ }) (v := .pointer (some ⟨g, rn, none⟩)) rfl (by kernel_rfl) (by kernel_rfl) (by kernel_rfl) (fun _ _ _ h => h) (Or.inl ⟨by rfl, ?_⟩) (by assumption) ?_
    · intro w9 hSw
      exact y_index rfl rfl rfl (by have := index_vv w9 g 0 rn hrn16; rwa [Nat.zero_add] at this)
    simp only [Act.put, List.setIfInBounds_toArray, List.set_cons_zero, List.set_cons_succ]
    clear hHeld
    refine wpAnyH_ready (rs := [10]) (by kernel_rfl) (by simp) ?_
    refine AllReadyH.cons (o := { dst := none, op := _, type := _, pos := _, after := _, guard := _ }) rfl (fun K hK => ?_) AllReadyH.nil
    rw [if_pos (by rfl)]
    refine y_store (ty := 3) (x := .tmp 39) (y := .tmp 36) (ad := ⟨g, rn, none⟩) (v := .int .i64 e.n) (w' := W5) rfl rfl rfl hst6 ?_
    refine hK.out _ _ hx5 (fun hHeld => ?_)
    clear hK K
    simp only [Act.put]
    refine wpAnyH_done (by kernel_rfl) ?_ _
    refine NoPanic.normal ?_
    clear hHeld
    clear hE4 hst6 hHs hW5
    obtain ⟨hS7, ht7⟩ := HS5.out.timeTo (W := W5.drew) rfl rfl rfl rfl (max s.time e.t)
    have hE7 := ht7.ev hE5 hF5
    have hst7 := store_int (max s.time e.t) (w := W5.drew) HS5.out.c16 (HS5.out.fz 16)
    have hHs : LiesE W5.drew B e ∧ W5.drew.cell? ⟨g, 16, none⟩ = some (.int .i64 s.time) := ⟨hE5, HS5.out.c16⟩
    obtain ⟨W7, hW7⟩ : ∃ W7, W5.drew.setCell ⟨g, 16, none⟩ (.int .i64 (max s.time e.t)) = W7 := ⟨_, rfl⟩
    rw [hW7] at hS7 ht7 hE7 hst7
    have FIN : Hid (∃ Y', SpK Y' W7 g (seeE s e) none ∧ Tm g Y Y' w W7) := ⟨Y4, by
      have e1 : seeE s e = { ({ stB s e with seen := s.seen.set rn e.n } : St) with time := max s.time e.t } := by
        unfold seeE stB
        rw [HRN.out]
      rw [e1]
      exact hS7, HT5.out.trans ht7⟩
    clear hS7 ht7 HS5 HT5 hE5 hF5 hx5
    go_wp2_with fail
    refine wp_region_noPanic ?_
    refine wp_region_held_drew (S := fun W' : World => LiesE W' B e) (by kernel_rfl) hHs.1 (fun hHeld => ?_)
    refine wpAnyH_take (i := 0) (oi := { dst := some 40, op := _, type := _, pos := _, after := _, guard := _ }) (v := .pointer (some ⟨g, 0, none⟩)) rfl (by kernel_rfl) (by kernel_rfl) (by kernel_rfl) (fun _ _ _ h => h) (Or.inl ⟨by rfl, ?_⟩) (by assumption) ?_
    · intro w9 hSw
      exact y_move rfl rfl
    simp only [Act.put, List.setIfInBounds_toArray, List.set_cons_zero, List.set_cons_succ]
    refine wpAnyH_take (i := 1) (oi := { dst := some 41, op := _, type := _, pos := _, after := _, guard := _ }) (v := .pointer (some ⟨g, 0, none⟩)) rfl (by kernel_rfl) (by kernel_rfl) (by kernel_rfl) (fun _ _ _ h => h) (Or.inl ⟨by rfl, ?_⟩) (by assumption) ?_
    · intro w9 hSw
      exact y_move rfl rfl
    simp only [Act.put, List.setIfInBounds_toArray, List.set_cons_zero, List.set_cons_succ]
    refine wpAnyH_take (i := 2) (oi := { dst := some 42, op := _, type := _, pos := _, after := _, guard := _ }) (v := .pointer (some ⟨g, 0, none⟩)) rfl (by kernel_rfl) (by kernel_rfl) (by kernel_rfl) (fun _ _ _ h => h) (Or.inl ⟨by rfl, ?_⟩) (by assumption) ?_
    · intro w9 hSw
      exact y_nil rfl rfl
    simp only [Act.put, List.setIfInBounds_toArray, List.set_cons_zero, List.set_cons_succ]
    refine wpAnyH_take (i := 3) (oi := { dst := some 43, op := _, type := _, pos := _, after := _, guard := _ }) (v := .pointer (some ⟨g, 16, none⟩)) rfl (by kernel_rfl) (by kernel_rfl) (by kernel_rfl) (fun _ _ _ h => h) (Or.inl ⟨by rfl, ?_⟩) (by assumption) ?_
    · intro w9 hSw
      exact y_field rfl rfl (field_s1 _ _)
    simp only [Act.put, List.setIfInBounds_toArray, List.set_cons_zero, List.set_cons_succ]
    refine wpAnyH_take (i := 5) (oi := { dst := some 45, op := _, type := _, pos := _, after := _, guard := _ }) (v := .pointer (some ⟨B, 2, none⟩)) rfl (by kernel_rfl) (by kernel_rfl) (by kernel_rfl) (fun _ _ _ h => h) (Or.inl ⟨by rfl, ?_⟩) (by assumption) ?_
    · intro w9 hSw
      exact y_field rfl rfl (field_ev1 _ _)
    simp only [Act.put, List.setIfInBounds_toArray, List.set_cons_zero, List.set_cons_succ]
    refine wpAnyH_take (i := 6) (oi := { dst := some 46, op := _, type := _, pos := _, after := _, guard := _ }) (v := .int .i64 e.t) rfl (by kernel_rfl) (by kernel_rfl) (by kernel_rfl) (fun _ _ _ h => h) (Or.inl ⟨by rfl, ?_⟩) (by assumption) ?_
    · intro w9 hSw
      exact y_load rfl rfl (load_int hSw.c2)
    simp only [Act.put, List.setIfInBounds_toArray, List.set_cons_zero, List.set_cons_succ]
    clear hHeld
    refine wpAnyH_ready (rs := [4]) (by kernel_rfl) (by simp) ?_
    refine AllReadyH.cons (o := { dst := some 44, op := _, type := _, pos := _, after := _, guard := _ }) rfl (fun K hK => ?_) AllReadyH.nil
    rw [if_pos (by rfl)]
    refine y_ex (y_load (ty := 3) (ad := ⟨g, 16, none⟩) rfl rfl (load_int hHs.2)) ?_
    refine hK.out _ _ hHs.1 (fun hHeld => ?_)
    clear hK K
    simp only [Act.put, List.setIfInBounds_toArray, List.set_cons_zero, List.set_cons_succ]
    refine wpAnyH_take (i := 7) (oi := { dst := some 47, op := _, type := _, pos := _, after := _, guard := _ }) (v := .int .i64 (max s.time e.t)) rfl (by kernel_rfl) (by kernel_rfl) (by kernel_rfl) (fun _ _ _ h => h) (Or.inl ⟨by rfl, ?_⟩) (by assumption) ?_
    · intro w9 hSw
      exact y_max rfl rfl rfl
    simp only [Act.put, List.setIfInBounds_toArray, List.set_cons_zero, List.set_cons_succ]
    refine wpAnyH_take (i := 8) (oi := { dst := some 48, op := _, type := _, pos := _, after := _, guard := _ }) (v := .pointer (some ⟨g, 0, none⟩)) rfl (by kernel_rfl) (by kernel_rfl) (by kernel_rfl) (fun _ _ _ h => h) (Or.inl ⟨by rfl, ?_⟩) (by assumption) ?_
    · intro w9 hSw
      exact y_nil rfl rfl
    simp only [Act.put, List.setIfInBounds_toArray, List.set_cons_zero, List.set_cons_succ]
    refine wpAnyH_take (i := 9) (oi := { dst := some 49, op := _, type := _, pos := _, after := _, guard := _ }) (v := .pointer (some ⟨g, 16, none⟩)) rfl (by kernel_rfl) (by kernel_rfl) (by kernel_rfl) (fun _ _ _ h => h) (Or.inl ⟨by rfl, ?_⟩) (by assumption) ?_
    · intro w9 hSw
      exact y_field rfl rfl (field_s1 _ _)
    simp only [Act.put, List.setIfInBounds_toArray, List.set_cons_zero, List.set_cons_succ]
    clear hHeld
    refine wpAnyH_ready (rs := [10]) (by kernel_rfl) (by simp) ?_
    refine AllReadyH.cons (o := { dst := none, op := _, type := _, pos := _, after := _, guard := _ }) rfl (fun K hK => ?_) AllReadyH.nil
    rw [if_pos (by rfl)]
    refine y_store (ty := 3) (x := .tmp 49) (y := .tmp 47) (ad := ⟨g, 16, none⟩) (v := .int .i64 (max s.time e.t)) (w' := W7) rfl rfl rfl hst7 ?_
    refine hK.out _ _ hE7 (fun hHeld => ?_)
    clear hK K
    simp only [Act.put]
    refine wpAnyH_done (by kernel_rfl) ?_ _
    refine NoPanic.normal ?_
    clear hHeld
    go_wp2
    go_end0
    exact ⟨rfl, FIN.out⟩
end Go.Proofs.YtmlfekbmbnfkjabGreatDoor

/-
  What tally's adds, isReplica, isWithin, Sum and Check come to, and the reference's One, Sum, Of and Check.
-/
namespace Go.Proofs.YtmlfekbmbnfkjabGreatDoor
set_option maxRecDepth 100000
namespace T12
set_option maxRecDepth 100000
open Go.RowKit

set_option maxHeartbeats 400000 in
theorem adds_any (u : Ev) (w : World) : Calls Tryz.prog 179 #[.agg (opc u)] w fun e w' => e = .returned (.int .i64 (oneE u)) ∧ Below w.heap.size w w' := by
  have HB : Hid (Below w.heap.size w (w.alloc (.cells (opc u) 34))) := (Below.refl _ w).alloc (Nat.le_refl _) _
  have c0 := (liesO_new w u).c0
  have c4 := (liesO_new w u).c4
  by_cases hk : u.kind = 2
  · rw [oneE_is hk]
    rw [hk] at c0
    clear hk
    go_enter Tryz.func179, Tryz.ntmps179
    go_wp2
    go_ret
    exact ⟨rfl, HB.out⟩
  · rw [oneE_not hk]
    go_enter Tryz.func179, Tryz.ntmps179
    go_wp2
    go_ret
    exact ⟨rfl, HB.out⟩
/-! The program's Sum. -/
/-! The reference's Sum and Of. -/
/-! Check. -/
end T12
end Go.Proofs.YtmlfekbmbnfkjabGreatDoor

