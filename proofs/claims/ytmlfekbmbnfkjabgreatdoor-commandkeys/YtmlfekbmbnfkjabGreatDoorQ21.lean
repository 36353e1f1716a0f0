/-
  What it is to see an event, key by key.
-/
import Derived.Test.YtmlfekbmbnfkjabGreatDoorQ20
import Derived.Lib.MinMax
namespace Go.Proofs.YtmlfekbmbnfkjabGreatDoor
set_option maxRecDepth 100000
open Go.RowKit

theorem befE_trans {a b c : Ev} (h : befE a b = true) (k : befE b c = true) : befE a c = true := by rw [befE_iff] at *; omega
theorem befE_asymm {a b : Ev} (h : befE a b = true) : befE b a = false := by
  rw [befE_iff] at h
  cases hb : befE b a
  · rfl
  · rw [befE_iff] at hb; omega
theorem befE_tri (a b : Ev) : sameDot a b ∨ befE a b = true ∨ befE b a = true := by
  unfold sameDot
  rw [befE_iff, befE_iff]; omega
/-- Two lists in order with the same elements are one. -/
theorem ordered_one {α : Type} {R : α → α → Prop} (hR : ∀ a b, R a b → ¬ R b a) : ∀ {S T : List α}, S.Pairwise R → T.Pairwise R → S.Perm T → S = T
  | [], T, _, _, hp => (List.Perm.nil_eq hp)
  | a :: S, [], _, _, hp => absurd hp.length_eq (by simp)
  | a :: S, b :: T, hS, hT, hp => by
    obtain ⟨h1, h2⟩ := List.pairwise_cons.1 hS
    obtain ⟨k1, k2⟩ := List.pairwise_cons.1 hT
    have e : a = b := by
      have ha : a ∈ b :: T := hp.mem_iff.1 (by simp)
      have hb : b ∈ a :: S := hp.mem_iff.2 (by simp)
      rcases List.mem_cons.1 ha with e | ha
      · exact e
      · rcases List.mem_cons.1 hb with e | hb
        · exact e.symm
        · exact absurd (k1 a ha) (hR _ _ (h1 b hb))
    subst e
    rw [ordered_one hR h2 k2 (List.perm_cons a |>.1 hp)]
theorem SrE.one {S T : List Ev} (h : SrE S) (k : SrE T) (hp : S.Perm T) : S = T := ordered_one (fun a b h h' => by rw [befE_asymm h] at h'; cases h') h k hp
theorem SrD.one {S T : List Ed} (h : SrD S) (k : SrD T) (hp : S.Perm T) : S = T := ordered_one (R := fun a b : Ed => befE a.push b.push = true) (fun a b h h' => by rw [befE_asymm h] at h'; cases h') h k hp
def noDot (L : List Ev) (e : Ev) : Prop := ∀ a ∈ L, ¬ sameDot a e
def noDotD (DL : List Ed) (e : Ev) : Prop := ∀ d ∈ DL, ¬ sameDot d.push e
theorem putE_perm {L : List Ev} {e : Ev} (h : noDot L e) : (putE L e).Perm (e :: L) := by
  unfold putE
  refine (List.perm_middle).trans (List.Perm.cons e ?_)
  refine (filter_or_perm _ _ L (fun i _ h => by have := befE_asymm h.1; rw [h.2] at this; cases this)).trans ?_
  refine List.Perm.of_eq (List.filter_eq_self.2 fun a ha => ?_)
  rcases befE_tri a e with h' | h' | h'
  · exact absurd h' (h a ha)
  · rw [h']; rfl
  · rw [h', Bool.or_true]
theorem putD_perm {DL : List Ed} {d : Ed} (h : noDotD DL d.push) : (putD DL d).Perm (d :: DL) := by
  unfold putD
  refine (List.perm_middle).trans (List.Perm.cons d ?_)
  refine (filter_or_perm _ _ DL (fun i _ h => by have := befE_asymm h.1; rw [h.2] at this; cases this)).trans ?_
  refine List.Perm.of_eq (List.filter_eq_self.2 fun a ha => ?_)
  rcases befE_tri a.push d.push with h' | h' | h'
  · exact absurd h' (h a ha)
  · rw [h']; rfl
  · rw [h', Bool.or_true]
theorem SrE.put {L : List Ev} (h : SrE L) (e : Ev) : SrE (putE L e) := by
  unfold SrE putE
  rw [List.pairwise_append]
  refine ⟨List.Pairwise.filter _ h, List.pairwise_cons.2 ⟨fun a ha => (List.mem_filter.1 ha).2, List.Pairwise.filter _ h⟩, fun a ha b hb => ?_⟩
  have h1 := (List.mem_filter.1 ha).2
  rcases List.mem_cons.1 hb with rfl | hb
  · exact h1
  · exact befE_trans h1 (List.mem_filter.1 hb).2
theorem SrD.put {L : List Ed} (h : SrD L) (e : Ed) : SrD (putD L e) := by
  unfold SrD putD
  rw [List.pairwise_append]
  refine ⟨List.Pairwise.filter _ h, List.pairwise_cons.2 ⟨fun a ha => (List.mem_filter.1 ha).2, List.Pairwise.filter _ h⟩, fun a ha b hb => ?_⟩
  have h1 := (List.mem_filter.1 ha).2
  rcases List.mem_cons.1 hb with rfl | hb
  · exact h1
  · exact befE_trans h1 (List.mem_filter.1 hb).2
theorem SrE.filter {L : List Ev} (h : SrE L) (p : Ev → Bool) : SrE (L.filter p) := List.Pairwise.filter p h
theorem SrD.filter {L : List Ed} (h : SrD L) (p : Ed → Bool) : SrD (L.filter p) := List.Pairwise.filter p h
theorem ofKeyE_put {L : List Ev} {e : Ev} (hs : SrE L) (h : noDot L e) (k : Key) : ofKeyE k (putE L e) = if e.key = k then putE (ofKeyE k L) e else ofKeyE k L := by
  by_cases hk : e.key = k
  · rw [if_pos hk]
    refine SrE.one ((hs.put e).filter _) ((hs.filter _).put e) (((putE_perm h).filter _).trans ?_)
    rw [List.filter_cons_of_pos (by simpa using hk)]
    exact (putE_perm (fun a ha => h a (List.mem_filter.1 ha).1)).symm
  · rw [if_neg hk]
    refine SrE.one ((hs.put e).filter _) (hs.filter _) (((putE_perm h).filter _).trans ?_)
    rw [List.filter_cons_of_neg (by simpa using hk)]
    exact List.Perm.refl _
theorem ofKeyD_put {L : List Ed} {e : Ed} (hs : SrD L) (h : noDotD L e.push) (k : Key) : ofKeyD k (putD L e) = if e.push.key = k then putD (ofKeyD k L) e else ofKeyD k L := by
  by_cases hk : e.push.key = k
  · rw [if_pos hk]
    refine SrD.one ((hs.put e).filter _) ((hs.filter _).put e) (((putD_perm h).filter _).trans ?_)
    rw [List.filter_cons_of_pos (by simpa using hk)]
    exact (putD_perm (fun a ha => h a (List.mem_filter.1 ha).1)).symm
  · rw [if_neg hk]
    refine SrD.one ((hs.put e).filter _) (hs.filter _) (((putD_perm h).filter _).trans ?_)
    rw [List.filter_cons_of_neg (by simpa using hk)]
    exact List.Perm.refl _
theorem fell_key {e a : Ev} (h : fell e a = true) : e.key = a.key := by
  unfold fell at h
  rw [Bool.and_eq_true] at h
  exact ends_key h.1
/-- Key by key. -/
theorem dead_facts {e : Ev} : ∀ (L : List Ev) (DL : List Ed), SrD DL → (∀ a ∈ L, noDotD DL a) → L.Pairwise (fun a b => ¬ sameDot a b) →
    SrD (deadTo e L DL) ∧ (∀ k, ofKeyD k (deadTo e L DL) = if e.key = k then deadTo e (ofKeyE k L) (ofKeyD k DL) else ofKeyD k DL)
  | [], DL, hs, _, _ => ⟨hs, fun k => by split <;> rfl⟩
  | a :: L, DL, hs, hn, hp => by
    obtain ⟨p1, p2⟩ := List.pairwise_cons.1 hp
    have hstep : deadTo e (a :: L) DL = deadTo e L (if fell e a then putD DL ⟨a, e.r, e.n⟩ else DL) := rfl
    have hn' : ∀ b ∈ L, noDotD (if fell e a then putD DL ⟨a, e.r, e.n⟩ else DL) b := fun b hb d hd => by
      split at hd
      · rcases mem_putD hd with rfl | hd
        · exact p1 b hb
        · exact hn b (by simp [hb]) d hd
      · exact hn b (by simp [hb]) d hd
    have hs' : SrD (if fell e a then putD DL ⟨a, e.r, e.n⟩ else DL) := by
      split
      · exact hs.put _
      · exact hs
    obtain ⟨i1, i2⟩ := dead_facts L _ hs' hn' p2
    rw [hstep]
    refine ⟨i1, fun k => ?_⟩
    rw [i2 k]
    by_cases hk : e.key = k
    · rw [if_pos hk, if_pos hk]
      cases hf : fell e a
      · simp only [Bool.false_eq_true, if_false]
        unfold ofKeyE
        by_cases ha : a.key = k
        · rw [List.filter_cons_of_pos (by simpa using ha)]
          conv => rhs; unfold deadTo
          rw [List.foldl_cons, hf]
          rfl
        · rw [List.filter_cons_of_neg (by simpa using ha)]
      · have hak : a.key = k := (fell_key hf).symm.trans hk
        simp only [if_true]
        rw [ofKeyD_put (e := ⟨a, e.r, e.n⟩) hs (hn a (by simp)) k, if_pos hak]
        unfold ofKeyE
        rw [List.filter_cons_of_pos (by simpa using hak)]
        conv => rhs; unfold deadTo
        rw [List.foldl_cons, hf]
        rfl
    · rw [if_neg hk, if_neg hk]
      cases hf : fell e a
      · rfl
      · simp only [if_true]
        rw [ofKeyD_put (e := ⟨a, e.r, e.n⟩) hs (hn a (by simp)) k, if_neg (fun e' => hk ((fell_key hf).trans e'))]
theorem ends_of {e : Ev} (k : Key) (L : List Ev) : ofKeyE k (L.filter fun a => !endsE e a) = if e.key = k then (ofKeyE k L).filter (fun a => !endsE e a) else ofKeyE k L := by
  unfold ofKeyE
  by_cases hk : e.key = k
  · rw [if_pos hk, filter_comm]
  · rw [if_neg hk, filter_comm]
    refine List.filter_eq_self.2 fun a ha => ?_
    have h1 := (List.mem_filter.1 ha).2
    simp only [decide_eq_true_eq] at h1
    cases he : endsE e a
    · rfl
    · exact absurd ((ends_key he).trans h1) hk
/-- To see an event. -/
def seeE (s : St) (e : Ev) : St :=
  { seen := s.seen.set e.r.toNat e.n, time := max s.time e.t,
    L := if addsE e.kind then putE (s.L.filter fun a => !endsE e a) e else s.L.filter fun a => !endsE e a,
    DL := deadTo e s.L s.DL }
/-- What holds of a space. -/
structure Inv (s : St) : Prop where
  len : s.seen.length = 16
  seenL : ∀ a ∈ s.L, hasv s.seen a.r a.n = true
  seenD : ∀ d ∈ s.DL, hasv s.seen d.push.r d.push.n = true
  apart : ∀ a ∈ s.L, noDotD s.DL a
  srL : SrE s.L
  srD : SrD s.DL
theorem SrE.unlike {L : List Ev} (h : SrE L) : L.Pairwise fun a b => ¬ sameDot a b := h.imp fun {a b} h => by
  rw [befE_iff] at h
  unfold sameDot
  omega
end Go.Proofs.YtmlfekbmbnfkjabGreatDoor

/-
  What see comes to.
-/
namespace Go.Proofs.YtmlfekbmbnfkjabGreatDoor
set_option maxRecDepth 100000
open Go.RowKit
open Go.ChangeMaps (setBlock)

/-- Maps that are new belong to the key. -/
def Lay.more (Y : Lay) (key : Key) (m1 m2 : Option Nat) : Lay := { Y with own := fun k => if m1 = some k ∨ m2 = some k then some key else Y.own k }
theorem SpK.step {Y : Lay} {w w' : World} {g : Nat} {s : St} {key : Key} {h : Nat} {m1 m2 m1' m2' : Option Nat} {L L' : List Ev} {DL DL' : List Ed} (hS : SpK Y w g s (some key)) (hd : Hand Y w key h m1 m2 L DL) (ht : To h m1 m2 m1' m2' w w') (hH : Ho w' h m1' m2' L' DL') :
    SpK (Y.more key m1' m2') w' g s (some key) ∧ Hand (Y.more key m1' m2') w' key h m1' m2' L' DL' ∧ Tm g Y (Y.more key m1' m2') w w' := by
  have hnew : ∀ k, (m1' = some k ∨ m2' = some k) → Y.own k = some key ∨ w.heap.size ≤ k := fun k hk => by
    rcases hk with hk | hk
    · rcases ht.own1 k hk with q | q
      · exact .inl (hd.o1 k q)
      · exact .inr q
    · rcases ht.own2 k hk with q | q
      · exact .inl (hd.o2 k q)
      · exact .inr q
  have hkeep : ∀ k, k < w.heap.size → Y.own k ≠ some key → w'.heap[k]? = w.heap[k]? := fun k hk hne => ht.block k hk (fun e => hne (by rw [e]; exact hd.oh)) (fun e => hne (hd.o1 k e)) (fun e => hne (hd.o2 k e))
  have hold : ∀ k, k < w.heap.size → Y.own k ≠ some key → (Y.more key m1' m2').own k = Y.own k := fun k hk hne => by
    unfold Lay.more
    simp only
    rw [if_neg]
    intro e
    rcases hnew k e with q | q
    · exact hne q
    · omega
  have hgk : Y.own g ≠ some key := by rw [hS.og]; simp
  have hoth : ∀ p ∈ Y.S, some key ≠ some p.1 → ∀ k, Y.own k = some p.1 → k < w.heap.size ∧ Y.own k ≠ some key := fun p hp hx k hk => ⟨hS.ol k (by rw [hk]; simp), fun e => hx (e.symm.trans hk)⟩
  refine ⟨⟨by rw [hkeep g hS.lt hgk]; exact hS.blk, hS.len, ?_, fun p hp hx => ?_, hS.has, by rw [hold g hS.lt hgk]; exact hS.og, fun b hb => ?_, fun p hp hx => ?_, fun k hk => ?_, hS.srL, hS.srD, hS.wl, hS.wd⟩, ⟨hH, ?_, fun k hk => ?_, fun k hk => ?_, hd.mem⟩, ht.os, ht.tape, ht.output, ht.size, fun k hk _ _ ho => hkeep k hk (by rw [ho]; simp), fun _ e => .inl e, fun k hk => ?_⟩
  · rcases hS.map with hn | ⟨b, e, hm⟩
    · exact .inl hn
    · exact .inr ⟨b, e, hm.kept (hkeep b hm.lt (by rw [hS.ob b e]; simp))⟩
  · refine (hS.ho p hp hx).kept fun i hi ho => ?_
    obtain ⟨q1, q2, q3⟩ := hS.oh p hp hx
    rcases ho with rfl | ho | ho
    · exact hkeep _ hi (hoth p hp hx _ q1).2
    · exact hkeep _ hi (hoth p hp hx _ (q2 i ho)).2
    · exact hkeep _ hi (hoth p hp hx _ (q3 i ho)).2
  · have hb' : Y.own b = none := hS.ob b hb
    rw [hold b (hS.mlt b hb).1 (by rw [hb']; simp)]
    exact hb'
  · obtain ⟨q1, q2, q3⟩ := hS.oh p hp hx
    refine ⟨?_, fun k hk => ?_, fun k hk => ?_⟩
    · obtain ⟨a, c⟩ := hoth p hp hx _ q1
      rw [hold _ a c]; exact q1
    · obtain ⟨a, c⟩ := hoth p hp hx _ (q2 k hk)
      rw [hold _ a c]; exact q2 k hk
    · obtain ⟨a, c⟩ := hoth p hp hx _ (q3 k hk)
      rw [hold _ a c]; exact q3 k hk
  · unfold Lay.more at hk
    simp only at hk
    split at hk
    · rename_i e
      rcases e with e | e
      · exact (hH.live.own k e).1
      · exact (hH.dead.own k e).1
    · exact Nat.lt_of_lt_of_le (hS.ol k hk) ht.size
  · unfold Lay.more
    simp only
    split
    · rfl
    · exact hd.oh
  · unfold Lay.more
    simp only
    rw [if_pos (.inl hk)]
  · unfold Lay.more
    simp only
    rw [if_pos (.inr hk)]
  · unfold Lay.more at hk
    simp only at hk
    split at hk
    · rename_i e
      rcases hnew k e with q | q
      · exact .inl (by rw [q]; simp)
      · exact .inr q
    · exact .inl hk
/-- Another key's part of it plays no part. -/
theorem SpK.swap {Y : Lay} {w : World} {g : Nat} {s s' : St} {key : Key} (hS : SpK Y w g s (some key)) (h1 : s'.seen = s.seen) (h2 : s'.time = s.time) (hL : ∀ k, k ≠ key → ofKeyE k s'.L = ofKeyE k s.L) (hD : ∀ k, k ≠ key → ofKeyD k s'.DL = ofKeyD k s.DL)
    (srL : SrE s'.L) (srD : SrD s'.DL) (wl : ∀ a ∈ s'.L, Wide a) (wd : ∀ d ∈ s'.DL, Wide d.push) : SpK Y w g s' (some key) := by
  refine ⟨?_, by rw [h1]; exact hS.len, hS.map, fun p hp hx => ?_, fun k hx => ?_, hS.og, hS.ob, hS.oh, hS.ol, srL, srD, wl, wd⟩
  · have : spc s' Y.km = spc s Y.km := by unfold spc; rw [h1, h2]
    rw [this]; exact hS.blk
  · have hk : p.1 ≠ key := fun e => hx (by rw [e])
    rw [hL _ hk, hD _ hk]
    exact hS.ho p hp hx
  · have hk : k ≠ key := fun e => hx (by rw [e])
    rw [hL _ hk, hD _ hk]
    exact hS.has k hx
/-- The key's block comes into hand. -/
theorem SpK.take {Y : Lay} {w : World} {g : Nat} {s : St} {key : Key} {h : Nat} (hS : SpK Y w g s none) (ha : at? Y.S key = some h) : SpK Y w g s (some key) ∧ Hand Y w key h (Y.m1 h) (Y.m2 h) (ofKeyE key s.L) (ofKeyD key s.DL) := by
  have hm := at_mem ha
  obtain ⟨q1, q2, q3⟩ := hS.oh _ hm (by simp)
  exact ⟨⟨hS.blk, hS.len, hS.map, fun p hp _ => hS.ho p hp (by simp), fun k _ => hS.has k (by simp), hS.og, hS.ob, fun p hp _ => hS.oh p hp (by simp), hS.ol, hS.srL, hS.srD, hS.wl, hS.wd⟩, hS.ho _ hm (by simp), q1, q2, q3, fun h' hm' => nodup_one hS.nodup hm' hm⟩
def Lay.gain (Y : Lay) (key : Key) (h : Nat) : Lay := { Y with own := fun k => if k = h then some key else Y.own k }
theorem SpK.take_new {Y : Lay} {w : World} {g : Nat} {s : St} {key : Key} (hS : SpK Y w g s none) (ha : at? Y.S key = none) : SpK (Y.gain key w.heap.size) (w.alloc (.cells #[.map none, .map none] 86)) g s (some key) ∧
    Hand (Y.gain key w.heap.size) (w.alloc (.cells #[.map none, .map none] 86)) key w.heap.size none none (ofKeyE key s.L) (ofKeyD key s.DL) ∧ Tm g Y (Y.gain key w.heap.size) w (w.alloc (.cells #[.map none, .map none] 86)) := by
  have hb : Below w.heap.size w (w.alloc (.cells #[.map none, .map none] 86)) := (Below.refl _ w).alloc (Nat.le_refl _) _
  have hS1 := hS.below hb (Nat.le_refl _)
  have hno : ofKeyE key s.L = [] ∧ ofKeyD key s.DL = [] := by
    have this : ¬ (ofKeyE key s.L ≠ [] ∨ ofKeyD key s.DL ≠ []) := fun q => by
      obtain ⟨h, hm⟩ := (hS.has key (by simp)).2 q
      exact at_none ha h hm
    refine ⟨?_, ?_⟩
    · by_cases e : ofKeyE key s.L = []
      · exact e
      · exact absurd (.inl e) this
    · by_cases e : ofKeyD key s.DL = []
      · exact e
      · exact absurd (.inr e) this
  have hold : ∀ k, Y.own k ≠ none → (Y.gain key w.heap.size).own k = Y.own k := fun k hk => by
    unfold Lay.gain
    simp only
    rw [if_neg (by have := hS.ol k hk; omega)]
  have hlt : ∀ k, k < w.heap.size → (Y.gain key w.heap.size).own k = Y.own k := fun k hk => by
    unfold Lay.gain
    simp only
    rw [if_neg (by omega)]
  refine ⟨⟨hS1.blk, hS.len, hS1.map, fun p hp _ => hS1.ho p hp (by simp), fun k _ => hS.has k (by simp), by rw [hlt g hS.lt]; exact hS.og, fun b hb' => by rw [hlt b (hS.mlt b hb').1]; exact hS.ob b hb', fun p hp _ => ?_, fun k hk => ?_, hS.srL, hS.srD, hS.wl, hS.wd⟩, ⟨?_, ?_, fun k e => (by cases e), fun k e => (by cases e), fun h' hm => absurd hm (at_none ha h')⟩, hb.os, hb.tape, hb.output, hb.size, fun k hk _ _ _ => hb.block k hk, fun _ e => .inl e, fun k hk => ?_⟩
  · obtain ⟨q1, q2, q3⟩ := hS.oh p hp (by simp)
    exact ⟨by rw [hold _ (by rw [q1]; simp)]; exact q1, fun k hk => by rw [hold _ (by rw [q2 k hk]; simp)]; exact q2 k hk, fun k hk => by rw [hold _ (by rw [q3 k hk]; simp)]; exact q3 k hk⟩
  · by_cases e : k = w.heap.size
    · rw [e]; simp
    · have : (Y.gain key w.heap.size).own k = Y.own k := by unfold Lay.gain; simp only; rw [if_neg e]
      rw [this] at hk
      have := hS.ol k hk
      have := hb.size
      omega
  · rw [hno.1, hno.2]; exact hold_new w
  · unfold Lay.gain
    simp
  · by_cases e : k = w.heap.size
    · exact .inr (by omega)
    · have : (Y.gain key w.heap.size).own k = Y.own k := by unfold Lay.gain; simp only; rw [if_neg e]
      rw [this] at hk
      exact .inl hk
theorem sof_any (Y : Lay) (w : World) (g : Nat) (s : St) (key : Key) (h : SpK Y w g s none) :
    Calls Tryz.prog 34 #[.pointer (some ⟨g, 0, none⟩), .string (sb key)] w fun e w' => ∃ hb Y' m1 m2, e = .returned (.pointer (some ⟨hb, 0, none⟩)) ∧ SpK Y' w' g s (some key) ∧ Hand Y' w' key hb m1 m2 (ofKeyE key s.L) (ofKeyD key s.DL) ∧ Tm g Y Y' w w' := by
  refine (of_core Y w g s none key h).mono ?_
  rintro e w' ⟨hb, rfl, ⟨ha, rfl⟩ | ⟨ha, rfl, rfl⟩⟩
  · obtain ⟨h1, h2⟩ := h.take ha
    exact ⟨hb, Y, _, _, rfl, h1, h2, Tm.refl _ _ _⟩
  · obtain ⟨h1, h2, h3⟩ := h.take_new ha
    exact ⟨_, _, _, _, rfl, h1, h2, h3⟩
end Go.Proofs.YtmlfekbmbnfkjabGreatDoor

/-
  What see comes to.
-/
namespace Go.Proofs.YtmlfekbmbnfkjabGreatDoor
set_option maxRecDepth 100000
open Go.RowKit
open Go.ChangeMaps (setBlock)

/-- What an event leaves of the live and dead ones. -/
def stA (s : St) (e : Ev) : St := { s with L := s.L.filter fun a => !endsE e a, DL := deadTo e s.L s.DL }
def stB (s : St) (e : Ev) : St := { s with L := if addsE e.kind then putE (s.L.filter fun a => !endsE e a) e else s.L.filter fun a => !endsE e a, DL := deadTo e s.L s.DL }
/-- Ready as far as see asks. -/
structure Rdy (s : St) (e : Ev) : Prop where
  wide : Wide e
  r0 : 0 ≤ e.r
  r1 : e.r < 16
  new : hasv s.seen e.r e.n = false
theorem Inv.noDot {s : St} {e : Ev} (h : Inv s) (hr : Rdy s e) : noDot s.L e := fun a ha hs => by
  have h1 := h.seenL a ha
  rw [hs.1, hs.2, hr.new] at h1
  cases h1
theorem keys1 {s : St} {e : Ev} (h : Inv s) : (∀ k, k ≠ e.key → ofKeyE k (stA s e).L = ofKeyE k s.L) ∧ (∀ k, k ≠ e.key → ofKeyD k (stA s e).DL = ofKeyD k s.DL) ∧ SrE (stA s e).L ∧ SrD (stA s e).DL ∧
    ofKeyE e.key (stA s e).L = (ofKeyE e.key s.L).filter (fun a => !endsE e a) ∧ ofKeyD e.key (stA s e).DL = deadTo e (ofKeyE e.key s.L) (ofKeyD e.key s.DL) := by
  obtain ⟨d1, d2⟩ := dead_facts (e := e) s.L s.DL h.srD h.apart h.srL.unlike
  refine ⟨fun k hk => ?_, fun k hk => ?_, h.srL.filter _, d1, ?_, ?_⟩
  · show ofKeyE k (s.L.filter fun a => !endsE e a) = _
    rw [ends_of, if_neg (fun e' => hk e'.symm)]
  · show ofKeyD k (deadTo e s.L s.DL) = _
    rw [d2, if_neg (fun e' => hk e'.symm)]
  · show ofKeyE e.key (s.L.filter fun a => !endsE e a) = _
    rw [ends_of, if_pos rfl]
  · show ofKeyD e.key (deadTo e s.L s.DL) = _
    rw [d2, if_pos rfl]
theorem keys2 {s : St} {e : Ev} (h : Inv s) (hr : Rdy s e) (ha : addsE e.kind = true) : (∀ k, k ≠ e.key → ofKeyE k (stB s e).L = ofKeyE k (stA s e).L) ∧ SrE (stB s e).L ∧ ofKeyE e.key (stB s e).L = putE (ofKeyE e.key (stA s e).L) e := by
  have hn : noDot (stA s e).L e := fun a hm => h.noDot hr a (List.mem_filter.1 hm).1
  have hs : SrE (stA s e).L := h.srL.filter _
  have e1 : (stB s e).L = putE (stA s e).L e := by unfold stB stA; simp only [ha, if_true]
  rw [e1]
  refine ⟨fun k hk => ?_, hs.put e, ?_⟩
  · rw [ofKeyE_put hs hn, if_neg (fun e' => hk e'.symm)]
  · rw [ofKeyE_put hs hn, if_pos rfl]
theorem s2_none {s : St} {e : Ev} (ha : addsE e.kind = false) : stB s e = stA s e := by unfold stB stA; simp only [ha, Bool.false_eq_true, if_false]
theorem mem_putE {L : List Ev} {d x : Ev} (h : x ∈ putE L d) : x = d ∨ x ∈ L := by
  unfold putE at h
  rcases List.mem_append.1 h with h | h
  · exact .inr (List.mem_filter.1 h).1
  · rcases List.mem_cons.1 h with h | h
    · exact .inl h
    · exact .inr (List.mem_filter.1 h).1
theorem wide1 {s : St} {e : Ev} (wl : ∀ a ∈ s.L, Wide a) (wd : ∀ d ∈ s.DL, Wide d.push) : (∀ a ∈ (stA s e).L, Wide a) ∧ ∀ d ∈ (stA s e).DL, Wide d.push := by
  refine ⟨fun a ha => wl a (List.mem_filter.1 ha).1, fun d hd => ?_⟩
  rcases mem_dead _ _ hd with ⟨a, ha, rfl⟩ | h1
  · exact wl a ha
  · exact wd d h1
theorem enters_pute (xs : Array Value) (w : World) : (callFunc 37 xs).run Tryz.prog w = .ok (.enter 37 xs) w := enters Tryz.func37 (by kernel_rfl) (by kernel_rfl) xs w
theorem Tm.lies {g : Nat} {Y Y' : Lay} {w w' : World} {B : Nat} {e : Ev} (t : Tm g Y Y' w w') (h : LiesE w B e) (h1 : B ≠ g) (h2 : Y.km ≠ some B) (h3 : Y.own B = none) : LiesE w' B e := by
  rw [LiesE, t.block B h.lt h1 h2 h3]; exact h
/-- What see needs and leaves, ahead of the vector and the time. -/
structure Mid (g : Nat) (Y Y' : Lay) (w w' : World) (s : St) (B : Nat) (e : Ev) : Prop where
  sp : SpK Y' w' g s none
  tm : Tm g Y Y' w w'
  ev : LiesE w' B e
/-- A block that is none of a space's. -/
structure Free (Y : Lay) (g B : Nat) : Prop where
  g : B ≠ g
  km : Y.km ≠ some B
  own : Y.own B = none
theorem Tm.free {g B : Nat} {Y Y' : Lay} {w w' : World} (t : Tm g Y Y' w w') (hB : B < w.heap.size) (h : Free Y g B) : Free Y' g B := by
  refine ⟨h.g, fun e => ?_, ?_⟩
  · rcases t.km B e with q | q
    · exact h.km q
    · omega
  · cases hy : Y'.own B with
    | none => rfl
    | some k =>
      rcases t.own B (by rw [hy]; simp) with q | q
      · exact absurd h.own q
      · omega
theorem SpK.free {Y : Lay} {w : World} {g : Nat} {s : St} {x : Option Key} (h : SpK Y w g s x) : Free Y g w.heap.size := by
  refine ⟨by have := h.lt; omega, fun e => by have := (h.mlt _ e).1; omega, ?_⟩
  cases hy : Y.own w.heap.size with
  | none => rfl
  | some k => have := h.ol w.heap.size (by rw [hy]; simp); omega
theorem Tm.ev {g : Nat} {Y Y' : Lay} {w w' : World} {B : Nat} {e : Ev} (t : Tm g Y Y' w w') (h : LiesE w B e) (f : Free Y g B) : LiesE w' B e := t.lies h f.g f.km f.own
/-- Put into the live ones in hand. -/
theorem Ho.putL {w w' : World} {h : Nat} {m1 m2 m1' : Option Nat} {L : List Ev} {DL : List Ed} {e : Ev} (k : Ho w h m1 m2 L DL) (hw : Wide e) (hB : E.Bg w' h 0 ((#[.map m1, .map m2] : Array Value).setIfInBounds 0 (.map m1')) 86 m1' (put (L.map eit) (eit e))) (t : Tn h m1 m1' w w') :
    Ho w' h m1' m2 (putE L e) DL ∧ To h m1 m2 m1' m2 w w' := by
  have hB' : E.Bg w' h 0 #[.map m1', .map m2] 86 m1' ((putE L e).map eit) := by rw [← put_eit]; exact hB
  refine ⟨⟨hB', k.dead.other hB'.blk rfl (fun i hi hm => t.block i hi (fun e' => (k.dead.own i hm).2 e') (fun e' => k.ne i e' hm)), fun i hi hm => ?_, fun a ha => ?_, k.wd⟩, To.ofTn1 m2 t⟩
  · rcases t.own i hi with q | q
    · exact k.ne i q hm
    · have := (k.dead.own i hm).1; omega
  · rcases mem_putE ha with rfl | h1
    · exact hw
    · exact k.wl a h1
theorem index_vv (w : World) (g n k : Nat) (hk : k < 16) : (Instr.indexAt 41 (.pointer (some ⟨g, n, none⟩)) (.int .i64 (k : Int))).run Tryz.prog w = .ok (.pointer (some ⟨g, n + k, none⟩)) w := by
  have hu : Tryz.prog.underlying 41 = some (.array 16 3) := by kernel_rfl
  have e : (⟨g, n, none⟩ : Addr).add k = ⟨g, n + k, none⟩ := by unfold Addr.add; split <;> simp_all
  simp [Instr.indexAt, asIntOf, run_underlying hu, Sem.run_bind, Instr.sureAddr, hk, e]
theorem field_s0 (w : World) (g : Nat) : (Instr.fieldAt 58 (.pointer (some ⟨g, 0, none⟩)) 0).run Tryz.prog w = .ok (.pointer (some ⟨g, 0, none⟩)) w := by kernel_rfl
theorem field_s1 (w : World) (g : Nat) : (Instr.fieldAt 58 (.pointer (some ⟨g, 0, none⟩)) 1).run Tryz.prog w = .ok (.pointer (some ⟨g, 16, none⟩)) w := by kernel_rfl
theorem field_d0 (w : World) (g : Nat) : (Instr.fieldAt 32 (.pointer (some ⟨g, 0, none⟩)) 0).run Tryz.prog w = .ok (.pointer (some ⟨g, 0, none⟩)) w := by kernel_rfl
theorem field_d1 (w : World) (g : Nat) : (Instr.fieldAt 32 (.pointer (some ⟨g, 0, none⟩)) 1).run Tryz.prog w = .ok (.pointer (some ⟨g, 1, none⟩)) w := by kernel_rfl
theorem field_ev1 (w : World) (g : Nat) : (Instr.fieldAt 47 (.pointer (some ⟨g, 0, none⟩)) 1).run Tryz.prog w = .ok (.pointer (some ⟨g, 2, none⟩)) w := by kernel_rfl
theorem load_int {w : World} {ad : Addr} {v : Value} (h : w.cell? ad = some v) : (loadVar 3 ad).run Tryz.prog w = .ok v w := by
  have h3 : Tryz.prog.underlying 3 = some (.int .i64) := by kernel_rfl
  go_simp
theorem store_int {w : World} {ad : Addr} {u : Value} (n : Int) (h : w.cell? ad = some u) (hf : w.frozen? ad = false) : (storeVar 3 ad (.int .i64 n)).run Tryz.prog w = .ok () (w.setCell ad (.int .i64 n)) := by
  have h3 : Tryz.prog.underlying 3 = some (.int .i64) := by kernel_rfl
  go_simp
theorem y_ex {o : Oper} {a : Act} {w : World} {K : Act → World → Prop} {Q : Exit → Act → World → Prop} {v : Value} (he : (execOp a.eval o).run Tryz.prog w = .ok (.value v) w) (h : K (a.put o.dst v) w) : o.wp Tryz.prog a w K Q := by
  unfold Oper.wp
  rw [he]
  exact h
theorem y_max {o : Oper} {a : Act} {w : World} {x y : Operand} {m n : Int} {ts : Array TypeId} (ho : o.op = .call { callee := .builtin .max, args := #[x, y], argTypes := ts }) (hx : a.eval x = .int .i64 m) (hy : a.eval y = .int .i64 n) : (execOp a.eval o).run Tryz.prog w = .ok (.value (.int .i64 (max m n))) w := by
  unfold execOp
  simp only [ho, resolve, invoke, builtin, Sem.run_bind, Sem.run_pure, Result.andThen_ok, List.map_toArray, List.map_cons, List.map_nil, hx, hy, Go.Lib.run_max_ints]
/-- The vector's number. -/
theorem SpK.seenTo {Y : Lay} {w W : World} {g : Nat} {s : St} (h : SpK Y w g s none) (hW : W.heap = w.heap) (h1 : W.os = w.os) (h2 : W.tape = w.tape) (h3 : W.output = w.output) {r : Nat} (hr : r < 16) (n : Int) :
    SpK Y (W.setCell ⟨g, r, none⟩ (.int .i64 n)) g { s with seen := s.seen.set r n } none ∧ Tm g Y Y w (W.setCell ⟨g, r, none⟩ (.int .i64 n)) := by
  have hblk : W.heap[g]? = some (.cells (spc s Y.km) 58 (0, 0)) := by rw [hW]; exact h.blk
  have hot : ∀ k, k ≠ g → (W.setCell ⟨g, r, none⟩ (.int .i64 n)).heap[k]? = w.heap[k]? := fun k hk => by rw [Below.heap_setCell _ _ _ k hk, hW]
  have hsz : w.heap.size ≤ (W.setCell ⟨g, r, none⟩ (.int .i64 n)).heap.size := by simp [World.setCell, hW]
  have hgne : ∀ k, Y.own k ≠ none → k ≠ g := fun k hk e => by rw [e, h.og] at hk; exact hk rfl
  refine ⟨⟨?_, by simp [h.len], ?_, fun p hp hx => ?_, h.has, h.og, h.ob, h.oh, fun k hk => Nat.lt_of_lt_of_le (h.ol k hk) hsz, h.srL, h.srD, h.wl, h.wd⟩, h1, h2, h3, hsz, fun k _ hk _ _ => hot k hk, fun _ e => .inl e, fun _ e => .inl e⟩
  · rw [heap_setCell_same _ g r _ _ _ hblk]
    congr 2
    unfold spc
    rw [List.setIfInBounds_toArray, List.set_append_left _ _ (by simp [h.len]; exact hr), ← List.map_set]
  · rcases h.map with hn | ⟨b, e, hm⟩
    · exact .inl hn
    · exact .inr ⟨b, e, hm.kept (hot b (h.mlt b e).2)⟩
  · refine (h.ho p hp hx).kept fun i hi ho => hot i ?_
    obtain ⟨q1, q2, q3⟩ := h.oh p hp hx
    rcases ho with rfl | ho | ho
    · exact hgne _ (by rw [q1]; simp)
    · exact hgne _ (by rw [q2 i ho]; simp)
    · exact hgne _ (by rw [q3 i ho]; simp)
theorem SpK.timeTo {Y : Lay} {w W : World} {g : Nat} {s : St} (h : SpK Y w g s none) (hW : W.heap = w.heap) (h1 : W.os = w.os) (h2 : W.tape = w.tape) (h3 : W.output = w.output) (n : Int) :
    SpK Y (W.setCell ⟨g, 16, none⟩ (.int .i64 n)) g { s with time := n } none ∧ Tm g Y Y w (W.setCell ⟨g, 16, none⟩ (.int .i64 n)) := by
  have hblk : W.heap[g]? = some (.cells (spc s Y.km) 58 (0, 0)) := by rw [hW]; exact h.blk
  have hot : ∀ k, k ≠ g → (W.setCell ⟨g, 16, none⟩ (.int .i64 n)).heap[k]? = w.heap[k]? := fun k hk => by rw [Below.heap_setCell _ _ _ k hk, hW]
  have hsz : w.heap.size ≤ (W.setCell ⟨g, 16, none⟩ (.int .i64 n)).heap.size := by simp [World.setCell, hW]
  have hgne : ∀ k, Y.own k ≠ none → k ≠ g := fun k hk e => by rw [e, h.og] at hk; exact hk rfl
  refine ⟨⟨?_, h.len, ?_, fun p hp hx => ?_, h.has, h.og, h.ob, h.oh, fun k hk => Nat.lt_of_lt_of_le (h.ol k hk) hsz, h.srL, h.srD, h.wl, h.wd⟩, h1, h2, h3, hsz, fun k _ hk _ _ => hot k hk, fun _ e => .inl e, fun _ e => .inl e⟩
  · rw [heap_setCell_same _ g 16 _ _ _ hblk]
    congr 2
    unfold spc
    rw [List.setIfInBounds_toArray, List.set_append_right _ _ (by simp [h.len])]
    simp [h.len]
  · rcases h.map with hn | ⟨b, e, hm⟩
    · exact .inl hn
    · exact .inr ⟨b, e, hm.kept (hot b (h.mlt b e).2)⟩
  · refine (h.ho p hp hx).kept fun i hi ho => hot i ?_
    obtain ⟨q1, q2, q3⟩ := h.oh p hp hx
    rcases ho with rfl | ho | ho
    · exact hgne _ (by rw [q1]; simp)
    · exact hgne _ (by rw [q2 i ho]; simp)
    · exact hgne _ (by rw [q3 i ho]; simp)
end Go.Proofs.YtmlfekbmbnfkjabGreatDoor

