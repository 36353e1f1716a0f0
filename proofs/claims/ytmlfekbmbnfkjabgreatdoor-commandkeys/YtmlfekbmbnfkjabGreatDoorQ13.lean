/-
  Functions that plan: of texts, tallies, groups, keys.
-/
import Derived.Test.YtmlfekbmbnfkjabGreatDoorQ12
import Derived.Test.YtmlfekbmbnfkjabGreatDoorQ02
import Derived.Test.YtmlfekbmbnfkjabGreatDoorQ03
import Derived.Test.YtmlfekbmbnfkjabGreatDoorQ04
namespace Go.Proofs.YtmlfekbmbnfkjabGreatDoor
set_option maxRecDepth 100000
open Go.RowKit

theorem enters_doif (xs : Array Value) (w : World) : (callFunc 112 xs).run Tryz.prog w = .ok (.enter 112 xs) w := enters Tryz.func112 (by kernel_rfl) (by kernel_rfl) xs w
theorem enters_stype (xs : Array Value) (w : World) : (callFunc 28 xs).run Tryz.prog w = .ok (.enter 28 xs) w := enters Tryz.func28 (by kernel_rfl) (by kernel_rfl) xs w
theorem removekey_any (p : Option Addr) (c : Cl) (t : Int) (w : World) (hM : ∀ u, Below w.heap.size w u → Calls Tryz.prog 28 #[.pointer p, .string (sb c.key)] u fun x w' => x = .returned (.int .i64 t) ∧ Below u.heap.size u w') : Calls Tryz.prog 83 #[.pointer p, .agg (clc c)] w fun x w' => x = .returned (.agg (outd (!(t == 0)) 11 c.key [] [] 0 0 0)) ∧ Below w.heap.size w w' := by
  obtain ⟨nm, ky, fd, vl, n, m⟩ := c
  have F0 := fr_new w ⟨nm, ky, fd, vl, n, m⟩
  obtain ⟨W0, hW0⟩ : ∃ W0, (w.alloc (.cells (clc ⟨nm, ky, fd, vl, n, m⟩) 38)).alloc (.cells outz 53) = W0 := ⟨_, rfl⟩
  rw [hW0] at F0
  have hW1 : (w.alloc (.cells (clc ⟨nm, ky, fd, vl, n, m⟩) 38)).alloc (.cells #[.int .i64 0, .string ⟨#[]⟩, .int .i64 0, .slice none 0 0, .int .i64 0, .string ⟨#[]⟩, .string ⟨#[]⟩, .string ⟨#[]⟩, .int .i64 0, .int .i64 0, .int .i64 0, .bool false] 53) = W0 := hW0
  obtain ⟨B, hB⟩ : ∃ B, w.heap.size = B := ⟨_, rfl⟩
  rw [hB] at F0
  have FW0 : Hid (Fr w W0 B (B + 1) ⟨nm, ky, fd, vl, n, m⟩) := F0.1
  have hOW0 : Hid (W0.heap[B + 1]? = some (.cells outz 53 (0, 0))) := F0.2
  clear hW0 F0
  have HM : Hid (∀ u, Below w.heap.size w u → _) := hM
  clear hM
  go_enter Tryz.func83, Tryz.ntmps83
  go_wp2_with fail
  obtain ⟨W0d, hDW0d⟩ : ∃ W, W = W0.drew := ⟨_, rfl⟩
  have FW0d : Fr w W0d B (B + 1) ⟨nm, ky, fd, vl, n, m⟩ := by rw [hDW0d]; exact FW0.out.drew
  have hOW0d : W0d.heap[B + 1]? = some (.cells outz 53 (0, 0)) := by rw [hDW0d]; exact hOW0.out
  refine wp_region_noPanic ?_
  refine wp_region_held_drew (S := fun W' : World => Fr w W' B (B + 1) ⟨nm, ky, fd, vl, n, m⟩) (by kernel_rfl) (by rw [← hDW0d]; exact FW0d) (fun hHeld => ?_)
  rw [← hDW0d] at hHeld ⊢
  refine wpAnyH_take (i := 0) (oi := { dst := some 5, op := _, type := _, pos := _, after := _, guard := _ }) (v := .pointer p) rfl (by kernel_rfl) (by kernel_rfl) (by kernel_rfl) (fun _ _ _ h => h) (Or.inl ⟨by rfl, ?_⟩) (by assumption) ?_
  · intro w9 hSw
    exact y_move rfl rfl
  simp only [Act.put, List.setIfInBounds_toArray, List.set_cons_zero, List.set_cons_succ]
  refine wpAnyH_take (i := 1) (oi := { dst := some 6, op := _, type := _, pos := _, after := _, guard := _ }) (v := .pointer (some ⟨B, 1, none⟩)) rfl (by kernel_rfl) (by kernel_rfl) (by kernel_rfl) (fun _ _ _ h => h) (Or.inl ⟨by rfl, ?_⟩) (by assumption) ?_
  · intro w9 hSw
    exact y_field rfl rfl (fieldc1 _ _)
  simp only [Act.put, List.setIfInBounds_toArray, List.set_cons_zero, List.set_cons_succ]
  refine wpAnyH_take (i := 2) (oi := { dst := some 7, op := _, type := _, pos := _, after := _, guard := _ }) (v := .string (sb ky)) rfl (by kernel_rfl) (by kernel_rfl) (by kernel_rfl) (fun _ _ _ h => h) (Or.inl ⟨by rfl, ?_⟩) (by assumption) ?_
  · intro w9 hSw
    exact y_load rfl rfl hSw.l1
  simp only [Act.put, List.setIfInBounds_toArray, List.set_cons_zero, List.set_cons_succ]
  refine wpAnyH_take (i := 5) (oi := { dst := some 10, op := _, type := _, pos := _, after := _, guard := _ }) (v := .pointer (some ⟨B, 1, none⟩)) rfl (by kernel_rfl) (by kernel_rfl) (by kernel_rfl) (fun _ _ _ h => h) (Or.inl ⟨by rfl, ?_⟩) (by assumption) ?_
  · intro w9 hSw
    exact y_field rfl rfl (fieldc1 _ _)
  simp only [Act.put, List.setIfInBounds_toArray, List.set_cons_zero, List.set_cons_succ]
  refine wpAnyH_take (i := 6) (oi := { dst := some 11, op := _, type := _, pos := _, after := _, guard := _ }) (v := .string (sb ky)) rfl (by kernel_rfl) (by kernel_rfl) (by kernel_rfl) (fun _ _ _ h => h) (Or.inl ⟨by rfl, ?_⟩) (by assumption) ?_
  · intro w9 hSw
    exact y_load rfl rfl hSw.l1
  simp only [Act.put, List.setIfInBounds_toArray, List.set_cons_zero, List.set_cons_succ]
  refine wpAnyH_take (i := 7) (oi := { dst := some 12, op := _, type := _, pos := _, after := _, guard := _ }) (v := .agg #[.int .i64 (11), .string (sb ky), .string ⟨#[]⟩, .string ⟨#[]⟩, .int .i64 0, .int .i64 0, .int .i64 0]) rfl (by kernel_rfl) (by kernel_rfl) (by kernel_rfl) (fun _ _ _ h => h) (Or.inl ⟨by rfl, ?_⟩) (by assumption) ?_
  · intro w9 hSw
    exact y_bldS (vs := [(0, .int .i64 (11)), (1, .string (sb ky))]) rfl rfl (bld01 _ _ _)
  simp only [Act.put, List.setIfInBounds_toArray, List.set_cons_zero, List.set_cons_succ]
  clear hHeld
  refine wpAnyH_ready (rs := [3]) (by kernel_rfl) (by simp) ?_
  refine AllReadyH.cons (o := { dst := some 8, op := _, type := _, pos := _, after := _, guard := _ }) rfl (fun K hK => ?_) AllReadyH.nil
  rw [if_pos (by rfl)]
  have hCW0q1 := HM.out W0d FW0d.be
  refine y_call (f := 28) (xs := [.tmp 5, .tmp 7]) (vs := [.pointer p, .string (sb ky)]) rfl rfl (enters_stype _ _) hCW0q1 ?_
  rintro ex W0q1 ⟨rfl, hbW0q1⟩
  refine ⟨_, rfl, ?_⟩
  have FW0q1 := FW0d.below hbW0q1
  have hOW0q1 : W0q1.heap[B + 1]? = some (.cells outz 53 (0, 0)) := (hbW0q1.block _ (heap_lt22 hOW0d)).trans hOW0d
  clear hCW0q1 hbW0q1
  refine hK.out _ _ FW0q1 (fun hHeld => ?_)
  clear hK K
  simp only [Act.put, List.setIfInBounds_toArray, List.set_cons_zero, List.set_cons_succ]
  refine wpAnyH_take (i := 4) (oi := { dst := some 9, op := _, type := _, pos := _, after := _, guard := _ }) (v := .bool (!(t == 0))) rfl (by kernel_rfl) (by kernel_rfl) (by kernel_rfl) (fun _ _ _ h => h) (Or.inl ⟨by rfl, ?_⟩) (by assumption) ?_
  · intro w9 hSw
    exact y_bin22 rfl rfl rfl (guard_int22 _ _ _) (neq_int22 _ _ _)
  simp only [Act.put, List.setIfInBounds_toArray, List.set_cons_zero, List.set_cons_succ]
  clear hHeld
  refine wpAnyH_ready (rs := [8]) (by kernel_rfl) (by simp) ?_
  refine AllReadyH.cons (o := { dst := some 13, op := _, type := _, pos := _, after := _, guard := _ }) rfl (fun K hK => ?_) AllReadyH.nil
  rw [if_pos (by rfl)]
  have hCW0q2 := doif_outd (!(t == 0)) 11 ky [] [] 0 0 0 W0q1
  refine y_call (f := 112) (xs := [.tmp 9, .tmp 12]) (vs := [.bool (!(t == 0)), .agg #[.int .i64 (11), .string (sb ky), .string ⟨#[]⟩, .string ⟨#[]⟩, .int .i64 0, .int .i64 0, .int .i64 0]]) rfl rfl (enters_doif _ _) hCW0q2 ?_
  rintro ex W0q2 ⟨rfl, hbW0q2⟩
  refine ⟨_, rfl, ?_⟩
  have FW0q2 := FW0q1.below hbW0q2
  have hOW0q2 : W0q2.heap[B + 1]? = some (.cells outz 53 (0, 0)) := (hbW0q2.block _ (heap_lt22 hOW0q1)).trans hOW0q1
  clear hCW0q2 hbW0q2
  refine hK.out _ _ FW0q2 (fun hHeld => ?_)
  clear hK K
  simp only [Act.put, List.setIfInBounds_toArray, List.set_cons_zero, List.set_cons_succ]
  clear hHeld
  refine wpAnyH_ready (rs := [9]) (by kernel_rfl) (by simp) ?_
  refine AllReadyH.cons (o := { dst := none, op := _, type := _, pos := _, after := _, guard := _ }) rfl (fun K hK => ?_) AllReadyH.nil
  rw [if_pos (by rfl)]
  have hstW0q3 := storeVar_out (cs := outd (!(t == 0)) 11 ky [] [] 0 0 0) hOW0q2 (outd_size _ _ _ _ _ _ _ _) rfl (outd_one _ _ _ _ _ _ _ _)
  have hgW0q3 := setRow_heap W0q2 (B + 1) _ (outd (!(t == 0)) 11 ky [] [] 0 0 0) _ _ hOW0q2
  have FW0q3 := FW0q2.set (vs := outd (!(t == 0)) 11 ky [] [] 0 0 0)
  generalize W0q2.setRow (B + 1) (outd (!(t == 0)) 11 ky [] [] 0 0 0) = W0q3 at *
  refine y_store (ty := 53) (x := .tmp 4) (y := .tmp 13) (ad := ⟨B + 1, 0, none⟩) (v := .agg (outd (!(t == 0)) 11 ky [] [] 0 0 0)) (w' := W0q3) rfl rfl rfl hstW0q3 ?_
  refine hK.out _ _ FW0q3 (fun hHeld => ?_)
  clear hK K
  simp only [Act.put]
  refine wpAnyH_done (by kernel_rfl) ?_ _
  refine NoPanic.normal ?_
  clear hHeld
  go_wp2
  refine ret_out rfl rfl rfl hgW0q3 (outd_size _ _ _ _ _ _ _ _) ?_
  first | exact ⟨rfl, FW0q3.be⟩ | exact ⟨rfl, by rw [← hB]; exact FW0q3.be⟩
end Go.Proofs.YtmlfekbmbnfkjabGreatDoor

/-
  Plain facts: things under dots, in these' order.
-/
namespace Go.Proofs.YtmlfekbmbnfkjabGreatDoor
set_option maxRecDepth 100000

/-- A thing under a dot. -/
structure It (α : Type) where
  r : Int
  n : Int
  x : α

section
variable {α β : Type}

/-- Stands a ahead of b? -/
def bef (a b : It α) : Bool := decide (a.r < b.r ∨ (a.r = b.r ∧ a.n < b.n))
/-- Lies it under that dot? -/
def isAt (r n : Int) (i : It α) : Bool := decide (i.r = r ∧ i.n = n)
/-- In their dots' order. -/
def Srt (S : List (It α)) : Prop := S.Pairwise fun a b => bef a b = true
def del (S : List (It α)) (r n : Int) : List (It α) := S.filter fun i => !isAt r n i
def put (S : List (It α)) (d : It α) : List (It α) := S.filter (fun i => bef i d) ++ d :: S.filter (fun i => bef d i)
def find (S : List (It α)) (r n : Int) : Option (It α) := S.find? (isAt r n)
def hasD (S : List (It α)) (r n : Int) : Bool := S.any (isAt r n)

theorem bef_iff {a b : It α} : bef a b = true ↔ (a.r < b.r ∨ (a.r = b.r ∧ a.n < b.n)) := by simp [bef]
theorem isAt_iff {r n : Int} {i : It α} : isAt r n i = true ↔ (i.r = r ∧ i.n = n) := by simp [isAt]
theorem bef_irrefl (a : It α) : bef a a = false := by simp [bef]
theorem bef_trans {a b c : It α} (h : bef a b = true) (k : bef b c = true) : bef a c = true := by rw [bef_iff] at *; omega
theorem bef_asymm {a b : It α} (h : bef a b = true) : bef b a = false := by
  rw [bef_iff] at h
  cases hb : bef b a
  · rfl
  · rw [bef_iff] at hb; omega
theorem bef_tri (a d : It α) : isAt d.r d.n a = true ∨ bef a d = true ∨ bef d a = true := by rw [bef_iff, bef_iff, isAt_iff]; omega
theorem isAt_bef {a d : It α} (h : isAt d.r d.n a = true) : bef a d = false ∧ bef d a = false := by
  rw [isAt_iff] at h
  constructor
  · cases hb : bef a d
    · rfl
    · rw [bef_iff] at hb; omega
  · cases hb : bef d a
    · rfl
    · rw [bef_iff] at hb; omega
theorem bef_ne {a b : It α} (h : bef a b = true) : ¬ (a.r = b.r ∧ a.n = b.n) := by rw [bef_iff] at h; omega

theorem Srt.nil : Srt ([] : List (It α)) := List.Pairwise.nil
theorem Srt.filter {S : List (It α)} (h : Srt S) (p : It α → Bool) : Srt (S.filter p) := List.Pairwise.filter p h
theorem Srt.del {S : List (It α)} (h : Srt S) (r n : Int) : Srt (del S r n) := h.filter _
theorem Srt.put {S : List (It α)} (h : Srt S) (d : It α) : Srt (put S d) := by
  unfold Srt Proofs.YtmlfekbmbnfkjabGreatDoor.put
  rw [List.pairwise_append]
  refine ⟨h.filter _, List.pairwise_cons.2 ⟨fun a ha => (List.mem_filter.1 ha).2, h.filter _⟩, fun a ha b hb => ?_⟩
  have h1 := (List.mem_filter.1 ha).2
  rcases List.mem_cons.1 hb with rfl | hb
  · exact h1
  · exact bef_trans h1 (List.mem_filter.1 hb).2
theorem Srt.apart {S : List (It α)} (h : Srt S) : S.Pairwise fun a b => ¬ (a.r = b.r ∧ a.n = b.n) := h.imp bef_ne
/-- Two lists in order with the same things are one. -/
theorem Srt.eq_of_perm : ∀ {S T : List (It α)}, Srt S → Srt T → S.Perm T → S = T
  | [], T, _, _, hp => (List.Perm.nil_eq hp)
  | a :: S, [], _, _, hp => absurd hp.length_eq (by simp)
  | a :: S, b :: T, hS, hT, hp => by
    obtain ⟨h1, h2⟩ := List.pairwise_cons.1 hS
    obtain ⟨k1, k2⟩ := List.pairwise_cons.1 hT
    have e : a = b := by
      have ha : a ∈ b :: T := hp.mem_iff.1 (by simp)
      have hb : b ∈ a :: S := hp.mem_iff.2 (by simp)
      rcases List.mem_cons.1 ha with e | ha
      · exact e
      · rcases List.mem_cons.1 hb with e | hb
        · exact e.symm
        · have := bef_asymm (h1 b hb); rw [k1 a ha] at this; cases this
    subst e
    rw [Srt.eq_of_perm h2 k2 (List.perm_cons a |>.1 hp)]
theorem filter_or_perm {β : Type} (p q : β → Bool) : ∀ S : List β, (∀ i ∈ S, ¬ (p i = true ∧ q i = true)) → (S.filter p ++ S.filter q).Perm (S.filter fun i => p i || q i)
  | [], _ => by simp
  | a :: S, h => by
    have ih := filter_or_perm p q S (fun i hi => h i (by simp [hi]))
    have ha := h a (by simp)
    simp only [List.filter_cons]
    cases hp : p a <;> cases hq : q a
    · simpa using ih
    · simp only [Bool.false_eq_true, if_false, if_true, Bool.or_true]
      exact (List.perm_middle).trans (ih.cons a)
    · simp only [Bool.false_eq_true, if_false, if_true, Bool.true_or, List.cons_append]
      exact ih.cons a
    · exact absurd ⟨hp, hq⟩ ha
theorem put_perm (S : List (It α)) (d : It α) : (put S d).Perm (d :: del S d.r d.n) := by
  unfold put del
  refine (List.perm_middle).trans (List.Perm.cons d ?_)
  refine (filter_or_perm _ _ S (fun i _ h => by have := bef_asymm h.1; rw [h.2] at this; cases this)).trans ?_
  refine List.Perm.of_eq (List.filter_congr fun i _ => ?_)
  rcases bef_tri i d with h | h | h
  · obtain ⟨h1, h2⟩ := isAt_bef h
    rw [h, h1, h2]; rfl
  · have : isAt d.r d.n i = false := by
      cases hh : isAt d.r d.n i
      · rfl
      · rw [(isAt_bef hh).1] at h; cases h
    rw [h, this]; rfl
  · have : isAt d.r d.n i = false := by
      cases hh : isAt d.r d.n i
      · rfl
      · rw [(isAt_bef hh).2] at h; cases h
    rw [h, this]; simp
theorem hasD_iff {S : List (It α)} {r n : Int} : hasD S r n = true ↔ ∃ i ∈ S, i.r = r ∧ i.n = n := by
  simp [hasD, isAt]
theorem del_of_not {S : List (It α)} {r n : Int} (h : hasD S r n = false) : del S r n = S := by
  unfold del
  refine List.filter_eq_self.2 fun i hi => ?_
  cases hh : isAt r n i
  · rfl
  · have : hasD S r n = true := List.any_eq_true.2 ⟨i, hi, hh⟩
    rw [h] at this; cases this
/-- What is found there is the one thing that lies there. -/
theorem find_mem {S : List (It α)} {r n : Int} {i : It α} (h : find S r n = some i) : i ∈ S ∧ i.r = r ∧ i.n = n :=
  ⟨List.mem_of_find?_eq_some h, isAt_iff.1 (List.find?_some h)⟩
theorem find_none {S : List (It α)} {r n : Int} : find S r n = none ↔ hasD S r n = false := by
  simp [find, hasD]
theorem find_some {S : List (It α)} (hS : Srt S) {i : It α} (h : i ∈ S) : find S i.r i.n = some i := by
  unfold find
  cases hf : S.find? (isAt i.r i.n) with
  | none =>
    have := List.find?_eq_none.1 hf i h
    rw [isAt_iff] at this
    exact absurd ⟨rfl, rfl⟩ this
  | some j =>
    obtain ⟨hj, h1, h2⟩ := find_mem (S := S) (r := i.r) (n := i.n) hf
    congr 1
    have ap := hS.apart
    clear hf
    induction S with
    | nil => simp at h
    | cons a S ih =>
      obtain ⟨p1, p2⟩ := List.pairwise_cons.1 ap
      rcases List.mem_cons.1 h with e | h'
      · rcases List.mem_cons.1 hj with e' | hj'
        · rw [e, e']
        · exact absurd ⟨e ▸ h1.symm, e ▸ h2.symm⟩ (p1 j hj')
      · rcases List.mem_cons.1 hj with e' | hj'
        · exact absurd ⟨e' ▸ h1, e' ▸ h2⟩ (p1 i h')
        · exact ih (List.pairwise_cons.1 hS).2 h' hj' p2
theorem hasD_find {S : List (It α)} {r n : Int} : hasD S r n = (find S r n).isSome := by
  cases h : find S r n with
  | none => rw [find_none] at h; rw [h]; rfl
  | some i => obtain ⟨h1, h2, h3⟩ := find_mem h; exact hasD_iff.2 ⟨i, h1, h2, h3⟩
/-- How the things come one behind the other. -/
def puts (l : List (It α)) : List (It α) := l.foldl put []
theorem Srt.puts : ∀ l : List (It α), Srt (puts l) := by
  intro l
  unfold Proofs.YtmlfekbmbnfkjabGreatDoor.puts
  suffices h : ∀ (l S : List (It α)), Srt S → Srt (l.foldl Proofs.YtmlfekbmbnfkjabGreatDoor.put S) from h l [] Srt.nil
  intro l
  induction l with
  | nil => exact fun S h => h
  | cons a l ih => exact fun S h => ih _ (h.put a)
theorem perm_erase {γ : Type} : ∀ {L : List γ} {j : Nat} {i : γ}, L[j]? = some i → L.Perm (i :: L.eraseIdx j)
  | [], j, i, h => by simp at h
  | a :: L, 0, i, h => by
    obtain rfl : a = i := by simpa using h
    exact List.Perm.refl _
  | a :: L, j + 1, i, h => by
    have ih := perm_erase (L := L) (j := j) (i := i) (by simpa using h)
    simp only [List.eraseIdx_cons_succ]
    exact (ih.cons a).trans (List.Perm.swap i a _)
theorem perm_set {γ : Type} : ∀ {L : List γ} {j : Nat} {i x : γ}, L[j]? = some i → (L.set j x).Perm (x :: L.eraseIdx j)
  | [], j, i, x, h => by simp at h
  | a :: L, 0, i, x, h => List.Perm.refl _
  | a :: L, j + 1, i, x, h => by
    have ih := perm_set (L := L) (j := j) (i := i) (x := x) (by simpa using h)
    simp only [List.eraseIdx_cons_succ, List.set_cons_succ]
    exact (ih.cons a).trans (List.Perm.swap x a _)
theorem map_erase {γ δ : Type} (f : γ → δ) : ∀ (L : List γ) (j : Nat), (L.eraseIdx j).map f = (L.map f).eraseIdx j
  | [], j => by simp
  | a :: L, 0 => by simp
  | a :: L, j + 1 => by simp [map_erase f L j]
end

end Go.Proofs.YtmlfekbmbnfkjabGreatDoor

/-
  Things of many cells under dots.
-/
namespace Go.Proofs.YtmlfekbmbnfkjabGreatDoor
set_option maxRecDepth 100000
open Go.RowKit

/-- A thing's cells. -/
structure Cx (k : Nat) where
  l : List Value
  len : l.length = k
  one : ∀ u ∈ l, u.oneCell' = true
theorem Cx.same {k : Nat} {a b : Cx k} (h : a.l = b.l) : a = b := by
  cases a; cases b; cases h; rfl
/-- An item's cells. -/
def xl {k : Nat} (i : It (Cx k)) : List Value := .int .i64 i.r :: .int .i64 i.n :: i.x.l
def xc {k : Nat} (i : It (Cx k)) : Array Value := (xl i).toArray
theorem xl_length {k : Nat} (i : It (Cx k)) : (xl i).length = k + 2 := by simp [xl, i.x.len]
theorem xc_size {k : Nat} (i : It (Cx k)) : (xc i).size = k + 2 := by rw [xc, List.size_toArray, xl_length]
theorem xl_one {k : Nat} (i : It (Cx k)) : ∀ u ∈ xl i, u.oneCell' = true := by
  intro u hu
  simp only [xl, List.mem_cons] at hu
  rcases hu with rfl | rfl | hu
  · rfl
  · rfl
  · exact i.x.one u hu
theorem xc_one {k : Nat} (i : It (Cx k)) : (xc i).all (·.oneCell') = true := by
  rw [Array.all_eq_true_iff_forall_mem]
  exact fun u hu => xl_one i u (by simpa [xc] using hu)
/-- The cells of many. -/
def xs {k : Nat} (S : List (It (Cx k))) : List Value := S.flatMap xl
theorem xs_cons {k : Nat} (i : It (Cx k)) (S : List (It (Cx k))) : xs (i :: S) = xl i ++ xs S := by simp [xs]
theorem xs_length {k : Nat} : ∀ S : List (It (Cx k)), (xs S).length = S.length * (k + 2)
  | [] => by simp [xs]
  | i :: S => by
    rw [xs_cons, List.length_append, xs_length S, xl_length, List.length_cons, Nat.succ_mul]; omega
theorem xs_append {k : Nat} (S T : List (It (Cx k))) : xs (S ++ T) = xs S ++ xs T := by simp [xs]
theorem xs_one {k : Nat} (S : List (It (Cx k))) : ∀ u ∈ xs S, u.oneCell' = true := by
  intro u hu
  obtain ⟨i, -, h⟩ := List.mem_flatMap.1 hu
  exact xl_one i u h
theorem xs_at {k : Nat} : ∀ {S : List (It (Cx k))} (p : Nat) (i : It (Cx k)), S[p]? = some i → ∀ (j : Nat) (v : Value), (xl i)[j]? = some v → (xs S)[p * (k + 2) + j]? = some v
  | [], p, i, hi, j, v, hv => by simp at hi
  | x :: S, p, i, hi, j, v, hv => by
    cases p with
    | zero =>
      have : x = i := by simpa using hi
      subst this
      have hj : j < k + 2 := by have := (List.getElem?_eq_some_iff.1 hv).1; rw [xl_length] at this; exact this
      rw [xs_cons, Nat.zero_mul, Nat.zero_add, List.getElem?_append_left (by rw [xl_length]; omega)]
      exact hv
    | succ p =>
      rw [xs_cons, List.getElem?_append_right (by rw [xl_length, Nat.succ_mul]; omega), xl_length, show (p + 1) * (k + 2) + j - (k + 2) = p * (k + 2) + j by rw [Nat.succ_mul]; omega]
      exact xs_at p i (by simpa using hi) j v hv
theorem xs_set {k : Nat} : ∀ (S : List (It (Cx k))) (p : Nat) (i : It (Cx k)), p < S.length → xs (S.set p i) = (xs S).take (p * (k + 2)) ++ (xl i ++ (xs S).drop ((p + 1) * (k + 2)))
  | [], p, i, h => by simp at h
  | a :: S, 0, i, h => by
    have hl := xl_length a
    rw [List.set_cons_zero, xs_cons, xs_cons, Nat.zero_mul, List.take_zero, List.nil_append, Nat.zero_add, Nat.one_mul, ← hl, List.drop_left]
  | a :: S, p + 1, i, h => by
    have ih := xs_set S p i (by simpa using h)
    have hl := xl_length a
    have e1 : (p + 1) * (k + 2) = (xl a).length + p * (k + 2) := by rw [hl, Nat.succ_mul]; omega
    have e2 : (p + 1 + 1) * (k + 2) = (xl a).length + (p + 1) * (k + 2) := by rw [hl, Nat.succ_mul (p + 1)]; omega
    have t1 : (xl a ++ xs S).take ((p + 1) * (k + 2)) = xl a ++ (xs S).take (p * (k + 2)) := by rw [e1, List.take_length_add_append]
    rw [List.set_cons_succ, xs_cons, xs_cons, ih, t1, e2, List.drop_length_add_append, List.append_assoc]
theorem take_mid {C X : List Value} {p q N : Nat} (hN : N ≤ C.length) (hp : p + q ≤ N) (hX : X.length = q) : (C.take p ++ X ++ C.drop (p + q)).take N = (C.take N).take p ++ (X ++ (C.take N).drop (p + q)) := by
  have h1 : (C.take p ++ X).length = p + q := by rw [List.length_append, List.length_take, hX]; omega
  rw [List.take_append, List.take_of_length_le (by omega), h1, List.drop_take, List.take_take, Nat.min_eq_left (by omega), List.append_assoc]
/-- What a call may have turned: a block and a map; the map is then the old one, or a new one. -/
structure Tn (g : Nat) (m m' : Option Nat) (w w' : World) : Prop where
  os : w'.os = w.os
  tape : w'.tape = w.tape
  output : w'.output = w.output
  size : w.heap.size ≤ w'.heap.size
  block : ∀ k, k < w.heap.size → k ≠ g → m ≠ some k → w'.heap[k]? = w.heap[k]?
  own : ∀ k, m' = some k → m = some k ∨ w.heap.size ≤ k
theorem Tn.refl (g : Nat) (m : Option Nat) (w : World) : Tn g m m w w := ⟨rfl, rfl, rfl, Nat.le_refl _, fun _ _ _ _ => rfl, fun _ h => .inl h⟩
theorem Tn.trans {g : Nat} {m m' m'' : Option Nat} {a b c : World} (h : Tn g m m' a b) (k : Tn g m' m'' b c) : Tn g m m'' a c :=
  ⟨k.os.trans h.os, k.tape.trans h.tape, k.output.trans h.output, Nat.le_trans h.size k.size,
   fun i hi hg hv => (k.block i (Nat.lt_of_lt_of_le hi h.size) hg (fun e => by rcases h.own i e with h1 | h1; · exact hv h1
                                                                               · omega)).trans (h.block i hi hg hv),
   fun i hi => by
    rcases k.own i hi with h1 | h1
    · exact h.own i h1
    · exact .inr (Nat.le_trans h.size h1)⟩
theorem Tn.of_below {g : Nat} (m : Option Nat) {w w' : World} (h : Below w.heap.size w w') : Tn g m m w w' :=
  ⟨h.os, h.tape, h.output, h.size, fun k hk _ _ => h.block k hk, fun _ e => .inl e⟩
theorem Tn.below {g B : Nat} {m m' : Option Nat} {w w' : World} (h : Tn g m m' w w') (hB : B ≤ w.heap.size) (hg : B ≤ g) (hv : ∀ k, m = some k → B ≤ k) : Below B w w' :=
  ⟨h.os, h.tape, h.output, h.size, fun k hk => h.block k (by omega) (by omega) (fun e => by have := hv k e; omega)⟩
/-- Blocks of cells are as they were, but for those of one type. -/
def Kpc (th : TypeId) (W w' : World) : Prop := W.heap.size ≤ w'.heap.size ∧ ∀ (k : Nat) (cur : Array Value) (t : TypeId), t ≠ th → W.heap[k]? = some (.cells cur t (0, 0)) → w'.heap[k]? = W.heap[k]?
theorem Kpc.trans {th : TypeId} {a b c : World} (h : Kpc th a b) (k : Kpc th b c) : Kpc th a c :=
  ⟨Nat.le_trans h.1 k.1, fun i cur t ht hi => (k.2 i cur t ht ((h.2 i cur t ht hi).trans hi)).trans (h.2 i cur t ht hi)⟩
theorem Kpc.of_below {th : TypeId} {a b : World} (h : Below a.heap.size a b) : Kpc th a b :=
  ⟨h.size, fun k _ _ _ hk => h.block k (Array.getElem?_eq_some_iff.1 hk).1⟩
theorem grown_of_below {a b : World} (h : Below a.heap.size a b) : a.grownBy b none := ⟨h.os, h.tape, h.output, h.size, fun k hk _ => h.block k hk⟩
end Go.Proofs.YtmlfekbmbnfkjabGreatDoor

/-
  The zero thing, 28 cells an item.
-/
namespace Go.Proofs.YtmlfekbmbnfkjabGreatDoor.E
set_option maxRecDepth 100000
open Go.RowKit

def zx : Cx 26 := ⟨evl zv, by simp [evl, opl, zv, zeros], by
  intro u hu
  simp [evl, opl, zv, zeros] at hu
  rcases hu with rfl | rfl | rfl | rfl <;> rfl⟩
theorem zx_cells : xc (⟨0, 0, zx⟩ : It (Cx 26)) = #[Value.int IntKind.i64 0, Value.int IntKind.i64 0, Value.int IntKind.i64 0, Value.int IntKind.i64 0, Value.int IntKind.i64 0, Value.int IntKind.i64 0, Value.int IntKind.i64 0, Value.int IntKind.i64 0, Value.int IntKind.i64 0, Value.int IntKind.i64 0, Value.int IntKind.i64 0, Value.int IntKind.i64 0, Value.int IntKind.i64 0, Value.int IntKind.i64 0, Value.int IntKind.i64 0, Value.int IntKind.i64 0, Value.int IntKind.i64 0, Value.int IntKind.i64 0, Value.int IntKind.i64 0, Value.int IntKind.i64 0, Value.int IntKind.i64 0, Value.int IntKind.i64 0, Value.string { data := #[] }, Value.string { data := #[] }, Value.string { data := #[] }, Value.int IntKind.i64 0, Value.int IntKind.i64 0, Value.int IntKind.i64 0] := rfl
end Go.Proofs.YtmlfekbmbnfkjabGreatDoor.E

/-
  The zero thing, 30 cells an item.
-/
namespace Go.Proofs.YtmlfekbmbnfkjabGreatDoor.D
set_option maxRecDepth 100000
open Go.RowKit

def zx : Cx 28 := ⟨(evl zv ++ [.int .i64 0, .int .i64 0]), by simp [evl, opl, zv, zeros], by
  intro u hu
  simp [evl, opl, zv, zeros] at hu
  rcases hu with rfl | rfl | rfl | rfl <;> rfl⟩
theorem zx_cells : xc (⟨0, 0, zx⟩ : It (Cx 28)) = #[Value.int IntKind.i64 0, Value.int IntKind.i64 0, Value.int IntKind.i64 0, Value.int IntKind.i64 0, Value.int IntKind.i64 0, Value.int IntKind.i64 0, Value.int IntKind.i64 0, Value.int IntKind.i64 0, Value.int IntKind.i64 0, Value.int IntKind.i64 0, Value.int IntKind.i64 0, Value.int IntKind.i64 0, Value.int IntKind.i64 0, Value.int IntKind.i64 0, Value.int IntKind.i64 0, Value.int IntKind.i64 0, Value.int IntKind.i64 0, Value.int IntKind.i64 0, Value.int IntKind.i64 0, Value.int IntKind.i64 0, Value.int IntKind.i64 0, Value.int IntKind.i64 0, Value.string { data := #[] }, Value.string { data := #[] }, Value.string { data := #[] }, Value.int IntKind.i64 0, Value.int IntKind.i64 0, Value.int IntKind.i64 0, Value.int IntKind.i64 0, Value.int IntKind.i64 0] := rfl
end Go.Proofs.YtmlfekbmbnfkjabGreatDoor.D

/-
  Live and dead events as things under dots.
-/
namespace Go.Proofs.YtmlfekbmbnfkjabGreatDoor
set_option maxRecDepth 100000
open Go.RowKit

/-- A dead event, and the dot of what ended it. -/
structure Ed where
  push : Ev
  br : Int
  bn : Int
def edl (d : Ed) : List Value := evl d.push ++ [.int .i64 d.br, .int .i64 d.bn]
theorem evl_one (e : Ev) : ∀ u ∈ evl e, u.oneCell' = true := by
  have := evc_one e
  rw [Array.all_eq_true_iff_forall_mem] at this
  exact fun u hu => this u (by simpa [evc] using hu)
theorem edl_one (d : Ed) : ∀ u ∈ edl d, u.oneCell' = true := by
  intro u hu
  simp only [edl, List.mem_append, List.mem_cons, List.not_mem_nil, or_false] at hu
  rcases hu with hu | rfl | rfl
  · exact evl_one _ u hu
  · rfl
  · rfl
def evX (e : Ev) : Cx 26 := if h : e.deps.length = 16 then ⟨evl e, evl_length e h, evl_one e⟩ else E.zx
def edX (d : Ed) : Cx 28 := if h : d.push.deps.length = 16 then ⟨edl d, by simp [edl, evl_length _ h], edl_one d⟩ else D.zx
theorem evX_l {e : Ev} (h : e.deps.length = 16) : (evX e).l = evl e := by unfold evX; rw [dif_pos h]
theorem edX_l {d : Ed} (h : d.push.deps.length = 16) : (edX d).l = edl d := by unfold edX; rw [dif_pos h]
theorem evX_c {e : Ev} (h : e.deps.length = 16) : (evX e).l.toArray = evc e := by rw [evX_l h, evc]
def eit (e : Ev) : It (Cx 26) := ⟨e.r, e.n, evX e⟩
def dit (d : Ed) : It (Cx 28) := ⟨d.push.r, d.push.n, edX d⟩
def befE (a b : Ev) : Bool := decide (a.r < b.r ∨ (a.r = b.r ∧ a.n < b.n))
def putE (L : List Ev) (e : Ev) : List Ev := L.filter (fun a => befE a e) ++ e :: L.filter (fun a => befE e a)
def putD (D : List Ed) (d : Ed) : List Ed := D.filter (fun a => befE a.push d.push) ++ d :: D.filter (fun a => befE d.push a.push)
theorem put_eit (L : List Ev) (e : Ev) : put (L.map eit) (eit e) = (putE L e).map eit := by
  unfold put putE
  rw [List.filter_map, List.filter_map, List.map_append, List.map_cons]
  rfl
theorem put_dit (L : List Ed) (e : Ed) : put (L.map dit) (dit e) = (putD L e).map dit := by
  unfold put putD
  rw [List.filter_map, List.filter_map, List.map_append, List.map_cons]
  rfl
/-- In their dots' order. -/
def SrE (L : List Ev) : Prop := L.Pairwise fun a b => befE a b = true
def SrD (L : List Ed) : Prop := L.Pairwise fun a b => befE a.push b.push = true
theorem srt_eit {L : List Ev} : Srt (L.map eit) ↔ SrE L := by
  unfold Srt SrE
  rw [List.pairwise_map]
  exact Iff.rfl
theorem befE_iff {a b : Ev} : befE a b = true ↔ (a.r < b.r ∨ (a.r = b.r ∧ a.n < b.n)) := by simp [befE]
theorem SrE.same {L : List Ev} (h : SrE L) {a b : Ev} (ha : a ∈ L) (hb : b ∈ L) (hr : a.r = b.r) (hn : a.n = b.n) : a = b := by
  induction L with
  | nil => simp at ha
  | cons x L ih =>
    obtain ⟨h1, h2⟩ := List.pairwise_cons.1 h
    rcases List.mem_cons.1 ha with e1 | ha'
    · rcases List.mem_cons.1 hb with e2 | hb'
      · rw [e1, e2]
      · have := befE_iff.1 (h1 b hb'); rw [e1] at hr hn; omega
    · rcases List.mem_cons.1 hb with e2 | hb'
      · have := befE_iff.1 (h1 a ha'); rw [e2] at hr hn; omega
      · exact ih h2 ha' hb'
/-- What an event ends of live events: a Push is dead then. -/
def fell (e a : Ev) : Bool := endsE e a && decide (a.kind = 9)
def deadTo (e : Ev) (L : List Ev) (D : List Ed) : List Ed := L.foldl (fun D a => if fell e a then putD D ⟨a, e.r, e.n⟩ else D) D
theorem deadTo_snoc (e : Ev) (L : List Ev) (D : List Ed) (a : Ev) : deadTo e (L ++ [a]) D = if fell e a then putD (deadTo e L D) ⟨a, e.r, e.n⟩ else deadTo e L D := by simp [deadTo]
theorem ends_covers {e a : Ev} (h : hasv e.deps a.r a.n = false) : endsE e a = false := by
  unfold endsE coversE
  rw [h, Bool.false_and]
end Go.Proofs.YtmlfekbmbnfkjabGreatDoor

