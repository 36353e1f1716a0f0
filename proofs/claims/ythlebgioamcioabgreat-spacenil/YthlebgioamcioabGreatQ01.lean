/-
  Plain facts: things under dots, in these' order.
-/

namespace Go.Proofs.YthlebgioamcioabGreat
set_option maxRecDepth 100000

/-- A thing under a dot. -/
structure It (α : Type) where
  r : Int
  n : Int
  x : α

section
variable {α β : Type}

/-- Stands a ahead of b? -/
def bef (a b : It α) : Bool := decide (a.r < b.r ∨ (a.r = b.r ∧ a.n < b.n))
/-- Lies it under that dot? -/
def isAt (r n : Int) (i : It α) : Bool := decide (i.r = r ∧ i.n = n)
/-- In their dots' order. -/
def Srt (S : List (It α)) : Prop := S.Pairwise fun a b => bef a b = true
def del (S : List (It α)) (r n : Int) : List (It α) := S.filter fun i => !isAt r n i
def put (S : List (It α)) (d : It α) : List (It α) := S.filter (fun i => bef i d) ++ d :: S.filter (fun i => bef d i)
def find (S : List (It α)) (r n : Int) : Option (It α) := S.find? (isAt r n)
def hasD (S : List (It α)) (r n : Int) : Bool := S.any (isAt r n)

theorem bef_iff {a b : It α} : bef a b = true ↔ (a.r < b.r ∨ (a.r = b.r ∧ a.n < b.n)) := by simp [bef]
theorem isAt_iff {r n : Int} {i : It α} : isAt r n i = true ↔ (i.r = r ∧ i.n = n) := by simp [isAt]
theorem bef_irrefl (a : It α) : bef a a = false := by simp [bef]
theorem bef_trans {a b c : It α} (h : bef a b = true) (k : bef b c = true) : bef a c = true := by rw [bef_iff] at *; omega
theorem bef_asymm {a b : It α} (h : bef a b = true) : bef b a = false := by
  rw [bef_iff] at h
  cases hb : bef b a
  · rfl
  · rw [bef_iff] at hb; omega
theorem bef_tri (a d : It α) : isAt d.r d.n a = true ∨ bef a d = true ∨ bef d a = true := by rw [bef_iff, bef_iff, isAt_iff]; omega
theorem isAt_bef {a d : It α} (h : isAt d.r d.n a = true) : bef a d = false ∧ bef d a = false := by
  rw [isAt_iff] at h
  constructor
  · cases hb : bef a d
    · rfl
    · rw [bef_iff] at hb; omega
  · cases hb : bef d a
    · rfl
    · rw [bef_iff] at hb; omega
theorem bef_ne {a b : It α} (h : bef a b = true) : ¬ (a.r = b.r ∧ a.n = b.n) := by rw [bef_iff] at h; omega

theorem Srt.nil : Srt ([] : List (It α)) := List.Pairwise.nil
theorem Srt.filter {S : List (It α)} (h : Srt S) (p : It α → Bool) : Srt (S.filter p) := List.Pairwise.filter p h
theorem Srt.del {S : List (It α)} (h : Srt S) (r n : Int) : Srt (del S r n) := h.filter _
theorem Srt.put {S : List (It α)} (h : Srt S) (d : It α) : Srt (put S d) := by
  unfold Srt Proofs.YthlebgioamcioabGreat.put
  rw [List.pairwise_append]
  refine ⟨h.filter _, List.pairwise_cons.2 ⟨fun a ha => (List.mem_filter.1 ha).2, h.filter _⟩, fun a ha b hb => ?_⟩
  have h1 := (List.mem_filter.1 ha).2
  rcases List.mem_cons.1 hb with rfl | hb
  · exact h1
  · exact bef_trans h1 (List.mem_filter.1 hb).2
theorem Srt.apart {S : List (It α)} (h : Srt S) : S.Pairwise fun a b => ¬ (a.r = b.r ∧ a.n = b.n) := h.imp bef_ne
/-- Two lists in order with the same things are one. -/
theorem Srt.eq_of_perm : ∀ {S T : List (It α)}, Srt S → Srt T → S.Perm T → S = T
  | [], T, _, _, hp => (List.Perm.nil_eq hp)
  | a :: S, [], _, _, hp => absurd hp.length_eq (by simp)
  | a :: S, b :: T, hS, hT, hp => by
    obtain ⟨h1, h2⟩ := List.pairwise_cons.1 hS
    obtain ⟨k1, k2⟩ := List.pairwise_cons.1 hT
    have e : a = b := by
      have ha : a ∈ b :: T := hp.mem_iff.1 (by simp)
      have hb : b ∈ a :: S := hp.mem_iff.2 (by simp)
      rcases List.mem_cons.1 ha with e | ha
      · exact e
      · rcases List.mem_cons.1 hb with e | hb
        · exact e.symm
        · have := bef_asymm (h1 b hb); rw [k1 a ha] at this; cases this
    subst e
    rw [Srt.eq_of_perm h2 k2 (List.perm_cons a |>.1 hp)]
theorem filter_or_perm {β : Type} (p q : β → Bool) : ∀ S : List β, (∀ i ∈ S, ¬ (p i = true ∧ q i = true)) → (S.filter p ++ S.filter q).Perm (S.filter fun i => p i || q i)
  | [], _ => by simp
  | a :: S, h => by
    have ih := filter_or_perm p q S (fun i hi => h i (by simp [hi]))
    have ha := h a (by simp)
    simp only [List.filter_cons]
    cases hp : p a <;> cases hq : q a
    · simpa using ih
    · simp only [Bool.false_eq_true, if_false, if_true, Bool.or_true]
      exact (List.perm_middle).trans (ih.cons a)
    · simp only [Bool.false_eq_true, if_false, if_true, Bool.true_or, List.cons_append]
      exact ih.cons a
    · exact absurd ⟨hp, hq⟩ ha
theorem put_perm (S : List (It α)) (d : It α) : (put S d).Perm (d :: del S d.r d.n) := by
  unfold put del
  refine (List.perm_middle).trans (List.Perm.cons d ?_)
  refine (filter_or_perm _ _ S (fun i _ h => by have := bef_asymm h.1; rw [h.2] at this; cases this)).trans ?_
  refine List.Perm.of_eq (List.filter_congr fun i _ => ?_)
  rcases bef_tri i d with h | h | h
  · obtain ⟨h1, h2⟩ := isAt_bef h
    rw [h, h1, h2]; rfl
  · have : isAt d.r d.n i = false := by
      cases hh : isAt d.r d.n i
      · rfl
      · rw [(isAt_bef hh).1] at h; cases h
    rw [h, this]; rfl
  · have : isAt d.r d.n i = false := by
      cases hh : isAt d.r d.n i
      · rfl
      · rw [(isAt_bef hh).2] at h; cases h
    rw [h, this]; simp
theorem mem_put {S : List (It α)} {d i : It α} : i ∈ put S d ↔ i = d ∨ (i ∈ S ∧ isAt d.r d.n i = false) := by
  rw [(put_perm S d).mem_iff, List.mem_cons]
  simp [del]
theorem hasD_iff {S : List (It α)} {r n : Int} : hasD S r n = true ↔ ∃ i ∈ S, i.r = r ∧ i.n = n := by
  simp [hasD, isAt]
theorem del_of_not {S : List (It α)} {r n : Int} (h : hasD S r n = false) : del S r n = S := by
  unfold del
  refine List.filter_eq_self.2 fun i hi => ?_
  cases hh : isAt r n i
  · rfl
  · have : hasD S r n = true := List.any_eq_true.2 ⟨i, hi, hh⟩
    rw [h] at this; cases this
theorem del_length_of {S : List (It α)} (hS : Srt S) {r n : Int} (h : hasD S r n = true) : (del S r n).length + 1 = S.length := by
  induction S with
  | nil => simp [hasD] at h
  | cons a S ih =>
    obtain ⟨h1, h2⟩ := List.pairwise_cons.1 hS
    unfold del
    simp only [List.filter_cons]
    cases ha : isAt r n a
    · simp only [Bool.not_false, if_true, List.length_cons]
      have : hasD S r n = true := by simpa [hasD, ha] using h
      have := ih h2 this
      unfold del at this
      omega
    · simp only [Bool.not_true, Bool.false_eq_true, if_false, List.length_cons]
      have : S.filter (fun i => !isAt r n i) = S := List.filter_eq_self.2 fun i hi => by
        have hb := bef_ne (h1 i hi)
        rw [isAt_iff] at ha
        cases hh : isAt r n i
        · rfl
        · rw [isAt_iff] at hh; omega
      rw [this]
theorem put_length_new {S : List (It α)} {d : It α} (h : hasD S d.r d.n = false) : (put S d).length = S.length + 1 := by
  rw [(put_perm S d).length_eq, List.length_cons, del_of_not h]
theorem put_length_old {S : List (It α)} (hS : Srt S) {d : It α} (h : hasD S d.r d.n = true) : (put S d).length = S.length := by
  rw [(put_perm S d).length_eq, List.length_cons, del_length_of hS h]
theorem put_length_le (S : List (It α)) (d : It α) : (put S d).length ≤ S.length + 1 := by
  rw [(put_perm S d).length_eq, List.length_cons]
  have := List.length_filter_le (fun i => !isAt d.r d.n i) S
  unfold del; omega
/-- What is found there is the one thing that lies there. -/
theorem find_mem {S : List (It α)} {r n : Int} {i : It α} (h : find S r n = some i) : i ∈ S ∧ i.r = r ∧ i.n = n :=
  ⟨List.mem_of_find?_eq_some h, isAt_iff.1 (List.find?_some h)⟩
theorem find_none {S : List (It α)} {r n : Int} : find S r n = none ↔ hasD S r n = false := by
  simp [find, hasD]
theorem find_some {S : List (It α)} (hS : Srt S) {i : It α} (h : i ∈ S) : find S i.r i.n = some i := by
  unfold find
  cases hf : S.find? (isAt i.r i.n) with
  | none =>
    have := List.find?_eq_none.1 hf i h
    rw [isAt_iff] at this
    exact absurd ⟨rfl, rfl⟩ this
  | some j =>
    obtain ⟨hj, h1, h2⟩ := find_mem (S := S) (r := i.r) (n := i.n) hf
    congr 1
    have ap := hS.apart
    clear hf
    induction S with
    | nil => simp at h
    | cons a S ih =>
      obtain ⟨p1, p2⟩ := List.pairwise_cons.1 ap
      rcases List.mem_cons.1 h with e | h'
      · rcases List.mem_cons.1 hj with e' | hj'
        · rw [e, e']
        · exact absurd ⟨e ▸ h1.symm, e ▸ h2.symm⟩ (p1 j hj')
      · rcases List.mem_cons.1 hj with e' | hj'
        · exact absurd ⟨e' ▸ h1, e' ▸ h2⟩ (p1 i h')
        · exact ih (List.pairwise_cons.1 hS).2 h' hj' p2
theorem hasD_find {S : List (It α)} {r n : Int} : hasD S r n = (find S r n).isSome := by
  cases h : find S r n with
  | none => rw [find_none] at h; rw [h]; rfl
  | some i => obtain ⟨h1, h2, h3⟩ := find_mem h; exact hasD_iff.2 ⟨i, h1, h2, h3⟩
/-- What is put is found; nothing else changes. -/
theorem find_put_same {S : List (It α)} (hS : Srt S) (d : It α) : find (put S d) d.r d.n = some d :=
  find_some (hS.put d) (mem_put.2 (.inl rfl))
theorem find_put_other {S : List (It α)} (hS : Srt S) {d : It α} {r n : Int} (h : ¬ (r = d.r ∧ n = d.n)) : find (put S d) r n = find S r n := by
  cases hf : find S r n with
  | none =>
    rw [find_none] at hf ⊢
    cases hp : hasD (put S d) r n
    · rfl
    · obtain ⟨i, hi, h1, h2⟩ := hasD_iff.1 hp
      rcases mem_put.1 hi with rfl | ⟨hi, -⟩
      · exact absurd ⟨h1.symm, h2.symm⟩ h
      · have : hasD S r n = true := hasD_iff.2 ⟨i, hi, h1, h2⟩
        rw [hf] at this; cases this
  | some i =>
    obtain ⟨hi, rfl, rfl⟩ := find_mem hf
    refine find_some (hS.put d) (mem_put.2 (.inr ⟨hi, ?_⟩))
    cases hh : isAt d.r d.n i
    · rfl
    · exact absurd (isAt_iff.1 hh) h
theorem hasD_del (S : List (It α)) (r n : Int) : hasD (del S r n) r n = false := by
  cases hp : hasD (del S r n) r n
  · rfl
  · obtain ⟨i, hi, h1, h2⟩ := hasD_iff.1 hp
    have := (List.mem_filter.1 hi).2
    simp [isAt, h1, h2] at this
/-- How the things come one behind the other. -/
def puts (l : List (It α)) : List (It α) := l.foldl put []
theorem puts_snoc (l : List (It α)) (i : It α) : puts (l ++ [i]) = put (puts l) i := by simp [puts]
theorem puts_take {E : List (It α)} {k : Nat} {i : It α} (hi : E[k]? = some i) : puts (E.take (k + 1)) = put (puts (E.take k)) i := by
  rw [List.take_add_one, hi]
  exact puts_snoc _ _
theorem Srt.puts : ∀ l : List (It α), Srt (puts l) := by
  intro l
  unfold Proofs.YthlebgioamcioabGreat.puts
  suffices h : ∀ (l S : List (It α)), Srt S → Srt (l.foldl Proofs.YthlebgioamcioabGreat.put S) from h l [] Srt.nil
  intro l
  induction l with
  | nil => exact fun S h => h
  | cons a l ih => exact fun S h => ih _ (h.put a)
theorem puts_length (l : List (It α)) : (puts l).length ≤ l.length := by
  unfold puts
  suffices h : ∀ (l S : List (It α)), (l.foldl put S).length ≤ S.length + l.length from by simpa using h l []
  intro l
  induction l with
  | nil => intro S; simp
  | cons a l ih =>
    intro S
    have := ih (put S a)
    have := put_length_le S a
    simp only [List.foldl_cons, List.length_cons]
    omega
theorem perm_erase {γ : Type} : ∀ {L : List γ} {j : Nat} {i : γ}, L[j]? = some i → L.Perm (i :: L.eraseIdx j)
  | [], j, i, h => by simp at h
  | a :: L, 0, i, h => by
    obtain rfl : a = i := by simpa using h
    exact List.Perm.refl _
  | a :: L, j + 1, i, h => by
    have ih := perm_erase (L := L) (j := j) (i := i) (by simpa using h)
    simp only [List.eraseIdx_cons_succ]
    exact (ih.cons a).trans (List.Perm.swap i a _)
theorem perm_set {γ : Type} : ∀ {L : List γ} {j : Nat} {i x : γ}, L[j]? = some i → (L.set j x).Perm (x :: L.eraseIdx j)
  | [], j, i, x, h => by simp at h
  | a :: L, 0, i, x, h => List.Perm.refl _
  | a :: L, j + 1, i, x, h => by
    have ih := perm_set (L := L) (j := j) (i := i) (x := x) (by simpa using h)
    simp only [List.eraseIdx_cons_succ, List.set_cons_succ]
    exact (ih.cons a).trans (List.Perm.swap x a _)
theorem map_erase {γ δ : Type} (f : γ → δ) : ∀ (L : List γ) (j : Nat), (L.eraseIdx j).map f = (L.map f).eraseIdx j
  | [], j => by simp
  | a :: L, 0 => by simp
  | a :: L, j + 1 => by simp [map_erase f L j]
end
end Go.Proofs.YthlebgioamcioabGreat

/-
  Plain facts on numbers and their bytes (groups of seven bits, the highest first), without any program: a number's width, its bytes, that the bytes tell the number, that no other bytes do, and how they stand to one another. No condition but 'below 2^64' where it is written.
-/
namespace Go.Proofs.YthlebgioamcioabGreat.Vq
set_option maxRecDepth 100000

/-- How many groups a number takes. -/
def wdF : Nat → Nat → Nat
  | 0, _ => 1
  | f + 1, n => if n < 128 then 1 else wdF f (n / 128) + 1
def wd (n : Nat) : Nat := wdF 9 n

theorem wdF_of : ∀ (k f n : Nat), k ≤ f → (k = 0 ∨ 128 ^ k ≤ n) → n < 128 ^ (k + 1) → wdF f n = k + 1
  | 0, 0, n, _, _, _ => rfl
  | 0, f + 1, n, _, _, h => by simp at h; simp [wdF, h]
  | k + 1, 0, n, h, _, _ => by omega
  | k + 1, f + 1, n, hf, h1, h2 => by
    have h3 : 128 ^ (k + 1) ≤ n := by
      rcases h1 with h | h
      · omega
      · exact h
    have hp : 1 ≤ 128 ^ k := Nat.one_le_pow _ _ (by omega)
    have h4 : 128 ^ k * 128 ≤ n := by rw [Nat.pow_succ] at h3; exact h3
    have h5 : ¬ n < 128 := by omega
    have h6 : n < 128 ^ (k + 1) * 128 := by rw [Nat.pow_succ] at h2; exact h2
    rw [wdF, if_neg h5, wdF_of k f (n / 128) (by omega) (.inr (by omega)) (by omega)]

theorem wd_of (k n : Nat) (hk : k ≤ 9) (h1 : k = 0 ∨ 128 ^ k ≤ n) (h2 : n < 128 ^ (k + 1)) : wd n = k + 1 := wdF_of k 9 n hk h1 h2

theorem wdF_bd : ∀ f n, 1 ≤ wdF f n ∧ wdF f n ≤ f + 1
  | 0, _ => by simp [wdF]
  | f + 1, n => by
    have := wdF_bd f (n / 128)
    rw [wdF]; split <;> omega
theorem wd_pos (n : Nat) : 1 ≤ wd n := (wdF_bd 9 n).1
theorem wd_le (n : Nat) : wd n ≤ 10 := (wdF_bd 9 n).2

theorem wdF_lt : ∀ f n, n < 128 ^ (f + 1) → n < 128 ^ wdF f n
  | 0, n, h => by simpa [wdF] using h
  | f + 1, n, h => by
    rw [wdF]
    split
    · simpa using ‹n < 128›
    · have h2 : n < 128 ^ (f + 1) * 128 := by rw [Nat.pow_succ] at h; exact h
      have h1 := wdF_lt f (n / 128) (by omega)
      rw [Nat.pow_succ]; omega
theorem wd_lt (n : Nat) (h : n < 18446744073709551616) : n < 128 ^ wd n := wdF_lt 9 n (by omega)

theorem wdF_ge : ∀ f n, wdF f n = 1 ∨ 128 ^ (wdF f n - 1) ≤ n
  | 0, n => .inl rfl
  | f + 1, n => by
    rw [wdF]
    split
    · exact .inl rfl
    · right
      have hb := wdF_bd f (n / 128)
      have h1 := wdF_ge f (n / 128)
      rcases h1 with h | h
      · rw [h]; simp; omega
      · obtain ⟨k, hk⟩ : ∃ k, wdF f (n / 128) = k + 1 := ⟨wdF f (n / 128) - 1, by omega⟩
        rw [hk] at h ⊢
        simp only [Nat.add_sub_cancel] at h ⊢
        rw [Nat.pow_succ]; omega
theorem wd_ge (n : Nat) : wd n = 1 ∨ 128 ^ (wd n - 1) ≤ n := wdF_ge 9 n

/-- The k groups of n above its lowest ones, each with 128 added, the highest first. -/
def hi : Nat → Nat → List UInt8
  | 0, _ => []
  | k + 1, n => hi k (n / 128) ++ [UInt8.ofNat (128 + n % 128)]
/-- A number's bytes. -/
def num (n : Nat) : List UInt8 := hi (wd n - 1) (n / 128) ++ [UInt8.ofNat (n % 128)]

theorem hi_length : ∀ k n, (hi k n).length = k
  | 0, _ => rfl
  | k + 1, n => by simp [hi, hi_length k]
theorem num_length (n : Nat) : (num n).length = wd n := by
  have := wd_pos n
  simp [num, hi_length]; omega

theorem hi_get : ∀ (k n i : Nat), i < k → (hi k n)[i]? = some (UInt8.ofNat (128 + n / 128 ^ (k - 1 - i) % 128))
  | 0, _, _, h => by omega
  | k + 1, n, i, h => by
    by_cases hk : i = k
    · subst hk
      rw [hi, List.getElem?_append_right (by rw [hi_length]; omega), hi_length]
      simp
    · rw [hi, List.getElem?_append_left (by rw [hi_length]; omega), hi_get k (n / 128) i (by omega)]
      have e : k + 1 - 1 - i = (k - 1 - i) + 1 := by omega
      rw [e, Nat.pow_succ, Nat.mul_comm, ← Nat.div_div_eq_div_mul]

/-- The number that bytes tell. -/
def val (l : List UInt8) : Nat := l.foldl (fun a c => a * 128 + c.toNat % 128) 0
theorem val_snoc (l : List UInt8) (c : UInt8) : val (l ++ [c]) = val l * 128 + c.toNat % 128 := by simp [val]
theorem val_nil : val [] = 0 := rfl

theorem toNat_ofNat_lt (n : Nat) (h : n < 256) : (UInt8.ofNat n).toNat = n := by
  rw [UInt8.toNat_ofNat']; exact Nat.mod_eq_of_lt h

theorem val_hi : ∀ k n, n < 128 ^ k → val (hi k n) = n
  | 0, n, h => by simp at h; simp [hi, val, h]
  | k + 1, n, h => by
    rw [Nat.pow_succ] at h
    rw [hi, val_snoc, val_hi k (n / 128) (by omega), toNat_ofNat_lt _ (by omega)]
    omega
theorem val_num (n : Nat) (h : n < 18446744073709551616) : val (num n) = n := by
  have h1 := wd_lt n h
  have h2 := wd_pos n
  obtain ⟨k, hk⟩ : ∃ k, wd n = k + 1 := ⟨wd n - 1, by omega⟩
  rw [hk, Nat.pow_succ] at h1
  rw [num, val_snoc, hk, Nat.add_sub_cancel, val_hi k (n / 128) (by omega), toNat_ofNat_lt _ (by omega)]
  omega

theorem hi_big : ∀ k n, ∀ c ∈ hi k n, 128 ≤ c.toNat
  | 0, _, c, h => by simp [hi] at h
  | k + 1, n, c, h => by
    rw [hi, List.mem_append] at h
    rcases h with h | h
    · exact hi_big k _ c h
    · rw [List.mem_singleton] at h
      subst h
      rw [toNat_ofNat_lt _ (by omega)]; omega

/-- Bytes that are one number's: all but the last one are 128 or more, the last one is below, the first one isn't 128. -/
def Whole (l : List UInt8) : Prop := ∃ i c, l = i ++ [c] ∧ (∀ x ∈ i, 128 ≤ x.toNat) ∧ c.toNat < 128 ∧ l.head? ≠ some 128

theorem hi_head : ∀ k n, 128 ^ k ≤ n → n < 128 ^ (k + 1) → (hi (k + 1) n).head? ≠ some 128
  | 0, n, h1, h2 => by
    simp at h1 h2
    simp only [hi, List.nil_append, List.head?_cons, ne_eq, Option.some.injEq]
    intro h
    have := congrArg UInt8.toNat h
    rw [toNat_ofNat_lt _ (by omega)] at this
    have e : (128 : UInt8).toNat = 128 := rfl
    omega
  | k + 1, n, h1, h2 => by
    rw [Nat.pow_succ] at h1 h2
    rw [hi, List.head?_append]
    have := hi_head k (n / 128) (by omega) (by omega)
    have hl := hi_length (k + 1) (n / 128)
    cases e : hi (k + 1) (n / 128) with
    | nil => rw [e] at hl; simp at hl
    | cons a t => rw [e] at this; simpa using this

theorem whole_num (n : Nat) (h : n < 18446744073709551616) : Whole (num n) := by
  refine ⟨_, _, rfl, hi_big _ _, by rw [toNat_ofNat_lt _ (by omega)]; omega, ?_⟩
  rcases wd_ge n with hw | hw
  · rw [num, hw]
    simp only [Nat.sub_self, hi, List.nil_append, List.head?_cons, ne_eq, Option.some.injEq]
    intro h
    have := congrArg UInt8.toNat h
    rw [toNat_ofNat_lt _ (by omega)] at this
    have e : (128 : UInt8).toNat = 128 := rfl
    omega
  · have h1 := wd_lt n h
    have h2 := wd_pos n
    by_cases hw1 : wd n = 1
    · rw [num, hw1]
      simp only [Nat.sub_self, hi, List.nil_append, List.head?_cons, ne_eq, Option.some.injEq]
      intro h
      have := congrArg UInt8.toNat h
      rw [toNat_ofNat_lt _ (by omega)] at this
      have e : (128 : UInt8).toNat = 128 := rfl
      omega
    obtain ⟨k, hk⟩ : ∃ k, wd n = k + 2 := ⟨wd n - 2, by omega⟩
    have e1 : wd n - 1 = k + 1 := by omega
    rw [e1, Nat.pow_succ] at hw
    rw [hk, Nat.pow_succ] at h1
    rw [num, e1, List.head?_append]
    have := hi_head k (n / 128) (by omega) (by omega)
    have hl := hi_length (k + 1) (n / 128)
    cases e : hi (k + 1) (n / 128) with
    | nil => rw [e] at hl; simp at hl
    | cons a t => rw [e] at this; simpa using this

/-- Bytes of 128 and more are the groups of what they tell. -/
theorem hi_val : ∀ (k : Nat) (l : List UInt8), l.length = k → (∀ x ∈ l, 128 ≤ x.toNat) → hi k (val l) = l
  | 0, l, h, _ => by
    have : l = [] := List.eq_nil_of_length_eq_zero h
    subst this; rfl
  | k + 1, l, h, hb => by
    have hne : l ≠ [] := by intro e; rw [e] at h; simp at h
    obtain ⟨i, c, rfl⟩ : ∃ i c, l = i ++ [c] := ⟨l.dropLast, l.getLast hne, (List.dropLast_concat_getLast hne).symm⟩
    have hc := hb c (by simp)
    have hlt := c.toNat_lt
    have hi' := hi_val k i (by simpa using h) (fun x hx => hb x (by simp [hx]))
    rw [hi, val_snoc]
    have e1 : (val i * 128 + c.toNat % 128) / 128 = val i := by omega
    have e2 : 128 + (val i * 128 + c.toNat % 128) % 128 = c.toNat := by omega
    rw [e1, e2, hi', UInt8.ofNat_toNat]

theorem val_lt : ∀ (l : List UInt8), val l < 128 ^ l.length
  | l => by
    have key : ∀ (k : Nat) (l : List UInt8), l.length = k → val l < 128 ^ k := by
      intro k
      induction k with
      | zero => intro l h; have : l = [] := List.eq_nil_of_length_eq_zero h; subst this; simp [val]
      | succ k ih =>
        intro l h
        have hne : l ≠ [] := by intro e; rw [e] at h; simp at h
        obtain ⟨i, c, rfl⟩ : ∃ i c, l = i ++ [c] := ⟨l.dropLast, l.getLast hne, (List.dropLast_concat_getLast hne).symm⟩
        have := ih i (by simpa using h)
        rw [val_snoc, Nat.pow_succ]; omega
    exact key _ l rfl

/-- What begins with a byte that isn't 128 (but is above) tells no small number. -/
theorem val_ge : ∀ (k : Nat) (l : List UInt8), l.length = k + 1 → (∀ x ∈ l, 128 ≤ x.toNat) → l.head? ≠ some 128 → 128 ^ k ≤ val l := by
  intro k
  induction k with
  | zero =>
    intro l h hb hh
    match l, h with
    | [c], _ =>
      have hc := hb c (by simp)
      have : c.toNat ≠ 128 := by
        intro e
        apply hh
        simp only [List.head?_cons, Option.some.injEq]
        exact UInt8.toNat_inj.1 (by rw [e]; rfl)
      have := c.toNat_lt
      simp [val]; omega
  | succ k ih =>
    intro l h hb hh
    have hne : l ≠ [] := by intro e; rw [e] at h; simp at h
    obtain ⟨i, c, rfl⟩ : ∃ i c, l = i ++ [c] := ⟨l.dropLast, l.getLast hne, (List.dropLast_concat_getLast hne).symm⟩
    have hl : i.length = k + 1 := by simpa using h
    have hh' : i.head? ≠ some 128 := by
      cases i with
      | nil => simp at hl
      | cons a t => simpa using hh
    have := ih i hl (fun x hx => hb x (by simp [hx])) hh'
    rw [val_snoc, Nat.pow_succ]; omega

/-- NO OTHER BYTES: whole bytes that tell a number below 2^64 are that number's. -/
theorem num_val (l : List UInt8) (h : Whole l) (hv : val l < 18446744073709551616) : num (val l) = l := by
  obtain ⟨i, c, rfl, hb, hc, hh⟩ := h
  have hvl : val (i ++ [c]) = val i * 128 + c.toNat := by rw [val_snoc]; omega
  have e1 : (val i * 128 + c.toNat) / 128 = val i := by omega
  have e2 : (val i * 128 + c.toNat) % 128 = c.toNat := by omega
  have hw : wd (val (i ++ [c])) = i.length + 1 := by
    have hlt := val_lt (i ++ [c])
    have hlen : (i ++ [c]).length = i.length + 1 := by simp
    rw [hlen] at hlt
    have hge : i.length = 0 ∨ 128 ^ i.length ≤ val (i ++ [c]) := by
      by_cases h0 : i.length = 0
      · exact .inl h0
      · right
        obtain ⟨k, hk⟩ : ∃ k, i.length = k + 1 := ⟨i.length - 1, by omega⟩
        have hh' : i.head? ≠ some 128 := by
          cases i with
          | nil => simp at hk
          | cons a t => simpa using hh
        have := val_ge k i hk hb hh'
        rw [hk, Nat.pow_succ, hvl]; omega
    refine wd_of i.length _ ?_ hge hlt
    apply Nat.le_of_not_lt
    intro h9
    rcases hge with h0 | hge
    · omega
    · have : 128 ^ 10 ≤ 128 ^ i.length := Nat.pow_le_pow_right (by omega) h9
      have e : (128 : Nat) ^ 10 = 1180591620717411303424 := by decide
      omega
  rw [num, hw, hvl, e1, e2, Nat.add_sub_cancel, hi_val _ i rfl hb, UInt8.ofNat_toNat]

/-- Shorter is less. -/
theorem wd_mono (u v : Nat) (hu : u < 18446744073709551616) (hlt : wd u < wd v) : u < v := by
  have h1 := wd_lt u hu
  have h2 := wd_pos u
  rcases wd_ge v with h | h
  · omega
  · have : 128 ^ wd u ≤ 128 ^ (wd v - 1) := Nat.pow_le_pow_right (by omega) (by omega)
    omega

/-- HOW BYTES OF ONE LENGTH STAND: as the numbers. -/
theorem hi_orders : ∀ (k u v : Nat), u < 128 ^ k → v < 128 ^ k → ∀ (a b : UInt8), (hi k u ++ [a] < hi k v ++ [b] ↔ u < v ∨ (u = v ∧ a < b))
  | 0, u, v, hu, hv, a, b => by
    simp at hu hv
    subst hu hv
    show ([a] < [b]) ↔ _
    constructor
    · intro h
      refine .inr ⟨rfl, ?_⟩
      rcases List.cons_lt_cons_iff.1 h with h | h
      · exact h
      · exact absurd h.2 (List.not_lt_nil _)
    · rintro (h | ⟨_, h⟩)
      · omega
      · exact List.cons_lt_cons_iff.2 (.inl h)
  | k + 1, u, v, hu, hv, a, b => by
    rw [Nat.pow_succ] at hu hv
    have key : ∀ (x y : List UInt8) (c d : UInt8), x.length = y.length → (x ++ [c] < y ++ [d] ↔ x < y ∨ (x = y ∧ c < d)) := by
      intro x
      induction x with
      | nil =>
        intro y c d hl
        have : y = [] := List.eq_nil_of_length_eq_zero hl.symm
        subst this
        show ([c] < [d]) ↔ _
        constructor
        · intro h
          refine .inr ⟨rfl, ?_⟩
          rcases List.cons_lt_cons_iff.1 h with h | h
          · exact h
          · exact absurd h.2 (List.not_lt_nil _)
        · rintro (h | ⟨_, h⟩)
          · exact absurd h (List.not_lt_nil _)
          · exact List.cons_lt_cons_iff.2 (.inl h)
      | cons p x ih =>
        intro y c d hl
        cases y with
        | nil => simp at hl
        | cons q y =>
          have := ih y c d (by simpa using hl)
          simp only [List.cons_append, List.cons_lt_cons_iff, this, List.cons.injEq]
          constructor
          · rintro (h | ⟨h1, h2 | ⟨h2, h3⟩⟩)
            · exact .inl (.inl h)
            · exact .inl (.inr ⟨h1, h2⟩)
            · exact .inr ⟨⟨h1, h2⟩, h3⟩
          · rintro ((h | ⟨h1, h2⟩) | ⟨⟨h1, h2⟩, h3⟩)
            · exact .inl h
            · exact .inr ⟨h1, .inl h2⟩
            · exact .inr ⟨h1, .inr ⟨h2, h3⟩⟩
    rw [key _ _ a b (by rw [hi_length, hi_length])]
    have ih := hi_orders k (u / 128) (v / 128) (by omega) (by omega) (UInt8.ofNat (128 + u % 128)) (UInt8.ofNat (128 + v % 128))
    have ih2 := hi_orders k (v / 128) (u / 128) (by omega) (by omega) (UInt8.ofNat (128 + v % 128)) (UInt8.ofNat (128 + u % 128))
    have e1 : ∀ x y : Nat, (UInt8.ofNat (128 + x % 128) < UInt8.ofNat (128 + y % 128)) ↔ x % 128 < y % 128 := by
      intro x y
      rw [UInt8.lt_iff_toNat_lt, toNat_ofNat_lt _ (by omega), toNat_ofNat_lt _ (by omega)]; omega
    have heq : hi (k + 1) u = hi (k + 1) v ↔ u = v := by
      constructor
      · intro h
        have a1 := val_hi (k + 1) u (by rw [Nat.pow_succ]; exact hu)
        have a2 := val_hi (k + 1) v (by rw [Nat.pow_succ]; exact hv)
        rw [h, a2] at a1; exact a1.symm
      · intro h; rw [h]
    rw [heq]
    show (hi k (u / 128) ++ [UInt8.ofNat (128 + u % 128)] < hi k (v / 128) ++ [UInt8.ofNat (128 + v % 128)] ∨ _) ↔ _
    rw [ih, e1]
    constructor
    · rintro ((h | ⟨h1, h2⟩) | h)
      · left; omega
      · left; omega
      · exact .inr h
    · rintro (h | h)
      · left; omega
      · exact .inr h

theorem num_orders (u v : Nat) (hu : u < 18446744073709551616) (hv : v < 18446744073709551616) (h : wd u = wd v) : (num u < num v ↔ u < v) := by
  have h1 := wd_lt u hu
  have h2 := wd_lt v hv
  have h3 := wd_pos u
  obtain ⟨k, hk⟩ : ∃ k, wd u = k + 1 := ⟨wd u - 1, by omega⟩
  rw [hk, Nat.pow_succ] at h1
  rw [← h, hk, Nat.pow_succ] at h2
  rw [num, num, ← h, hk, Nat.add_sub_cancel, hi_orders k (u / 128) (v / 128) (by omega) (by omega), UInt8.lt_iff_toNat_lt, toNat_ofNat_lt _ (by omega), toNat_ofNat_lt _ (by omega)]
  omega

theorem num_inj (u v : Nat) (hu : u < 18446744073709551616) (hv : v < 18446744073709551616) : num u = num v ↔ u = v := by
  constructor
  · intro h
    have a1 := val_num u hu
    rw [h, val_num v hv] at a1; exact a1.symm
  · intro h; rw [h]

/-- What the groups' loop has laid when it ends, its last byte without its high bit. -/
theorem num_set (n : Nat) : (hi (wd n) n).set (wd n - 1) (UInt8.ofNat (n % 128)) = num n := by
  have h := wd_pos n
  obtain ⟨k, hk⟩ : ∃ k, wd n = k + 1 := ⟨wd n - 1, by omega⟩
  rw [num, hk, Nat.add_sub_cancel, hi, List.set_append_right _ _ (by rw [hi_length]; exact Nat.le_refl _), hi_length]
  simp

theorem wid_end {n k m : Nat} (hk : k ≤ 9) (hge : k = 0 ∨ 128 ^ k ≤ n) (hm : n / 128 ^ k = m) (h : m ≤ 127) : wd n = k + 1 := by
  refine wd_of k n hk hge ?_
  have hp : 0 < 128 ^ k := Nat.pow_pos (by omega)
  rw [Nat.pow_succ]
  rw [← hm] at h
  have h2 : n / 128 ^ k < 128 := by omega
  rw [Nat.div_lt_iff_lt_mul hp, Nat.mul_comm] at h2
  exact h2
theorem wid_step {n k m : Nat} (hn : n < 18446744073709551616) (hm : n / 128 ^ k = m) (h : ¬ m ≤ 127) : k + 1 ≤ 9 ∧ 128 ^ (k + 1) ≤ n ∧ n / 128 ^ (k + 1) = m / 128 := by
  have hp : 0 < 128 ^ k := Nat.pow_pos (by omega)
  have h1 : 128 ^ (k + 1) ≤ n := by
    have h2 : 128 ≤ n / 128 ^ k := by omega
    rw [Nat.le_div_iff_mul_le hp] at h2
    rw [Nat.pow_succ, Nat.mul_comm]; exact h2
  refine ⟨?_, h1, ?_⟩
  · apply Nat.le_of_not_lt
    intro h9
    have : 128 ^ 10 ≤ 128 ^ (k + 1) := Nat.pow_le_pow_right (by omega) h9
    have e : (128 : Nat) ^ 10 = 1180591620717411303424 := by decide
    omega
  · rw [Nat.pow_succ, ← Nat.div_div_eq_div_mul, hm]

theorem val_take_succ {l : List UInt8} {k : Nat} (h : k < l.length) : val (l.take (k + 1)) = val (l.take k) * 128 + (l.getD k 0).toNat % 128 := by
  rw [List.take_succ_eq_append_getElem h, val_snoc]
  simp [List.getD, h]
theorem val_take_mono {l : List UInt8} : ∀ (d k : Nat), k + d ≤ l.length → val (l.take k) ≤ val (l.take (k + d))
  | 0, k, _ => Nat.le_refl _
  | d + 1, k, h => by
    have h1 := val_take_mono (l := l) d k (by omega)
    have h2 := val_take_succ (l := l) (k := k + d) (by omega)
    rw [← Nat.add_assoc, h2]; omega
theorem val_take_small {l : List UInt8} {k : Nat} (h : k < l.length) (hv : val l < 18446744073709551616) : val (l.take k) ≤ 144115188075855871 := by
  have h1 := val_take_succ h
  have h2 := val_take_mono (l := l) (l.length - (k + 1)) (k + 1) (by omega)
  rw [show k + 1 + (l.length - (k + 1)) = l.length from by omega, List.take_length] at h2
  omega

theorem hi_cons : ∀ k m, hi (k + 1) m = UInt8.ofNat (128 + m / 128 ^ k % 128) :: hi k m
  | 0, m => by simp [hi]
  | k + 1, m => by
    rw [hi, hi_cons k (m / 128), hi]
    rw [Nat.div_div_eq_div_mul, Nat.mul_comm 128, ← Nat.pow_succ]
    rfl
theorem nbr_end {n k : Nat} (hk : k ≤ 9) (hge : k = 0 ∨ 128 ^ k ≤ n) (hm : n / 128 ^ (k + 1) = 0) : wd n = k + 1 := by
  refine wd_of k n hk hge ?_
  have hp : 0 < 128 ^ (k + 1) := Nat.pow_pos (by omega)
  rcases Nat.div_eq_zero_iff.1 hm with h | h
  · omega
  · exact h
theorem nbr_step {n k m : Nat} (hn : n < 18446744073709551616) (hm : n / 128 ^ (k + 1) = m) (h : ¬ m = 0) : k + 1 ≤ 9 ∧ 128 ^ (k + 1) ≤ n ∧ n / 128 ^ (k + 2) = m / 128 := by
  have hp : 0 < 128 ^ (k + 1) := Nat.pow_pos (by omega)
  have h1 : 128 ^ (k + 1) ≤ n := by
    apply Nat.le_of_not_lt
    intro hlt
    rw [Nat.div_eq_of_lt hlt] at hm
    omega
  refine ⟨?_, h1, ?_⟩
  · apply Nat.le_of_not_lt
    intro h9
    have : 128 ^ 10 ≤ 128 ^ (k + 1) := Nat.pow_le_pow_right (by omega) h9
    have e : (128 : Nat) ^ 10 = 1180591620717411303424 := by decide
    omega
  · rw [Nat.pow_succ _ (k + 1), ← Nat.div_div_eq_div_mul, hm]
end Go.Proofs.YthlebgioamcioabGreat.Vq

