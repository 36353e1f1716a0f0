/-
  Layer 21 as plain data: lines, bulks, commands; what a parser takes of bytes. No program is named here.
-/
import Derived.Lib.ItoaNum
import Derived.Lib.ItoaLen
namespace Go.Proofs.YtkhfplpplmnjiabDoor.Rs
set_option maxRecDepth 100000
open Go

def crlf : List UInt8 := [13, 10]
def ln (sign s : List UInt8) : List UInt8 := sign ++ s ++ crlf
def bulk (s : List UInt8) : List UInt8 := ln [36] (Lib.itoa s.length) ++ ln [] s
def many (L : List (List UInt8)) : List UInt8 := ln [42] (Lib.itoa L.length) ++ L.flatMap bulk
def flat (s : List UInt8) : List UInt8 := s.map fun c => if c = 13 ∨ c = 10 then 32 else c

/-! What is taken: an error's number (2: it isn't whole yet), or what it is and how many bytes it takes. -/
def passE : List UInt8 → List UInt8 → Nat
  | [], _ => 0
  | _ :: _, [] => 2
  | c :: cs, x :: d => if x = c then passE cs d else 3
def isDig (c : UInt8) : Bool := decide (48 ≤ c.toNat) && decide (c.toNat ≤ 57)
def dgR (k n : Nat) : List UInt8 → Except Nat (Nat × Nat)
  | [] => .error 2
  | c :: d => if isDig c then (if k = 6 ∨ (0 < k ∧ n = 0) then .error 3 else dgR (k + 1) (10 * n + (c.toNat - 48)) d) else if k = 0 then .error 3 else .ok (n, k)
def thenE {α β : Type} (r : Except Nat α) (f : α → Except Nat β) : Except Nat β := match r with | .error e => .error e | .ok a => f a
def chk (e : Nat) : Except Nat Unit := if e = 0 then .ok () else .error e
def cntR (sign : UInt8) (lo hi : Nat) (d : List UInt8) : Except Nat (Nat × Nat) :=
  thenE (chk (passE [sign] d)) fun _ => thenE (dgR 0 0 (d.drop 1)) fun r => thenE (chk (passE crlf (d.drop (1 + r.2)))) fun _ =>
  if r.1 < lo ∨ hi < r.1 then .error 4 else .ok (r.1, r.2 + 3)
def argR (d : List UInt8) : Except Nat (List UInt8 × Nat) :=
  thenE (cntR 36 0 64 d) fun r => if d.length - r.2 < r.1 then .error 2 else thenE (chk (passE crlf (d.drop (r.2 + r.1)))) fun _ => .ok ((d.drop r.2).take r.1, r.2 + r.1 + 2)
def argsR : Nat → List UInt8 → Except Nat (List (List UInt8) × Nat)
  | 0, _ => .ok ([], 0)
  | n + 1, d => thenE (argR d) fun r => thenE (argsR n (d.drop r.2)) fun q => .ok (r.1 :: q.1, r.2 + q.2)
def cmdR (d : List UInt8) : Except Nat (List (List UInt8) × Nat) :=
  thenE (cntR 42 1 8 d) fun r => thenE (argsR r.1 (d.drop r.2)) fun q => .ok (q.1, r.2 + q.2)
/-- Commands one behind the other: these, the place behind them, why no more. -/
def parseF : Nat → List UInt8 → List (List (List UInt8)) × Nat × Nat
  | 0, _ => ([], 0, 2)
  | f + 1, d => match cmdR d with
    | .error e => ([], 0, e)
    | .ok (l, k) => (l :: (parseF f (d.drop k)).1, k + (parseF f (d.drop k)).2.1, (parseF f (d.drop k)).2.2)
def parse (d : List UInt8) : List (List (List UInt8)) × Nat × Nat := parseF (d.length + 1) d

/-! Errors and lengths. -/
theorem thenE_error {α β : Type} {r : Except Nat α} {f : α → Except Nat β} {e : Nat} (h : r = .error e) : thenE r f = .error e := by rw [h]; rfl
theorem thenE_ok {α β : Type} {r : Except Nat α} {f : α → Except Nat β} {a : α} (h : r = .ok a) : thenE r f = f a := by rw [h]; rfl
theorem thenE_chk0 {β : Type} (f : Unit → Except Nat β) : thenE (chk 0) f = f () := rfl
theorem thenE_is {α β : Type} {r : Except Nat α} {f : α → Except Nat β} {b : β} (h : thenE r f = .ok b) : ∃ a, r = .ok a ∧ f a = .ok b := by
  cases r with
  | error e => cases h
  | ok a => exact ⟨a, rfl, h⟩
theorem chk_ok {e : Nat} {u : Unit} (h : chk e = .ok u) : e = 0 := by
  unfold chk at h
  split at h
  · assumption
  · cases h
theorem chk_no {e : Nat} (h : e ≠ 0) : chk e = .error e := by rw [chk, if_neg h]

theorem pass_len : ∀ (w d : List UInt8), passE w d = 0 → w.length ≤ d.length
  | [], _, _ => Nat.zero_le _
  | _ :: _, [], h => by cases h
  | c :: cs, x :: d, h => by
    rw [passE] at h
    split at h
    · have := pass_len cs d h; simp only [List.length_cons]; omega
    · cases h
theorem pass_bad (w d : List UInt8) : passE w d = 0 ∨ passE w d = 2 ∨ passE w d = 3 := by
  induction w generalizing d with
  | nil => exact .inl rfl
  | cons c cs ih =>
    cases d with
    | nil => exact .inr (.inl rfl)
    | cons x d =>
      rw [passE]
      split
      · exact ih d
      · exact .inr (.inr rfl)
theorem pass_more (w d x : List UInt8) (h : passE w d ≠ 2) : passE w (d ++ x) = passE w d := by
  induction w generalizing d with
  | nil => rfl
  | cons c cs ih =>
    cases d with
    | nil => exact absurd rfl h
    | cons y d =>
      rw [passE] at h
      rw [List.cons_append, passE, passE]
      split
      · rename_i hy
        rw [if_pos hy] at h
        exact ih d h
      · rfl
theorem pass_self (w x : List UInt8) : passE w (w ++ x) = 0 := by
  induction w with
  | nil => rfl
  | cons c cs ih => rw [List.cons_append, passE, if_pos rfl]; exact ih
theorem dg_len : ∀ (d : List UInt8) (k n : Nat) (r : Nat × Nat), dgR k n d = .ok r → k ≤ r.2 ∧ r.2 < k + d.length
  | [], _, _, _, h => by cases h
  | c :: d, k, n, r, h => by
    rw [dgR] at h
    split at h
    · split at h
      · cases h
      · have := dg_len d _ _ _ h
        simp only [List.length_cons]; omega
    · split at h
      · cases h
      · cases h; simp only [List.length_cons]; omega
theorem dg_more : ∀ (d x : List UInt8) (k n : Nat), dgR k n d ≠ .error 2 → dgR k n (d ++ x) = dgR k n d
  | [], _, _, _, h => absurd rfl h
  | c :: d, x, k, n, h => by
    rw [dgR] at h
    rw [List.cons_append, dgR, dgR]
    split
    · rename_i hc
      rw [if_pos hc] at h
      split
      · rfl
      · rename_i hk
        rw [if_neg hk] at h
        exact dg_more d x _ _ h
    · rfl
theorem cnt_len {s : UInt8} {lo hi : Nat} {d : List UInt8} {r : Nat × Nat} (h : cntR s lo hi d = .ok r) : 3 ≤ r.2 ∧ r.2 ≤ d.length ∧ lo ≤ r.1 ∧ r.1 ≤ hi := by
  obtain ⟨_, h1, h⟩ := thenE_is h
  obtain ⟨q, h2, h⟩ := thenE_is h
  obtain ⟨_, h3, h⟩ := thenE_is h
  have h3 := pass_len _ _ (chk_ok h3)
  simp only [crlf, List.length_cons, List.length_nil, List.length_drop] at h3
  split at h
  · cases h
  · cases h; dsimp only; omega
theorem drop_app {a : Nat} {d : List UInt8} (x : List UInt8) (h : a ≤ d.length) : (d ++ x).drop a = d.drop a ++ x := List.drop_append_of_le_length h
theorem cnt_more (s : UInt8) (lo hi : Nat) (d x : List UInt8) (h : cntR s lo hi d ≠ .error 2) : cntR s lo hi (d ++ x) = cntR s lo hi d := by
  unfold cntR at h ⊢
  rw [pass_more [s] d x (fun e => h (by rw [e]; rfl))]
  by_cases h0 : passE [s] d = 0
  · have hl := pass_len _ _ h0
    simp only [List.length_cons, List.length_nil] at hl
    rw [h0, thenE_chk0] at h ⊢
    rw [thenE_chk0]
    rw [drop_app x (by omega), dg_more _ x 0 0 (fun e => h (by rw [e]; rfl))]
    cases hd : dgR 0 0 (d.drop 1) with
    | error e => rfl
    | ok r =>
      rw [hd, thenE_ok rfl] at h
      have hr := dg_len _ _ _ _ hd
      rw [List.length_drop] at hr
      rw [thenE_ok rfl, thenE_ok rfl, drop_app x (by omega), pass_more _ _ x (fun e => h (by rw [e]; rfl))]
  · rw [chk_no h0]; rfl
theorem arg_len {d : List UInt8} {r : List UInt8 × Nat} (h : argR d = .ok r) : 3 ≤ r.2 ∧ r.2 ≤ d.length ∧ r.1.length ≤ 64 := by
  obtain ⟨q, h1, h⟩ := thenE_is h
  have h1 := cnt_len h1
  split at h
  · cases h
  · obtain ⟨_, h3, h⟩ := thenE_is h
    have h3 := pass_len _ _ (chk_ok h3)
    simp only [crlf, List.length_cons, List.length_nil, List.length_drop] at h3
    cases h; dsimp only; rw [List.length_take]; omega
theorem arg_more (d x : List UInt8) (h : argR d ≠ .error 2) : argR (d ++ x) = argR d := by
  unfold argR at h ⊢
  rw [cnt_more _ _ _ d x (fun e => h (by rw [e]; rfl))]
  cases hc : cntR 36 0 64 d with
  | error e => rfl
  | ok r =>
    obtain ⟨-, hl, -⟩ := cnt_len hc
    rw [hc, thenE_ok rfl] at h
    rw [thenE_ok rfl, thenE_ok rfl]
    by_cases hs : d.length - r.2 < r.1
    · rw [if_pos hs] at h; exact absurd rfl h
    · rw [if_neg hs] at h
      rw [if_neg hs, if_neg (by rw [List.length_append]; omega), drop_app x (by omega), pass_more _ _ x (fun e => h (by rw [e]; rfl)), drop_app x hl, List.take_append_of_le_length (by rw [List.length_drop]; omega)]
theorem args_len : ∀ (n : Nat) {d : List UInt8} {r : List (List UInt8) × Nat}, argsR n d = .ok r → r.2 ≤ d.length ∧ r.1.length = n ∧ ∀ s ∈ r.1, s.length ≤ 64
  | 0, d, r, h => by cases h; exact ⟨Nat.zero_le _, rfl, fun s hs => by cases hs⟩
  | n + 1, d, r, h => by
    obtain ⟨a, h1, h⟩ := thenE_is h
    obtain ⟨q, h2, h⟩ := thenE_is h
    have h1 := arg_len h1
    obtain ⟨h3, h4, h5⟩ := args_len n h2
    rw [List.length_drop] at h3
    cases h
    refine ⟨by dsimp only; omega, by simp [h4], fun s hs => ?_⟩
    rcases List.mem_cons.1 hs with rfl | hs
    · exact h1.2.2
    · exact h5 s hs
theorem args_more : ∀ (n : Nat) (d x : List UInt8), argsR n d ≠ .error 2 → argsR n (d ++ x) = argsR n d
  | 0, _, _, _ => rfl
  | n + 1, d, x, h => by
    rw [argsR] at h ⊢
    rw [argsR, arg_more d x (fun e => h (by rw [e]; rfl))]
    cases hc : argR d with
    | error e => rfl
    | ok r =>
      obtain ⟨-, hl, -⟩ := arg_len hc
      rw [hc, thenE_ok rfl] at h
      rw [thenE_ok rfl, thenE_ok rfl, drop_app x hl, args_more n _ x (fun e => h (by rw [e]; rfl))]
theorem cmd_len {d : List UInt8} {r : List (List UInt8) × Nat} (h : cmdR d = .ok r) : 3 ≤ r.2 ∧ r.2 ≤ d.length ∧ 1 ≤ r.1.length ∧ r.1.length ≤ 8 ∧ ∀ s ∈ r.1, s.length ≤ 64 := by
  obtain ⟨a, h1, h⟩ := thenE_is h
  obtain ⟨q, h2, h⟩ := thenE_is h
  have h1 := cnt_len h1
  obtain ⟨h3, h4, h5⟩ := args_len _ h2
  rw [List.length_drop] at h3
  cases h
  exact ⟨by dsimp only; omega, by dsimp only; omega, by dsimp only; omega, by dsimp only; omega, h5⟩
theorem cmd_more (d x : List UInt8) (h : cmdR d ≠ .error 2) : cmdR (d ++ x) = cmdR d := by
  unfold cmdR at h ⊢
  rw [cnt_more _ _ _ d x (fun e => h (by rw [e]; rfl))]
  cases hc : cntR 42 1 8 d with
  | error e => rfl
  | ok r =>
    obtain ⟨-, hl, -⟩ := cnt_len hc
    rw [hc, thenE_ok rfl] at h
    rw [thenE_ok rfl, thenE_ok rfl, drop_app x hl, args_more _ _ x (fun e => h (by rw [e]; rfl))]

/-! Errors are 2, 3, 4. -/
def Bad {α : Type} (r : Except Nat α) : Prop := ∀ e, r = .error e → e = 2 ∨ e = 3 ∨ e = 4
theorem bad_then {α β : Type} {r : Except Nat α} {f : α → Except Nat β} (h : Bad r) (hf : ∀ a, r = .ok a → Bad (f a)) : Bad (thenE r f) := by
  intro e he
  cases hr : r with
  | error e' => rw [hr] at he; cases he; exact h e hr
  | ok a => rw [hr] at he; exact hf a hr e he
theorem bad_ok {α : Type} (a : α) : Bad (Except.ok a : Except Nat α) := fun _ h => by cases h
theorem bad_err {α : Type} {e : Nat} (h : e = 2 ∨ e = 3 ∨ e = 4) : Bad (Except.error e : Except Nat α) := fun _ h' => by cases h'; exact h
theorem bad_chk (w d : List UInt8) : Bad (chk (passE w d)) := by
  intro e h
  rcases pass_bad w d with h0 | h0 | h0
  · rw [h0] at h; cases h
  · rw [h0] at h; cases h; exact .inl rfl
  · rw [h0] at h; cases h; exact .inr (.inl rfl)
theorem bad_dg : ∀ (d : List UInt8) (k n : Nat), Bad (dgR k n d)
  | [], _, _ => bad_err (.inl rfl)
  | c :: d, k, n => by
    rw [dgR]
    split
    · split
      · exact bad_err (.inr (.inl rfl))
      · exact bad_dg d _ _
    · split
      · exact bad_err (.inr (.inl rfl))
      · exact bad_ok _
theorem bad_cnt (s : UInt8) (lo hi : Nat) (d : List UInt8) : Bad (cntR s lo hi d) :=
  bad_then (bad_chk _ _) fun _ _ => bad_then (bad_dg _ _ _) fun _ _ => bad_then (bad_chk _ _) fun _ _ => by
    split
    · exact bad_err (.inr (.inr rfl))
    · exact bad_ok _
theorem bad_arg (d : List UInt8) : Bad (argR d) :=
  bad_then (bad_cnt _ _ _ _) fun _ _ => by
    split
    · exact bad_err (.inl rfl)
    · exact bad_then (bad_chk _ _) fun _ _ => bad_ok _
theorem bad_args : ∀ (n : Nat) (d : List UInt8), Bad (argsR n d)
  | 0, _ => bad_ok _
  | n + 1, _ => bad_then (bad_arg _) fun _ _ => bad_then (bad_args n _) fun _ _ => bad_ok _
theorem bad_cmd (d : List UInt8) : Bad (cmdR d) := bad_then (bad_cnt _ _ _ _) fun _ _ => bad_then (bad_args _ _) fun _ _ => bad_ok _

/-! Parsing. -/
theorem parseF_enough : ∀ (f g : Nat) (d : List UInt8), d.length < f → d.length < g → parseF f d = parseF g d
  | 0, _, _, h, _ => by omega
  | _, 0, _, _, h => by omega
  | f + 1, g + 1, d, hf, hg => by
    rw [parseF, parseF]
    cases hc : cmdR d with
    | error e => rfl
    | ok r =>
      obtain ⟨l, k⟩ := r
      obtain ⟨h1, h2, -⟩ := cmd_len hc
      dsimp only at h1 h2 ⊢
      rw [parseF_enough f g _ (by rw [List.length_drop]; omega) (by rw [List.length_drop]; omega)]
theorem parse_end {d : List UInt8} {e : Nat} (h : cmdR d = .error e) : parse d = ([], 0, e) := by rw [parse, parseF, h]
theorem parse_step {d : List UInt8} {l : List (List UInt8)} {k : Nat} (h : cmdR d = .ok (l, k)) : parse d = (l :: (parse (d.drop k)).1, k + (parse (d.drop k)).2.1, (parse (d.drop k)).2.2) := by
  obtain ⟨h1, h2, -⟩ := cmd_len h
  dsimp only at h1 h2
  rw [parse, parseF, h]
  dsimp only
  rw [parseF_enough d.length ((d.drop k).length + 1) _ (by rw [List.length_drop]; omega) (by omega)]
  rfl
theorem parse_ind {P : List UInt8 → Prop} (h : ∀ d, (∀ l k, cmdR d = .ok (l, k) → P (d.drop k)) → P d) (d : List UInt8) : P d := by
  suffices ∀ n (d : List UInt8), d.length < n → P d from this (d.length + 1) d (by omega)
  intro n
  induction n with
  | zero => intro d hd; omega
  | succ n ih =>
    intro d hd
    refine h d fun l k hc => ih _ ?_
    obtain ⟨h1, h2, -⟩ := cmd_len hc
    dsimp only at h1 h2
    rw [List.length_drop]; omega
theorem parse_bad (d : List UInt8) : (parse d).2.2 = 2 ∨ (parse d).2.2 = 3 ∨ (parse d).2.2 = 4 := by
  induction d using parse_ind with
  | _ d ih =>
    cases hc : cmdR d with
    | error e => rw [parse_end hc]; exact bad_cmd d e hc
    | ok r => rw [parse_step hc]; exact ih _ _ hc
theorem parse_len (d : List UInt8) : (parse d).2.1 ≤ d.length ∧ (∀ l ∈ (parse d).1, l.length ≤ 8 ∧ ∀ s ∈ l, s.length ≤ 64) ∧ 3 * (parse d).1.length ≤ (parse d).2.1 := by
  induction d using parse_ind with
  | _ d ih =>
    cases hc : cmdR d with
    | error e => rw [parse_end hc]; exact ⟨Nat.zero_le _, fun l hl => (by cases hl), Nat.le_refl _⟩
    | ok r =>
      obtain ⟨l, k⟩ := r
      obtain ⟨h1, h2, h3, h4, h5⟩ := cmd_len hc
      obtain ⟨h6, h7, h8⟩ := ih _ _ hc
      rw [parse_step hc]
      rw [List.length_drop] at h6
      dsimp only at h1 h2 ⊢
      refine ⟨by omega, fun x hx => ?_, by rw [List.length_cons]; omega⟩
      rcases List.mem_cons.1 hx with rfl | hx
      · exact ⟨h4, h5⟩
      · exact h7 x hx
/-- AN ERROR STAYS, whatever comes behind. -/
theorem parse_stays (d x : List UInt8) (h : (parse d).2.2 ≠ 2) : parse (d ++ x) = parse d := by
  induction d using parse_ind with
  | _ d ih =>
    cases hc : cmdR d with
    | error e =>
      rw [parse_end hc] at h
      rw [parse_end hc, parse_end ((cmd_more d x (by rw [hc]; simpa using h)).trans hc)]
    | ok r =>
      obtain ⟨l, k⟩ := r
      obtain ⟨h1, h2, -⟩ := cmd_len hc
      dsimp only at h1 h2
      rw [parse_step hc] at h ⊢
      rw [parse_step ((cmd_more d x (by rw [hc]; intro e; cases e)).trans hc), drop_app x h2, ih _ _ hc h]
/-- WHAT IS LEFT IS PARSED with what comes behind. -/
theorem parse_more (d x : List UInt8) (h : (parse d).2.2 = 2) : parse (d ++ x) = ((parse d).1 ++ (parse (d.drop (parse d).2.1 ++ x)).1, (parse d).2.1 + (parse (d.drop (parse d).2.1 ++ x)).2.1, (parse (d.drop (parse d).2.1 ++ x)).2.2) := by
  induction d using parse_ind with
  | _ d ih =>
    cases hc : cmdR d with
    | error e =>
      rw [parse_end hc]
      simp only [List.drop_zero, List.nil_append, Nat.zero_add]
    | ok r =>
      obtain ⟨l, k⟩ := r
      obtain ⟨h1, h2, -⟩ := cmd_len hc
      dsimp only at h1 h2
      rw [parse_step hc] at h ⊢
      have e := ih _ _ hc h
      rw [parse_step ((cmd_more d x (by rw [hc]; intro e; cases e)).trans hc), drop_app x h2, e]
      dsimp only
      rw [← List.drop_drop, List.cons_append, Nat.add_assoc]
end Go.Proofs.YtkhfplpplmnjiabDoor.Rs
