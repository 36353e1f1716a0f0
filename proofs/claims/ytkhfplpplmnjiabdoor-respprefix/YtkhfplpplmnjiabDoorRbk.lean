/-
  Layer 21 as plain data, further: numerals, commands' bytes and what is taken of them; what a line's digits come to, one by one. No program is named here.
-/
import Derived.Test.YtkhfplpplmnjiabDoorRpl
namespace Go.Proofs.YtkhfplpplmnjiabDoor.Rs
set_option maxRecDepth 100000
open Go

/-! Numerals of one or two digits. -/
def dig2 (n : Nat) : List UInt8 := if n < 10 then [UInt8.ofNat (48 + n)] else [UInt8.ofNat (48 + n / 10), UInt8.ofNat (48 + n % 10)]
theorem itoa_small (n : Nat) (h : n < 100) : Lib.itoa (n : Int) = dig2 n := by
  have e : Lib.itoa (n : Int) = Lib.decDigits n := by unfold Lib.itoa; rw [if_neg (by omega)]; rfl
  rw [e, dig2]
  by_cases h1 : n < 10
  · rw [if_pos h1, Lib.decDigits_one h1]
  · rw [if_neg h1, Lib.decDigits_two h1 h]
def isOk (r : Except Nat (Nat × Nat)) (a b : Nat) : Bool := match r with | .ok (x, y) => x == a && y == b | .error _ => false
theorem isOk_eq {r : Except Nat (Nat × Nat)} {a b : Nat} (h : isOk r a b = true) : r = .ok (a, b) := by
  unfold isOk at h
  split at h
  · simp only [Bool.and_eq_true, beq_iff_eq] at h; rw [h.1, h.2]
  · cases h
theorem dig2_taken : ∀ n : Fin 100, isOk (dgR 0 0 (dig2 n.val ++ [13])) n.val (dig2 n.val).length = true := by decide +kernel
theorem dg_itoa (n : Nat) (h : n < 100) (x : List UInt8) : dgR 0 0 (Lib.itoa (n : Int) ++ 13 :: x) = .ok (n, (Lib.itoa (n : Int)).length) := by
  have h1 := isOk_eq (dig2_taken ⟨n, h⟩)
  dsimp only at h1
  rw [itoa_small n h, show dig2 n ++ 13 :: x = (dig2 n ++ [13]) ++ x by simp, dg_more _ x 0 0 (by rw [h1]; intro e; cases e), h1]

/-! What was put is taken. -/
theorem cnt_line (s : UInt8) (lo hi n : Nat) (h : n < 100) (h1 : lo ≤ n) (h2 : n ≤ hi) (x : List UInt8) : cntR s lo hi (ln [s] (Lib.itoa (n : Int)) ++ x) = .ok (n, (ln [s] (Lib.itoa (n : Int))).length) := by
  have e : ln [s] (Lib.itoa (n : Int)) ++ x = s :: (Lib.itoa (n : Int) ++ 13 :: (10 :: x)) := by simp [ln, crlf]
  have el : (ln [s] (Lib.itoa (n : Int))).length = (Lib.itoa (n : Int)).length + 3 := by simp [ln, crlf]
  rw [e, el, cntR, show passE [s] (s :: (Lib.itoa (n : Int) ++ 13 :: (10 :: x))) = 0 by rw [passE, if_pos rfl]; rfl, thenE_chk0, List.drop_succ_cons, List.drop_zero, dg_itoa n h, thenE_ok rfl]
  dsimp only
  rw [show 1 + (Lib.itoa (n : Int)).length = (s :: Lib.itoa (n : Int)).length by rw [List.length_cons, Nat.add_comm], show s :: (Lib.itoa (n : Int) ++ 13 :: 10 :: x) = (s :: Lib.itoa (n : Int)) ++ (crlf ++ x) by simp [crlf], List.drop_left, pass_self, thenE_chk0, if_neg (by omega)]
theorem ln_len (s t : List UInt8) : (ln s t).length = s.length + t.length + 2 := by simp [ln, crlf]; omega
theorem arg_bulk (s x : List UInt8) (h : s.length ≤ 64) : argR (bulk s ++ x) = .ok (s, (bulk s).length) := by
  have e : bulk s ++ x = ln [36] (Lib.itoa (s.length : Int)) ++ (s ++ (crlf ++ x)) := by simp [bulk, ln]
  have el : (bulk s).length = (ln [36] (Lib.itoa (s.length : Int))).length + s.length + 2 := by rw [bulk, List.length_append, ln_len [] s]; simp; omega
  rw [argR, e, cnt_line 36 0 64 _ (by omega) (by omega) h, thenE_ok rfl]
  dsimp only
  rw [if_neg (by simp only [List.length_append]; omega), ← List.drop_drop, List.drop_left, List.drop_left, pass_self, thenE_chk0, List.take_left, el]
theorem args_bulks : ∀ (L : List (List UInt8)) (x : List UInt8), (∀ s ∈ L, s.length ≤ 64) → argsR L.length (L.flatMap bulk ++ x) = .ok (L, (L.flatMap bulk).length)
  | [], _, _ => rfl
  | s :: L, x, h => by
    rw [List.length_cons, argsR, List.flatMap_cons, List.append_assoc, arg_bulk s _ (h s (by simp)), thenE_ok rfl]
    dsimp only
    rw [List.drop_left, args_bulks L x (fun t ht => h t (by simp [ht])), thenE_ok rfl, List.length_append]
def Okc (L : List (List UInt8)) : Prop := 1 ≤ L.length ∧ L.length ≤ 8 ∧ ∀ s ∈ L, s.length ≤ 64
theorem cmd_many (L : List (List UInt8)) (x : List UInt8) (h : Okc L) : cmdR (many L ++ x) = .ok (L, (many L).length) := by
  have h2 := h.2.1
  rw [cmdR, many, List.append_assoc, cnt_line 42 1 8 _ (by omega) h.1 h2, thenE_ok rfl]
  dsimp only
  rw [List.drop_left, args_bulks L x h.2.2, thenE_ok rfl, List.length_append]
theorem parse_many (L : List (List UInt8)) (x : List UInt8) (h : Okc L) : parse (many L ++ x) = (L :: (parse x).1, (many L).length + (parse x).2.1, (parse x).2.2) := by
  rw [parse_step (cmd_many L x h), List.drop_left]
theorem cmd_nil : cmdR [] = .error 2 := rfl
theorem parse_nil : parse [] = ([], 0, 2) := parse_end cmd_nil
theorem parse_manys : ∀ Ls : List (List (List UInt8)), (∀ L ∈ Ls, Okc L) → parse (Ls.flatMap many) = (Ls, (Ls.flatMap many).length, 2)
  | [], _ => parse_nil
  | L :: Ls, h => by
    rw [List.flatMap_cons, parse_many L _ (h L (by simp)), parse_manys Ls (fun M hM => h M (by simp [hM])), List.length_append]
/-- CUT OFF, nothing is wrong yet. -/
theorem cmd_cut (L : List (List UInt8)) (h : Okc L) (k : Nat) (hk : k < (many L).length) : cmdR ((many L).take k) = .error 2 := by
  have h1 := cmd_many L [] h
  rw [List.append_nil] at h1
  cases hc : cmdR ((many L).take k) with
  | error e =>
    by_cases he : e = 2
    · rw [he]
    · have := cmd_more _ ((many L).drop k) (by rw [hc]; simpa using he)
      rw [List.take_append_drop, h1, hc] at this
      cases this
  | ok r =>
    have := cmd_more _ ((many L).drop k) (by rw [hc]; intro e; cases e)
    rw [List.take_append_drop, h1, hc] at this
    cases this
    have := (cmd_len hc).2.1
    rw [List.length_take] at this
    dsimp only at this
    omega
theorem parse_cut (L : List (List UInt8)) (h : Okc L) (k : Nat) (hk : k < (many L).length) : parse ((many L).take k) = ([], 0, 2) := parse_end (cmd_cut L h k hk)

/-! A line's digits, one by one. -/
def dcR (k n lo hi : Nat) (d : List UInt8) : Except Nat (Nat × Nat) :=
  thenE (dgR k n d) fun r => thenE (chk (passE crlf (d.drop (r.2 - k)))) fun _ => if r.1 < lo ∨ hi < r.1 then .error 4 else .ok (r.1, r.2 + 3)
theorem cnt_dc (s : UInt8) (lo hi : Nat) (d : List UInt8) : cntR s lo hi (s :: d) = dcR 0 0 lo hi d := by
  rw [cntR, show passE [s] (s :: d) = 0 by rw [passE, if_pos rfl]; rfl, thenE_chk0, dcR, List.drop_succ_cons, List.drop_zero]
  congr 1
  funext r
  rw [Nat.sub_zero, Nat.add_comm 1, List.drop_succ_cons]
theorem cnt_nil (s : UInt8) (lo hi : Nat) : cntR s lo hi [] = .error 2 := rfl
theorem cnt_bad (s c : UInt8) (lo hi : Nat) (d : List UInt8) (h : c ≠ s) : cntR s lo hi (c :: d) = .error 3 := by
  rw [cntR, show passE [s] (c :: d) = 3 by rw [passE, if_neg h]]; rfl
theorem dc_nil (k n lo hi : Nat) : dcR k n lo hi [] = .error 2 := rfl
theorem dc_dig (k n lo hi : Nat) (c : UInt8) (d : List UInt8) (h : isDig c = true) (h0 : ¬ (k = 6 ∨ (0 < k ∧ n = 0))) : dcR k n lo hi (c :: d) = dcR (k + 1) (10 * n + (c.toNat - 48)) lo hi d := by
  rw [dcR, dcR, dgR, if_pos h, if_neg h0]
  cases hr : dgR (k + 1) (10 * n + (c.toNat - 48)) d with
  | error e => rfl
  | ok r =>
    have := (dg_len _ _ _ _ hr).1
    rw [thenE_ok rfl, thenE_ok rfl, show r.2 - k = (r.2 - (k + 1)) + 1 by omega, List.drop_succ_cons]
theorem dc_many (k n lo hi : Nat) (c : UInt8) (d : List UInt8) (h : isDig c = true) (h0 : k = 6 ∨ (0 < k ∧ n = 0)) : dcR k n lo hi (c :: d) = .error 3 := by
  rw [dcR, dgR, if_pos h, if_pos h0]; rfl
theorem dc_none (n lo hi : Nat) (c : UInt8) (d : List UInt8) (h : isDig c = false) : dcR 0 n lo hi (c :: d) = .error 3 := by
  rw [dcR, dgR, if_neg (by rw [h]; decide), if_pos rfl]; rfl
theorem dc_else (k n lo hi : Nat) (c : UInt8) (d : List UInt8) (h : isDig c = false) (hk : 0 < k) : dcR k n lo hi (c :: d) = thenE (chk (passE crlf (c :: d))) fun _ => if n < lo ∨ hi < n then .error 4 else .ok (n, k + 3) := by
  rw [dcR, dgR, if_neg (by rw [h]; decide), if_neg (by omega), thenE_ok rfl, Nat.sub_self, List.drop_zero]
theorem dc_bad (k n lo hi : Nat) (c : UInt8) (d : List UInt8) (h : isDig c = false) (hc : c ≠ 13) : dcR k n lo hi (c :: d) = .error 3 := by
  by_cases hk : 0 < k
  · rw [dc_else k n lo hi c d h hk, crlf, passE, if_neg hc]; rfl
  · obtain rfl : k = 0 := by omega
    exact dc_none n lo hi c d h
theorem dc_cr (k n lo hi : Nat) (hk : 0 < k) : dcR k n lo hi [13] = .error 2 := by rw [dc_else k n lo hi 13 [] (by decide) hk]; rfl
theorem dc_lf (k n lo hi : Nat) (hk : 0 < k) (d : List UInt8) : dcR k n lo hi (13 :: 10 :: d) = if n < lo ∨ hi < n then .error 4 else .ok (n, k + 3) := by rw [dc_else k n lo hi 13 _ (by decide) hk]; rfl
theorem dc_no (k n lo hi : Nat) (hk : 0 < k) (x : UInt8) (d : List UInt8) (hx : x ≠ 10) : dcR k n lo hi (13 :: x :: d) = .error 3 := by
  rw [dc_else k n lo hi 13 _ (by decide) hk, crlf, passE, if_pos rfl, passE, if_neg hx]; rfl

/-! Loops' states. -/
/-- Behind things that were taken. -/
def pre {α : Type} (P : List α) (j : Nat) (r : Except Nat (List α × Nat)) : Except Nat (List α × Nat) := match r with | .error e => .error e | .ok (l, k) => .ok (P ++ l, j + k)
theorem args_zero (d : List UInt8) (n : Nat) : argsR n d = pre [] 0 (argsR n (d.drop 0)) := by
  rw [List.drop_zero]
  cases argsR n d with
  | error e => rfl
  | ok r => simp [pre]
theorem args_next {d : List UInt8} {n m j k : Nat} {P : List (List UInt8)} {s : List UInt8} (h : argsR n d = pre P j (argsR (m + 1) (d.drop j))) (ha : argR (d.drop j) = .ok (s, k)) : argsR n d = pre (P ++ [s]) (j + k) (argsR m (d.drop (j + k))) := by
  rw [h, argsR, ha, thenE_ok rfl]
  dsimp only
  rw [List.drop_drop]
  cases argsR m (d.drop (j + k)) with
  | error e => rfl
  | ok r => simp [thenE, pre, Nat.add_assoc]
theorem args_fail {d : List UInt8} {n m j e : Nat} {P : List (List UInt8)} (h : argsR n d = pre P j (argsR (m + 1) (d.drop j))) (ha : argR (d.drop j) = .error e) : argsR n d = .error e := by
  rw [h, argsR, ha]; rfl
theorem args_done {d : List UInt8} {n j : Nat} {P : List (List UInt8)} (h : argsR n d = pre P j (argsR 0 (d.drop j))) : argsR n d = .ok (P, j) := by
  rw [h]; simp [argsR, pre]
def At (d : List UInt8) (P : List (List (List UInt8))) (a : Nat) : Prop := parse d = (P ++ (parse (d.drop a)).1, a + (parse (d.drop a)).2.1, (parse (d.drop a)).2.2)
theorem at_zero (d : List UInt8) : At d [] 0 := by simp [At]
theorem at_next {d : List UInt8} {P : List (List (List UInt8))} {a k : Nat} {l : List (List UInt8)} (h : At d P a) (hc : cmdR (d.drop a) = .ok (l, k)) : At d (P ++ [l]) (a + k) := by
  unfold At at h ⊢
  rw [h, parse_step hc, List.drop_drop]
  simp [Nat.add_assoc]
theorem at_end {d : List UInt8} {P : List (List (List UInt8))} {a e : Nat} (h : At d P a) (hc : cmdR (d.drop a) = .error e) : parse d = (P, a, e) := by
  unfold At at h
  rw [h, parse_end hc]; simp
end Go.Proofs.YtkhfplpplmnjiabDoor.Rs
