/-
  A parser that is fed in pieces: plainly; and what Feed comes to at whatever it holds.
-/
import Derived.Test.YtkhfplpplmnjiabDoorAwk
namespace Go.Proofs.YtkhfplpplmnjiabDoor
set_option maxRecDepth 100000
open Go.RowKit Go.Sort

theorem ite0 {α : Type} {a b : α} : (if (0 : Nat) ≠ 0 then a else b) = b := if_neg (by decide)
theorem fdL0 (d : List UInt8) : fdL [] 0 d = (Rs.parse d).1 := if_neg (fun h => h rfl)
theorem fdF0 (d : List UInt8) : fdF [] 0 d = if (Rs.parse d).2.2 = 2 then 0 else (Rs.parse d).2.2 := if_neg (fun h => h rfl)
theorem fdS0 (d : List UInt8) : fdS [] 0 d = if (Rs.parse d).2.2 = 2 then d.drop (Rs.parse d).2.1 else [] := if_neg (fun h => h rfl)
theorem fd_app (d x : List UInt8) : fdL [] 0 (d ++ x) = fdL [] 0 d ++ fdL (fdS [] 0 d) (fdF [] 0 d) x ∧ fdF [] 0 (d ++ x) = fdF (fdS [] 0 d) (fdF [] 0 d) x ∧ fdS [] 0 (d ++ x) = fdS (fdS [] 0 d) (fdF [] 0 d) x := by
  rw [fdL0, fdL0, fdF0, fdF0, fdS0, fdS0]
  by_cases h : (Rs.parse d).2.2 = 2
  · rw [if_pos h, if_pos h, Rs.parse_more d x h]
    rw [fdL, fdF, fdS, ite0, ite0, ite0]
    dsimp only
    refine ⟨rfl, rfl, ?_⟩
    rw [← List.drop_drop, List.drop_append_of_le_length (Rs.parse_len d).1]
  · have hE : (Rs.parse d).2.2 ≠ 0 := by rcases Rs.parse_bad d with h1 | h1 | h1 <;> rw [h1] <;> decide
    rw [if_neg h, if_neg h, Rs.parse_stays d x h, if_neg h, if_neg h, fdL, fdF, fdS, if_pos hE, if_pos hE, if_pos hE, List.append_nil]
    exact ⟨rfl, rfl, rfl⟩
theorem fd_nil : fdL [] 0 [] = [] ∧ fdF [] 0 [] = 0 ∧ fdS [] 0 [] = [] := by
  rw [fdL0, fdF0, fdS0, Rs.parse_nil]; exact ⟨rfl, rfl, rfl⟩
theorem fdS_len (d : List UInt8) : (fdS [] 0 d).length ≤ d.length := by
  rw [fdS0]
  split
  · rw [List.length_drop]; omega
  · exact Nat.zero_le _
theorem fdF_le (s : List UInt8) (F : Nat) (b : List UInt8) (hF : F ≤ 4) : fdF s F b ≤ 4 := by
  unfold fdF
  split
  · exact hF
  · split
    · exact Nat.zero_le _
    · rcases Rs.parse_bad (s ++ b) with h | h | h <;> rw [h] <;> decide
theorem cm_app (a b : List (List (List UInt8))) : cm (a ++ b) = cm a ++ cm b := by simp [cm]
theorem fdL_len (s : List UInt8) (F : Nat) (b : List UInt8) : 3 * (fdL s F b).length ≤ s.length + b.length ∧ ∀ l ∈ fdL s F b, l.length ≤ 8 := by
  unfold fdL
  split
  · exact ⟨by simp, fun l hl => by cases hl⟩
  · have := Rs.parse_len (s ++ b)
    rw [List.length_append] at this
    exact ⟨by omega, fun l hl => (this.2.1 l hl).1⟩

theorem feed_any (g F : Nat) (s : List UInt8) (ao : Option Addr) (m c : Nat) (l : List UInt8) (w : World) (hP : Pz w g (tx s) F) (hb : Bytes w ao m c l) (hm : s.length + m ≤ 1048576) :
    Calls Tryd.prog 7 #[.pointer (some ⟨g, 0, none⟩), .slice ao m c] w fun e w' => ∃ v, e = .returned (.tuple #[v, .int .i64 (fdF s F l : Int)]) ∧ Cmds w' w.heap.size v (cm (fdL s F l)) ∧ Pz w' g (tx (fdS s F l)) (fdF s F l) ∧ w.grownBy w' (some g) := by
  by_cases hF : F = 0
  · subst hF; exact feed_good g s ao m c l w hP hb hm
  · exact feed_bad g F s ao m c l w hP hF
theorem Cmds.kept {w w' : World} {base g : Nat} {v : Value} {L : List (List ByteArray)} (h : Cmds w base v L) (hg : w.grownBy w' (some g)) (hb : g < base) : Cmds w' base v L := by
  obtain ⟨xs, h1, h2⟩ := h
  refine ⟨xs, own_kept h1 hg hb, fun i S hi => ?_⟩
  obtain ⟨x, h3, h4⟩ := h2 i S hi
  exact ⟨x, h3, own_kept h4 hg hb⟩
theorem Cmds.cells {w : World} {base : Nat} {v : Value} {L : List (List ByteArray)} (h : Cmds w base v L) : ∃ ao c xs, v = .slice ao L.length c ∧ xs.length = L.length ∧ (ao = none → L.length = 0 ∧ c = 0) ∧ (∀ ad, ao = some ad → ∀ j u, xs[j]? = some u → w.cell? (ad.add j) = some u) ∧ (∀ u ∈ xs, u.oneCell' = true) ∧ w.ownsRow base 22 1 v L.length xs ∧ ∀ (i : Nat) (S : List ByteArray), L[i]? = some S → ∃ x, xs[i]? = some x ∧ OwnT w base x S := by
  obtain ⟨xs, h1, h2⟩ := h
  have hxl : xs.length = L.length := by have := h1.1; omega
  have h1c : ∀ u ∈ xs, u.oneCell' = true := fun u hu => by
    obtain ⟨i, hi⟩ := List.getElem?_of_mem hu
    have hlt : i < L.length := by have := (List.getElem?_eq_some_iff.1 hi).1; omega
    obtain ⟨x, h3, h4⟩ := h2 i L[i] (List.getElem?_eq_getElem hlt)
    rw [hi] at h3
    cases h3
    exact h4.one
  have h1' := h1
  rcases h1.2 with ⟨rfl, h0⟩ | ⟨g, cap, cur, rfl, _⟩
  · exact ⟨none, 0, xs, by rw [h0], hxl, fun _ => ⟨h0, rfl⟩, (fun _ h => by cases h), h1c, h1', h2⟩
  · refine ⟨_, cap, xs, rfl, hxl, (fun h => by cases h), fun ad had j u hu => ?_, h1c, h1', h2⟩
    obtain rfl := Option.some.inj had
    exact h1'.cells rfl j u hu
end Go.Proofs.YtkhfplpplmnjiabDoor
