/-
  What frame.Scan comes to: the bodies, as a new list of new lists; the place behind the last one; whether that is all.
-/
import Derived.Test.YthdhnilfkpbmpaaFtk
namespace Go.Proofs.Ythdhnilfkpbmpaa
set_option maxRecDepth 100000

open Go.RowKit

theorem infoS : (Try.prog.info? 54).map (fun i => (i.zero, i.size, i.bytes)) = some (some (.slice none 0 0), 1, 24) := by kernel_rfl

/-- A list of lists of bytes that a call has made. -/
def Bodies (w : World) (base : Nat) (v : Value) (L : List (List UInt8)) : Prop :=
  ∃ xs : List Value, w.ownsRow base 54 1 v L.length xs ∧ ∀ (i : Nat) (l : List UInt8), L[i]? = some l → ∃ g c, xs[i]? = some (Value.slice (some ⟨g, 0, none⟩) l.length c) ∧ w.ownsRow base 5 1 (.slice (some ⟨g, 0, none⟩) l.length c) l.length (bs l)

theorem Bodies.nil (w : World) (base : Nat) : Bodies w base (.slice none 0 0) [] := ⟨[], World.ownsRow_nil w base _ _, fun i l h => by cases h⟩
theorem row_below {w w' : World} {base : Nat} {t : TypeId} {v : Value} {n : Nat} {xs : List Value} (h : w.ownsRow base t 1 v n xs) (hb : Below w.heap.size w w') : w'.ownsRow base t 1 v n xs := by
  refine h.kept (row := none) ⟨hb.os, hb.tape, hb.output, hb.size, fun k hk _ => hb.block k hk⟩ ?_
  cases v.ownBlock <;> simp
theorem Bodies.below {w w' : World} {base : Nat} {v : Value} {L : List (List UInt8)} (h : Bodies w base v L) (hb : Below w.heap.size w w') : Bodies w' base v L := by
  obtain ⟨xs, h1, h2⟩ := h
  refine ⟨xs, row_below h1 hb, fun i l hi => ?_⟩
  obtain ⟨g, c, h3, h4⟩ := h2 i l hi
  exact ⟨g, c, h3, row_below h4 hb⟩
theorem Bodies.rebase {w : World} {base base' : Nat} {v : Value} {L : List (List UInt8)} (h : Bodies w base v L) (hb : base' ≤ base) : Bodies w base' v L := by
  obtain ⟨xs, h1, h2⟩ := h
  refine ⟨xs, own_rebase h1 hb, fun i l hi => ?_⟩
  obtain ⟨g, c, h3, h4⟩ := h2 i l hi
  exact ⟨g, c, h3, own_rebase h4 hb⟩
/-- Rows of unlike types lie in unlike blocks. -/
theorem own_apart {w : World} {b b' : Nat} {t t' : TypeId} {v v' : Value} {n n' : Nat} {xs xs' : List Value} (h : w.ownsRow b t 1 v n xs) (h' : w.ownsRow b' t' 1 v' n' xs') (ht : t ≠ t') : v.ownBlock = none ∨ v.ownBlock ≠ v'.ownBlock := by
  rcases h.2 with ⟨rfl, _⟩ | ⟨g, cap, cur, rfl, _, hg, _⟩
  · exact .inl rfl
  rcases h'.2 with ⟨rfl, _⟩ | ⟨g', cap', cur', rfl, _, hg', _⟩
  · exact .inr (by simp [Value.ownBlock])
  · right
    simp only [Value.ownBlock, ne_eq, Option.some.injEq]
    rintro rfl
    rw [hg] at hg'
    simp only [Option.some.injEq, Obj.cells.injEq] at hg'
    exact ht hg'.2.1
theorem Bodies.push {w w' : World} {base : Nat} {v v' : Value} {L : List (List UInt8)} {xs : List Value} {l : List UInt8} {g c : Nat}
    (h1 : w.ownsRow base 54 1 v L.length xs) (h2 : ∀ (i : Nat) (l : List UInt8), L[i]? = some l → ∃ g c, xs[i]? = some (Value.slice (some ⟨g, 0, none⟩) l.length c) ∧ w.ownsRow base 5 1 (.slice (some ⟨g, 0, none⟩) l.length c) l.length (bs l))
    (h3 : w.ownsRow base 5 1 (.slice (some ⟨g, 0, none⟩) l.length c) l.length (bs l))
    (h4 : w'.ownsRow base 54 1 v' (L.length + 1) (xs ++ [.slice (some ⟨g, 0, none⟩) l.length c])) (hg : w.grownBy w' v.ownBlock) : Bodies w' base v' (L ++ [l]) := by
  have hxl : xs.length = L.length := by have := h1.1; omega
  refine ⟨_, by rw [List.length_append]; exact h4, fun i l' hi => ?_⟩
  by_cases hlt : i < L.length
  · rw [List.getElem?_append_left hlt] at hi
    obtain ⟨g', c', h5, h6⟩ := h2 i l' hi
    exact ⟨g', c', by rw [List.getElem?_append_left (by omega)]; exact h5, h6.kept hg (own_apart h6 h1 (by decide))⟩
  · rw [List.getElem?_append_right (by omega)] at hi
    have h0 : i - L.length = 0 := by
      have := (List.getElem?_eq_some_iff.1 hi).1
      simp at this
      omega
    rw [h0] at hi
    obtain rfl := Option.some.inj hi
    exact ⟨g, c, by rw [List.getElem?_append_right (by omega), show i - xs.length = 0 by omega]; rfl, h3.kept hg (own_apart h3 h1 (by decide))⟩

theorem new_one (w : World) (a : Value) (t : TypeId) : ∀ j u, [a][j]? = some u → (w.alloc (Obj.cells #[a] t)).cell? ((⟨w.heap.size, 0, none⟩ : Addr).add j) = some u := by
  intro j u hu
  rw [Addr.add_lit, Nat.zero_add, World.cell?_alloc_mark]
  simpa using hu

theorem Fr.scan_more (l : List UInt8) (a : Nat) (L : List (List UInt8)) (h : Fr.scan l = (L ++ (Fr.scan (l.drop a)).1, (Fr.scan (l.drop a)).2)) (hE : Fr.tkE (l.drop a) = 0) :
    Fr.scan l = ((L ++ [Fr.tkB (l.drop a)]) ++ (Fr.scan (l.drop (a + Fr.tkW (l.drop a)))).1, (Fr.scan (l.drop (a + Fr.tkW (l.drop a)))).2) := by
  have hne : ¬ (l.drop a = [] ∨ Fr.tkE (l.drop a) ≠ 0) := by
    rintro (h | h)
    · rw [h] at hE
      exact absurd hE (by decide)
    · exact h hE
  rw [h, Fr.scan_step _ hne, List.drop_drop, List.append_assoc]
  rfl
theorem Fr.scan_over (l : List UInt8) (a : Nat) (L : List (List UInt8)) (h : Fr.scan l = (L ++ (Fr.scan (l.drop a)).1, (Fr.scan (l.drop a)).2)) (hE : Fr.tkE (l.drop a) ≠ 0) : Fr.scan l = (L, l.drop a) := by
  rw [h, Fr.scan_end _ (.inr hE), List.append_nil]

/-- What Scan answers. -/
def Scanned (w w' : World) (e : Ending) (m : Nat) (l : List UInt8) : Prop :=
  ∃ v, ∃ a : Nat, e = .returned (.tuple #[v, .int .i64 (a : Int), .bool (decide (a = m))]) ∧ a ≤ m ∧ (Fr.scan l).2 = l.drop a ∧ Bodies w' w.heap.size v (Fr.scan l).1 ∧ Below w.heap.size w w'

set_option maxHeartbeats 2000000 in
theorem scan_any (ao : Option Addr) (m c : Nat) (l : List UInt8) (w : World) (hb : Bytes w ao m c l) (hc : c ≤ maxLen) (hm : m ≤ 1048576) :
    Calls Try.prog 38 #[.slice ao m c] w fun e w' => Scanned w w' e m l := by
  obtain ⟨i0, hi, hz0, hz1, hz2⟩ := info_parts infoS
  have hlen := hb.len
  have hcm := hc
  unfold maxLen at hc
  go_enter Try.func38, Try.ntmps38
  go_wp2_with fail
  go_loopw [5, 6] (fun v i wr => ∃ (a : Nat) (L : List (List UInt8)), a ≤ m ∧ 6 * L.length ≤ a ∧ i = .int .i64 (a : Int) ∧ Fr.scan l = (L ++ (Fr.scan (l.drop a)).1, (Fr.scan (l.drop a)).2) ∧ Bodies wr w.heap.size v L ∧ Below w.heap.size w wr) (fun _ i _ => m - (intOf i).toNat)
  case atStart => exact ⟨0, [], Nat.zero_le _, by simp, rfl, by simp, Bodies.nil _ _, Below.refl _ _⟩
  case round =>
    obtain ⟨a, L, ha, hL6, rfl, hscan, hB, hbel⟩ := hrel
    have hbr := hb.below hbel (Nat.le_refl _)
    have HS : Hid _ := hscan
    clear hscan
    by_cases hE : Fr.tkE (l.drop a) = 0
    · have Ht : Hid _ := ftake_ok ao m c l a _ hbr hcm ha hE
      obtain ⟨k1, k2, k3⟩ := Fr.tk_len _ hE
      have HM : Hid _ := Fr.scan_more l a L HS.out hE
      have hw6 : 6 ≤ Fr.tkW (l.drop a) := Nat.le_add_left _ _
      have hw7 : a + Fr.tkW (l.drop a) ≤ m := by rw [List.length_drop] at k1; omega
      clear hE HS k1 k2 k3
      generalize Fr.tkB (l.drop a) = t at *
      generalize Fr.tkW (l.drop a) = W at *
      go_wp2_with fail
      refine Calls.mono Ht.out ?_
      rintro e w2 ⟨g, rfl, hown, hb2⟩
      obtain ⟨xs, hx1, hx2⟩ := hB.below hb2
      have hx1' := row_below hx1 ((Below.refl w2.heap.size w2).alloc (Nat.le_refl _) (Obj.cells #[Value.slice (some ⟨g, 0, none⟩) t.length t.length] 54))
      have hx2' : ∀ (i : Nat) (l : List UInt8), L[i]? = some l → ∃ g' c', xs[i]? = some (Value.slice (some ⟨g', 0, none⟩) l.length c') ∧ (w2.alloc (Obj.cells #[Value.slice (some ⟨g, 0, none⟩) t.length t.length] 54)).ownsRow w.heap.size 5 1 (.slice (some ⟨g', 0, none⟩) l.length c') l.length (bs l) := fun i l hi => by
        obtain ⟨g', c', h3, h4⟩ := hx2 i l hi
        exact ⟨g', c', h3, row_below h4 ((Below.refl w2.heap.size w2).alloc (Nat.le_refl _) _)⟩
      have Hp2 : Hid _ := hx2'
      have hown' := row_below (own_rebase hown hbel.size) ((Below.refl w2.heap.size w2).alloc (Nat.le_refl _) (Obj.cells #[Value.slice (some ⟨g, 0, none⟩) t.length t.length] 54))
      have hbel2 := hbel.trans (hb2.mono hbel.size)
      have hbel2' := hbel2.alloc hbel2.size (Obj.cells #[Value.slice (some ⟨g, 0, none⟩) t.length t.length] 54)
      have hnew := new_one w2 (Value.slice (some ⟨g, 0, none⟩) t.length t.length) 54
      clear hx1 hx2 hx2' hown hb2 hbel hbr hB
      go_wp2_with (first
        | (at_builtin; refine wpList_append_own _ rfl (.tmp 25) (.tmp 27) 77 rfl w.heap.size 54 i0 (.slice none 0 0) 1 24 Try.underlying77 hi hz0 hz1 hz2 rfl (by omega) u5 L.length xs rfl hx1' ⟨w2.heap.size, 0, none⟩ 1 1 [Value.slice (some ⟨g, 0, none⟩) t.length t.length] rfl rfl hnew (by simp [Value.oneCell']) (by unfold maxLen; omega) (by omega) hbel2'.size ?_))
      rintro v' w3 hown3 hgrow3 -
      have hB3 := Bodies.push hx1' Hp2.out hown' hown3 hgrow3
      have hbel3 := hbel2'.grown hgrow3 hbel2'.size (fun k hk => (hx1'.lt k hk).1)
      go_wp2
      go_roundw
      case rel => exact ⟨a + W, L ++ [t], by omega, by rw [List.length_append, List.length_singleton]; omega, by go_num, HM.out, hB3, hbel3⟩
      case measure => simp [intOf]; omega
    · have Ht : Hid _ := ftake_err ao m c l a _ hbr hcm ha hE
      have HM : Hid _ := Fr.scan_over l a L HS.out hE
      clear HS
      generalize Fr.tkE (l.drop a) = E at *
      go_wp2_with fail
      refine Calls.mono Ht.out ?_
      rintro e w2 ⟨rfl, hb2⟩
      go_wp2_with fail
      go_ret3
      refine ⟨u5, a, ?_, ha, by rw [HM.out], by rw [HM.out]; exact hB.below hb2, hbel.trans (hb2.mono hbel.size)⟩
      have e1 : ((a : Int) == (m : Int)) = decide (a = m) := by
        rw [Bool.eq_iff_iff, beq_iff_eq, decide_eq_true_eq]; omega
      rw [← e1]
      rfl
end Go.Proofs.Ythdhnilfkpbmpaa
