/-
  Lists of commands in memory; what resp.takeAll comes to.
-/
import Derived.Test.YtkhfplpplmnjiabDoorCmd
namespace Go.Proofs.YtkhfplpplmnjiabDoor
set_option maxRecDepth 100000
open Go.RowKit

theorem infoC : (Tryd.prog.info? 22).map (fun i => (i.zero, i.size, i.bytes)) = some (some (.slice none 0 0), 1, 24) := by kernel_rfl
/-- A list of lists of texts that calls have made. -/
def Cmds (w : World) (base : Nat) (v : Value) (L : List (List ByteArray)) : Prop :=
  ∃ xs : List Value, w.ownsRow base 22 1 v L.length xs ∧ ∀ (i : Nat) (S : List ByteArray), L[i]? = some S → ∃ x, xs[i]? = some x ∧ OwnT w base x S
theorem Cmds.nil (w : World) (base : Nat) : Cmds w base (.slice none 0 0) [] := ⟨[], World.ownsRow_nil w base _ _, fun i l h => by cases h⟩
theorem Cmds.below {w w' : World} {base : Nat} {v : Value} {L : List (List ByteArray)} (h : Cmds w base v L) (hb : Below w.heap.size w w') : Cmds w' base v L := by
  obtain ⟨xs, h1, h2⟩ := h
  refine ⟨xs, row_below h1 hb, fun i l hi => ?_⟩
  obtain ⟨x, h3, h4⟩ := h2 i l hi
  exact ⟨x, h3, h4.below hb⟩
theorem Cmds.rebase {w : World} {base base' : Nat} {v : Value} {L : List (List ByteArray)} (h : Cmds w base v L) (hb : base' ≤ base) : Cmds w base' v L := by
  obtain ⟨xs, h1, h2⟩ := h
  refine ⟨xs, own_rebase h1 hb, fun i l hi => ?_⟩
  obtain ⟨x, h3, h4⟩ := h2 i l hi
  exact ⟨x, h3, h4.rebase hb⟩
theorem OwnT.val {w : World} {base : Nat} {v : Value} {S : List ByteArray} (h : OwnT w base v S) : ∃ ao c, v = .slice ao S.length c ∧ c ≤ maxLen := by
  rcases h.2 with ⟨rfl, h0⟩ | ⟨g, cap, cur, rfl, _, _, _, hm, _⟩
  · exact ⟨none, 0, by rw [h0], Nat.zero_le _⟩
  · exact ⟨_, cap, rfl, hm⟩
theorem OwnT.one {w : World} {base : Nat} {v : Value} {S : List ByteArray} (h : OwnT w base v S) : v.oneCell' = true := by
  obtain ⟨ao, c, rfl, -⟩ := h.val; rfl
theorem Cmds.val {w : World} {base : Nat} {v : Value} {L : List (List ByteArray)} (h : Cmds w base v L) : ∃ ao c, v = .slice ao L.length c ∧ c ≤ maxLen := by
  obtain ⟨xs, h1, -⟩ := h
  rcases h1.2 with ⟨rfl, h0⟩ | ⟨g, cap, cur, rfl, _, _, _, hm, _⟩
  · exact ⟨none, 0, by rw [h0], Nat.zero_le _⟩
  · exact ⟨_, cap, rfl, hm⟩
/-- Things are appended to the list. -/
theorem Cmds.more {w w' : World} {base : Nat} {v v' : Value} {L M : List (List ByteArray)} {xs ys : List Value}
    (h1 : w.ownsRow base 22 1 v L.length xs) (h2 : ∀ (i : Nat) (S : List ByteArray), L[i]? = some S → ∃ x, xs[i]? = some x ∧ OwnT w base x S)
    (h3 : ∀ (i : Nat) (S : List ByteArray), M[i]? = some S → ∃ x, ys[i]? = some x ∧ OwnT w base x S)
    (h4 : w'.ownsRow base 22 1 v' (L.length + M.length) (xs ++ ys)) (hg : w.grownBy w' v.ownBlock) : Cmds w' base v' (L ++ M) := by
  have hxl : xs.length = L.length := by have := h1.1; omega
  refine ⟨_, by rw [List.length_append]; exact h4, fun i S hi => ?_⟩
  by_cases hlt : i < L.length
  · rw [List.getElem?_append_left hlt] at hi
    obtain ⟨x, h5, h6⟩ := h2 i S hi
    exact ⟨x, by rw [List.getElem?_append_left (by omega)]; exact h5, World.ownsRow.kept h6 hg (own_apart h6 h1 (by decide))⟩
  · rw [List.getElem?_append_right (by omega)] at hi
    obtain ⟨x, h5, h6⟩ := h3 _ S hi
    exact ⟨x, by rw [List.getElem?_append_right (by omega), hxl]; exact h5, World.ownsRow.kept h6 hg (own_apart h6 h1 (by decide))⟩
theorem Cmds.push {w w' : World} {base : Nat} {v v' x : Value} {L : List (List ByteArray)} {S : List ByteArray} {xs : List Value}
    (h1 : w.ownsRow base 22 1 v L.length xs) (h2 : ∀ (i : Nat) (S : List ByteArray), L[i]? = some S → ∃ x, xs[i]? = some x ∧ OwnT w base x S)
    (h3 : OwnT w base x S) (h4 : w'.ownsRow base 22 1 v' (L.length + 1) (xs ++ [x])) (hg : w.grownBy w' v.ownBlock) : Cmds w' base v' (L ++ [S]) :=
  Cmds.more h1 h2 (ys := [x]) (fun i T hi => by
    have h0 : i = 0 := by have := (List.getElem?_eq_some_iff.1 hi).1; simpa using this
    subst h0
    obtain rfl := Option.some.inj hi
    exact ⟨x, rfl, h3⟩) h4 hg

/-- Commands as texts. -/
def cm (L : List (List (List UInt8))) : List (List ByteArray) := L.map fun l => l.map tx
theorem cm_length (L : List (List (List UInt8))) : (cm L).length = L.length := by simp [cm]

set_option maxHeartbeats 2000000 in
theorem takeall_any (ao : Option Addr) (m c : Nat) (l : List UInt8) (w : World) (hb : Bytes w ao m c l) (hm : m ≤ 1048576) (hc : c ≤ maxLen) :
    Calls Tryd.prog 11 #[.slice ao m c] w fun e w' => ∃ v, e = .returned (.tuple #[v, .int .i64 ((Rs.parse l).2.1 : Int), .int .i64 ((Rs.parse l).2.2 : Int)]) ∧ Cmds w' w.heap.size v (cm (Rs.parse l).1) ∧ Below w.heap.size w w' := by
  obtain ⟨i0, hi, hz0, hz1, hz2⟩ := info_parts infoC
  have hlen := hb.len
  go_enter Tryd.func11, Tryd.ntmps11
  go_wp2_with fail
  go_loopw [5, 6] (fun v i wr => ∃ (a : Nat) (P : List (List (List UInt8))), a ≤ m ∧ 3 * P.length ≤ a ∧ i = .int .i64 (a : Int) ∧ Hid (Rs.At l P a) ∧ Cmds wr w.heap.size v (cm P) ∧ Below w.heap.size w wr) (fun _ i _ => m - (intOf i).toNat)
  case atStart => exact ⟨0, [], Nat.zero_le _, by simp, rfl, Rs.at_zero l, Cmds.nil _ _, Below.refl _ _⟩
  case round =>
    obtain ⟨a, P, ha, hP, rfl, HA, hB, hbel⟩ := hrel
    have hbr := hb.below hbel (Nat.le_refl _)
    go_wp2_with fail
    refine Calls.mono (command_any ao m c l a wr hbr ha hm hc) ?_
    rintro e w2 ⟨⟨E, hE, rfl⟩ | ⟨L, k, x, hL, rfl, hO⟩, hb2⟩
    · have hE0 := ne_zero (bad_pos (Rs.bad_cmd _) hE).1
      have HE : Hid _ := Rs.at_end HA.out hE
      clear hE
      go_wp2
      go_ret3
      refine ⟨u5, ?_, ?_, hbel.trans (hb2.mono hbel.size)⟩
      · rw [HE.out]; rfl
      · rw [HE.out]; exact hB.below hb2
    · have HN : Hid _ := Rs.at_next HA.out hL
      obtain ⟨xo, xc, hxv, -⟩ := hO.val
      obtain ⟨N, hN⟩ : ∃ N, N = (L.map tx).length := ⟨_, rfl⟩
      rw [← hN] at hxv
      clear hN
      subst hxv
      obtain ⟨hk3, hkl, -⟩ := Rs.cmd_len hL
      rw [List.length_drop] at hkl
      dsimp only at hk3 hkl
      obtain ⟨q, hq⟩ : ∃ q, q = a + k := ⟨_, rfl⟩
      rw [← hq] at HN ⊢
      have hqm : q ≤ m := by omega
      have hPq : 3 * (P.length + 1) ≤ q := by omega
      have haq : a < q := by omega
      obtain ⟨xs, hx1, hx2⟩ := hB.below hb2
      have hx1' := row_below hx1 ((Below.refl w2.heap.size w2).alloc (Nat.le_refl _) (Obj.cells #[Value.slice xo N xc] 22))
      have hx2' : ∀ (i : Nat) (S : List ByteArray), (cm P)[i]? = some S → ∃ y, xs[i]? = some y ∧ OwnT (w2.alloc (Obj.cells #[Value.slice xo N xc] 22)) w.heap.size y S := fun i S hi => by
        obtain ⟨y, h3, h4⟩ := hx2 i S hi
        exact ⟨y, h3, h4.below ((Below.refl w2.heap.size w2).alloc (Nat.le_refl _) _)⟩
      have Hp2 : Hid _ := hx2'
      have HO : Hid _ := (hO.rebase hbel.size).below ((Below.refl w2.heap.size w2).alloc (Nat.le_refl _) (Obj.cells #[Value.slice xo N xc] 22))
      have hbel2 := hbel.trans (hb2.mono hbel.size)
      have hbel2' := hbel2.alloc hbel2.size (Obj.cells #[Value.slice xo N xc] 22)
      have hnew := new_one w2 (Value.slice xo N xc) 22
      have hcl := cm_length P
      clear hx1 hx2 hx2' hO hb2 hbel hbr hB hL hq hkl hk3
      go_wp2_with (first
        | (at_builtin; refine wpList_append_own _ rfl (.tmp 22) (.tmp 24) 29 rfl w.heap.size 22 i0 (.slice none 0 0) 1 24 Tryd.underlying29 hi hz0 hz1 hz2 rfl (by omega) u5 (cm P).length xs rfl hx1' ⟨w2.heap.size, 0, none⟩ 1 1 [Value.slice xo N xc] rfl rfl hnew (by simp [Value.oneCell']) (by rw [hcl]; unfold maxLen; omega) (by rw [hcl]; omega) hbel2'.size ?_))
      rintro v' w3 hown3 hgrow3 -
      rw [← hcl] at hown3
      have hB3 := Cmds.push hx1' Hp2.out HO.out hown3 hgrow3
      have hbel3 := hbel2'.grown hgrow3 hbel2'.size (fun k hk => (hx1'.lt k hk).1)
      go_wp2
      go_roundw
      case rel => exact ⟨q, P ++ [L], hqm, by rw [List.length_append, List.length_singleton]; omega, by go_num, HN.out, by rw [cm, List.map_append]; exact hB3, hbel3⟩
      case measure => simp [intOf]; omega
end Go.Proofs.YtkhfplpplmnjiabDoor
