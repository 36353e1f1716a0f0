/-
  What resp.takeCommand comes to: the command at a place, as a new list of texts; or why there is none.
-/
import Derived.Test.YtkhfplpplmnjiabDoorArg
namespace Go.Proofs.YtkhfplpplmnjiabDoor
set_option maxRecDepth 100000
open Go.RowKit

theorem argument_yes (ao : Option Addr) (m c : Nat) (l : List UInt8) (a p k : Nat) (s : List UInt8) (w : World) (hb : Bytes w ao m c l) (ha : a ≤ m) (hm : m ≤ 1048576) (hc : c ≤ maxLen) (h : Rs.argR (l.drop a) = .ok (s, k)) (hp : a + k = p) :
    Calls Tryd.prog 19 #[.slice ao m c, .int .i64 (a : Int)] w fun e w' => e = .returned (.tuple #[.string (tx s), .int .i64 (p : Int), .int .i64 0]) ∧ Below w.heap.size w w' := by
  have := argument_any ao m c l a w hb ha hm hc
  rw [h, argT, rP, rE] at this
  dsimp only at this
  rw [hp] at this
  exact this
theorem argument_not (ao : Option Addr) (m c : Nat) (l : List UInt8) (a E : Nat) (w : World) (hb : Bytes w ao m c l) (ha : a ≤ m) (hm : m ≤ 1048576) (hc : c ≤ maxLen) (h : Rs.argR (l.drop a) = .error E) :
    Calls Tryd.prog 19 #[.slice ao m c, .int .i64 (a : Int)] w fun e w' => e = .returned (.tuple #[.string ByteArray.empty, .int .i64 0, .int .i64 (E : Int)]) ∧ Below w.heap.size w w' := by
  have := argument_any ao m c l a w hb ha hm hc
  rw [h] at this
  exact this

/-- A list of texts that a call has made. -/
def OwnT (w : World) (base : Nat) (v : Value) (S : List ByteArray) : Prop := w.ownsRow base 9 1 v S.length (S.map Value.string)
theorem OwnT.below {w w' : World} {base : Nat} {v : Value} {S : List ByteArray} (h : OwnT w base v S) (hb : Below w.heap.size w w') : OwnT w' base v S := row_below h hb
theorem OwnT.rebase {w : World} {base base' : Nat} {v : Value} {S : List ByteArray} (h : OwnT w base v S) (hb : base' ≤ base) : OwnT w base' v S := own_rebase h hb

theorem set_next {α : Type} (A : List α) (m : Nat) (z v : α) : (A ++ List.replicate (m + 1) z).set A.length v = (A ++ [v]) ++ List.replicate m z := by
  rw [List.set_append_right _ _ (Nat.le_refl _), Nat.sub_self, List.replicate_succ, List.set_cons_zero, List.append_assoc]; rfl
theorem cmd_one {d : List UInt8} {E : Nat} (h : Rs.cntR 42 1 8 d = .error E) : Rs.cmdR d = .error E := by rw [Rs.cmdR, h]; rfl
theorem cmd_two {d : List UInt8} {n k E : Nat} (h : Rs.cntR 42 1 8 d = .ok (n, k)) (h2 : Rs.argsR n (d.drop k) = .error E) : Rs.cmdR d = .error E := by rw [Rs.cmdR, h, Rs.thenE_ok rfl, h2]; rfl
theorem cmd_three {d : List UInt8} {n k j : Nat} {L : List (List UInt8)} (h : Rs.cntR 42 1 8 d = .ok (n, k)) (h2 : Rs.argsR n (d.drop k) = .ok (L, j)) : Rs.cmdR d = .ok (L, k + j) := by rw [Rs.cmdR, h, Rs.thenE_ok rfl, h2]; rfl

def CmdOut (d : List UInt8) (a base : Nat) (e : Ending) (w' : World) : Prop :=
  (∃ E : Nat, Rs.cmdR d = .error E ∧ e = .returned (.tuple #[.slice none 0 0, .int .i64 0, .int .i64 (E : Int)])) ∨ ∃ L k v, Rs.cmdR d = .ok (L, k) ∧ e = .returned (.tuple #[v, .int .i64 ((a + k : Nat) : Int), .int .i64 0]) ∧ OwnT w' base v (L.map tx)

set_option maxHeartbeats 2000000 in
theorem command_any (ao : Option Addr) (m c : Nat) (l : List UInt8) (a : Nat) (w : World) (hb : Bytes w ao m c l) (ha : a ≤ m) (hm : m ≤ 1048576) (hc : c ≤ maxLen) :
    Calls Tryd.prog 16 #[.slice ao m c, .int .i64 (a : Int)] w fun e w' => CmdOut (l.drop a) a w.heap.size e w' ∧ Below w.heap.size w w' := by
  obtain ⟨i0, hi, hz0, hz1, hz2⟩ := info_parts infoT
  have hlen := hb.len
  cases h1 : Rs.cntR 42 1 8 (l.drop a) with
  | error E =>
    have hE := bad_pos (Rs.bad_cnt _ _ _ _) h1
    have HE : Hid _ := cmd_one h1
    have C1 : Hid _ := count_not ao m c l a E 42 1 8 w hb ha hm h1
    have hE0 := ne_zero hE.1
    clear h1
    go_enter Tryd.func16, Tryd.ntmps16
    go_wp2_with fail
    refine Calls.mono C1.out ?_
    rintro e w1 ⟨rfl, hb1⟩
    go_wp2
    go_ret3
    exact ⟨.inl ⟨E, HE.out, rfl⟩, hb1⟩
  | ok r =>
    obtain ⟨n, k⟩ := r
    obtain ⟨hk3, hkl, hn1, hn⟩ := Rs.cnt_len h1
    rw [List.length_drop] at hkl
    dsimp only at hk3 hkl hn1 hn
    obtain ⟨q, hq⟩ : ∃ q, q = a + k := ⟨_, rfl⟩
    have C1 : Hid _ := count_yes ao m c l a q n k 42 1 8 w hb ha hm h1 hq.symm
    have hqm : q ≤ m := by omega
    have hdq : (l.drop a).drop k = l.drop q := by rw [List.drop_drop, hq]
    have H1 : Hid (∀ E, Rs.argsR n (l.drop q) = .error E → Rs.cmdR (l.drop a) = .error E) := fun E h => cmd_two h1 (by rw [hdq]; exact h)
    have H2 : Hid (∀ L j, Rs.argsR n (l.drop q) = .ok (L, j) → Rs.cmdR (l.drop a) = .ok (L, k + j)) := fun L j h => cmd_three h1 (by rw [hdq]; exact h)
    have Hq : Hid (q = a + k) := hq
    clear h1 hq hdq hkl hk3
    go_enter Tryd.func16, Tryd.ntmps16
    go_wp2_with fail
    refine Calls.mono C1.out ?_
    rintro e w1 ⟨rfl, hb1⟩
    go_wp2_with (first
      | (at_make; refine wpList_make_full _ rfl _ _ 22 rfl w.heap.size 9 i0 (.string ByteArray.empty) 1 Tryd.underlying22 hi hz0 hz1 _ _ _ _ n rfl rfl rfl rfl ?b2 ?b3 hb1.size ?_))
    case b2 => rw [hz2]; omega
    case b3 => unfold maxLen; omega
    intro w2 hown2 hgrow2
    rw [toList_madeCells_one] at hown2
    have hbel2 := hb1.grown hgrow2 hb1.size (fun k h => by cases h)
    go_wp2_with fail
    go_loopw [1, 25] (fun t i wr => ∃ (p j u : Nat) (P : List (List UInt8)), p ≤ m ∧ u ≤ n ∧ t = .int .i64 (p : Int) ∧ i = .int .i64 (u : Int) ∧ Hid (P.length = u ∧ p = q + j ∧ Rs.argsR n (l.drop q) = Rs.pre P j (Rs.argsR (n - u) ((l.drop q).drop j))) ∧ wr.ownsRow w.heap.size 9 1 (.slice (some ⟨w1.heap.size, 0, none⟩) n n) n ((P.map tx).map Value.string ++ List.replicate (n - u) (.string ByteArray.empty)) ∧ Below w.heap.size w wr) (fun _ i _ => n - (intOf i).toNat)
    case atStart => exact ⟨q, 0, 0, [], hqm, Nat.zero_le _, rfl, rfl, ⟨rfl, rfl, Rs.args_zero _ _⟩, hown2, hbel2⟩
    case round =>
      obtain ⟨p, j, u, P, hpm, hPn, rfl, rfl, HR, hown, hbel⟩ := hrel
      clear hown2 hgrow2 hbel2
      have hbr := hb.below hbel (Nat.le_refl _)
      by_cases hlt : u < n
      · have hdj : (l.drop q).drop j = l.drop p := by rw [List.drop_drop, HR.out.2.1]
        have hnu : n - u = (n - u - 1) + 1 := by omega
        have hR := HR.out.2.2
        rw [hnu] at hR hown
        cases ha2 : Rs.argR (l.drop p) with
        | error E =>
          have hE := bad_pos (Rs.bad_arg _) ha2
          have HE : Hid (Rs.cmdR (l.drop a) = .error E) := H1.out E (Rs.args_fail hR (by rw [hdj]; exact ha2))
          have C2 : Hid _ := argument_not ao m c l p E wr hbr hpm hm hc ha2
          have hE0 := ne_zero hE.1
          clear ha2 hdj hnu hR hbr
          go_wp2_with fail
          refine Calls.mono C2.out ?_
          rintro e w3 ⟨rfl, hb3⟩
          have hown3 := row_below hown hb3
          have hfz := hown3.frozenAt u
          have hcl := hown3.cellAt u (by omega)
          rw [show ((P.map tx).map Value.string ++ List.replicate (n - u - 1 + 1) (Value.string ByteArray.empty))[u]? = some (.string ByteArray.empty) by rw [List.getElem?_append_right (by simp [HR.out.1])]; simp [HR.out.1]] at hcl
          have Ht : Hid _ := hown3.stored u (.string ByteArray.empty)
          have hbel3 := hbel.trans (hb3.mono hbel.size)
          clear hown hown3
          go_wp2
          go_ret3
          exact ⟨.inl ⟨E, HE.out, rfl⟩, hbel3.grown Ht.out.2 hbel3.size (fun k hk => by cases hk; exact hb1.size)⟩
        | ok x =>
          obtain ⟨t, k2⟩ := x
          have hk2 := Rs.arg_len ha2
          rw [List.length_drop] at hk2
          dsimp only at hk2
          obtain ⟨z, hz⟩ : ∃ z, z = p + k2 := ⟨_, rfl⟩
          have C2 : Hid _ := argument_yes ao m c l p z k2 t wr hbr hpm hm hc ha2 hz.symm
          have HN : Hid ((P ++ [t]).length = u + 1 ∧ z = q + (j + k2) ∧ Rs.argsR n (l.drop q) = Rs.pre (P ++ [t]) (j + k2) (Rs.argsR (n - (u + 1)) ((l.drop q).drop (j + k2)))) := by
            refine ⟨by simp [HR.out.1], by rw [hz, HR.out.2.1]; omega, ?_⟩
            rw [show n - (u + 1) = n - u - 1 by omega]
            exact Rs.args_next hR (by rw [hdj]; exact ha2)
          have hzm : z ≤ m := by omega
          clear ha2 hdj hnu hR hbr hz hk2
          go_wp2_with fail
          refine Calls.mono C2.out ?_
          rintro e w3 ⟨rfl, hb3⟩
          have hown3 := row_below hown hb3
          have hfz := hown3.frozenAt u
          have hcl := hown3.cellAt u (by omega)
          rw [show ((P.map tx).map Value.string ++ List.replicate (n - u - 1 + 1) (Value.string ByteArray.empty))[u]? = some (.string ByteArray.empty) by rw [List.getElem?_append_right (by simp [HR.out.1])]; simp [HR.out.1]] at hcl
          have Ht := hown3.stored u (.string (tx t))
          have hsn := set_next ((P.map tx).map Value.string) (n - u - 1) (Value.string ByteArray.empty) (.string (tx t))
          rw [show ((P.map tx).map Value.string).length = u by simp [HR.out.1]] at hsn
          rw [hsn, show (P.map tx).map Value.string ++ [Value.string (tx t)] = ((P ++ [t]).map tx).map Value.string by simp, show n - u - 1 = n - (u + 1) by omega] at Ht
          have Ht : Hid _ := Ht
          have hbel3 := hbel.trans (hb3.mono hbel.size)
          clear hown hown3 hsn
          go_wp2
          go_roundw
          case rel => exact ⟨z, j + k2, u + 1, P ++ [t], hzm, by omega, rfl, by go_num, HN, Ht.out.1, hbel3.grown Ht.out.2 hbel3.size (fun k hk => by cases hk; exact hb1.size)⟩
          case measure => simp [intOf]; omega
      · obtain rfl : u = n := by omega
        have hR := HR.out.2.2
        rw [Nat.sub_self] at hR hown
        rw [List.replicate_zero, List.append_nil] at hown
        have HF : Hid (Rs.cmdR (l.drop a) = .ok (P, k + j) ∧ p = a + (k + j)) := ⟨H2.out P j (Rs.args_done hR), by rw [HR.out.2.1, Hq.out]; omega⟩
        have HO : Hid (OwnT wr w.heap.size (.slice (some ⟨w1.heap.size, 0, none⟩) u u) (P.map tx)) := by
          rw [Hid, OwnT, List.length_map, HR.out.1]; exact hown
        clear hR hown hbr hb
        go_wp2
        go_ret3
        have ev := HF.out.2
        refine ⟨.inr ⟨P, k + j, .slice (some ⟨w1.heap.size, 0, none⟩) u u, HF.out.1, ?_, HO.out⟩, hbel⟩
        rw [← ev]
        rfl
end Go.Proofs.YtkhfplpplmnjiabDoor
