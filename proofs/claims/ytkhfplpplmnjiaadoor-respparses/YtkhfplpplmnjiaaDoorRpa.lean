/-
  What the reference's Parse comes to.
-/
import Derived.Test.YtkhfplpplmnjiaaDoorRon
import Derived.Test.YtkhfplpplmnjiaaDoorFdp
namespace Go.Proofs.YtkhfplpplmnjiaaDoor
set_option maxRecDepth 100000
open Go.RowKit

set_option maxHeartbeats 2000000 in
theorem parse_any (l : List UInt8) (n : Nat) (hz : (tx l).size = n) (w : World) (hm : n ≤ 1048576) :
    Calls Tryd.prog 17 #[.string (tx l)] w fun e w' => ∃ v, e = .returned (.tuple #[v, .int .i64 (fdF [] 0 l : Int)]) ∧ Cmds w' w.heap.size v (cm (fdL [] 0 l)) ∧ Below w.heap.size w w' := by
  obtain ⟨i0, hi, hz0, hz1, hz2⟩ := info_parts infoC
  have Hlen : Hid (l.length = n) := by rw [Hid, ← hz, tx_size]
  go_enter Tryd.func17, Tryd.ntmps17
  go_wp2_with fail
  go_loopw [4, 5] (fun v i wr => ∃ (a : Nat) (P : List (List (List UInt8))), a ≤ n ∧ 3 * P.length ≤ a ∧ i = .int .i64 (a : Int) ∧ Hid (Rs.At l P a) ∧ Cmds wr w.heap.size v (cm P) ∧ Below w.heap.size w wr) (fun _ i _ => n - (intOf i).toNat)
  case atStart => exact ⟨0, [], Nat.zero_le _, by simp, rfl, Rs.at_zero l, Cmds.nil _ _, Below.refl _ _⟩
  case round =>
    obtain ⟨a, P, ha, hP, rfl, HA, hB, hbel⟩ := hrel
    go_wp2_with fail
    refine Calls.mono (one_any l n hz a wr ha hm) ?_
    rintro e w2 ⟨⟨E, hE, rfl⟩ | ⟨L, k, x, hL, rfl, hO⟩, hb2⟩
    · have hE0 := Rs.bad_cmd (l.drop a)
      have HE := Rs.at_end HA.out hE
      have HL : Hid (fdL [] 0 l = P) := by rw [Hid, fdL0, HE]
      by_cases h2 : E = 2
      · have HF : Hid (fdF [] 0 l = 0) := by rw [Hid, fdF0, HE, h2]; rfl
        have hx : ((rx E : Int) == 1) = true := by rw [h2]; rfl
        clear hE hE0 HE
        go_wp2
        go_ret2
        refine ⟨u4, ?_, ?_, hbel.trans (hb2.mono hbel.size)⟩
        · rw [HF.out]; rfl
        · rw [HL.out]; exact hB.below hb2
      · have hEE : E = 3 ∨ E = 4 := by
          rw [hE] at hE0
          have := hE0 E rfl
          omega
        have HF : Hid (fdF [] 0 l = rx E) := by rw [Hid, fdF0, HE]; show (if E = 2 then 0 else E) = _; rw [rx, if_neg h2, if_neg h2]
        have hx : ((rx E : Int) == 1) = false := by rcases hEE with h | h <;> rw [h] <;> rfl
        have hx0 : ((rx E : Int) == 0) = false := by rcases hEE with h | h <;> rw [h] <;> rfl
        clear hE hE0 hEE HE
        go_wp2
        go_ret2
        refine ⟨u4, ?_, ?_, hbel.trans (hb2.mono hbel.size)⟩
        · rw [HF.out]; rfl
        · rw [HL.out]; exact hB.below hb2
    · have HN : Hid _ := Rs.at_next HA.out hL
      obtain ⟨xo, xc, hxv, -⟩ := hO.val
      obtain ⟨N, hN⟩ : ∃ N, N = (L.map tx).length := ⟨_, rfl⟩
      rw [← hN] at hxv
      clear hN
      subst hxv
      obtain ⟨hk3, hkl, -⟩ := Rs.cmd_len hL
      rw [List.length_drop, Hlen.out] at hkl
      dsimp only at hk3 hkl
      obtain ⟨q, hq⟩ : ∃ q, q = a + k := ⟨_, rfl⟩
      rw [← hq] at HN ⊢
      have hqm : q ≤ n := by omega
      have hPq : 3 * (P.length + 1) ≤ q := by omega
      have haq : a < q := by omega
      obtain ⟨xs, hx1, hx2⟩ := hB.below hb2
      have hx1' := row_below hx1 ((Below.refl w2.heap.size w2).alloc (Nat.le_refl _) (Obj.cells #[Value.slice xo N xc] 22))
      have hx2' : ∀ (i : Nat) (S : List ByteArray), (cm P)[i]? = some S → ∃ y, xs[i]? = some y ∧ OwnT (w2.alloc (Obj.cells #[Value.slice xo N xc] 22)) w.heap.size y S := fun i S hi => by
        obtain ⟨y, h3, h4⟩ := hx2 i S hi
        exact ⟨y, h3, h4.below ((Below.refl w2.heap.size w2).alloc (Nat.le_refl _) _)⟩
      have Hp2 : Hid _ := hx2'
      have HO : Hid _ := (hO.rebase hbel.size).below ((Below.refl w2.heap.size w2).alloc (Nat.le_refl _) (Obj.cells #[Value.slice xo N xc] 22))
      have hbel2 := hbel.trans (hb2.mono hbel.size)
      have hbel2' := hbel2.alloc hbel2.size (Obj.cells #[Value.slice xo N xc] 22)
      have hnew := new_one w2 (Value.slice xo N xc) 22
      have hcl := cm_length P
      clear hx1 hx2 hx2' hO hb2 hbel hB hL hq hkl hk3
      go_wp2_with (first
        | (at_builtin; refine wpList_append_own _ rfl (.tmp 23) (.tmp 25) 36 rfl w.heap.size 22 i0 (.slice none 0 0) 1 24 Tryd.underlying36 hi hz0 hz1 hz2 rfl (by omega) u4 (cm P).length xs rfl hx1' ⟨w2.heap.size, 0, none⟩ 1 1 [Value.slice xo N xc] rfl rfl hnew (by simp [Value.oneCell']) (by rw [hcl]; unfold maxLen; omega) (by rw [hcl]; omega) hbel2'.size ?_))
      rintro v' w3 hown3 hgrow3 -
      rw [← hcl] at hown3
      have hB3 := Cmds.push hx1' Hp2.out HO.out hown3 hgrow3
      have hbel3 := hbel2'.grown hgrow3 hbel2'.size (fun k hk => (hx1'.lt k hk).1)
      go_wp2
      go_roundw
      case rel => exact ⟨q, P ++ [L], hqm, by rw [List.length_append, List.length_singleton]; omega, by go_num, HN.out, by rw [cm, List.map_append]; exact hB3, hbel3⟩
      case measure => simp [intOf]; omega
end Go.Proofs.YtkhfplpplmnjiaaDoor
