/-
  What the reference's Scan comes to.
-/
import Derived.Test.YtfnaldiacncjfaaRtk
import Derived.Test.YtfnaldiacncjfaaTex
namespace Go.Proofs.Ytfnaldiacncjfaa
open Go.RowKit

theorem infoT : (Try.prog.info? 9).map (fun i => (i.zero, i.size, i.bytes)) = some (some (.string ByteArray.empty), 1, 16) := by kernel_rfl

/-- A list of texts that a call has made. -/
def OwnT (w : World) (base : Nat) (v : Value) (S : List ByteArray) : Prop := w.ownsRow base 9 1 v S.length (S.map Value.string)
theorem OwnT.txts {w : World} {base : Nat} {v : Value} {S : List ByteArray} (h : OwnT w base v S) (hs : ∀ s ∈ S, s.size ≤ maxLen) : ∃ ao c, v = .slice ao S.length c ∧ Txts w ao S.length c S ∧ c ≤ maxLen := by
  have h1 : w.ownsRow base 9 1 v S.length (S.map Value.string) := h
  rcases h1.2 with ⟨rfl, h0⟩ | ⟨g, cap, cur, rfl, _, _, hnc, hcm, _⟩
  · have : S = [] := List.eq_nil_of_length_eq_zero h0
    subst this
    exact ⟨none, 0, rfl, ⟨rfl, Nat.le_refl _, fun _ => ⟨rfl, rfl⟩, (fun _ h => by cases h), hs⟩, Nat.zero_le _⟩
  · refine ⟨_, _, rfl, ⟨rfl, hnc, (fun h => by cases h), ?_, hs⟩, hcm⟩
    intro ad had j s hj
    obtain rfl := Option.some.inj had
    exact h1.cells rfl j _ (by rw [List.getElem?_map, hj]; rfl)

theorem tk_small (b : ByteArray) (hb : b.size ≤ 20000) (a : Nat) : (tx (Fr.tkB (b.data.toList.drop a))).size ≤ maxLen := by
  have hl : b.data.toList.length = b.size := by rw [Array.length_toList]; rfl
  rw [tx_size, Fr.tkB, List.length_take, List.length_drop, List.length_drop]
  unfold maxLen
  omega

set_option maxHeartbeats 4000000 in
theorem rscan_any (b : ByteArray) (hb : b.size ≤ 20000) (w : World) :
    Calls Try.prog 15 #[.string b] w fun e w' => ∃ v, ∃ A : Nat, ∃ S, e = .returned (.tuple #[v, .int .i64 (A : Int), .bool (decide (A = b.size))]) ∧ A ≤ b.size ∧ (Fr.scan b.data.toList).2 = b.data.toList.drop A ∧
      dl S = (Fr.scan b.data.toList).1 ∧ (∀ s ∈ S, s.size ≤ maxLen) ∧ OwnT w' w.heap.size v S ∧ Below w.heap.size w w' := by
  obtain ⟨i0, hi, hz0, hz1, hz2⟩ := info_parts infoT
  have hl : b.data.toList.length = b.size := by rw [Array.length_toList]; rfl
  go_enter Try.func15, Try.ntmps15
  go_wp2_with fail
  go_loopw [5, 6] (fun v i wr => ∃ (a : Nat) (S : List ByteArray), a ≤ b.size ∧ 6 * S.length ≤ a ∧ i = .int .i64 (a : Int) ∧ Hid (Fr.scan b.data.toList = (dl S ++ (Fr.scan (b.data.toList.drop a)).1, (Fr.scan (b.data.toList.drop a)).2)) ∧ (∀ s ∈ S, s.size ≤ maxLen) ∧ OwnT wr w.heap.size v S ∧ Below w.heap.size w wr) (fun _ i _ => b.size - (intOf i).toNat)
  case atStart => exact ⟨0, [], Nat.zero_le _, by simp, rfl, by simp [dl, Hid], by simp, World.ownsRow_nil _ _ _ _, Below.refl _ _⟩
  case round =>
    obtain ⟨a, S, ha, hS6, rfl, HS, hsm, hO, hbel⟩ := hrel
    by_cases hlt : a < b.size
    · have Ht : Hid _ := rtake_any b a hb ha wr
      by_cases hE : Fr.tkE (b.data.toList.drop a) = 0
      · obtain ⟨k1, k2, k3⟩ := Fr.tk_len _ hE
        have HM : Hid _ := Fr.scan_more _ a _ HS.out hE
        have hw6 : 6 ≤ Fr.tkW (b.data.toList.drop a) := Nat.le_add_left _ _
        have hw7 : a + Fr.tkW (b.data.toList.drop a) ≤ b.size := by rw [List.length_drop, hl] at k1; omega
        have e1 : tkT (b.data.toList.drop a) = tx (Fr.tkB (b.data.toList.drop a)) := by rw [tkT, if_pos hE]
        have e2 : tkN a (b.data.toList.drop a) = a + Fr.tkW (b.data.toList.drop a) := by rw [tkN, if_pos hE]
        have hts := tk_small b hb a
        rw [hE, e1, e2] at Ht
        have HD : Hid (dl (S ++ [tx (Fr.tkB (b.data.toList.drop a))]) = dl S ++ [Fr.tkB (b.data.toList.drop a)]) := by
          rw [Hid, dl, dl, List.map_append, List.map_cons, List.map_nil, tx_list]
        rw [← HD.out] at HM
        clear hE HS k1 k2 k3 e1 e2 HD
        generalize tx (Fr.tkB (b.data.toList.drop a)) = t at *
        generalize Fr.tkW (b.data.toList.drop a) = W at *
        go_wp2_with fail
        refine Calls.mono Ht.out ?_
        rintro e w2 ⟨rfl, hb2⟩
        have hO2 : (w2.alloc (Obj.cells #[Value.string t] 9)).ownsRow w.heap.size 9 1 u5 S.length (S.map Value.string) := row_below (row_below hO hb2) ((Below.refl w2.heap.size w2).alloc (Nat.le_refl _) _)
        have hbel2 := hbel.trans (hb2.mono hbel.size)
        have hbel2' := hbel2.alloc hbel2.size (Obj.cells #[Value.string t] 9)
        have hnew := new_one w2 (Value.string t) 9
        clear hO hb2 hbel
        go_wp2_with (first
          | (at_builtin; refine wpList_append_own _ rfl (.tmp 23) (.tmp 25) 38 rfl w.heap.size 9 i0 (.string ByteArray.empty) 1 16 Try.underlying38 hi hz0 hz1 hz2 rfl (by omega) u5 S.length _ rfl hO2 ⟨w2.heap.size, 0, none⟩ 1 1 [Value.string t] rfl rfl hnew (by simp [Value.oneCell']) (by unfold maxLen; omega) (by omega) hbel2'.size ?_))
        rintro v' w3 hown3 hgrow3 -
        have hbel3 := hbel2'.grown hgrow3 hbel2'.size (fun k hk => (hO2.lt k hk).1)
        go_wp2
        go_roundw
        case rel =>
          refine ⟨a + W, S ++ [t], by omega, by rw [List.length_append, List.length_singleton]; omega, by go_num, HM.out, ?_, ?_, hbel3⟩
          · intro s hs
            rcases List.mem_append.1 hs with h | h
            · exact hsm s h
            · rw [List.mem_singleton.1 h]; exact hts
          · rw [OwnT, List.length_append, List.map_append]
            exact hown3
        case measure => simp [intOf]; omega
      · have HM : Hid _ := Fr.scan_over _ a _ HS.out hE
        generalize tkT (b.data.toList.drop a) = t at *
        generalize (tkN a (b.data.toList.drop a) : Int) = z at *
        generalize Fr.tkE (b.data.toList.drop a) = E at *
        clear HS
        go_wp2_with fail
        refine Calls.mono Ht.out ?_
        rintro e w2 ⟨rfl, hb2⟩
        have hbel2 := hbel.trans (hb2.mono hbel.size)
        go_wp2_with fail
        go_ret3
        refine ⟨u5, a, S, ?_, ha, by rw [HM.out], by rw [HM.out], hsm, row_below hO hb2, hbel2⟩
        have e1 : ((a : Int) == (b.size : Int)) = decide (a = b.size) := by
          rw [Bool.eq_iff_iff, beq_iff_eq, decide_eq_true_eq]; omega
        rw [← e1]
        rfl
    · obtain rfl : a = b.size := by omega
      have hE : Fr.tkE (b.data.toList.drop b.size) ≠ 0 := by rw [List.drop_eq_nil_of_le (by omega)]; decide
      have HM : Hid _ := Fr.scan_over _ b.size _ HS.out hE
      clear HS hE
      go_wp2
      go_ret3
      refine ⟨u5, b.size, S, ?_, ha, by rw [HM.out], by rw [HM.out], hsm, hO, hbel⟩
      simp
end Go.Proofs.Ytfnaldiacncjfaa
