/-
  RespPrefix: a command's bytes, cut off anywhere, tell nothing yet, and aren't wrong; the rest brings it. For every input.
-/
import Derived.Test.YtkhfplpplmnjiabDoorLbk
namespace Go.Proofs.YtkhfplpplmnjiabDoor
set_option maxRecDepth 100000
open Go.RowKit Go.Sort

theorem slice_toB (w : World) {ao : Option Addr} {m c k : Nat} (hk : k ≤ c) : (Instr.slice 25 (.slice ao m c) none (some (.int .i64 (k : Int))) none).run Tryd.prog w = .ok (.slice ao k c) w := by
  have h2 : (k : Int) ≤ (c : Int) := by omega
  have hs : (Tryd.prog.info? 5).map (·.size) = some 1 := by kernel_rfl
  cases ao with
  | none => go_simp
  | some ad => go_simp
/-- What a command's bytes come to in two pieces. -/
theorem cut_two {S : List ByteArray} (h : Okt S) (k : Nat) (hk : k < (Rs.many (dl S)).length) :
    (fdL [] 0 ((Rs.many (dl S)).take k) = [] ∧ fdF [] 0 ((Rs.many (dl S)).take k) = 0 ∧ fdS [] 0 ((Rs.many (dl S)).take k) = (Rs.many (dl S)).take k) ∧
    cm (fdL ((Rs.many (dl S)).take k) 0 ((Rs.many (dl S)).drop k)) = [S] ∧ fdF ((Rs.many (dl S)).take k) 0 ((Rs.many (dl S)).drop k) = 0 := by
  have h1 := Rs.parse_cut (dl S) (okt_c h) k hk
  have h2 := Rs.parse_many (dl S) [] (okt_c h)
  rw [List.append_nil, Rs.parse_nil] at h2
  refine ⟨⟨?_, ?_, ?_⟩, ?_, ?_⟩
  · rw [fdL0, h1]
  · rw [fdF0, h1]; rfl
  · rw [fdS0, h1]; rfl
  · rw [fdL, ite0, List.take_append_drop, h2]
    show cm (dL [S]) = [S]
    exact cm_dL [S]
  · rw [fdF, ite0, List.take_append_drop, h2]; rfl

set_option maxHeartbeats 4000000 in
theorem prefix_walk (ao : Option Addr) (m c : Nat) (S : List ByteArray) (cut : Int) (w : World) (hT : Txts w ao m c S) (h0 : 0 ≤ cut) (h1 : cut ≤ 18446744073709551615) (ht : Tab w) :
    Calls Tryd.prog 3 #[.slice ao m c, .int .u64 cut] w fun e w' => e = .returned (.bool true) ∧ Below w.heap.size w w' := by
  have hlen := hT.len
  by_cases m1 : m < 1
  · have m1' : (m : Int) < 1 := by omega
    go_enter Tryd.func3, Tryd.ntmps3
    go_wp2_with fail
    refine Calls.mono (awake_any w ht) ?_
    rintro e w1 ⟨rfl, hb1⟩
    go_wp2_with fail
    refine Calls.mono (awake_any w1 (ht.below hb1)) ?_
    rintro e w2 ⟨rfl, hb2⟩
    go_wp2
    go_ret
    exact ⟨rfl, hb1.trans (hb2.mono hb1.size)⟩
  have m1' : ¬ (m : Int) < 1 := by omega
  by_cases m8 : 8 < m
  · have m8' : (8 : Int) < (m : Int) := by omega
    go_enter Tryd.func3, Tryd.ntmps3
    go_wp2_with fail
    refine Calls.mono (awake_any w ht) ?_
    rintro e w1 ⟨rfl, hb1⟩
    go_wp2_with fail
    refine Calls.mono (awake_any w1 (ht.below hb1)) ?_
    rintro e w2 ⟨rfl, hb2⟩
    go_wp2
    go_ret
    exact ⟨rfl, hb1.trans (hb2.mono hb1.size)⟩
  have m8' : ¬ (8 : Int) < (m : Int) := by omega
  have Hl : Hid (S.length = m) := hlen
  clear hlen
  go_enter Tryd.func3, Tryd.ntmps3
  go_wp2_with fail
  refine Calls.mono (awake_any w ht) ?_
  rintro e w1 ⟨rfl, hb1⟩
  go_wp2_with fail
  go_loopw [28] (fun i wi => ∃ j : Nat, j ≤ m ∧ i = .int .i64 (j : Int) ∧ Hid (∀ q, q < j → (S.getD q ByteArray.empty).size ≤ 64) ∧ wi = w1) (fun i _ => m - (intOf i).toNat)
  case atStart => exact ⟨0, Nat.zero_le _, rfl, fun q hq => by omega, rfl⟩
  case round =>
    obtain ⟨j, hj, rfl, HJ, rfl⟩ := hrel
    by_cases hjl : j < m
    · have h2r := hT.below hb1 (Nat.le_refl _)
      rcases h2r.norm with ⟨h0, -⟩ | ⟨b2, off2, hao2, -, hcs⟩
      · omega
      subst hao2
      have hc2 := hcs j hjl
      have hjS : j < S.length := by have := Hl.out; omega
      have hsm := hT.small (S.getD j ByteArray.empty) (by simp [List.getD, hjS])
      unfold maxLen at hsm
      have HN : Hid ((S.getD j ByteArray.empty).size ≤ 64 → ∀ q, q < j + 1 → (S.getD q ByteArray.empty).size ≤ 64) := fun h q hq => by
        by_cases e : q = j
        · rw [e]; exact h
        · exact HJ.out q (by omega)
      clear hcs h2r hjS hT
      generalize S.getD j ByteArray.empty = s at *
      by_cases hs : 64 < s.size
      · have hs' : (64 : Int) < (s.size : Int) := by omega
        go_wp2
        go_ret
        exact ⟨rfl, hb1⟩
      · have hs' : ¬ (64 : Int) < (s.size : Int) := by omega
        have HT := HN.out (by omega)
        have HT : Hid _ := HT
        clear HN
        go_wp2
        go_roundw
        case rel => exact ⟨j + 1, by omega, by go_num, HT.out, trivial⟩
        case measure => simp [intOf]; omega
    · obtain rfl : j = m := by omega
      have hok : Okt S := ⟨by have := Hl.out; omega, by have := Hl.out; omega, fun s hs => by
        obtain ⟨q, hq⟩ := List.getElem?_of_mem hs
        have hq2 := (List.getElem?_eq_some_iff.1 hq).1
        have := HJ.out q (by have := Hl.out; omega)
        rw [List.getD, hq, Option.getD_some] at this
        exact this⟩
      have hml := many_len hok
      have Hok : Hid _ := hok
      have hpos : 0 < (Rs.many (dl S)).length := by rw [Rs.many, List.length_append, Rs.ln_len]; omega
      have C : Hid _ := putcmd_any ao j c S _ (hT.below hb1 (Nat.le_refl _)) (okt_few hok) (ht.below hb1)
      have HT : Hid _ := hT
      clear hok HJ hT
      go_wp2_with fail
      refine Calls.mono C.out ?_
      rintro e w3 ⟨v3, rfl, hM3, hb3⟩
      have hbel3 := hb1.trans (hb3.mono hb1.size)
      obtain ⟨ab, cb, rfl, hB3, hcb⟩ := hM3.bytes
      have hNc := hB3.room
      obtain ⟨N, hN⟩ : ∃ N, N = (Rs.many (dl S)).length := ⟨_, rfl⟩
      have HN : Hid (N = (Rs.many (dl S)).length) := hN
      rw [← hN] at hml hB3 hpos hNc ⊢
      obtain ⟨k, hk⟩ : ∃ k : Nat, (k : Int) = cut % (N : Int) := ⟨(cut % (N : Int)).toNat, Int.toNat_of_nonneg (Int.emod_nonneg _ (by omega))⟩
      have hkN : k < N := by have := Int.emod_lt_of_pos cut (show (0 : Int) < N by omega); omega
      have hN0 : ((N : Int) == 0) = false := by rw [beq_eq_false_iff_ne]; omega
      clear hN hM3 hb3 C
      have hcut := cut_two Hok.out k (by rw [← HN.out]; exact hkN)
      have Hcut : Hid _ := hcut
      clear hcut
      go_wp2_with fail
      rw [← hk]
      refine Calls.mono (new_any w3) ?_
      rintro e w4 ⟨rfl, hP4, hb4, -⟩
      have hbel4 := hbel3.trans (hb4.mono hbel3.size)
      have hB4 := hB3.below hb4 (Nat.le_refl _)
      obtain ⟨g, hg⟩ : ∃ g, g = w3.heap.size := ⟨_, rfl⟩
      rw [← hg] at hP4 ⊢
      have hsl1 : ∀ W, (Instr.slice 25 (.slice ab N cb) none (some (.int .i64 (k : Int))) none).run Tryd.prog W = .ok (.slice ab k cb) W := fun W => slice_toB W (by omega)
      have hsl2 : ∀ W, (Instr.slice 25 (.slice ab N cb) (some (.int .i64 (k : Int))) none none).run Tryd.prog W = .ok (.slice (dropB ab cb k) (N - k) (cb - k)) W := fun W => slice_fromB W (by omega)
      have C1 := feed_any g 0 [] ab k cb _ w4 hP4 (hB4.take k (by omega)) (by simp only [List.length_nil]; omega)
      rw [Hcut.out.1.1, Hcut.out.1.2.1, Hcut.out.1.2.2] at C1
      have C1 : Hid _ := C1
      have hgw : w.heap.size ≤ g := by rw [hg]; exact hbel3.size
      have HB3 : Hid _ := hB3
      have Hg : Hid _ := hg
      clear hB3 hB4 hP4 hk hg
      go_wp2_with fail
      refine Calls.mono C1.out ?_
      rintro e w5 ⟨v5, rfl, hc5, hP5, hgr5⟩
      have hb35 : Below w3.heap.size w3 w5 := hb4.grown hgr5 hb4.size (fun q hq => by cases hq; rw [Hg.out]; exact Nat.le_refl _)
      have hbel5 := hbel3.trans (hb35.mono hbel3.size)
      obtain ⟨a5, c5, hv5, -⟩ := hc5.val
      have hv5 : v5 = .slice a5 0 c5 := hv5
      subst hv5
      have hB5 := Bytes.below HB3.out hb35 (Nat.le_refl _)
      have hlk : ((Rs.many (dl S)).take k).length = k := by rw [List.length_take, ← HN.out]; omega
      have C2 := feed_any g 0 _ _ _ _ _ w5 hP5 (hB5.dropB k (by omega)) (by rw [hlk]; omega)
      rw [Hcut.out.2.1, Hcut.out.2.2] at C2
      have C2 : Hid _ := C2
      generalize dropB ab cb k = ad at *
      generalize N - k = nk at *
      generalize cb - k = ck at *
      clear C1 hB5 hP5 hc5 hgr5 hb4 hb35 hbel4 hlk
      go_wp2_with fail
      refine Calls.mono C2.out ?_
      rintro e w6 ⟨v6, rfl, hc6, -, hgr6⟩
      have hbel6 : Below w.heap.size w w6 := hbel5.grown hgr6 hbel5.size (fun q hq => by cases hq; exact hgw)
      obtain ⟨a6, c6, hv6, -, -, hs6⟩ := hc6.css
      have hv6 : v6 = .slice a6 1 c6 := hv6
      subst hv6
      have hba := (Below.refl w6.heap.size w6).alloc (Nat.le_refl _) (Obj.cells #[Value.slice ao j c] 22)
      have hbel7 := hbel6.trans (hba.mono hbel6.size)
      have hT7 := Txts.below HT.out hbel7 (Nat.le_refl _)
      have hsB : Css (w6.alloc (Obj.cells #[Value.slice ao j c] 22)) (some ⟨w6.heap.size, 0, none⟩) [S] := by
        refine ⟨(fun h => by cases h), fun ad had i T hi => ?_⟩
        obtain rfl := Option.some.inj had
        have h0 : i = 0 := by have := (List.getElem?_eq_some_iff.1 hi).1; simpa using this
        subst h0
        obtain rfl := Option.some.inj hi
        refine ⟨ao, c, ?_, hT7.txc⟩
        rw [Hl.out]
        exact new_one w6 (Value.slice ao j c) 22 0 _ rfl
      have CS := same_any a6 c6 [S] (some ⟨w6.heap.size, 0, none⟩) 1 [S] _ (hs6.below hba (Nat.le_refl _)) hsB (by simp) (by simp) (fun T hT => by rw [List.mem_singleton.1 hT, Hl.out]; omega) (fun T hT => by rw [List.mem_singleton.1 hT, Hl.out]; omega)
      rw [decide_eq_true rfl] at CS
      have CS : Hid _ := CS
      clear hc6 hgr6 hs6 hsB hT7 hba C2
      go_wp2_with fail
      refine Calls.mono CS.out ?_
      rintro e w8 ⟨rfl, hb8⟩
      go_wp2
      go_ret
      exact ⟨rfl, hbel7.trans (hb8.mono hbel7.size)⟩
end Go.Proofs.YtkhfplpplmnjiabDoor
