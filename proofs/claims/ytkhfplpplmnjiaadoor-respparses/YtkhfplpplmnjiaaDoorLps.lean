/-
  RespParses: of any bytes just those commands are told that the document says, and its error, or none. For every input.
-/
import Derived.Test.YtkhfplpplmnjiaaDoorLpc
import Derived.Test.YtkhfplpplmnjiaaDoorRpa
namespace Go.Proofs.YtkhfplpplmnjiaaDoor
set_option maxRecDepth 100000
open Go.RowKit Go.Sort

theorem cm_small {X : List (List (List UInt8))} (h : ∀ l ∈ X, l.length ≤ 8) : ∀ S ∈ cm X, S.length ≤ 1048576 := fun S hS => by
  obtain ⟨l, hl, rfl⟩ := List.mem_map.1 hS
  rw [List.length_map]
  have := h l hl
  omega
theorem fdL_bad (s : List UInt8) (F : Nat) (b : List UInt8) (h : F ≠ 0) : fdL s F b = [] ∧ fdF s F b = F := by
  rw [fdL, fdF, if_pos h, if_pos h]; exact ⟨rfl, rfl⟩

set_option maxHeartbeats 4000000 in
theorem parses_walk (s1 s2 : ByteArray) (w : World) (hs1 : s1.size ≤ maxLen) (hs2 : s2.size ≤ maxLen) (ht : Tab w) :
    Calls Tryd.prog 4 #[.string s1, .string s2] w fun e w' => e = .returned (.bool true) ∧ Below w.heap.size w w' := by
  obtain ⟨i0, hi, hz0, hz1, hz2⟩ := info_parts infoC
  unfold maxLen at hs1 hs2
  by_cases g1 : 3000 < s1.size
  · have g1' : (3000 : Int) < (s1.size : Int) := by omega
    go_enter Tryd.func4, Tryd.ntmps4
    go_wp2_with fail
    refine Calls.mono (awake_any w ht) ?_
    rintro e w1 ⟨rfl, hb1⟩
    go_wp2_with fail
    refine Calls.mono (awake_any w1 (ht.below hb1)) ?_
    rintro e w2 ⟨rfl, hb2⟩
    go_wp2
    go_ret
    exact ⟨rfl, hb1.trans (hb2.mono hb1.size)⟩
  have g1' : ¬ (3000 : Int) < (s1.size : Int) := by omega
  by_cases g2 : 3000 < s2.size
  · have g2' : (3000 : Int) < (s2.size : Int) := by omega
    go_enter Tryd.func4, Tryd.ntmps4
    go_wp2_with fail
    refine Calls.mono (awake_any w ht) ?_
    rintro e w1 ⟨rfl, hb1⟩
    go_wp2_with fail
    refine Calls.mono (awake_any w1 (ht.below hb1)) ?_
    rintro e w2 ⟨rfl, hb2⟩
    go_wp2
    go_ret
    exact ⟨rfl, hb1.trans (hb2.mono hb1.size)⟩
  have g2' : ¬ (3000 : Int) < (s2.size : Int) := by omega
  have hls1 := lsize s1
  have hls2 := lsize s2
  obtain ⟨l, hl⟩ : ∃ l, l = s1.data.toList := ⟨_, rfl⟩
  obtain ⟨d, hd⟩ : ∃ d, d = s2.data.toList := ⟨_, rfl⟩
  rw [← hl] at hls1
  rw [← hd] at hls2
  have hsl : s1 = tx l := by rw [hl, tx_data]
  have hsd : s2 = tx d := by rw [hd, tx_data]
  obtain ⟨n, hn⟩ : ∃ n, n = l.length := ⟨_, rfl⟩
  obtain ⟨m, hm⟩ : ∃ m, m = d.length := ⟨_, rfl⟩
  have hzl : (tx l).size = n := by rw [tx_size, hn]
  have hzd : (tx d).size = m := by rw [tx_size, hm]
  have hn3 : n ≤ 3000 := by omega
  have hm3 : m ≤ 3000 := by omega
  have g1' : ¬ (3000 : Int) < (n : Int) := by omega
  have g2' : ¬ (3000 : Int) < (m : Int) := by omega
  subst hsl
  subst hsd
  have Hn : Hid (n = l.length ∧ m = d.length) := ⟨hn, hm⟩
  clear hl hd g1 g2 hls1 hls2 hs1 hs2 hn hm
  go_enter Tryd.func4, Tryd.ntmps4
  go_wp2_with fail
  refine Calls.mono (awake_any w ht) ?_
  rintro e w1 ⟨rfl, hb1⟩
  go_wp2_with fail
  refine Calls.mono (new_any w1) ?_
  rintro e w2 ⟨rfl, hP2, hb2, -⟩
  obtain ⟨g, hg⟩ : ∃ g, g = w1.heap.size := ⟨_, rfl⟩
  rw [← hg] at hP2 ⊢
  have hwg : w.heap.size ≤ g := by rw [hg]; exact hb1.size
  have hw2 := hb1.trans (hb2.mono hb1.size)
  obtain ⟨cap, w3, hcv, hB3, hb3⟩ := conv_piece l w2 (by have := Hn.out.1; omega)
  rw [← Hn.out.1] at hcv hB3
  have hw3 := hw2.trans (hb3.mono hw2.size)
  have hg3 : g < w3.heap.size := Nat.lt_of_lt_of_le hP2.lt hb3.size
  have C := feed_any g 0 [] _ n cap l w3 (hP2.below hb3) hB3 (by simp only [List.length_nil]; omega)
  obtain ⟨F, hF⟩ : ∃ F, F = fdF [] 0 l := ⟨_, rfl⟩
  have hF4 := fdF_le [] 0 l (by decide)
  rw [← hF] at C hF4
  have HF : Hid (F = fdF [] 0 l) := hF
  have C : Hid _ := C
  clear hg hF hb1 hb2 hB3 hP2 hb3 hw2
  go_wp2_with fail
  refine Calls.mono C.out ?_
  rintro e w4 ⟨vl, rfl, hcl, hP4, hgr4⟩
  have hw4 : Below w.heap.size w w4 := hw3.grown hgr4 hw3.size (fun k hk => by cases hk; exact hwg)
  have C := parse_any l n hzl w4 (by omega)
  rw [← HF.out] at C
  have C : Hid _ := C
  go_wp2_with fail
  refine Calls.mono C.out ?_
  rintro e w5 ⟨vw, rfl, hcw, hb5⟩
  have hw5 := hw4.trans (hb5.mono hw4.size)
  have hc5 := hcl.below hb5
  have hP5 := hP4.below hb5
  have hL1 := fdL_len [] 0 l
  rw [List.length_nil] at hL1
  have HL1 : Hid ((cm (fdL [] 0 l)).length ≤ 3000) := by rw [Hid, cm_length]; have := Hn.out.1; omega
  have HS1 := cm_small hL1.2
  obtain ⟨L1, hL1e⟩ : ∃ L1, L1 = cm (fdL [] 0 l) := ⟨_, rfl⟩
  rw [← hL1e] at hc5 hcw HL1 HS1
  have HLe : Hid (L1 = cm (fdL [] 0 l)) := hL1e
  obtain ⟨al, cl, rfl, -, -, hs5⟩ := hc5.css
  obtain ⟨aw, cw, rfl, -, -, hs6⟩ := hcw.css
  have CS := same_any al cl L1 aw cw L1 w5 hs5 hs6 (by have := HL1.out; omega) (by have := HL1.out; omega) HS1 HS1
  rw [decide_eq_true rfl] at CS
  obtain ⟨N1, hN1⟩ : ∃ N1, N1 = L1.length := ⟨_, rfl⟩
  have HN1 : Hid (N1 = L1.length) := hN1
  have hN3 : N1 ≤ 3000 := by have := HL1.out; omega
  rw [← hN1] at CS ⊢
  have CS : Hid _ := CS
  have Hc5 : Hid _ := hc5
  have HS1 : Hid _ := HS1
  clear hcl hP4 hgr4 hcw hs5 hs6 hL1 hL1e hc5 hN1 hcv C HL1
  go_wp2_with fail
  refine Calls.mono CS.out ?_
  rintro e w6 ⟨rfl, hb6⟩
  have hw6 := hw5.trans (hb6.mono hw5.size)
  have hP6 := hP5.below hb6
  have hc6 := Cmds.below Hc5.out hb6
  obtain ⟨cap2, w7, hcv, hB7, hb7⟩ := conv_piece d w6 (by have := Hn.out.2; omega)
  rw [← Hn.out.2] at hcv hB7
  have hw7 := hw6.trans (hb7.mono hw6.size)
  have hP7 := hP6.below hb7
  have hc7 := hc6.below hb7
  have hfs := fdS_len l
  have C := feed_any g F _ _ m cap2 d w7 hP7 hB7 (by have := Hn.out.1; omega)
  have happ := fd_app l d
  rw [← HF.out] at happ
  rw [← happ.2.1, ← happ.2.2] at C
  obtain ⟨F2, hF2⟩ : ∃ F2, F2 = fdF [] 0 (l ++ d) := ⟨_, rfl⟩
  rw [← hF2] at C
  have HF2 : Hid (F2 = fdF [] 0 (l ++ d) ∧ (F ≠ 0 → F2 = F)) := ⟨hF2, fun h => by rw [hF2, happ.2.1]; exact (fdL_bad _ _ _ h).2⟩
  have hLm := fdL_len (fdS [] 0 l) F d
  obtain ⟨M, hM⟩ : ∃ M, M = cm (fdL (fdS [] 0 l) F d) := ⟨_, rfl⟩
  rw [← hM] at C
  have HM : Hid (cm (fdL [] 0 (l ++ d)) = L1 ++ M ∧ (F ≠ 0 → M = []) ∧ M.length ≤ 6000 ∧ ∀ S ∈ M, S.length ≤ 1048576) :=
    ⟨by rw [happ.1, cm_app, HLe.out, hM], fun h => by rw [hM, (fdL_bad _ _ _ h).1]; rfl, by rw [hM, cm_length]; have := Hn.out; omega, by rw [hM]; exact cm_small hLm.2⟩
  have C : Hid _ := C
  have Hc7 : Hid _ := hc7
  clear happ hfs hF2 hLm hM hc6 hP6 hP5 hB7 hP7 hc7 hb6 hb7 CS
  go_wp2_with fail
  refine Calls.mono C.out ?_
  rintro e w8 ⟨vm, rfl, hcm, -, hgr8⟩
  have hw8 : Below w.heap.size w w8 := hw7.grown hgr8 hw7.size (fun k hk => by cases hk; exact hwg)
  have hc8 := Cmds.kept Hc7.out hgr8 hg3
  have hz12 : (tx (l ++ d)).size = n + m := by rw [tx_size, List.length_append, ← Hn.out.1, ← Hn.out.2]
  have C := parse_any (l ++ d) (n + m) hz12 w8 (by omega)
  rw [← HF2.out.1, HM.out.1] at C
  have C : Hid _ := C
  have Hcm : Hid _ := hcm.rebase hw7.size
  have Hc8 : Hid _ := hc8.rebase hw3.size
  clear hz12 hcm hc8 hgr8 hcv Hc7
  go_wp2_with fail
  rw [tx_app]
  refine Calls.mono C.out ?_
  rintro e w9 ⟨va, rfl, hca, hb9⟩
  have hw9 := hw8.trans (hb9.mono hw8.size)
  have hcm9 := Cmds.below Hcm.out hb9
  have hc9 := Cmds.below Hc8.out hb9
  clear Hcm Hc8 hb9 C
  obtain ⟨am, cp, rfl, -⟩ := hcm9.val
  obtain ⟨N2, hN2⟩ : ∃ N2, N2 = M.length := ⟨_, rfl⟩
  have HN2 : Hid (N2 = M.length) := hN2
  have hN6 : N2 ≤ 6000 := by have := HM.out.2.2.1; omega
  have Hcm9 : Hid _ := hcm9
  have Hc9 : Hid _ := hc9
  have Hca : Hid _ := hca
  rw [← hN2]
  clear hcm9 hc9 hca hN2
  by_cases hF0 : F = 0
  · have hx : ((F : Int) == 0) = true := by rw [hF0]; rfl
    obtain ⟨B, hB⟩ : ∃ B, B = w9.heap.size := ⟨_, rfl⟩
    have hown0 := own_empty w9 w9.heap.size (Nat.le_refl _) 22
    have hbel0 := (Below.refl w9.heap.size w9).alloc (Nat.le_refl _) (Obj.cells #[] 22)
    have hc10 := Cmds.below Hc9.out hbel0
    obtain ⟨ax, cx, xs, hxv, hxl, hxn, hxc, hx1, -, hx2⟩ := hc10.cells
    simp only [Value.slice.injEq] at hxv
    obtain ⟨rfl, -, rfl⟩ := hxv
    rw [← HN1.out] at hxl hxn
    have Hx2 : Hid _ := hx2
    clear hx2 hc10
    go_wp2_with (first
      | (at_builtin; refine wpList_app (by rfl) (.tmp 73) (.tmp 74) 36 rfl w9.heap.size 22 i0 (.slice none 0 0) 24 Tryd.underlying36 hi hz0 hz1 hz2 rfl _ 0 [] rfl hown0 al N1 cl xs rfl hxl hxn hxc hx1 (by unfold maxLen; omega) (by omega) hbel0.size ?_))
    rintro v10 w10 hown10 hgr10
    have hbel10 := hbel0.grown hgr10 hbel0.size (fun k hk => (hown0.lt k hk).1)
    have hC10 : Cmds w10 w.heap.size v10 ([] ++ L1) :=
      Cmds.more (own_rebase hown0 hw9.size) (fun i S h => by cases h) Hx2.out (by rw [← HN1.out, List.length_nil, Nat.zero_add, List.nil_append]; exact own_rebase hown10 hw9.size) hgr10
    rw [List.nil_append] at hC10
    obtain ⟨ys, hy0, hy2⟩ := hC10
    rw [← HN1.out] at hy0
    have Hy2 : Hid _ := hy2
    have hm10 := Cmds.below Hcm9.out hbel10
    obtain ⟨az, cz, zs, hzv, hzl2, hzn, hzc, hz1', -, hz2'⟩ := hm10.cells
    simp only [Value.slice.injEq] at hzv
    obtain ⟨rfl, -, rfl⟩ := hzv
    rw [← HN2.out] at hzl2 hzn
    have Hz2 : Hid _ := hz2'
    have hw10 := hw9.trans (hbel10.mono hw9.size)
    have hk10 : ∀ k, v10.ownBlock = some k → w9.heap.size ≤ k := fun k hk => (hown10.lt k hk).1
    clear hz2' hm10 hy2 hown0 hown10 hgr10 hbel0 hxc hx1 hxn
    go_wp2_with (first
      | (at_builtin; refine wpList_app (by rfl) (.tmp 75) (.tmp 76) 36 rfl w.heap.size 22 i0 (.slice none 0 0) 24 Tryd.underlying36 hi hz0 hz1 hz2 rfl v10 N1 ys rfl hy0 am N2 cp zs rfl hzl2 hzn hzc hz1' (by unfold maxLen; omega) (by omega) hw10.size ?_))
    rintro v11 w11 hown11 hgr11
    have hC11 : Cmds w11 w.heap.size v11 (L1 ++ M) :=
      Cmds.more (w := w10) (v := v10) (xs := ys) (ys := zs) (by rw [← HN1.out]; exact hy0) Hy2.out Hz2.out (by rw [← HN1.out, ← HN2.out]; exact hown11) hgr11
    have hw11 := hw10.grown hgr11 hw10.size (fun k hk => (hy0.lt k hk).1)
    have hbe : Below w9.heap.size w9 w11 := hbel10.grown hgr11 hbel10.size (fun k hk => hk10 k hk)
    have hA11 := Cmds.below Hca.out hbe
    obtain ⟨aa, ca, rfl, -, -, hsA⟩ := hA11.css
    obtain ⟨ar, cr, rfl, -, -, hsR⟩ := hC11.css
    have hsm : ∀ S ∈ L1 ++ M, S.length ≤ 1048576 := fun S hS => by
      rcases List.mem_append.1 hS with h | h
      · exact HS1.out S h
      · exact HM.out.2.2.2 S h
    have hln : (L1 ++ M).length ≤ 1048576 := by rw [List.length_append, ← HN1.out, ← HN2.out]; omega
    have CS := same_any ar cr (L1 ++ M) aa ca (L1 ++ M) w11 hsR hsA hln hln hsm hsm
    rw [decide_eq_true rfl] at CS
    obtain ⟨N3, hN3e⟩ : ∃ N3, N3 = (L1 ++ M).length := ⟨_, rfl⟩
    rw [← hN3e] at CS ⊢
    have CS : Hid _ := CS
    clear hy0 hown11 hgr11 hsm hln hsR hsA hA11 hC11 hbe hk10 hN3e hzn hzc hz1' Hx2 Hy2 Hz2 hbel10
    go_wp2_with fail
    refine Calls.mono CS.out ?_
    rintro e w12 ⟨rfl, hb12⟩
    go_wp2
    go_ret
    exact ⟨rfl, hw11.trans (hb12.mono hw11.size)⟩
  · have hx : ((F : Int) == 0) = false := by rw [beq_eq_false_iff_ne]; omega
    have hN0 : N2 = 0 := by rw [HN2.out, HM.out.2.1 hF0]; rfl
    have hFF : F2 = F := HF2.out.2 hF0
    subst hN0
    subst hFF
    clear hF0
    go_wp2
    go_ret
    exact ⟨rfl, hw9⟩
end Go.Proofs.YtkhfplpplmnjiaaDoor
