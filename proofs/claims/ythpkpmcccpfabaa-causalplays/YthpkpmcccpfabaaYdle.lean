/-
  What slices.DeleteFunc comes to over Drop's function (28 cells an item).
-/
import Derived.Test.YthpkpmcccpfabaaYdee
namespace Go.Proofs.Ythpkpmcccpfabaa.E
set_option maxRecDepth 100000
open Go.RowKit Go.Sort

theorem slice_tl (w : World) {g n cap i : Nat} (hi : i < n) (hn : n ≤ cap) : (Instr.sliceAt 60 (.slice (some ⟨g, 0, none⟩) n cap) (some (.int .i64 (i : Int))) none none).run Try.prog w = .ok (.slice (some ⟨g, i * 28, none⟩) (n - i) (cap - i)) w := by
  have h0 : (0 : Int) ≤ (i : Int) := by omega
  have h1 : (i : Int) ≤ (n : Int) := by omega
  have h2 : (i : Int) ≤ (cap : Int) := by omega
  have h3 : ¬ cap = i := by omega
  go_simp
theorem Rw.stays {p : It (Cx 26) → Bool} {Bv Bw : Nat} {S : List (It (Cx 26))} {base : Nat} {J : Nat → World → Prop} (hp : PredJ p Bv Bw S base J) {j : Nat} {W : World} (o : Obj) (h : J j W) : J j (W.alloc o) :=
  hp.stays j W _ none h (World.grownBy_alloc W _ none) (fun g e => by cases e)
set_option maxHeartbeats 2000000 in
theorem deletefunc_any (p : It (Cx 26) → Bool) (Bv Bw : Nat) (S : List (It (Cx 26))) (base : Nat) (J : Nat → World → Prop) (hp : PredJ p Bv Bw S base J) (v : Value) (w : World) (hrow : Rw 74 w base v S) (h0 : J 0 w) :
    Calls Try.prog 40 #[v, .func (.func 41) #[] #[.pointer (some ⟨Bv, 0, none⟩), .pointer (some ⟨Bw, 0, none⟩)]] w fun e w' => ∃ v', e = .returned v' ∧ Rw 74 w' base v' (S.filter fun i => !p i) ∧ J S.length w' := by
  have hI := indexfunc_any p Bv Bw S base J hp v w hrow h0
  cases hf : S.findIdx? p with
  | none =>
    rw [idx_none hf]
    have e1 : idxI p S = -1 := by unfold idxI; rw [hf]
    have e2 : asked p S = S.length := by unfold asked; rw [hf]
    rw [e1, e2] at hI
    obtain ⟨ao, cap, hv, -, -⟩ := hrow.val
    subst hv
    clear hf e1 e2 hrow h0
    go_enter Try.func40, Try.ntmps40
    go_wp2_with fail
    refine Calls.mono hI ?_
    rintro e w1 ⟨rfl, hJ, hr⟩
    have HR : Hid (Rw 74 w1 base (.slice ao S.length cap) S) := hr
    clear hr
    go_wp2
    go_ret
    exact ⟨_, rfl, HR.out, hJ⟩
  | some k =>
    obtain ⟨hk, hfk⟩ := idx_some hf
    have e1 : idxI p S = (k : Int) := by unfold idxI; rw [hf]
    have e2 : asked p S = k + 1 := by unfold asked; rw [hf]
    rw [e1, e2] at hI
    obtain ⟨g, cap, i0, hv, hnc, -, hbg, hgl, -⟩ := hrow.atx hk
    subst hv
    have hcm' : S.length ≤ 9223372036854775807 := by obtain ⟨_, cap', -, h2, h3⟩ := hrow.val; unfold maxLen at h3; omega
    have hcc : cap ≤ 9223372036854775807 := by
      rcases hrow.2 with ⟨hv, -⟩ | ⟨g', cap', cur, hv, -, -, -, hc, -⟩
      · cases hv
      · simp only [Value.slice.injEq] at hv; unfold maxLen at hc; omega
    have HF : Hid _ := hfk
    clear hf e1 e2 hfk h0
    obtain ⟨n, hn⟩ : ∃ n, S.length = n := ⟨_, rfl⟩
    rw [hn] at hnc hcm' hk hrow hI ⊢
    have hk1 : ((k : Int) == -1) = false := by simp
    go_enter Try.func40, Try.ntmps40
    go_wp2_with fail
    refine Calls.mono hI ?_
    rintro e w1 ⟨rfl, hJ1, hr1⟩
    have HR1 : Hid (Rw 74 w1 base (.slice (some ⟨g, 0, none⟩) n cap) S) := hr1
    clear hI hrow hr1
    go_wp2
    go_loopw [5, 6] (fun ci cj wr => ∃ (a j : Nat) (R : List (It (Cx 26))), a < j ∧ j ≤ n ∧ ci = .int .i64 (a : Int) ∧ cj = .int .i64 (j : Int) ∧ R.length = n ∧ R.take a = (S.take j).filter (fun i => !p i) ∧ R.drop j = S.drop j ∧ Rw 74 wr base (.slice (some ⟨g, 0, none⟩) n cap) R ∧ J j wr) (fun _ cj _ => n - (intOf cj).toNat)
    case atStart => exact ⟨k, k + 1, S, by omega, by omega, rfl, by go_num, hn, HF.out.symm, rfl, HR1.out, hJ1⟩
    case round =>
      clear HR1 hJ1
      obtain ⟨a, j, R, haj, hjn, rfl, rfl, hRn, hta, hdr, hr, hJ⟩ := hrel
      by_cases hlt : j < n
      · have hlt' : (j : Int) < (n : Int) := by omega
        obtain ⟨g', cap', i, hv', -, hi, -, -, hrg, -⟩ := hr.atx (k := j) (by omega)
        simp only [Value.slice.injEq, Option.some.injEq, Addr.mk.injEq, and_true] at hv'
        obtain ⟨rfl, -, rfl⟩ := hv'
        have hSi : S[j]? = some i := by
          have h1 : (R.drop j)[0]? = (S.drop j)[0]? := by rw [hdr]
          rw [List.getElem?_drop, List.getElem?_drop, Nat.add_zero, hi] at h1
          exact h1.symm
        have hld := ld_mid hrg
        have hld1 : (loadVar 74 ⟨g, j * 28, none⟩).run Try.prog wr = .ok (.agg (xc i)) wr := hld
        have hst := st_new wr i
        have hldn := ld_new wr i
        have hx := heap_alloc_new wr (.cells (xc i) 74)
        have hJ1 := Rw.stays hp (.cells (xc i) 74) hJ
        have hr1 : Rw 74 (wr.alloc (.cells (xc i) 74)) base (.slice (some ⟨g, 0, none⟩) n cap) R := hr.alloc _
        generalize wr.alloc (.cells (xc i) 74) = W1 at *
        have hc := hp.asks j i W1 hSi hJ1
        have HR1 : Hid (Rw 74 W1 base (.slice (some ⟨g, 0, none⟩) n cap) R) := hr1
        have HP : Hid _ := hp
        clear hr hr1 hJ hJ1 hrg hld hp
        rcases Bool.eq_false_or_eq_true (p i) with hpi | hpi
        · rw [hpi] at hc
          have ht : R.take a = (S.take (j + 1)).filter (fun i => !p i) := by
            rw [hta, List.take_add_one, hSi, List.filter_append]
            simp [hpi]
          have hd : R.drop (j + 1) = S.drop (j + 1) := by rw [← List.drop_drop, ← List.drop_drop, hdr]
          have HT : Hid _ := ht
          have HD : Hid _ := hd
          clear hta hdr ht hd
          go_wp2_with (first
            | (refine wpList_loadR (ty := 74) (x := .tmp 24) (ad := ⟨g, j * 28, none⟩) (v := .agg (xc i)) rfl rfl rfl hld1 ?_)
            | (refine wpList_storeR (ty := 74) (x := .tmp 7) (y := .tmp 25) (ad := ⟨wr.heap.size, 0, none⟩) (v := .agg (xc i)) (w' := W1) rfl rfl rfl rfl hst ?_)
            | (refine wpList_loadR (ty := 74) (x := .tmp 7) (ad := ⟨wr.heap.size, 0, none⟩) (v := .agg (xc i)) rfl rfl rfl hldn ?_))
          refine Calls.mono hc ?_
          rintro e w2 ⟨rfl, hJ2, hk2⟩
          have hr2 : Hid (Rw 74 w2 base (.slice (some ⟨g, 0, none⟩) n cap) R) := Rw.kpt HR1.out hk2
          clear hx hld1 hst hldn hc hk2
          go_wp2
          go_roundw
          case rel => exact ⟨a, j + 1, R, by omega, by omega, rfl, by go_num, hRn, HT.out, HD.out, hr2.out, hJ2⟩
          case measure => simp [intOf]; omega
        · rw [hpi] at hc
          have ht : (R.set a i).take (a + 1) = (S.take (j + 1)).filter (fun i => !p i) := by
            have hal : a < (R.set a i).length := by rw [List.length_set]; omega
            rw [List.take_succ_eq_append_getElem hal, List.getElem_set_self, List.take_set_of_le (Nat.le_refl _), hta, List.take_add_one, hSi, List.filter_append]
            simp [hpi]
          have hd : (R.set a i).drop (j + 1) = S.drop (j + 1) := by
            rw [List.drop_set_of_lt (by omega), ← List.drop_drop, ← List.drop_drop, hdr]
          have HT : Hid _ := ht
          have HD : Hid _ := hd
          clear hta hdr ht hd
          go_wp2_with (first
            | (refine wpList_loadR (ty := 74) (x := .tmp 24) (ad := ⟨g, j * 28, none⟩) (v := .agg (xc i)) rfl rfl rfl hld1 ?_)
            | (refine wpList_storeR (ty := 74) (x := .tmp 7) (y := .tmp 25) (ad := ⟨wr.heap.size, 0, none⟩) (v := .agg (xc i)) (w' := W1) rfl rfl rfl rfl hst ?_)
            | (refine wpList_loadR (ty := 74) (x := .tmp 7) (ad := ⟨wr.heap.size, 0, none⟩) (v := .agg (xc i)) rfl rfl rfl hldn ?_))
          refine Calls.mono hc ?_
          rintro e w2 ⟨rfl, hJ2, hk2⟩
          have hx2 := (hk2.2 _ _ hx).trans hx
          have hld2 := ld_at hx2
          have hr2 : Rw 74 w2 base (.slice (some ⟨g, 0, none⟩) n cap) R := Rw.kpt HR1.out hk2
          obtain ⟨g', cap', ia, hv', -, -, hbg2, -, -, cur, hcur⟩ := hr2.atx (k := a) (by omega)
          simp only [Value.slice.injEq, Option.some.injEq, Addr.mk.injEq, and_true] at hv'
          obtain ⟨rfl, -, rfl⟩ := hv'
          obtain ⟨hcl, hr3⟩ := hr2.setx hcur (a := a) (by omega) i
          have hst2 := st_mid i hcur hcl
          have hJ3 := HP.out.stays (j + 1) w2 _ (some g) hJ2 (grown_row w2 g (cur.toList.take (a * 28) ++ xl i ++ cur.toList.drop (a * 28 + (xl i).length)).toArray) (fun g' e => by cases e; exact ⟨hbg2, cur, hcur⟩)
          generalize w2.setRow g (cur.toList.take (a * 28) ++ xl i ++ cur.toList.drop (a * 28 + (xl i).length)).toArray = W3 at *
          have H3 : Hid (Rw 74 W3 base (.slice (some ⟨g, 0, none⟩) n cap) (R.set a i)) := hr3
          have J3 : Hid (J (j + 1) W3) := hJ3
          have han : (a : Int) < (n : Int) := by omega
          clear hx hld1 hst hldn hc hk2 hr2 hr3 hcl hcur hx2 hJ2 hJ3
          go_wp2_with (first
            | (refine wpList_loadR (ty := 74) (x := .tmp 7) (ad := ⟨wr.heap.size, 0, none⟩) (v := .agg (xc i)) rfl rfl rfl hld2 ?_)
            | (refine wpList_storeR (ty := 74) (x := .tmp 33) (y := .tmp 32) (ad := ⟨g, a * 28, none⟩) (v := .agg (xc i)) (w' := W3) rfl rfl rfl rfl hst2 ?_))
          go_roundw
          case rel => exact ⟨a + 1, j + 1, R.set a i, by omega, by omega, by go_num, by go_num, by rw [List.length_set]; exact hRn, HT.out, HD.out, H3.out, J3.out⟩
          case measure => simp [intOf]; omega
      · have hlt' : ¬ (j : Int) < (n : Int) := by omega
        have hjn' : j = n := by omega
        have hfin : S.take j = S := List.take_of_length_le (by omega)
        rw [hfin] at hta
        obtain ⟨w3, hcl, hr3, hg3⟩ := hr.clear (a := a) (by omega)
        rw [hta] at hr3
        obtain ⟨g', cap', ia, hv', -, -, hbg2, -, -, cur, hcur⟩ := hr.atx (k := a) (by omega)
        simp only [Value.slice.injEq, Option.some.injEq, Addr.mk.injEq, and_true] at hv'
        obtain ⟨rfl, -, rfl⟩ := hv'
        have hJ3 := hp.stays j wr w3 (some g) hJ hg3 (fun g' e => by cases e; exact ⟨hbg2, cur, hcur⟩)
        have R3 : Hid (Rw 74 w3 base (.slice (some ⟨g, 0, none⟩) a cap) (S.filter fun i => !p i)) := hr3
        have J3 : Hid (J n w3) := hjn' ▸ hJ3
        have ha0 : (0 : Int) ≤ (a : Int) := by omega
        have han : (a : Int) ≤ (n : Int) := by omega
        have hac : (a : Int) ≤ (cap : Int) := by omega
        clear hta hdr hp hr hr3 hg3 hfin hJ hJ3 hcur hjn'
        go_wp2
        go_ret
        exact ⟨_, rfl, R3.out, J3.out⟩
end Go.Proofs.Ythpkpmcccpfabaa.E
