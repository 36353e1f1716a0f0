/-
  What the reference's under comes to, and its Order.
-/
import Derived.Test.YtagjgamigldjnaaKrf
namespace Go.Proofs.Ytagjgamigldjnaa
set_option maxRecDepth 100000
open Go.RowKit

theorem neq_ib (W : World) (m n : Int) {t : Bool} (h : decide (m ≠ n) = t) : (binOp .neq 3 (.int .i64 m) (.int .i64 n)).run Try.prog W = .ok (.bool t) W := by
  subst h
  by_cases h : m = n
  · simp [go_sem, h]
  · simp [go_sem, h]
theorem insI_len (N : List Ev) (x : Nat) : ∀ K : List Nat, (insI N x K).length = K.length + 1
  | [] => rfl
  | y :: K => by
    unfold insI
    split
    · rfl
    · rw [List.length_cons, insI_len N x K, List.length_cons]
theorem kidsTo_len (N : List Ev) (p : Option Nat) : ∀ m, (kidsTo N p m).length ≤ m
  | 0 => Nat.le_refl _
  | m + 1 => by
    have := kidsTo_len N p m
    unfold kidsTo
    split
    · rw [insI_len]; omega
    · omega
theorem KidsTo.len {N : List Ev} {p : Option Nat} {m : Nat} {K : List Nat} (h : KidsTo N p m K) : K.length ≤ m := by
  rw [h.one (kidsTo_is N p m)]
  exact kidsTo_len N p m
set_option maxHeartbeats 8000000 in
theorem under_step (N : List Ev) (ao : Option Addr) (m c : Nat) (hm : m ≤ 1000) (n : Nat) (p : Option Nat) (w : World) (hE : Evs w ao m c N) (hbn : (treeI N (n + 1) p).length ≤ 100000)
    (ih : ∀ i, i ∈ kidsI N p → ∀ W, Evs W ao m c N → (treeI N n (some i)).length ≤ 100000 → Calls Try.prog 23 #[.slice ao m c, .int .i64 (i : Int)] W fun e w' => ∃ v, e = .returned v ∧ Row w' W.heap.size v ((treeI N n (some i)).map (atN N)) ∧ Below W.heap.size W w') :
    Calls Try.prog 23 #[.slice ao m c, .int .i64 (pz p)] w fun e w' => ∃ v, e = .returned v ∧ Row w' w.heap.size v ((treeI N (n + 1) p).map (atN N)) ∧ Below w.heap.size w w' := by
  have hlen := hE.len
  have HE : Aside (Evs w ao m c N) := hE
  have IH : Hid (∀ i, i ∈ kidsI N p → ∀ W, Evs W ao m c N → (treeI N n (some i)).length ≤ 100000 → Calls Try.prog 23 #[.slice ao m c, .int .i64 (i : Int)] W fun e w' => ∃ v, e = .returned v ∧ Row w' W.heap.size v ((treeI N n (some i)).map (atN N)) ∧ Below W.heap.size W w') := ih
  have HBN : Hid ((treeI N (n + 1) p).length ≤ 100000) := hbn
  clear hE ih hbn
  go_enter Try.func23, Try.ntmps23
  go_wp2
  go_loopg [5, 13] m (fun kx s5 s13 wr => ∃ (i : Nat) (K : List Nat), s13 = .int .i64 i ∧ i ≤ m ∧ m - i ≤ kx ∧ Aside (IRow wr w.heap.size s5 K ∧ KidsTo N p i K ∧ Below w.heap.size w wr))
  case atStart => exact ⟨0, [], rfl, Nat.zero_le _, by omega, irow_nil _ _, KidsTo.none N p, Below.refl _ _⟩
  case round =>
    obtain ⟨i, K, rfl, him', hkx, HS⟩ := hrel
    by_cases him : i < m
    · have hltz : (i : Int) < (m : Int) := by omega
      have HC : Hid _ := rparent_any ao m c N i him wr (HE.out.below HS.out.2.2 (Nat.le_refl _)) hm
      go_wp2_with fail
      refine Calls.mono HC.out ?_
      rintro e w1 ⟨rfl, hb1⟩
      have HS1 : Aside (IRow w1 w.heap.size u5 K ∧ KidsTo N p i K ∧ Below w.heap.size w w1) := ⟨HS.out.1.below hb1 (Nat.le_refl _), HS.out.2.1, HS.out.2.2.trans (hb1.mono HS.out.2.2.size)⟩
      clear hb1 HS HC
      by_cases hp : parI N (atN N i) = p
      · have hne : Hid (decide (pz (parI N (atN N i)) ≠ pz p) = false) := decide_eq_false (by rw [hp]; simp)
        obtain ⟨a2, c2, hv5, hIV⟩ := HS1.out.1.iv
        have hKl := HS1.out.2.1.len
        obtain ⟨kl, hkl⟩ : ∃ kl, K.length = kl := ⟨_, rfl⟩
        rw [hkl] at hIV hv5 hKl
        subst hv5
        obtain ⟨b, off, u, rfl, hui, hu, hru0, hbu0⟩ := (HE.out.below HS1.out.2.2 (Nat.le_refl _)).at him
        have hu16 := hu.1
        have hat : Hid (atN N i = u) := atN_get hui
        have HIV : Aside (IV w1 a2 kl c2 K) := hIV
        have HKL : Hid (K.length = kl) := hkl
        have hnl := fun W : World => neq_ib W _ _ hne.out
        clear hIV hkl hui
        go_wp2_with (first | refine wpl_exK rfl (exec_bin rfl rfl rfl (eqGuard_ik _) (hnl _)) ?_)
        have H0 : Aside (Below w1.heap.size w1 w1 ∧ ∀ j ∈ K.drop kl, laterE u (atN N j) = true) := ⟨Below.refl _ _, fun j hj => by rw [List.drop_of_length_le (by rw [HKL.out]; exact Nat.le_refl _)] at hj; cases hj⟩
        go_loopg [7] kl (fun kx s7 wr2 => ∃ q : Nat, s7 = .int .i64 q ∧ q ≤ kl ∧ q ≤ kx ∧ Aside (Below w1.heap.size w1 wr2 ∧ ∀ j ∈ K.drop q, laterE u (atN N j) = true))
        case atStart => exact ⟨kl, rfl, Nat.le_refl _, Nat.le_refl _, H0⟩
        case round =>
          clear H0
          obtain ⟨q, rfl, hqk, hkx2, HT⟩ := hrel
          rcases (show q = 0 ∨ ∃ z, q = z + 1 from by cases q with | zero => exact .inl rfl | succ z => exact .inr ⟨z, rfl⟩) with hqz | ⟨z, hqz⟩
          · have hq9 : q ≤ 0 := by omega
            have HQZ : Hid (q = 0) := hqz
            clear hqz
            go_upto_region 7 with (fail)
            refine region_vals [23, 24, 25, 26, 27, 28, 29, 30, 31, 32, 33, 34, 35, 36, 37, 38, 39] [.int .i64 (q : Int), .bool false, .bool false, undef, undef, undef, undef, undef, undef, undef, undef, undef, undef, undef, undef, undef, .bool false] _ (by kernel_rfl) (by kernel_rfl) (by rfl) (by decide) (by kernel_rfl) (by simp only [lay, Act.put, List.setIfInBounds_toArray, List.set_cons_zero, List.set_cons_succ, List.getD_cons_zero, List.getD_cons_succ, Nat.reduceAdd]; rfl) ⟨?_, ?_, ?_, ?_, ?_, ?_, ?_, ?_, ?_, ?_, ?_, ?_, ?_, ?_, ?_, ?_, ?_, trivial⟩ ?_
            · exact .inl ⟨rfl, fun W hb => yields_move rfl rfl⟩
            · exact .inl ⟨rfl, fun W hb => yields_bin rfl rfl rfl (eqGuard_ik W) (gtr_bK W _ _ (decide_eq_false (by omega)))⟩
            · exact .inl ⟨rfl, fun W hb => yields_move rfl rfl⟩
            · exact .inr ⟨rfl, rfl⟩
            · exact .inr ⟨rfl, rfl⟩
            · exact .inr ⟨rfl, rfl⟩
            · exact .inr ⟨rfl, rfl⟩
            · exact .inr ⟨rfl, rfl⟩
            · exact .inr ⟨rfl, rfl⟩
            · exact .inr ⟨rfl, rfl⟩
            · exact .inr ⟨rfl, rfl⟩
            · exact .inr ⟨rfl, rfl⟩
            · exact .inr ⟨rfl, rfl⟩
            · exact .inr ⟨rfl, rfl⟩
            · exact .inr ⟨rfl, rfl⟩
            · exact .inr ⟨rfl, rfl⟩
            · exact .inl ⟨rfl, fun W hb => yields_pick rfl rfl rfl⟩
            intro W2 hb2
            have HLow : Hid (∀ j ∈ K.take q, laterE u (atN N j) = false) := fun j hj => by rw [HQZ.out, List.take_zero] at hj; cases hj
            have HBW : Hid (Below w1.heap.size w1 W2) := HT.out.1.trans (hb2.mono HT.out.1.size)
            clear hb2 hnl hne
            have hIV2 := HIV.out.below HBW.out (Nat.le_refl _)
            have hTk := hIV2.take (show q ≤ kl by omega)
            have hDr := hIV2.drop (show q ≤ kl by omega)
            have hkc := hIV2.room
            have hs1 := fun X : World => sliceI_to X (ao := a2) (m := kl) (c := c2) (k := q) (by omega)
            have hs2 := fun X : World => sliceI_from X (ao := a2) (m := kl) (c := c2) (k := q) (by omega)
            have hPut : Hid (KidsTo N p (i + 1) (K.take q ++ i :: K.drop q)) := HS1.out.2.1.put hp (by rw [hat.out]; exact HLow.out) (by rw [hat.out]; exact HT.out.2)
            have HBW2 : Hid (Below w.heap.size w W2) := HS1.out.2.2.trans (HBW.out.mono HS1.out.2.2.size)
            clear hIV2 HT HLow HBW
            go_wp2_with (first | refine wpl_exK rfl (exec_slice rfl rfl rfl (hs1 _)) ?_ | refine wpList_appIs rfl _ _ rfl W2.heap.size _ [] rfl (irow_nil _ _) _ _ _ (K.take q) rfl hTk (by simp; omega) (Nat.le_refl _) ?_)
            intro v1 x1 hR1 hg1
            have hB1 : Below W2.heap.size W2 x1 := (Below.refl _ _).grown hg1 (Nat.le_refl _) (fun k hk => by cases hk)
            have hR1' : IRow (x1.alloc (.cells #[.int .i64 (i : Int)] 3)) W2.heap.size v1 (K.take q) := hR1.below ((Below.refl _ _).alloc (Nat.le_refl _) _) (Nat.le_refl _)
            have hBa : Below W2.heap.size W2 (x1.alloc (.cells #[.int .i64 (i : Int)] 3)) := hB1.alloc hB1.size _
            have h1l : Hid ((K.take q).length ≤ 1000) := by show _ ≤ _; rw [List.length_take]; omega
            clear hg1 hR1 hB1
            go_wp2_with (first | refine build_I1 rfl rfl rfl ?_ | refine wpList_appIs rfl _ _ rfl W2.heap.size _ (K.take q) rfl hR1' _ 1 1 [i] rfl (iv_one x1 i) (by have := h1l.out; omega) hBa.size ?_)
            intro v2 x2 hR2 hg2
            have hB2 : Below W2.heap.size W2 x2 := hBa.grown hg2 hBa.size hR1'.own
            have h2l : Hid ((K.take q ++ [i]).length ≤ 1001) := by show _ ≤ _; rw [List.length_append]; simp only [List.length_singleton]; have := h1l.out; omega
            have hDr2 := hDr.below hB2 (Nat.le_refl _)
            clear hg2 hR1' hBa
            go_wp2_with (first | refine wpl_exK rfl (exec_slicef rfl rfl rfl (hs2 _)) ?_ | refine wpList_appIs rfl _ _ rfl W2.heap.size _ (K.take q ++ [i]) rfl hR2 _ _ _ (K.drop q) rfl hDr2 (by have := h2l.out; omega) hB2.size ?_)
            intro v3 x3 hR3 hg3
            have HS4 : Aside (IRow x3 w.heap.size v3 (K.take q ++ i :: K.drop q) ∧ KidsTo N p (i + 1) (K.take q ++ i :: K.drop q) ∧ Below w.heap.size w x3) := by
              refine ⟨?_, hPut.out, HBW2.out.trans ((hB2.grown hg3 hB2.size hR2.own).mono HBW2.out.size)⟩
              have h9 := hR3.lower HBW2.out.size
              exact h9
            clear hR3 hg3 hR2 hB2 hDr2 hDr hTk hs1 hs2 hPut HBW2
            go_wp2
            go_roundg (m - (i + 1))
            case measure => omega
            case rel => exact ⟨i + 1, _, by go_num, by omega, Nat.le_refl _, HS4⟩
          · have hzk : z < kl := by omega
            have hq0 : Hid (decide ((0 : Int) < (q : Int)) = true) := decide_eq_true (by omega)
            have hsub : Hid (∀ W : World, (binOp .sub 3 (.int .i64 (q : Int)) (.int .i64 1)).run Try.prog W = .ok (.int .i64 (z : Int)) W) := by show ∀ W : World, _; intro W; rw [hqz]; exact sub_oneK W z (by omega)
            have HQZ : Hid (q = z + 1) := hqz
            have hqz1 : q ≤ z + 1 := by omega
            have hqz2 : z + 1 ≤ q := by omega
            clear hqz
            obtain ⟨b2, off2, j, rfl, hjz, hcl0, -⟩ := HIV.out.at hzk
            have hjm : j < m := by have := ((HS1.out.2.1.mem j).1 (List.mem_of_getElem? hjz)).1; omega
            have hcl := (HT.out.1.cell (block_lt_of_cell hcl0)).trans hcl0
            have hEw := ((HE.out.below HS1.out.2.2 (Nat.le_refl _)).below HT.out.1 (Nat.le_refl _))
            obtain ⟨b', off', x, hao, hxj, hx, hrx, hbx⟩ := hEw.at hjm
            obtain ⟨rfl, rfl⟩ : b = b' ∧ off = off' := by simpa using hao
            have hx16 := hx.1
            have hru := range_below hru0 HT.out.1 hbu0
            have hbu : b < wr.heap.size := hbx
            have hatx : Hid (atN N j = x) := atN_get hxj
            have HJZ : Hid (K[z]? = some j) := hjz
            clear hao hxj hEw hcl0 hjz
            go_upto_region 7 with (fail)
            refine region_vals [23, 24, 25, 26, 27, 28, 29, 30, 31, 32, 33, 34, 35, 36, 37, 38, 39] [.int .i64 (q : Int), .bool true, .bool true, .slice (some ⟨b, off, none⟩) m c, .int .i64 (i : Int), .pointer (some ⟨b, off + i * 26, none⟩), .agg (evc u), .slice (some ⟨b, off, none⟩) m c, .slice (some ⟨b2, off2, none⟩) kl c2, .int .i64 (q : Int), .int .i64 (z : Int), .pointer (some ⟨b2, off2 + z, none⟩), .int .i64 (j : Int), .pointer (some ⟨b, off + j * 26, none⟩), .agg (evc x), .bool (laterE u x), .bool (laterE u x)] _ (by kernel_rfl) (by kernel_rfl) (by rfl) (by decide) (by kernel_rfl) (by simp only [lay, Act.put, List.setIfInBounds_toArray, List.set_cons_zero, List.set_cons_succ, List.getD_cons_zero, List.getD_cons_succ, Nat.reduceAdd]; rfl) ⟨?_, ?_, ?_, ?_, ?_, ?_, ?_, ?_, ?_, ?_, ?_, ?_, ?_, ?_, ?_, ?_, ?_, trivial⟩ ?_
            · exact .inl ⟨rfl, fun W hb => yields_move rfl rfl⟩
            · exact .inl ⟨rfl, fun W hb => yields_bin rfl rfl rfl (eqGuard_ik W) (gtr_bK W _ _ hq0.out)⟩
            · exact .inl ⟨rfl, fun W hb => yields_move rfl rfl⟩
            · exact .inl ⟨rfl, fun W hb => yields_move rfl rfl⟩
            · exact .inl ⟨rfl, fun W hb => yields_move rfl rfl⟩
            · exact .inl ⟨rfl, fun W hb => yields_indexAddr rfl rfl rfl (index_ev W him)⟩
            · exact .inl ⟨rfl, fun W hb => yields_load rfl rfl (load_part (range_below hru hb hbu) hu16)⟩
            · exact .inl ⟨rfl, fun W hb => yields_move rfl rfl⟩
            · exact .inl ⟨rfl, fun W hb => yields_move rfl rfl⟩
            · exact .inl ⟨rfl, fun W hb => yields_move rfl rfl⟩
            · exact .inl ⟨rfl, fun W hb => yields_bin rfl rfl rfl (eqGuard_ik W) (hsub.out W)⟩
            · exact .inl ⟨rfl, fun W hb => yields_indexAddr rfl rfl rfl (index_i W hzk)⟩
            · exact .inl ⟨rfl, fun W hb => yields_load rfl rfl (load_i ((hb.cell (block_lt_of_cell hcl)).trans hcl))⟩
            · exact .inl ⟨rfl, fun W hb => yields_indexAddr rfl rfl rfl (index_ev W hjm)⟩
            · exact .inl ⟨rfl, fun W hb => yields_load rfl rfl (load_part (range_below hrx hb hbx) hx16)⟩
            · exact .inl ⟨rfl, fun W hb => yields_call (xs := [.tmp 29, .tmp 37]) (vs := [.agg (evc u), .agg (evc x)]) rfl rfl (enters_rlater _ _) (rlater_any u x W)⟩
            · exact .inl ⟨rfl, fun W hb => yields_pick rfl rfl rfl⟩
            intro W2 hb2
            have HBW : Hid (Below w1.heap.size w1 W2) := HT.out.1.trans (hb2.mono HT.out.1.size)
            clear hb2 hrx hru hcl
            rcases Bool.eq_false_or_eq_true (laterE u x) with hl | hl
            · rw [hl]
              have HT2 : Aside (Below w1.heap.size w1 W2 ∧ ∀ j ∈ K.drop z, laterE u (atN N j) = true) := ⟨HBW.out, fun j' hj' => by
                rw [List.drop_eq_getElem_cons (by rw [HKL.out]; exact hzk)] at hj'
                rcases List.mem_cons.1 hj' with e | e
                · have : K[z]'(by rw [HKL.out]; exact hzk) = j := (List.getElem?_eq_some_iff.1 HJZ.out).2
                  rw [e, this, hatx.out]
                  exact hl
                · exact HT.out.2 j' (by rw [HQZ.out]; exact e)⟩
              clear HT HBW hl HJZ hatx
              go_wp2_with (first | refine wpl_exK rfl (exec_bin rfl rfl rfl (eqGuard_ik _) (hsub.out _)) ?_)
              go_roundg z
              case measure => omega
              case rel => exact ⟨z, rfl, by omega, Nat.le_refl _, HT2⟩
            · rw [hl]
              have HLow : Hid (∀ j ∈ K.take q, laterE u (atN N j) = false) := by
                show ∀ j ∈ K.take q, _
                rw [HQZ.out]
                exact kids_falls HS1.out.2.1.ord HJZ.out (by rw [hatx.out]; exact hl)
              clear hl HJZ hatx hnl hne
              have hIV2 := HIV.out.below HBW.out (Nat.le_refl _)
              have hTk := hIV2.take (show q ≤ kl by omega)
              have hDr := hIV2.drop (show q ≤ kl by omega)
              have hkc := hIV2.room
              have hs1 := fun X : World => sliceI_to X (ao := some ⟨b2, off2, none⟩) (m := kl) (c := c2) (k := q) (by omega)
              have hs2 := fun X : World => sliceI_from X (ao := some ⟨b2, off2, none⟩) (m := kl) (c := c2) (k := q) (by omega)
              have hPut : Hid (KidsTo N p (i + 1) (K.take q ++ i :: K.drop q)) := HS1.out.2.1.put hp (by rw [hat.out]; exact HLow.out) (by rw [hat.out]; exact HT.out.2)
              have HBW2 : Hid (Below w.heap.size w W2) := HS1.out.2.2.trans (HBW.out.mono HS1.out.2.2.size)
              clear hIV2 HT HLow HBW
              go_wp2_with (first | refine wpl_exK rfl (exec_slice rfl rfl rfl (hs1 _)) ?_ | refine wpList_appIs rfl _ _ rfl W2.heap.size _ [] rfl (irow_nil _ _) _ _ _ (K.take q) rfl hTk (by simp; omega) (Nat.le_refl _) ?_)
              intro v1 x1 hR1 hg1
              have hB1 : Below W2.heap.size W2 x1 := (Below.refl _ _).grown hg1 (Nat.le_refl _) (fun k hk => by cases hk)
              have hR1' : IRow (x1.alloc (.cells #[.int .i64 (i : Int)] 3)) W2.heap.size v1 (K.take q) := hR1.below ((Below.refl _ _).alloc (Nat.le_refl _) _) (Nat.le_refl _)
              have hBa : Below W2.heap.size W2 (x1.alloc (.cells #[.int .i64 (i : Int)] 3)) := hB1.alloc hB1.size _
              have h1l : Hid ((K.take q).length ≤ 1000) := by show _ ≤ _; rw [List.length_take]; omega
              clear hg1 hR1 hB1
              go_wp2_with (first | refine build_I1 rfl rfl rfl ?_ | refine wpList_appIs rfl _ _ rfl W2.heap.size _ (K.take q) rfl hR1' _ 1 1 [i] rfl (iv_one x1 i) (by have := h1l.out; omega) hBa.size ?_)
              intro v2 x2 hR2 hg2
              have hB2 : Below W2.heap.size W2 x2 := hBa.grown hg2 hBa.size hR1'.own
              have h2l : Hid ((K.take q ++ [i]).length ≤ 1001) := by show _ ≤ _; rw [List.length_append]; simp only [List.length_singleton]; have := h1l.out; omega
              have hDr2 := hDr.below hB2 (Nat.le_refl _)
              clear hg2 hR1' hBa
              go_wp2_with (first | refine wpl_exK rfl (exec_slicef rfl rfl rfl (hs2 _)) ?_ | refine wpList_appIs rfl _ _ rfl W2.heap.size _ (K.take q ++ [i]) rfl hR2 _ _ _ (K.drop q) rfl hDr2 (by have := h2l.out; omega) hB2.size ?_)
              intro v3 x3 hR3 hg3
              have HS4 : Aside (IRow x3 w.heap.size v3 (K.take q ++ i :: K.drop q) ∧ KidsTo N p (i + 1) (K.take q ++ i :: K.drop q) ∧ Below w.heap.size w x3) := by
                refine ⟨?_, hPut.out, HBW2.out.trans ((hB2.grown hg3 hB2.size hR2.own).mono HBW2.out.size)⟩
                have h9 := hR3.lower HBW2.out.size
                exact h9
              clear hR3 hg3 hR2 hB2 hDr2 hDr hTk hs1 hs2 hPut HBW2
              go_wp2
              go_roundg (m - (i + 1))
              case measure => omega
              case rel => exact ⟨i + 1, _, by go_num, by omega, Nat.le_refl _, HS4⟩
      · have hne : Hid (decide (pz (parI N (atN N i)) ≠ pz p) = true) := decide_eq_true (fun e => hp (pz_inj e))
        have hnl := fun W : World => neq_ib W _ _ hne.out
        have HS4 : Aside (IRow w1 w.heap.size u5 K ∧ KidsTo N p (i + 1) K ∧ Below w.heap.size w w1) := ⟨HS1.out.1, HS1.out.2.1.skip hp, HS1.out.2.2⟩
        clear HS1 hp
        go_wp2_with (first | refine wpl_exK rfl (exec_bin rfl rfl rfl (eqGuard_ik _) (hnl _)) ?_)
        go_roundg (m - (i + 1))
        case measure => omega
        case rel => exact ⟨i + 1, K, by go_num, by omega, Nat.le_refl _, HS4⟩
    · obtain rfl : i = m := by omega
      have hltz : ¬ (i : Int) < (i : Int) := by omega
      obtain ⟨w8, hw8⟩ : ∃ x : World, x = wr := ⟨_, rfl⟩
      subst hw8
      have hKe : K = kidsI N p := (hlen ▸ HS.out.2.1 : KidsTo N p N.length K).one (kids_is N p)
      subst hKe
      obtain ⟨a2, c2, hv5, hIV⟩ := HS.out.1.iv
      obtain ⟨q, hq⟩ : ∃ q, (kidsI N p).length = q := ⟨_, rfl⟩
      have hqm : q ≤ i := by rw [← hq]; exact HS.out.2.1.len
      rw [hq] at hIV hv5
      subst hv5
      have HQ : Hid ((kidsI N p).length = q) := hq
      have HIV : Aside (IV w8 a2 q c2 (kidsI N p)) := hIV
      have HBr : Hid (Below w.heap.size w w8) := HS.out.2.2
      have HEr : Aside (Evs w8 ao i c N) := HE.out.below HS.out.2.2 (Nat.le_refl _)
      have H0 : Aside (Row w8 w8.heap.size (.slice none 0 0) ((treeTo N n (kidsI N p) 0).map (atN N)) ∧ Below w8.heap.size w8 w8) := ⟨by rw [treeTo_zero]; exact row_nil _ _, Below.refl _ _⟩
      clear HS hIV hq
      go_wp2
      go_loopg [9, 59] q (fun kx s9 s59 wr2 => ∃ t : Nat, s59 = .int .i64 t ∧ t ≤ q ∧ q - t ≤ kx ∧ Aside (Row wr2 w8.heap.size s9 ((treeTo N n (kidsI N p) t).map (atN N)) ∧ Below w8.heap.size w8 wr2))
      case atStart => exact ⟨0, rfl, Nat.zero_le _, by omega, H0⟩
      case round =>
        clear H0
        obtain ⟨t, rfl, htq, hkx2, HS⟩ := hrel
        by_cases hlt : t < q
        · have hltz2 : (t : Int) < (q : Int) := by omega
          obtain ⟨b2, off2, j, rfl, hjt, hcl0, -⟩ := HIV.out.at hlt
          have hjk : Hid (j ∈ kidsI N p) := List.mem_of_getElem? hjt
          have hjm : j < i := by have := (mem_kids.1 hjk.out).1; omega
          have hcl := (HS.out.2.cell (block_lt_of_cell hcl0)).trans hcl0
          have hixi := fun W : World => index_i W (b := b2) (off := off2) (k := t) (m := q) (c := c2) hlt
          obtain ⟨b, off, u, rfl, hui, hu, hru, hbu⟩ := (HEr.out.below HS.out.2 (Nat.le_refl _)).at hjm
          have hu16 := hu.1
          have hat : Hid (atN N j = u) := atN_get hui
          have hix := fun W : World => index_ev W (b := b) (off := off) (k := j) (m := i) (c := c) hjm
          have hll := treeTo_le (N := N) (n := n) (p := p) (t + 1)
          rw [treeTo_succ hjt, List.length_append, List.length_cons] at hll
          have hbn := HBN.out
          have HL1 : Hid (((treeTo N n (kidsI N p) t).map (atN N)).length ≤ 100000) := by show _ ≤ _; rw [List.length_map]; omega
          have HL2 : Hid ((treeI N n (some j)).length ≤ 100000) := by show _ ≤ _; omega
          have HL3 : Hid (((treeTo N n (kidsI N p) t).map (atN N) ++ [u]).length ≤ 100001) := by show _ ≤ _; rw [List.length_append, List.length_map]; simp only [List.length_singleton]; omega
          have HSN : Hid ((treeTo N n (kidsI N p) (t + 1)).map (atN N) = (treeTo N n (kidsI N p) t).map (atN N) ++ [u] ++ (treeI N n (some j)).map (atN N)) := by show _ = _; rw [treeTo_succ hjt, List.map_append, List.map_cons, hat.out, List.append_assoc_cons]
          have hRow : Row (wr.alloc (.cells (evc u) 41)) w8.heap.size u9 ((treeTo N n (kidsI N p) t).map (atN N)) := HS.out.1.below ((Below.refl _ _).alloc (Nat.le_refl _) _) (Nat.le_refl _)
          have hF : Evs (wr.alloc (.cells (evc u) 41)) (some ⟨wr.heap.size, 0, none⟩) 1 1 [u] := evs_single _ _ u hu (liesE_new wr u)
          have hle : w8.heap.size ≤ (wr.alloc (.cells (evc u) 41)).heap.size := by have := HS.out.2.size; simp; omega
          have HB3 : Hid (Below w8.heap.size w8 (wr.alloc (.cells (evc u) 41))) := HS.out.2.alloc HS.out.2.size _
          clear HS hjt hll hbn hui
          generalize (treeTo N n (kidsI N p) t).map (atN N) = T at *
          go_wp2_with (first | refine load_ev_mid rfl rfl rfl hru hu16 ?_ | refine build_ev1 rfl rfl rfl hu16 ?_ | refine wpList_appE rfl _ _ rfl w8.heap.size _ T rfl hRow _ 1 1 [u] rfl hF (by have := HL1.out; omega) hle ?_)
          intro v4 w4 hR4 hg4 ho4
          have hB4 : Below w8.heap.size w8 w4 := HB3.out.grown hg4 hle hRow.own
          have hcl4 := (hB4.cell (block_lt_of_cell hcl0)).trans hcl0
          have HR4 : Aside (Row w4 w8.heap.size v4 (T ++ [u])) := hR4
          have HC : Hid _ := IH.out j hjk.out w4 (HEr.out.below hB4 (Nat.le_refl _)) HL2.out
          have HB4 : Hid (Below w8.heap.size w8 w4) := hB4
          clear hR4 hg4 ho4 hRow hF HB3 hle hB4 hru hcl
          go_wp2_with fail
          refine Calls.mono HC.out ?_
          rintro e w5 ⟨v5, rfl, hR5, hb5⟩
          obtain ⟨a5, c5, hv5, hE5⟩ := hR5.evs (fun e he => by
            obtain ⟨y, hy, rfl⟩ := List.mem_map.1 he
            have hyl : y < N.length := (tree_ups _ _ _ hy).1
            exact HEr.out.wide _ (atN_mem hyl))
          subst hv5
          have hR6 : Row w5 w8.heap.size v4 (T ++ [u]) := HR4.out.below hb5 (Nat.le_refl _)
          have HB5 : Hid (Below w8.heap.size w8 w5) := HB4.out.trans (hb5.mono HB4.out.size)
          have hle5 : w8.heap.size ≤ w5.heap.size := HB5.out.size
          have hl5 : Hid (((treeI N n (some j)).map (atN N)).length ≤ 100000) := by show _ ≤ _; rw [List.length_map]; exact HL2.out
          clear hR5 hb5 HC HR4 HB4 hcl4
          generalize (treeI N n (some j)).map (atN N) = Z at *
          generalize Z.length = zl at *
          go_wp2_with (first | refine wpList_appE rfl _ _ rfl w8.heap.size _ (T ++ [u]) rfl hR6 _ _ _ Z rfl hE5 (by have := HL3.out; have := hl5.out; omega) hle5 ?_)
          intro v7 w7 hR7 hg7 ho7
          have HS4 : Aside (Row w7 w8.heap.size v7 ((treeTo N n (kidsI N p) (t + 1)).map (atN N)) ∧ Below w8.heap.size w8 w7) := ⟨by rw [HSN.out, List.append_assoc_cons]; exact hR7, HB5.out.grown hg7 hle5 hR6.own⟩
          clear hR7 hg7 ho7 hR6 HB5 hE5 HSN
          go_wp2
          go_roundg (q - (t + 1))
          case measure => omega
          case rel => exact ⟨t + 1, by go_num, by omega, Nat.le_refl _, HS4⟩
        · obtain rfl : t = q := by omega
          have hltz2 : ¬ (t : Int) < (t : Int) := by omega
          have HF : Hid (Row wr w.heap.size u9 ((treeI N (n + 1) p).map (atN N)) ∧ Below w.heap.size w wr) := by
            have := HS.out
            rw [treeTo_all (by rw [HQ.out]; exact Nat.le_refl _)] at this
            exact ⟨this.1.lower HBr.out.size, HBr.out.trans (this.2.mono HBr.out.size)⟩
          clear HS
          go_wp2
          go_ret
          exact ⟨_, rfl, HF.out⟩
theorem under_any (N : List Ev) (ao : Option Addr) (m c : Nat) (hm : m ≤ 1000) : ∀ (n : Nat) (p : Option Nat), rk N p ≤ n → ∀ w : World, Evs w ao m c N → (treeI N (n + 1) p).length ≤ 100000 →
    Calls Try.prog 23 #[.slice ao m c, .int .i64 (pz p)] w fun e w' => ∃ v, e = .returned v ∧ Row w' w.heap.size v ((treeI N (n + 1) p).map (atN N)) ∧ Below w.heap.size w w'
  | 0, p, hr, w, hE, hb => under_step N ao m c hm 0 p w hE hb (fun i hi => by
      have := rk_kids hi
      omega)
  | n + 1, p, hr, w, hE, hb => under_step N ao m c hm (n + 1) p w hE hb (fun i hi W hW hb' => under_any N ao m c hm n (some i) (by have := rk_kids hi; omega) W hW hb')
set_option maxHeartbeats 2000000 in
theorem rorder_any (ao : Option Addr) (m c : Nat) (E : List Ev) (key : List UInt8) (w : World) (hE : Evs w ao m c E) (hm : m ≤ 1000) :
    Calls Try.prog 15 #[.slice ao m c, .string (sb key)] w fun e w' => ∃ v, e = .returned v ∧ Row w' w.heap.size v (orderE key E) ∧ Below w.heap.size w w' := by
  have hlen := hE.len
  have hwide : Hid (∀ e ∈ nodesE key E, Wide e) := fun e he => hE.wide e (mem_nodes.1 he).1
  go_enter Try.func15, Try.ntmps15
  go_wp2_with fail
  refine (rnodes_any ao m c E key w hE hm).mono ?_
  rintro e w1 ⟨v1, rfl, hR1, hb1⟩
  obtain ⟨a1, c1, hv1, hE1⟩ := hR1.evs hwide.out
  subst hv1
  have hNl := nodes_len key E
  have hcon := under_any (nodesE key E) a1 _ c1 (by omega) (nodesE key E).length none (Nat.le_refl _) w1 hE1 (by show (orderI _).length ≤ _; rw [order_len]; omega)
  have HC : Hid (Calls Try.prog 23 #[.slice a1 (nodesE key E).length c1, .int .i64 (-1)] w1 fun e w' => ∃ v, e = .returned v ∧ Row w' w1.heap.size v (orderE key E) ∧ Below w1.heap.size w1 w') := hcon
  have HB1 : Hid (Below w.heap.size w w1) := hb1
  clear hcon hE hE1 hb1 hR1
  go_wp2_with fail
  refine Calls.mono HC.out ?_
  rintro e w2 ⟨v2, rfl, hR2, hb2⟩
  have HF : Hid (Row w2 w.heap.size v2 (orderE key E) ∧ Below w.heap.size w w2) := ⟨hR2.lower HB1.out.size, HB1.out.trans (hb2.mono HB1.out.size)⟩
  clear hR2 hb2 HC HB1
  go_wp2
  go_ret
  exact ⟨_, rfl, HF.out⟩
end Go.Proofs.Ytagjgamigldjnaa
