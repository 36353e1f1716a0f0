/-
  RgaAll: each node stands in the order just once, and behind its parent.
-/
import Derived.Test.YtagjgamigldjnaaKwk
import Derived.Test.YtagjgamigldjnaaLun
import Derived.Test.YtagjgamigldjnaaKpe
import Derived.Test.YtagjgamigldjnaaKvb
namespace Go.Proofs.Ytagjgamigldjnaa
set_option maxRecDepth 100000
open Go.RowKit

def cntTo (A : List Ev) (u : Ev) (j : Nat) : Nat := ((A.take j).filter fun e => decide (e = u)).length
theorem cntTo_succ {A : List Ev} {u y : Ev} {j : Nat} (h : A[j]? = some y) : cntTo A u (j + 1) = if y = u then cntTo A u j + 1 else cntTo A u j := by
  unfold cntTo
  rw [take_snoc h, List.filter_append, List.filter_cons, List.filter_nil]
  by_cases e : y = u <;> simp [e]
theorem cntTo_len (A : List Ev) (u : Ev) (j : Nat) : cntTo A u j ≤ j := by
  unfold cntTo
  refine Nat.le_trans (List.length_filter_le _ _) ?_
  rw [List.length_take]
  omega
theorem cntTo_zero {A : List Ev} {u : Ev} {j : Nat} (h : cntTo A u j = 0) : u ∉ A.take j := fun hm => by
  have h1 : u ∈ (A.take j).filter fun e => decide (e = u) := List.mem_filter.2 ⟨hm, by simp⟩
  have h2 := List.length_pos_of_mem h1
  unfold cntTo at h
  omega
theorem filter_one {u : Ev} : ∀ {A : List Ev}, A.Nodup → u ∈ A → (A.filter fun e => decide (e = u)).length = 1
  | [], _, h => by cases h
  | a :: A, hn, hm => by
    rw [List.nodup_cons] at hn
    rw [List.filter_cons]
    by_cases e : a = u
    · subst e
      have h0 : (A.filter fun e => decide (e = a)) = [] := List.filter_eq_nil_iff.2 fun x hx => by
        rw [decide_eq_true_eq]
        intro e
        exact hn.1 (e ▸ hx)
      simp [h0]
    · rw [if_neg (by simpa using e)]
      refine filter_one hn.2 ?_
      rcases List.mem_cons.1 hm with h | h
      · exact absurd h.symm e
      · exact h
theorem cntTo_all {A : List Ev} {u : Ev} {j : Nat} (hn : A.Nodup) (hm : u ∈ A) (hj : A.length ≤ j) : cntTo A u j = 1 := by
  unfold cntTo
  rw [List.take_of_length_le hj]
  exact filter_one hn hm
theorem split_at {A : List Ev} {y : Ev} {j : Nat} (h : A[j]? = some y) : A = A.take j ++ y :: A.drop (j + 1) := by
  obtain ⟨h1, h2⟩ := List.getElem?_eq_some_iff.1 h
  rw [← h2, ← List.drop_eq_getElem_cons h1, List.take_append_drop]
theorem run_buildD (w : World) : (Instr.build 26 #[]).run Try.prog w = .ok (.agg (dotc 0 0)) w := by kernel_rfl
theorem exec_buildD {o : Oper} {a : Act} {w : World} (ho : o.op = .build 26 #[]) : (execOp a.eval o).run Try.prog w = .ok (.value (.agg (dotc 0 0))) w := by
  have hr := run_buildD w
  unfold execOp
  simp only [ho, List.map_toArray, List.map_nil, Sem.run_bind, Sem.run_pure, Result.andThen_ok, hr]
theorem eql_ik (w : World) {a b : Int} {t : Bool} (h : decide (a = b) = t) : (binOp .eql 3 (.int .i64 a) (.int .i64 b)).run Try.prog w = .ok (.bool t) w := by
  subst h
  simp [go_sem]
  rw [Bool.eq_iff_iff]
  simp
theorem neq_dt0 (w : World) {r n : Int} (h : r = 0 ∧ n = 0) : (binOp .neq 26 (.agg (dotc r n)) (.agg (dotc 0 0))).run Try.prog w = .ok (.bool false) w := by
  obtain ⟨rfl, rfl⟩ := h
  have h := run_equalIn_dot (r := 0) (n := 0) (r' := 0) (n' := 0) w 9998
  simp only [binOp]
  simp [Op.equal, Op.maxDepth, h]
set_option maxHeartbeats 8000000 in
theorem kall_walk (ao : Option Addr) (m c : Nat) (E : List Ev) (key : List UInt8) (w : World) (hE : Evs w ao m c E) :
    Calls Try.prog 5 #[.slice ao m c, .string (sb key)] w fun e w' => e = .returned (.bool true) ∧ Below w.heap.size w w' := by
  have HE : Aside (Evs w ao m c E) := hE
  have hwide : Hid (∀ e ∈ E, Wide e) := hE.wide
  have hlen := hE.len
  clear hE
  go_enter Try.func5, Try.ntmps5
  go_wp2_with fail
  refine (awake_any w).mono ?_
  rintro e w1 ⟨rfl, hb1⟩
  have hE1 := HE.out.below hb1 (Nat.le_refl _)
  have HB1 : Hid (Below w.heap.size w w1) := hb1
  clear hb1 HE
  go_wp2_with fail
  refine (few_any ao m c E w1 hE1).mono ?_
  rintro e w2 ⟨t, rfl, hfew, hw2⟩
  obtain rfl := hw2.symm
  clear hw2
  cases t with
  | false =>
    go_wp2_with fail
    refine (awake_any w1).mono ?_
    rintro e w3 ⟨rfl, hb3⟩
    have HB3 : Hid (Below w.heap.size w w3) := HB1.out.trans (hb3.mono HB1.out.size)
    clear hb3
    go_wp2
    go_ret
    exact ⟨rfl, HB3.out⟩
  | true =>
    have hm : m ≤ 60 := hfew rfl
    clear hfew
    go_wp2_with fail
    refine (unlike_any ao m c E w1 hE1 (by omega)).mono ?_
    rintro e w2 ⟨t, rfl, hun, hb2⟩
    have HE1 : Aside (Evs w2 ao m c E) := hE1.below hb2 (Nat.le_refl _)
    have HB2 : Hid (Below w.heap.size w w2) := HB1.out.trans (hb2.mono HB1.out.size)
    clear hb2 hE1 HB1
    cases t with
    | false =>
      go_wp2_with fail
      refine (awake_any w2).mono ?_
      rintro e w3 ⟨rfl, hb3⟩
      have HB3 : Hid (Below w.heap.size w w3) := HB2.out.trans (hb3.mono HB2.out.size)
      clear hb3
      go_wp2
      go_ret
      exact ⟨rfl, HB3.out⟩
    | true =>
      have HU : Hid (Unlike E) := hun rfl
      clear hun
      go_wp2_with fail
      refine (order_any ao m c E key w2 HE1.out (by omega)).mono ?_
      rintro e w4 ⟨v4, rfl, hR4, hb4⟩
      obtain ⟨a4, c4, hv4, hE4⟩ := hR4.evs (fun e he => hwide.out e (mem_nodes.1 (mem_orderE.1 he)).1)
      subst hv4
      have HS3 : Aside (Evs w4 ao m c E ∧ Evs w4 a4 (orderE key E).length c4 (orderE key E) ∧ Below w.heap.size w w4) := ⟨HE1.out.below hb4 (Nat.le_refl _), hE4, HB2.out.trans (hb4.mono HB2.out.size)⟩
      have hqm : (orderE key E).length ≤ 60 := by rw [orderE_len]; have := nodes_len key E; omega
      have hql : Hid ((nodesE key E).length = (orderE key E).length) := (orderE_len key E).symm
      have HND : Hid ((orderE key E).Nodup) := order_nodup HU.out
      have HBE : Hid (∀ A B y u, orderE key E = A ++ y :: B → u ∈ nodesE key E → (y.rr = u.r ∧ y.rn = u.n) → laterE y u = true → ¬ (y.rr = 0 ∧ y.rn = 0) → u ∈ A) := fun A B y u h hu hd hl hz => order_behind h (parE_some (unlike_nodes HU.out) (by unfold noRef; exact decide_eq_false hz) hu (can_iff.2 ⟨⟨hd.1.symm, hd.2.symm⟩, hl⟩))
      have HMO : Hid (∀ u, u ∈ nodesE key E → u ∈ orderE key E) := fun u hu => mem_orderE.2 hu
      clear hR4 hb4 hE4 HE1 HB2
      generalize hA : orderE key E = A at *
      clear hA
      generalize hq9 : A.length = q at *
      have H0 : Aside (Below w4.heap.size w4 w4) := Below.refl _ _
      go_wp2
      go_loopg [6, 29] m (fun kx s6 s29 wr => ∃ i : Nat, s29 = .int .i64 i ∧ s6 = .int .i64 ((nodeTo key E i).length : Nat) ∧ i ≤ m ∧ m - i ≤ kx ∧ Aside (Below w4.heap.size w4 wr))
      case atStart => exact ⟨0, rfl, rfl, Nat.zero_le _, by omega, H0⟩
      case round =>
        clear H0
        obtain ⟨i, rfl, rfl, him, hkO, HS⟩ := hrel
        by_cases hlt : i < m
        · have hltz : (i : Int) < (m : Int) := by omega
          obtain ⟨b, off, u, rfl, hui, hu, hr, hbl⟩ := (HS3.out.1.below HS.out (Nat.le_refl _)).at hlt
          have hu16 := hu.1
          have hix := fun W : World => index_ev W (b := b) (off := off) (k := i) (m := m) (c := c) hlt
          have c19 := range_kind hr hu16
          have c20 := range_key hr hu16
          have hkb := sb_beq u.key key
          have hnl := nodeTo_len key E i
          have HSN : Hid (nodeTo key E (i + 1) = if nodeE key u then nodeTo key E i ++ [u] else nodeTo key E i) := nodeTo_succ hui
          by_cases hk : u.kind = 9 ∧ u.key = key
          · have HN : Hid (((nodeTo key E (i + 1)).length : Int) = ((nodeTo key E i).length : Nat) + 1) := by
              show _ = _
              rw [HSN.out, node_yes hk.1 hk.2, if_pos rfl, List.length_append]
              rfl
            have HUN : Hid (u ∈ nodesE key E) := mem_nodes.2 ⟨List.mem_of_getElem? hui, hk.1, hk.2⟩
            have hk9 : u.kind = 9 := hk.1
            rw [decide_eq_true hk.2] at hkb
            generalize (nodeTo key E i).length = many at *
            obtain ⟨w5, hw5⟩ : ∃ y : World, y = wr := ⟨_, rfl⟩
            subst hw5
            clear hk HSN hr
            have H1 : Aside (Below w4.heap.size w4 w5) := HS.out
            have hz0 : ((0 : Nat) : Int) = 0 := rfl
            go_wp2
            go_loopg [8, 9, 53] q (fun kx s8 s9 s53 wr => ∃ j : Nat, s53 = .int .i64 j ∧ s8 = .int .i64 (cntTo A u j : Nat) ∧ s9 = .bool true ∧ j ≤ q ∧ q - j ≤ kx ∧ Aside (Below w4.heap.size w4 wr))
            case atStart => exact ⟨0, rfl, rfl, rfl, Nat.zero_le _, by omega, H1⟩
            case round =>
              clear H1 HS c19 c20 hix
              obtain ⟨j, rfl, rfl, rfl, hjq', hkx, HJ⟩ := hrel
              by_cases hjq : j < q
              · have hjz : (j : Int) < (q : Int) := by omega
                obtain ⟨b2, off2, y, rfl, hyj, hy, hry, hby⟩ := (HS3.out.2.1.below HJ.out (Nat.le_refl _)).at hjq
                obtain ⟨b', off', u', hao', hui', -, hru, hbu⟩ := (HS3.out.1.below HJ.out (Nat.le_refl _)).at hlt
                obtain ⟨rfl, rfl⟩ : b = b' ∧ off = off' := by simpa using hao'
                obtain rfl : u = u' := by rw [hui] at hui'; exact Option.some.inj hui'
                have hy16 := hy.1
                have hcs : Hid (cntTo A u (j + 1) = if y = u then cntTo A u j + 1 else cntTo A u j) := cntTo_succ hyj
                have hbeh : Hid (cntTo A u (j + 1) = 0 → (y.rr = u.r ∧ y.rn = u.n) → laterE y u = true → y.rr = 0 ∧ y.rn = 0) := fun h1 hd hl => by
                  refine Decidable.byContradiction fun hz => ?_
                  have h2 := HBE.out (A.take j) (A.drop (j + 1)) y u (split_at hyj) HUN.out hd hl hz
                  exact cntTo_zero h1 (List.mem_of_mem_take (i := j) (by rw [List.take_take, Nat.min_eq_left (Nat.le_succ j)]; exact h2))
                have hcl := cntTo_len A u j
                clear hao' hui'
                go_upto_region 14 with (fail)
                refine region_vals [56, 57, 58, 59, 60, 61, 62, 63, 64] [.slice (some ⟨b2, off2, none⟩) q c4, .int .i64 (j : Int), .pointer (some ⟨b2, off2 + j * 26, none⟩), .agg (evc y), .slice (some ⟨b, off, none⟩) m c, .int .i64 (i : Int), .pointer (some ⟨b, off + i * 26, none⟩), .agg (evc u), .bool (decide (y = u))] _ (by kernel_rfl) (by kernel_rfl) (by rfl) (by decide) (by kernel_rfl) (by simp only [lay, Act.put, List.setIfInBounds_toArray, List.set_cons_zero, List.set_cons_succ, List.getD_cons_zero, List.getD_cons_succ, Nat.reduceAdd]; rfl) ⟨?_, ?_, ?_, ?_, ?_, ?_, ?_, ?_, ?_, trivial⟩ ?_
                · exact .inl ⟨rfl, fun W hb => yields_move rfl rfl⟩
                · exact .inl ⟨rfl, fun W hb => yields_move rfl rfl⟩
                · exact .inl ⟨rfl, fun W hb => yields_indexAddr rfl rfl rfl (index_ev W hjq)⟩
                · exact .inl ⟨rfl, fun W hb => yields_load rfl rfl (load_part (range_below hry hb hby) hy16)⟩
                · exact .inl ⟨rfl, fun W hb => yields_move rfl rfl⟩
                · exact .inl ⟨rfl, fun W hb => yields_move rfl rfl⟩
                · exact .inl ⟨rfl, fun W hb => yields_indexAddr rfl rfl rfl (index_ev W hlt)⟩
                · exact .inl ⟨rfl, fun W hb => yields_load rfl rfl (load_part (range_below hru hb hbu) hu16)⟩
                · exact .inl ⟨rfl, fun W hb => yields_bin rfl rfl rfl (eqGuard_ev W _ _) (eql_evd W hy16 hu16)⟩
                intro W2 hb2
                have HJ2 : Aside (Below w4.heap.size w4 W2) := HJ.out.trans (hb2.mono HJ.out.size)
                have hry := range_below hry hb2 hby
                have hru := range_below hru hb2 hbu
                have hby : b2 < W2.heap.size := Nat.lt_of_lt_of_le hby hb2.size
                have hbu : b < W2.heap.size := Nat.lt_of_lt_of_le hbu hb2.size
                clear hb2 HJ hyj
                by_cases he : y = u
                · rw [decide_eq_true he]
                  have hcnt : Hid (cntTo A u (j + 1) = cntTo A u j + 1) := by show _ = _; rw [hcs.out, if_pos he]
                  clear he hcs
                  generalize cntTo A u j = g at *
                  have hf1 : Hid (decide ((g : Int) + 1 = 0) = false) := decide_eq_false (by omega)
                  clear hbeh
                  go_upto_region 16 with (fail)
                  refine B.region_vals [67, 68, 69, 70, 71, 72, 73, 74, 75, 76, 77, 78, 79, 80, 81, 82, 83, 84, 85, 86, 87, 88, 89, 90, 91, 92, 93, 94, 95, 96, 97, 98, 99, 100, 101, 102, 103] [.int .i64 ((g : Int) + 1), .bool false, .bool false, undef, undef, undef, undef, undef, undef, undef, undef, undef, undef, undef, undef, .bool false, .bool false, undef, undef, undef, undef, undef, undef, undef, undef, undef, .bool false, .bool false, undef, undef, undef, undef, undef, undef, undef, undef, .bool false] _ (by kernel_rfl) (by kernel_rfl) (by rfl) (by decide) (by kernel_rfl) (by simp only [lay, Act.put, List.setIfInBounds_toArray, List.set_cons_zero, List.set_cons_succ, List.getD_cons_zero, List.getD_cons_succ, Nat.reduceAdd]; rfl) ⟨?_, ?_, ?_, ?_, ?_, ?_, ?_, ?_, ?_, ?_, ?_, ?_, ?_, ?_, ?_, ?_, ?_, ?_, ?_, ?_, ?_, ?_, ?_, ?_, ?_, ?_, ?_, ?_, ?_, ?_, ?_, ?_, ?_, ?_, ?_, ?_, ?_, trivial⟩ ?_
                  · exact .inl ⟨rfl, fun W hb => yields_move rfl rfl⟩
                  · exact .inl ⟨rfl, fun W hb => yields_bin rfl rfl rfl (eqGuard_ik W) (eql_ik W hf1.out)⟩
                  · exact .inl ⟨rfl, fun W hb => yields_move rfl rfl⟩
                  · exact .inr ⟨rfl, rfl⟩
                  · exact .inr ⟨rfl, rfl⟩
                  · exact .inr ⟨rfl, rfl⟩
                  · exact .inr ⟨rfl, rfl⟩
                  · exact .inr ⟨rfl, rfl⟩
                  · exact .inr ⟨rfl, rfl⟩
                  · exact .inr ⟨rfl, rfl⟩
                  · exact .inr ⟨rfl, rfl⟩
                  · exact .inr ⟨rfl, rfl⟩
                  · exact .inr ⟨rfl, rfl⟩
                  · exact .inr ⟨rfl, rfl⟩
                  · exact .inr ⟨rfl, rfl⟩
                  · exact .inl ⟨rfl, fun W hb => yields_pick rfl rfl rfl⟩
                  · exact .inl ⟨rfl, fun W hb => yields_move rfl rfl⟩
                  · exact .inr ⟨rfl, rfl⟩
                  · exact .inr ⟨rfl, rfl⟩
                  · exact .inr ⟨rfl, rfl⟩
                  · exact .inr ⟨rfl, rfl⟩
                  · exact .inr ⟨rfl, rfl⟩
                  · exact .inr ⟨rfl, rfl⟩
                  · exact .inr ⟨rfl, rfl⟩
                  · exact .inr ⟨rfl, rfl⟩
                  · exact .inr ⟨rfl, rfl⟩
                  · exact .inl ⟨rfl, fun W hb => yields_pick rfl rfl rfl⟩
                  · exact .inl ⟨rfl, fun W hb => yields_move rfl rfl⟩
                  · exact .inr ⟨rfl, rfl⟩
                  · exact .inr ⟨rfl, rfl⟩
                  · exact .inr ⟨rfl, rfl⟩
                  · exact .inr ⟨rfl, rfl⟩
                  · exact .inr ⟨rfl, rfl⟩
                  · exact .inr ⟨rfl, rfl⟩
                  · exact .inr ⟨rfl, rfl⟩
                  · exact .inr ⟨rfl, rfl⟩
                  · exact .inl ⟨rfl, fun W hb => yields_pick rfl rfl rfl⟩
                  intro W3 hb3
                  have HS4 : Aside (Below w4.heap.size w4 W3) := HJ2.out.trans (hb3.mono HJ2.out.size)
                  clear hb3 HJ2 hf1
                  go_wp2
                  go_roundg (q - (j + 1))
                  case measure => omega
                  case rel => exact ⟨j + 1, by go_num, by rw [hcnt.out] <;> rfl, rfl, by omega, Nat.le_refl _, HS4⟩
                · rw [decide_eq_false he]
                  have hcnt : Hid (cntTo A u (j + 1) = cntTo A u j) := by show _ = _; rw [hcs.out, if_neg he]
                  clear he hcs
                  generalize cntTo A u j = f at *
                  by_cases hf : f = 0
                  · have hf0 : Hid (decide ((f : Int) = 0) = true) := decide_eq_true (by omega)
                    by_cases hd : y.rr = u.r ∧ y.rn = u.n
                    · have hqd : Hid (decide (y.rr = u.r ∧ y.rn = u.n) = true) := decide_eq_true hd
                      rcases Bool.eq_false_or_eq_true (laterE y u) with hl | hl
                      · have hlat : Hid (laterE y u = true) := hl
                        have hq0 : Hid (y.rr = 0 ∧ y.rn = 0) := hbeh.out (hcnt.out.trans hf) hd hl
                        clear hl hd hf
                        go_upto_region 16 with (fail)
                        refine B.region_vals [67, 68, 69, 70, 71, 72, 73, 74, 75, 76, 77, 78, 79, 80, 81, 82, 83, 84, 85, 86, 87, 88, 89, 90, 91, 92, 93, 94, 95, 96, 97, 98, 99, 100, 101, 102, 103] [.int .i64 (f : Int), .bool true, .bool true, .slice (some ⟨b2, off2, none⟩) q c4, .int .i64 (j : Int), .pointer (some ⟨b2, off2 + j * 26, none⟩), .pointer (some ⟨b2, off2 + j * 26 + 19, none⟩), .pointer (some ⟨b2, off2 + j * 26 + 19 + 5, none⟩), .agg (dotc y.rr y.rn), .slice (some ⟨b, off, none⟩) m c, .int .i64 (i : Int), .pointer (some ⟨b, off + i * 26, none⟩), .pointer (some ⟨b, off + i * 26 + 0, none⟩), .agg (dotc u.r u.n), .bool true, .bool true, .bool true, .slice (some ⟨b2, off2, none⟩) q c4, .int .i64 (j : Int), .pointer (some ⟨b2, off2 + j * 26, none⟩), .agg (evc y), .slice (some ⟨b, off, none⟩) m c, .int .i64 (i : Int), .pointer (some ⟨b, off + i * 26, none⟩), .agg (evc u), .bool true, .bool true, .bool true, .slice (some ⟨b2, off2, none⟩) q c4, .int .i64 (j : Int), .pointer (some ⟨b2, off2 + j * 26, none⟩), .pointer (some ⟨b2, off2 + j * 26 + 19, none⟩), .pointer (some ⟨b2, off2 + j * 26 + 19 + 5, none⟩), .agg (dotc y.rr y.rn), .agg (dotc 0 0), .bool false, .bool false] _ (by kernel_rfl) (by kernel_rfl) (by rfl) (by decide) (by kernel_rfl) (by simp only [lay, Act.put, List.setIfInBounds_toArray, List.set_cons_zero, List.set_cons_succ, List.getD_cons_zero, List.getD_cons_succ, Nat.reduceAdd]; rfl) ⟨?_, ?_, ?_, ?_, ?_, ?_, ?_, ?_, ?_, ?_, ?_, ?_, ?_, ?_, ?_, ?_, ?_, ?_, ?_, ?_, ?_, ?_, ?_, ?_, ?_, ?_, ?_, ?_, ?_, ?_, ?_, ?_, ?_, ?_, ?_, ?_, ?_, trivial⟩ ?_
                        · exact .inl ⟨rfl, fun W hb => yields_move rfl rfl⟩
                        · exact .inl ⟨rfl, fun W hb => yields_bin rfl rfl rfl (eqGuard_ik W) (eql_ik W hf0.out)⟩
                        · exact .inl ⟨rfl, fun W hb => yields_move rfl rfl⟩
                        · exact .inl ⟨rfl, fun W hb => yields_move rfl rfl⟩
                        · exact .inl ⟨rfl, fun W hb => yields_move rfl rfl⟩
                        · exact .inl ⟨rfl, fun W hb => yields_indexAddr rfl rfl rfl (index_ev W hjq)⟩
                        · exact .inl ⟨rfl, fun W hb => yields_field rfl rfl (field_e3i W _ _)⟩
                        · exact .inl ⟨rfl, fun W hb => yields_field rfl rfl (field_p5 W _ _)⟩
                        · exact .inl ⟨rfl, fun W hb => yields_load rfl rfl (load_dtr (range_ref (range_below hry hb hby) hy16))⟩
                        · exact .inl ⟨rfl, fun W hb => yields_move rfl rfl⟩
                        · exact .inl ⟨rfl, fun W hb => yields_move rfl rfl⟩
                        · exact .inl ⟨rfl, fun W hb => yields_indexAddr rfl rfl rfl (index_ev W hlt)⟩
                        · exact .inl ⟨rfl, fun W hb => yields_field rfl rfl (field_e0 W _ _)⟩
                        · exact .inl ⟨rfl, fun W hb => yields_load rfl rfl (load_dt (range_below hru hb hbu))⟩
                        · exact .inl ⟨rfl, fun W hb => yields_bin rfl rfl rfl (eqGuard_dt W _ _ _ _) (eql_dt W hqd.out)⟩
                        · exact .inl ⟨rfl, fun W hb => yields_pick rfl rfl rfl⟩
                        · exact .inl ⟨rfl, fun W hb => yields_move rfl rfl⟩
                        · exact .inl ⟨rfl, fun W hb => yields_move rfl rfl⟩
                        · exact .inl ⟨rfl, fun W hb => yields_move rfl rfl⟩
                        · exact .inl ⟨rfl, fun W hb => yields_indexAddr rfl rfl rfl (index_ev W hjq)⟩
                        · exact .inl ⟨rfl, fun W hb => yields_load rfl rfl (load_part (range_below hry hb hby) hy16)⟩
                        · exact .inl ⟨rfl, fun W hb => yields_move rfl rfl⟩
                        · exact .inl ⟨rfl, fun W hb => yields_move rfl rfl⟩
                        · exact .inl ⟨rfl, fun W hb => yields_indexAddr rfl rfl rfl (index_ev W hlt)⟩
                        · exact .inl ⟨rfl, fun W hb => yields_load rfl rfl (load_part (range_below hru hb hbu) hu16)⟩
                        · exact .inl ⟨rfl, fun W hb => (by rw [← hlat.out]; exact yields_call (xs := [.tmp 87, .tmp 91]) (vs := [.agg (evc y), .agg (evc u)]) rfl rfl (enters_rlater _ _) (rlater_any y u W))⟩
                        · exact .inl ⟨rfl, fun W hb => yields_pick rfl rfl rfl⟩
                        · exact .inl ⟨rfl, fun W hb => yields_move rfl rfl⟩
                        · exact .inl ⟨rfl, fun W hb => yields_move rfl rfl⟩
                        · exact .inl ⟨rfl, fun W hb => yields_move rfl rfl⟩
                        · exact .inl ⟨rfl, fun W hb => yields_indexAddr rfl rfl rfl (index_ev W hjq)⟩
                        · exact .inl ⟨rfl, fun W hb => yields_field rfl rfl (field_e3i W _ _)⟩
                        · exact .inl ⟨rfl, fun W hb => yields_field rfl rfl (field_p5 W _ _)⟩
                        · exact .inl ⟨rfl, fun W hb => yields_load rfl rfl (load_dtr (range_ref (range_below hry hb hby) hy16))⟩
                        · exact .inl ⟨rfl, fun W hb => yields_ex (exec_buildD rfl)⟩
                        · exact .inl ⟨rfl, fun W hb => yields_bin rfl rfl rfl (eqGuard_dt W _ _ _ _) (neq_dt0 W hq0.out)⟩
                        · exact .inl ⟨rfl, fun W hb => yields_pick rfl rfl rfl⟩
                        intro W3 hb3
                        have HS4 : Aside (Below w4.heap.size w4 W3) := HJ2.out.trans (hb3.mono HJ2.out.size)
                        clear hb3 HJ2 hqd hlat hq0 hf0
                        go_wp2
                        go_roundg (q - (j + 1))
                        case measure => omega
                        case rel => exact ⟨j + 1, by go_num, by rw [hcnt.out] <;> rfl, rfl, by omega, Nat.le_refl _, HS4⟩
                      · have hlat : Hid (laterE y u = false) := hl
                        clear hl hd hf
                        go_upto_region 16 with (fail)
                        refine B.region_vals [67, 68, 69, 70, 71, 72, 73, 74, 75, 76, 77, 78, 79, 80, 81, 82, 83, 84, 85, 86, 87, 88, 89, 90, 91, 92, 93, 94, 95, 96, 97, 98, 99, 100, 101, 102, 103] [.int .i64 (f : Int), .bool true, .bool true, .slice (some ⟨b2, off2, none⟩) q c4, .int .i64 (j : Int), .pointer (some ⟨b2, off2 + j * 26, none⟩), .pointer (some ⟨b2, off2 + j * 26 + 19, none⟩), .pointer (some ⟨b2, off2 + j * 26 + 19 + 5, none⟩), .agg (dotc y.rr y.rn), .slice (some ⟨b, off, none⟩) m c, .int .i64 (i : Int), .pointer (some ⟨b, off + i * 26, none⟩), .pointer (some ⟨b, off + i * 26 + 0, none⟩), .agg (dotc u.r u.n), .bool true, .bool true, .bool true, .slice (some ⟨b2, off2, none⟩) q c4, .int .i64 (j : Int), .pointer (some ⟨b2, off2 + j * 26, none⟩), .agg (evc y), .slice (some ⟨b, off, none⟩) m c, .int .i64 (i : Int), .pointer (some ⟨b, off + i * 26, none⟩), .agg (evc u), .bool false, .bool false, .bool false, undef, undef, undef, undef, undef, undef, undef, undef, .bool false] _ (by kernel_rfl) (by kernel_rfl) (by rfl) (by decide) (by kernel_rfl) (by simp only [lay, Act.put, List.setIfInBounds_toArray, List.set_cons_zero, List.set_cons_succ, List.getD_cons_zero, List.getD_cons_succ, Nat.reduceAdd]; rfl) ⟨?_, ?_, ?_, ?_, ?_, ?_, ?_, ?_, ?_, ?_, ?_, ?_, ?_, ?_, ?_, ?_, ?_, ?_, ?_, ?_, ?_, ?_, ?_, ?_, ?_, ?_, ?_, ?_, ?_, ?_, ?_, ?_, ?_, ?_, ?_, ?_, ?_, trivial⟩ ?_
                        · exact .inl ⟨rfl, fun W hb => yields_move rfl rfl⟩
                        · exact .inl ⟨rfl, fun W hb => yields_bin rfl rfl rfl (eqGuard_ik W) (eql_ik W hf0.out)⟩
                        · exact .inl ⟨rfl, fun W hb => yields_move rfl rfl⟩
                        · exact .inl ⟨rfl, fun W hb => yields_move rfl rfl⟩
                        · exact .inl ⟨rfl, fun W hb => yields_move rfl rfl⟩
                        · exact .inl ⟨rfl, fun W hb => yields_indexAddr rfl rfl rfl (index_ev W hjq)⟩
                        · exact .inl ⟨rfl, fun W hb => yields_field rfl rfl (field_e3i W _ _)⟩
                        · exact .inl ⟨rfl, fun W hb => yields_field rfl rfl (field_p5 W _ _)⟩
                        · exact .inl ⟨rfl, fun W hb => yields_load rfl rfl (load_dtr (range_ref (range_below hry hb hby) hy16))⟩
                        · exact .inl ⟨rfl, fun W hb => yields_move rfl rfl⟩
                        · exact .inl ⟨rfl, fun W hb => yields_move rfl rfl⟩
                        · exact .inl ⟨rfl, fun W hb => yields_indexAddr rfl rfl rfl (index_ev W hlt)⟩
                        · exact .inl ⟨rfl, fun W hb => yields_field rfl rfl (field_e0 W _ _)⟩
                        · exact .inl ⟨rfl, fun W hb => yields_load rfl rfl (load_dt (range_below hru hb hbu))⟩
                        · exact .inl ⟨rfl, fun W hb => yields_bin rfl rfl rfl (eqGuard_dt W _ _ _ _) (eql_dt W hqd.out)⟩
                        · exact .inl ⟨rfl, fun W hb => yields_pick rfl rfl rfl⟩
                        · exact .inl ⟨rfl, fun W hb => yields_move rfl rfl⟩
                        · exact .inl ⟨rfl, fun W hb => yields_move rfl rfl⟩
                        · exact .inl ⟨rfl, fun W hb => yields_move rfl rfl⟩
                        · exact .inl ⟨rfl, fun W hb => yields_indexAddr rfl rfl rfl (index_ev W hjq)⟩
                        · exact .inl ⟨rfl, fun W hb => yields_load rfl rfl (load_part (range_below hry hb hby) hy16)⟩
                        · exact .inl ⟨rfl, fun W hb => yields_move rfl rfl⟩
                        · exact .inl ⟨rfl, fun W hb => yields_move rfl rfl⟩
                        · exact .inl ⟨rfl, fun W hb => yields_indexAddr rfl rfl rfl (index_ev W hlt)⟩
                        · exact .inl ⟨rfl, fun W hb => yields_load rfl rfl (load_part (range_below hru hb hbu) hu16)⟩
                        · exact .inl ⟨rfl, fun W hb => (by rw [← hlat.out]; exact yields_call (xs := [.tmp 87, .tmp 91]) (vs := [.agg (evc y), .agg (evc u)]) rfl rfl (enters_rlater _ _) (rlater_any y u W))⟩
                        · exact .inl ⟨rfl, fun W hb => yields_pick rfl rfl rfl⟩
                        · exact .inl ⟨rfl, fun W hb => yields_move rfl rfl⟩
                        · exact .inr ⟨rfl, rfl⟩
                        · exact .inr ⟨rfl, rfl⟩
                        · exact .inr ⟨rfl, rfl⟩
                        · exact .inr ⟨rfl, rfl⟩
                        · exact .inr ⟨rfl, rfl⟩
                        · exact .inr ⟨rfl, rfl⟩
                        · exact .inr ⟨rfl, rfl⟩
                        · exact .inr ⟨rfl, rfl⟩
                        · exact .inl ⟨rfl, fun W hb => yields_pick rfl rfl rfl⟩
                        intro W3 hb3
                        have HS4 : Aside (Below w4.heap.size w4 W3) := HJ2.out.trans (hb3.mono HJ2.out.size)
                        clear hb3 HJ2 hqd hlat hf0
                        go_wp2
                        go_roundg (q - (j + 1))
                        case measure => omega
                        case rel => exact ⟨j + 1, by go_num, by rw [hcnt.out] <;> rfl, rfl, by omega, Nat.le_refl _, HS4⟩
                    · have hqd : Hid (decide (y.rr = u.r ∧ y.rn = u.n) = false) := decide_eq_false hd
                      clear hd hf
                      go_upto_region 16 with (fail)
                      refine B.region_vals [67, 68, 69, 70, 71, 72, 73, 74, 75, 76, 77, 78, 79, 80, 81, 82, 83, 84, 85, 86, 87, 88, 89, 90, 91, 92, 93, 94, 95, 96, 97, 98, 99, 100, 101, 102, 103] [.int .i64 (f : Int), .bool true, .bool true, .slice (some ⟨b2, off2, none⟩) q c4, .int .i64 (j : Int), .pointer (some ⟨b2, off2 + j * 26, none⟩), .pointer (some ⟨b2, off2 + j * 26 + 19, none⟩), .pointer (some ⟨b2, off2 + j * 26 + 19 + 5, none⟩), .agg (dotc y.rr y.rn), .slice (some ⟨b, off, none⟩) m c, .int .i64 (i : Int), .pointer (some ⟨b, off + i * 26, none⟩), .pointer (some ⟨b, off + i * 26 + 0, none⟩), .agg (dotc u.r u.n), .bool false, .bool false, .bool false, undef, undef, undef, undef, undef, undef, undef, undef, undef, .bool false, .bool false, undef, undef, undef, undef, undef, undef, undef, undef, .bool false] _ (by kernel_rfl) (by kernel_rfl) (by rfl) (by decide) (by kernel_rfl) (by simp only [lay, Act.put, List.setIfInBounds_toArray, List.set_cons_zero, List.set_cons_succ, List.getD_cons_zero, List.getD_cons_succ, Nat.reduceAdd]; rfl) ⟨?_, ?_, ?_, ?_, ?_, ?_, ?_, ?_, ?_, ?_, ?_, ?_, ?_, ?_, ?_, ?_, ?_, ?_, ?_, ?_, ?_, ?_, ?_, ?_, ?_, ?_, ?_, ?_, ?_, ?_, ?_, ?_, ?_, ?_, ?_, ?_, ?_, trivial⟩ ?_
                      · exact .inl ⟨rfl, fun W hb => yields_move rfl rfl⟩
                      · exact .inl ⟨rfl, fun W hb => yields_bin rfl rfl rfl (eqGuard_ik W) (eql_ik W hf0.out)⟩
                      · exact .inl ⟨rfl, fun W hb => yields_move rfl rfl⟩
                      · exact .inl ⟨rfl, fun W hb => yields_move rfl rfl⟩
                      · exact .inl ⟨rfl, fun W hb => yields_move rfl rfl⟩
                      · exact .inl ⟨rfl, fun W hb => yields_indexAddr rfl rfl rfl (index_ev W hjq)⟩
                      · exact .inl ⟨rfl, fun W hb => yields_field rfl rfl (field_e3i W _ _)⟩
                      · exact .inl ⟨rfl, fun W hb => yields_field rfl rfl (field_p5 W _ _)⟩
                      · exact .inl ⟨rfl, fun W hb => yields_load rfl rfl (load_dtr (range_ref (range_below hry hb hby) hy16))⟩
                      · exact .inl ⟨rfl, fun W hb => yields_move rfl rfl⟩
                      · exact .inl ⟨rfl, fun W hb => yields_move rfl rfl⟩
                      · exact .inl ⟨rfl, fun W hb => yields_indexAddr rfl rfl rfl (index_ev W hlt)⟩
                      · exact .inl ⟨rfl, fun W hb => yields_field rfl rfl (field_e0 W _ _)⟩
                      · exact .inl ⟨rfl, fun W hb => yields_load rfl rfl (load_dt (range_below hru hb hbu))⟩
                      · exact .inl ⟨rfl, fun W hb => yields_bin rfl rfl rfl (eqGuard_dt W _ _ _ _) (eql_dt W hqd.out)⟩
                      · exact .inl ⟨rfl, fun W hb => yields_pick rfl rfl rfl⟩
                      · exact .inl ⟨rfl, fun W hb => yields_move rfl rfl⟩
                      · exact .inr ⟨rfl, rfl⟩
                      · exact .inr ⟨rfl, rfl⟩
                      · exact .inr ⟨rfl, rfl⟩
                      · exact .inr ⟨rfl, rfl⟩
                      · exact .inr ⟨rfl, rfl⟩
                      · exact .inr ⟨rfl, rfl⟩
                      · exact .inr ⟨rfl, rfl⟩
                      · exact .inr ⟨rfl, rfl⟩
                      · exact .inr ⟨rfl, rfl⟩
                      · exact .inl ⟨rfl, fun W hb => yields_pick rfl rfl rfl⟩
                      · exact .inl ⟨rfl, fun W hb => yields_move rfl rfl⟩
                      · exact .inr ⟨rfl, rfl⟩
                      · exact .inr ⟨rfl, rfl⟩
                      · exact .inr ⟨rfl, rfl⟩
                      · exact .inr ⟨rfl, rfl⟩
                      · exact .inr ⟨rfl, rfl⟩
                      · exact .inr ⟨rfl, rfl⟩
                      · exact .inr ⟨rfl, rfl⟩
                      · exact .inr ⟨rfl, rfl⟩
                      · exact .inl ⟨rfl, fun W hb => yields_pick rfl rfl rfl⟩
                      intro W3 hb3
                      have HS4 : Aside (Below w4.heap.size w4 W3) := HJ2.out.trans (hb3.mono HJ2.out.size)
                      clear hb3 HJ2 hqd hf0
                      go_wp2
                      go_roundg (q - (j + 1))
                      case measure => omega
                      case rel => exact ⟨j + 1, by go_num, by rw [hcnt.out] <;> rfl, rfl, by omega, Nat.le_refl _, HS4⟩
                  · have hf1 : Hid (decide ((f : Int) = 0) = false) := decide_eq_false (by omega)
                    go_upto_region 16 with (fail)
                    refine B.region_vals [67, 68, 69, 70, 71, 72, 73, 74, 75, 76, 77, 78, 79, 80, 81, 82, 83, 84, 85, 86, 87, 88, 89, 90, 91, 92, 93, 94, 95, 96, 97, 98, 99, 100, 101, 102, 103] [.int .i64 (f : Int), .bool false, .bool false, undef, undef, undef, undef, undef, undef, undef, undef, undef, undef, undef, undef, .bool false, .bool false, undef, undef, undef, undef, undef, undef, undef, undef, undef, .bool false, .bool false, undef, undef, undef, undef, undef, undef, undef, undef, .bool false] _ (by kernel_rfl) (by kernel_rfl) (by rfl) (by decide) (by kernel_rfl) (by simp only [lay, Act.put, List.setIfInBounds_toArray, List.set_cons_zero, List.set_cons_succ, List.getD_cons_zero, List.getD_cons_succ, Nat.reduceAdd]; rfl) ⟨?_, ?_, ?_, ?_, ?_, ?_, ?_, ?_, ?_, ?_, ?_, ?_, ?_, ?_, ?_, ?_, ?_, ?_, ?_, ?_, ?_, ?_, ?_, ?_, ?_, ?_, ?_, ?_, ?_, ?_, ?_, ?_, ?_, ?_, ?_, ?_, ?_, trivial⟩ ?_
                    · exact .inl ⟨rfl, fun W hb => yields_move rfl rfl⟩
                    · exact .inl ⟨rfl, fun W hb => yields_bin rfl rfl rfl (eqGuard_ik W) (eql_ik W hf1.out)⟩
                    · exact .inl ⟨rfl, fun W hb => yields_move rfl rfl⟩
                    · exact .inr ⟨rfl, rfl⟩
                    · exact .inr ⟨rfl, rfl⟩
                    · exact .inr ⟨rfl, rfl⟩
                    · exact .inr ⟨rfl, rfl⟩
                    · exact .inr ⟨rfl, rfl⟩
                    · exact .inr ⟨rfl, rfl⟩
                    · exact .inr ⟨rfl, rfl⟩
                    · exact .inr ⟨rfl, rfl⟩
                    · exact .inr ⟨rfl, rfl⟩
                    · exact .inr ⟨rfl, rfl⟩
                    · exact .inr ⟨rfl, rfl⟩
                    · exact .inr ⟨rfl, rfl⟩
                    · exact .inl ⟨rfl, fun W hb => yields_pick rfl rfl rfl⟩
                    · exact .inl ⟨rfl, fun W hb => yields_move rfl rfl⟩
                    · exact .inr ⟨rfl, rfl⟩
                    · exact .inr ⟨rfl, rfl⟩
                    · exact .inr ⟨rfl, rfl⟩
                    · exact .inr ⟨rfl, rfl⟩
                    · exact .inr ⟨rfl, rfl⟩
                    · exact .inr ⟨rfl, rfl⟩
                    · exact .inr ⟨rfl, rfl⟩
                    · exact .inr ⟨rfl, rfl⟩
                    · exact .inr ⟨rfl, rfl⟩
                    · exact .inl ⟨rfl, fun W hb => yields_pick rfl rfl rfl⟩
                    · exact .inl ⟨rfl, fun W hb => yields_move rfl rfl⟩
                    · exact .inr ⟨rfl, rfl⟩
                    · exact .inr ⟨rfl, rfl⟩
                    · exact .inr ⟨rfl, rfl⟩
                    · exact .inr ⟨rfl, rfl⟩
                    · exact .inr ⟨rfl, rfl⟩
                    · exact .inr ⟨rfl, rfl⟩
                    · exact .inr ⟨rfl, rfl⟩
                    · exact .inr ⟨rfl, rfl⟩
                    · exact .inl ⟨rfl, fun W hb => yields_pick rfl rfl rfl⟩
                    intro W3 hb3
                    have HS4 : Aside (Below w4.heap.size w4 W3) := HJ2.out.trans (hb3.mono HJ2.out.size)
                    clear hb3 HJ2 hf1
                    go_wp2
                    go_roundg (q - (j + 1))
                    case measure => omega
                    case rel => exact ⟨j + 1, by go_num, by rw [hcnt.out] <;> rfl, rfl, by omega, Nat.le_refl _, HS4⟩
              · obtain rfl : j = q := by omega
                have hjz : ¬ (j : Int) < (j : Int) := by omega
                have hone : Hid (cntTo A u j = 1) := cntTo_all HND.out (HMO.out u HUN.out) (by omega)
                rw [hone.out]
                have HS4 : Aside (Below w4.heap.size w4 wr) := HJ.out
                clear HJ hone
                go_wp2
                go_roundg (m - (i + 1))
                case measure => omega
                case rel => exact ⟨i + 1, by go_num, by rw [HN.out], by omega, Nat.le_refl _, HS4⟩
          · have hnn : Hid (nodeTo key E (i + 1) = nodeTo key E i) := by show _ = _; rw [HSN.out, node_no hk]; rfl
            clear HSN hr hui
            by_cases hk9 : u.kind = 9
            · rw [decide_eq_false (fun e => hk ⟨hk9, e⟩)] at hkb
              clear hk
              go_wp2
              go_roundg (m - (i + 1))
              case measure => omega
              case rel => exact ⟨i + 1, by go_num, by rw [hnn.out], by omega, Nat.le_refl _, HS⟩
            · clear hk hkb
              go_wp2
              go_roundg (m - (i + 1))
              case measure => omega
              case rel => exact ⟨i + 1, by go_num, by rw [hnn.out], by omega, Nat.le_refl _, HS⟩
        · obtain rfl : i = m := by omega
          have hltz : ¬ (i : Int) < (i : Int) := by omega
          have hnq : (nodeTo key E i).length = q := by rw [nodeTo_all (by omega)]; exact hql.out
          rw [hnq]
          have HB9 : Hid (Below w.heap.size w wr) := HS3.out.2.2.trans (HS.out.mono HS3.out.2.2.size)
          clear HS HS3 hnq
          go_wp2
          go_ret
          exact ⟨by simp, HB9.out⟩
end Go.Proofs.Ytagjgamigldjnaa
