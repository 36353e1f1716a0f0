/-
  RgaLeaves: an event on which none hangs changes nothing in how the others stand.
-/
import Derived.Test.YtagjgamigldjnaaKro
namespace Go.Proofs.Ytagjgamigldjnaa
set_option maxRecDepth 100000
open Go.RowKit

def lvTo (E : List Ev) (x : Ev) (i : Nat) : List Ev := (E.take i).filter fun e => decide (e ≠ x)
theorem lvTo_succ {E : List Ev} {x u : Ev} {i : Nat} (h : E[i]? = some u) : lvTo E x (i + 1) = if u = x then lvTo E x i else lvTo E x i ++ [u] := by
  unfold lvTo
  rw [take_snoc h, List.filter_append, List.filter_cons, List.filter_nil]
  by_cases e : u = x <;> simp [e]
theorem lvTo_len (E : List Ev) (x : Ev) (i : Nat) : (lvTo E x i).length ≤ i := by
  unfold lvTo
  refine Nat.le_trans (List.length_filter_le _ _) ?_
  rw [List.length_take]
  omega
theorem unlike_place {E : List Ev} (h : Unlike E) {i k : Nat} {u x : Ev} (hi : E[i]? = some u) (hk : E[k]? = some x) : u = x ↔ i = k := by
  constructor
  · intro e
    subst e
    exact unlike_at h (List.getElem?_eq_some_iff.1 hi).1 (List.getElem?_eq_some_iff.1 hk).1 (by rw [atN_get hi, atN_get hk]; exact ⟨rfl, rfl⟩)
  · intro e
    subst e
    rw [hi] at hk
    exact Option.some.inj hk
theorem neq_evd (w : World) {e f : Ev} (he : e.deps.length = 16) (hf : f.deps.length = 16) : (binOp .neq 41 (.agg (evc e)) (.agg (evc f))).run Try.prog w = .ok (.bool (!decide (e = f))) w := by
  have h := run_equalIn_ev w 9996 e f he hf
  rw [same_dec] at h
  simp only [binOp]
  simp [Op.equal, Op.maxDepth, h]
set_option maxHeartbeats 4000000 in
theorem kleaves_walk (ao : Option Addr) (m c : Nat) (E : List Ev) (cut : Int) (hcut : (Lit.int .u64 cut).wf = true) (key : List UInt8) (w : World) (hE : Evs w ao m c E) :
    Calls Try.prog 6 #[.slice ao m c, .int .u64 cut, .string (sb key)] w fun e w' => e = .returned (.bool true) ∧ Below w.heap.size w w' := by
  have hcut' : Hid ((Lit.int .u64 cut).wf = true) := hcut
  clear hcut
  have HE : Aside (Evs w ao m c E) := hE
  have hwide : Hid (∀ e ∈ E, Wide e) := hE.wide
  have hlen := hE.len
  clear hE
  go_enter Try.func6, Try.ntmps6
  go_wp2_with fail
  refine (awake_any w).mono ?_
  rintro e w1 ⟨rfl, hb1⟩
  have hE1 := HE.out.below hb1 (Nat.le_refl _)
  have HB1 : Hid (Below w.heap.size w w1) := hb1
  clear hb1 HE
  go_wp2_with fail
  refine (few_any ao m c E w1 hE1).mono ?_
  rintro e w2 ⟨t, rfl, hfew, hw2⟩
  obtain rfl := hw2.symm
  clear hw2
  cases t with
  | false =>
    go_wp2_with fail
    refine (awake_any w1).mono ?_
    rintro e w3 ⟨rfl, hb3⟩
    have HB3 : Hid (Below w.heap.size w w3) := HB1.out.trans (hb3.mono HB1.out.size)
    clear hb3
    go_wp2
    go_ret
    exact ⟨rfl, HB3.out⟩
  | true =>
    have hm : m ≤ 60 := hfew rfl
    clear hfew
    go_wp2_with fail
    refine (unlike_any ao m c E w1 hE1 (by omega)).mono ?_
    rintro e w2 ⟨t, rfl, hun, hb2⟩
    have HE1 : Aside (Evs w2 ao m c E) := hE1.below hb2 (Nat.le_refl _)
    have HB2 : Hid (Below w.heap.size w w2) := HB1.out.trans (hb2.mono HB1.out.size)
    clear hb2 hE1 HB1
    cases t with
    | false =>
      go_wp2_with fail
      refine (awake_any w2).mono ?_
      rintro e w3 ⟨rfl, hb3⟩
      have HB3 : Hid (Below w.heap.size w w3) := HB2.out.trans (hb3.mono HB2.out.size)
      clear hb3
      go_wp2
      go_ret
      exact ⟨rfl, HB3.out⟩
    | true =>
      have HU : Hid (Unlike E) := hun rfl
      clear hun
      by_cases hm0 : m = 0
      · have hm0z : (m : Int) = 0 := by omega
        subst hm0
        go_wp2_with fail
        refine (awake_any w2).mono ?_
        rintro e w3 ⟨rfl, hb3⟩
        have HB3 : Hid (Below w.heap.size w w3) := HB2.out.trans (hb3.mono HB2.out.size)
        clear hb3
        go_wp2
        go_ret
        exact ⟨rfl, HB3.out⟩
      · have hm0z : ¬ (m : Int) = 0 := by omega
        have hm0b : ((m : Int) == 0) = false := beq_false_of_ne hm0z
        have hm1 : 0 < m := by omega
        obtain ⟨k, hk, hkm⟩ := cut_rem cut m hm1 hcut'.out
        obtain ⟨b, off, x, rfl, hxk, hx, hrx0, -⟩ := HE1.out.at hkm
        have hx16 := hx.1
        have H0 : Aside (Row w2 w2.heap.size (.slice none 0 0) (lvTo E x 0) ∧ Below w2.heap.size w2 w2 ∧ ∀ j y, j < 0 → E[j]? = some y → ¬ (y.rr = x.r ∧ y.rn = x.n)) := ⟨row_nil _ _, Below.refl _ _, fun j y hj => by omega⟩
        have HXK : Hid (E[k]? = some x) := hxk
        clear hxk hx hrx0 hcut'
        go_wp2
        go_loopg [8, 39] m (fun kx s8 s39 wr => ∃ i : Nat, s39 = .int .i64 i ∧ i ≤ m ∧ m - i ≤ kx ∧ Aside (Row wr w2.heap.size s8 (lvTo E x i) ∧ Below w2.heap.size w2 wr ∧ ∀ j y, j < i → E[j]? = some y → ¬ (y.rr = x.r ∧ y.rn = x.n)))
        case atStart => exact ⟨0, rfl, Nat.zero_le _, by omega, H0⟩
        case round =>
          clear H0 hk
          obtain ⟨i, rfl, him, hkx, HS⟩ := hrel
          by_cases hlt : i < m
          · have hltz : (i : Int) < (m : Int) := by omega
            have hE9 := HE1.out.below HS.out.2.1 (Nat.le_refl _)
            obtain ⟨b', off', u, hao, hui, hu, hr, hbl⟩ := hE9.at hlt
            obtain ⟨rfl, rfl⟩ : b = b' ∧ off = off' := by simpa using hao
            obtain ⟨b'', off'', x', hao', hxk', -, hrx, -⟩ := hE9.at hkm
            obtain ⟨rfl, rfl⟩ : b = b'' ∧ off = off'' := by simpa using hao'
            obtain rfl : x = x' := by rw [HXK.out] at hxk'; exact Option.some.inj hxk'
            have hu16 := hu.1
            clear hao hao' hxk' hE9
            by_cases hd : u.rr = x.r ∧ u.rn = x.n
            · have hq : Hid (decide (u.rr = x.r ∧ u.rn = x.n) = true) := decide_eq_true hd
              go_upto_region 8 with (fail)
              refine region_vals [42, 43, 44, 45, 46, 47, 48, 49, 50, 51, 52, 53] [.slice (some ⟨b, off, none⟩) m c, .int .i64 (i : Int), .pointer (some ⟨b, off + i * 26, none⟩), .pointer (some ⟨b, off + i * 26 + 19, none⟩), .pointer (some ⟨b, off + i * 26 + 19 + 5, none⟩), .agg (dotc u.rr u.rn), .slice (some ⟨b, off, none⟩) m c, .int .i64 (k : Int), .pointer (some ⟨b, off + k * 26, none⟩), .pointer (some ⟨b, off + k * 26 + 0, none⟩), .agg (dotc x.r x.n), .bool true] _ (by kernel_rfl) (by kernel_rfl) (by rfl) (by decide) (by kernel_rfl) (by simp only [lay, Act.put, List.setIfInBounds_toArray, List.set_cons_zero, List.set_cons_succ, List.getD_cons_zero, List.getD_cons_succ, Nat.reduceAdd]; rfl) ⟨?_, ?_, ?_, ?_, ?_, ?_, ?_, ?_, ?_, ?_, ?_, ?_, trivial⟩ ?_
              · exact .inl ⟨rfl, fun W hb => yields_move rfl rfl⟩
              · exact .inl ⟨rfl, fun W hb => yields_move rfl rfl⟩
              · exact .inl ⟨rfl, fun W hb => yields_indexAddr rfl rfl rfl (index_ev W hlt)⟩
              · exact .inl ⟨rfl, fun W hb => yields_field rfl rfl (field_e3i W _ _)⟩
              · exact .inl ⟨rfl, fun W hb => yields_field rfl rfl (field_p5 W _ _)⟩
              · exact .inl ⟨rfl, fun W hb => yields_load rfl rfl (load_dtr (range_ref (range_below hr hb hbl) hu16))⟩
              · exact .inl ⟨rfl, fun W hb => yields_move rfl rfl⟩
              · exact .inl ⟨rfl, fun W hb => yields_move rfl rfl⟩
              · exact .inl ⟨rfl, fun W hb => yields_indexAddr rfl rfl rfl (index_ev W hkm)⟩
              · exact .inl ⟨rfl, fun W hb => yields_field rfl rfl (field_e0 W _ _)⟩
              · exact .inl ⟨rfl, fun W hb => yields_load rfl rfl (load_dt (range_below hrx hb hbl))⟩
              · exact .inl ⟨rfl, fun W hb => yields_bin rfl rfl rfl (eqGuard_dt W _ _ _ _) (eql_dt W hq.out)⟩
              intro W2 hb2
              have HB9 : Hid (Below w.heap.size w W2) := HB2.out.trans ((HS.out.2.1.trans (hb2.mono HS.out.2.1.size)).mono HB2.out.size)
              clear hb2 HS hq hr hrx hui
              go_wp2
              go_ret
              exact ⟨rfl, HB9.out⟩
            · have hq : Hid (decide (u.rr = x.r ∧ u.rn = x.n) = false) := decide_eq_false hd
              have hik : (u = x) ↔ (i = k) := unlike_place HU.out hui HXK.out
              have hAll : Hid (∀ j y, j < i + 1 → E[j]? = some y → ¬ (y.rr = x.r ∧ y.rn = x.n)) := fun j y hj hy => by
                rcases Nat.lt_succ_iff_lt_or_eq.1 hj with h9 | h9
                · exact HS.out.2.2 j y h9 hy
                · subst h9
                  rw [hui] at hy
                  rw [← Option.some.inj hy]
                  exact hd
              have hsn : Hid (lvTo E x (i + 1) = if u = x then lvTo E x i else lvTo E x i ++ [u]) := lvTo_succ hui
              go_upto_region 8 with (fail)
              refine region_vals [42, 43, 44, 45, 46, 47, 48, 49, 50, 51, 52, 53] [.slice (some ⟨b, off, none⟩) m c, .int .i64 (i : Int), .pointer (some ⟨b, off + i * 26, none⟩), .pointer (some ⟨b, off + i * 26 + 19, none⟩), .pointer (some ⟨b, off + i * 26 + 19 + 5, none⟩), .agg (dotc u.rr u.rn), .slice (some ⟨b, off, none⟩) m c, .int .i64 (k : Int), .pointer (some ⟨b, off + k * 26, none⟩), .pointer (some ⟨b, off + k * 26 + 0, none⟩), .agg (dotc x.r x.n), .bool false] _ (by kernel_rfl) (by kernel_rfl) (by rfl) (by decide) (by kernel_rfl) (by simp only [lay, Act.put, List.setIfInBounds_toArray, List.set_cons_zero, List.set_cons_succ, List.getD_cons_zero, List.getD_cons_succ, Nat.reduceAdd]; rfl) ⟨?_, ?_, ?_, ?_, ?_, ?_, ?_, ?_, ?_, ?_, ?_, ?_, trivial⟩ ?_
              · exact .inl ⟨rfl, fun W hb => yields_move rfl rfl⟩
              · exact .inl ⟨rfl, fun W hb => yields_move rfl rfl⟩
              · exact .inl ⟨rfl, fun W hb => yields_indexAddr rfl rfl rfl (index_ev W hlt)⟩
              · exact .inl ⟨rfl, fun W hb => yields_field rfl rfl (field_e3i W _ _)⟩
              · exact .inl ⟨rfl, fun W hb => yields_field rfl rfl (field_p5 W _ _)⟩
              · exact .inl ⟨rfl, fun W hb => yields_load rfl rfl (load_dtr (range_ref (range_below hr hb hbl) hu16))⟩
              · exact .inl ⟨rfl, fun W hb => yields_move rfl rfl⟩
              · exact .inl ⟨rfl, fun W hb => yields_move rfl rfl⟩
              · exact .inl ⟨rfl, fun W hb => yields_indexAddr rfl rfl rfl (index_ev W hkm)⟩
              · exact .inl ⟨rfl, fun W hb => yields_field rfl rfl (field_e0 W _ _)⟩
              · exact .inl ⟨rfl, fun W hb => yields_load rfl rfl (load_dt (range_below hrx hb hbl))⟩
              · exact .inl ⟨rfl, fun W hb => yields_bin rfl rfl rfl (eqGuard_dt W _ _ _ _) (eql_dt W hq.out)⟩
              intro W2 hb2
              have HS2 : Aside (Row W2 w2.heap.size u8 (lvTo E x i) ∧ Below w2.heap.size w2 W2 ∧ ∀ j y, j < i + 1 → E[j]? = some y → ¬ (y.rr = x.r ∧ y.rn = x.n)) := ⟨HS.out.1.below hb2 (Nat.le_refl _), HS.out.2.1.trans (hb2.mono HS.out.2.1.size), hAll.out⟩
              have hr2 := range_below hr hb2 hbl
              clear hb2 HS hq hr hrx hui hAll
              by_cases he : i = k
              · subst he
                have HS4 : Aside (Row W2 w2.heap.size u8 (lvTo E x (i + 1)) ∧ Below w2.heap.size w2 W2 ∧ ∀ j y, j < i + 1 → E[j]? = some y → ¬ (y.rr = x.r ∧ y.rn = x.n)) := ⟨by rw [hsn.out, if_pos (hik.2 rfl)]; exact HS2.out.1, HS2.out.2.1, HS2.out.2.2⟩
                clear HS2 hik hsn hr2
                go_wp2
                go_roundg (m - (i + 1))
                case measure => omega
                case rel => exact ⟨i + 1, by go_num, by omega, Nat.le_refl _, HS4⟩
              · have hez : ¬ (i : Int) = (k : Int) := by omega
                have hix := fun W : World => index_ev W (b := b) (off := off) (k := i) (m := m) (c := c) hlt
                have hRow : Row (W2.alloc (.cells (evc u) 41)) w2.heap.size u8 (lvTo E x i) := HS2.out.1.below ((Below.refl _ _).alloc (Nat.le_refl _) _) (Nat.le_refl _)
                have hF : Evs (W2.alloc (.cells (evc u) 41)) (some ⟨W2.heap.size, 0, none⟩) 1 1 [u] := evs_single _ _ u hu (liesE_new W2 u)
                have hll := lvTo_len E x i
                have hle : w2.heap.size ≤ (W2.alloc (.cells (evc u) 41)).heap.size := by have := HS2.out.2.1.size; simp; omega
                have HB3 : Hid (Below w2.heap.size w2 (W2.alloc (.cells (evc u) 41)) ∧ ∀ j y, j < i + 1 → E[j]? = some y → ¬ (y.rr = x.r ∧ y.rn = x.n)) := ⟨HS2.out.2.1.alloc HS2.out.2.1.size _, HS2.out.2.2⟩
                have hsn2 : Hid (lvTo E x (i + 1) = lvTo E x i ++ [u]) := by show _ = _; rw [hsn.out, if_neg (fun e9 => he (hik.1 e9))]
                clear HS2 hik hsn he
                generalize lvTo E x i = R at *
                go_wp2_with (first | refine load_ev_mid rfl rfl rfl hr2 hu16 ?_ | refine build_ev1 rfl rfl rfl hu16 ?_ | refine wpList_appE rfl _ _ rfl w2.heap.size _ R rfl hRow _ 1 1 [u] rfl hF (by omega) hle ?_)
                intro v4 w4 hR4 hg4 ho4
                have HS4 : Aside (Row w4 w2.heap.size v4 (lvTo E x (i + 1)) ∧ Below w2.heap.size w2 w4 ∧ ∀ j y, j < i + 1 → E[j]? = some y → ¬ (y.rr = x.r ∧ y.rn = x.n)) := ⟨by rw [hsn2.out]; exact hR4, HB3.out.1.grown hg4 hle hRow.own, HB3.out.2⟩
                clear hR4 hg4 ho4 hRow hF HB3 hsn2 hll hle hr2 hix
                go_wp2
                go_roundg (m - (i + 1))
                case measure => omega
                case rel => exact ⟨i + 1, by go_num, by omega, Nat.le_refl _, HS4⟩
          · obtain rfl : i = m := by omega
            have hltz : ¬ (i : Int) < (i : Int) := by omega
            obtain ⟨w3, hw3⟩ : ∃ y : World, y = wr := ⟨_, rfl⟩
            subst hw3
            have HO : Hid (orderE key (E.filter fun e => decide (e ≠ x)) = (orderE key E).filter fun e => decide (e ≠ x)) := order_leaf HU.out (fun e he => by
              obtain ⟨j, hj⟩ := List.getElem?_of_mem he
              exact HS.out.2.2 j e (by have := (List.getElem?_eq_some_iff.1 hj).1; omega) hj)
            have HR : Aside (Row w3 w2.heap.size u8 (E.filter fun e => decide (e ≠ x)) ∧ Below w2.heap.size w2 w3) := by
              have := HS.out
              rw [lvTo, List.take_of_length_le (by omega)] at this
              exact ⟨this.1, this.2.1⟩
            clear HS
            obtain ⟨a3, c3, hv3, hE3⟩ := HR.out.1.evs (fun e he => hwide.out e (List.mem_filter.1 he).1)
            subst hv3
            have hol : (E.filter fun e => decide (e ≠ x)).length ≤ i := by rw [← hlen]; exact List.length_filter_le _ _
            have HS3 : Aside (Evs w3 (some ⟨b, off, none⟩) i c E ∧ Evs w3 a3 (E.filter fun e => decide (e ≠ x)).length c3 (E.filter fun e => decide (e ≠ x)) ∧ Below w.heap.size w w3) := ⟨HE1.out.below HR.out.2 (Nat.le_refl _), hE3, HB2.out.trans (HR.out.2.mono HB2.out.size)⟩
            clear HR hE3 HE1 HB2
            have HWT : Hid (∀ e ∈ (E.filter fun e => decide (e ≠ x)), Wide e) := fun e he => hwide.out e (List.mem_filter.1 he).1
            generalize (E.filter fun e => decide (e ≠ x)) = T at *
            generalize T.length = p at *
            go_wp2_with fail
            refine (order_any (some ⟨b, off, none⟩) i c E key w3 HS3.out.1 (by omega)).mono ?_
            rintro e w4 ⟨v4, rfl, hR4, hb4⟩
            have HWA : Hid (∀ e ∈ orderE key E, Wide e) := fun e he => hwide.out e (mem_nodes.1 (mem_orderE.1 he)).1
            obtain ⟨a4, c4, hv4, hE4⟩ := hR4.evs HWA.out
            subst hv4
            have HS4 : Aside (Evs w4 (some ⟨b, off, none⟩) i c E ∧ Evs w4 a3 p c3 T ∧ Below w.heap.size w w4 ∧ Evs w4 a4 (orderE key E).length c4 (orderE key E)) := ⟨HS3.out.1.below hb4 (Nat.le_refl _), HS3.out.2.1.below hb4 (Nat.le_refl _), HS3.out.2.2.trans (hb4.mono HS3.out.2.2.size), hE4⟩
            have hal : (orderE key E).length ≤ 60 := by rw [orderE_len]; have := nodes_len key E; omega
            clear hR4 hb4 hE4 HS3
            generalize hA : orderE key E = A at *
            clear hA
            have hAl : A.length = A.length := rfl
            generalize hq9 : A.length = q at *
            clear hAl
            have H0 : Aside (Row w4 w4.heap.size (.slice none 0 0) (lvTo A x 0) ∧ Below w4.heap.size w4 w4) := ⟨row_nil _ _, Below.refl _ _⟩
            go_wp2
            go_loopg [10, 70] q (fun kx s10 s70 wr => ∃ i : Nat, s70 = .int .i64 i ∧ i ≤ q ∧ q - i ≤ kx ∧ Aside (Row wr w4.heap.size s10 (lvTo A x i) ∧ Below w4.heap.size w4 wr))
            case atStart => exact ⟨0, rfl, Nat.zero_le _, by omega, H0⟩
            case round =>
              clear H0 hkx
              obtain ⟨m, hm9⟩ : ∃ m, m = i := ⟨_, rfl⟩
              subst hm9
              clear him
              obtain ⟨i, rfl, him, hkx, HS⟩ := hrel
              by_cases hlt : i < q
              · have hltz2 : (i : Int) < (q : Int) := by omega
                obtain ⟨b2, off2, u, rfl, hui, hu, hr, hbl⟩ := (HS4.out.2.2.2.below HS.out.2 (Nat.le_refl _)).at hlt
                obtain ⟨b'', off'', x', hao', hxk', -, hrx2, hbx2⟩ := (HS4.out.1.below HS.out.2 (Nat.le_refl _)).at hkm
                obtain ⟨rfl, rfl⟩ : b = b'' ∧ off = off'' := by simpa using hao'
                obtain rfl : x = x' := by rw [HXK.out] at hxk'; exact Option.some.inj hxk'
                have hu16 := hu.1
                have hsn : Hid (lvTo A x (i + 1) = if u = x then lvTo A x i else lvTo A x i ++ [u]) := lvTo_succ hui
                clear hao' hxk' hui
                go_upto_region 18 with (fail)
                refine region_vals [73, 74, 75, 76, 77, 78, 79, 80, 81] [.slice (some ⟨b2, off2, none⟩) q c4, .int .i64 (i : Int), .pointer (some ⟨b2, off2 + i * 26, none⟩), .agg (evc u), .slice (some ⟨b, off, none⟩) m c, .int .i64 (k : Int), .pointer (some ⟨b, off + k * 26, none⟩), .agg (evc x), .bool (!decide (u = x))] _ (by kernel_rfl) (by kernel_rfl) (by rfl) (by decide) (by kernel_rfl) (by simp only [lay, Act.put, List.setIfInBounds_toArray, List.set_cons_zero, List.set_cons_succ, List.getD_cons_zero, List.getD_cons_succ, Nat.reduceAdd]; rfl) ⟨?_, ?_, ?_, ?_, ?_, ?_, ?_, ?_, ?_, trivial⟩ ?_
                · exact .inl ⟨rfl, fun W hb => yields_move rfl rfl⟩
                · exact .inl ⟨rfl, fun W hb => yields_move rfl rfl⟩
                · exact .inl ⟨rfl, fun W hb => yields_indexAddr rfl rfl rfl (index_ev W hlt)⟩
                · exact .inl ⟨rfl, fun W hb => yields_load rfl rfl (load_part (range_below hr hb hbl) hu16)⟩
                · exact .inl ⟨rfl, fun W hb => yields_move rfl rfl⟩
                · exact .inl ⟨rfl, fun W hb => yields_move rfl rfl⟩
                · exact .inl ⟨rfl, fun W hb => yields_indexAddr rfl rfl rfl (index_ev W hkm)⟩
                · exact .inl ⟨rfl, fun W hb => yields_load rfl rfl (load_part (range_below hrx2 hb hbx2) hx16)⟩
                · exact .inl ⟨rfl, fun W hb => yields_bin rfl rfl rfl (eqGuard_ev W _ _) (neq_evd W hu16 hx16)⟩
                intro W2 hb2
                have HS2 : Aside (Row W2 w4.heap.size u10 (lvTo A x i) ∧ Below w4.heap.size w4 W2) := ⟨HS.out.1.below hb2 (Nat.le_refl _), HS.out.2.trans (hb2.mono HS.out.2.size)⟩
                have hr2 := range_below hr hb2 hbl
                clear hb2 HS hr hrx2
                by_cases he : u = x
                · have HS5 : Aside (Row W2 w4.heap.size u10 (lvTo A x (i + 1)) ∧ Below w4.heap.size w4 W2) := ⟨by rw [hsn.out, if_pos he]; exact HS2.out.1, HS2.out.2⟩
                  rw [decide_eq_true he]
                  clear HS2 he hsn hr2
                  go_wp2
                  go_roundg (q - (i + 1))
                  case measure => omega
                  case rel => exact ⟨i + 1, by go_num, by omega, Nat.le_refl _, HS5⟩
                · have hix := fun W : World => index_ev W (b := b2) (off := off2) (k := i) (m := q) (c := c4) hlt
                  have hRow : Row (W2.alloc (.cells (evc u) 41)) w4.heap.size u10 (lvTo A x i) := HS2.out.1.below ((Below.refl _ _).alloc (Nat.le_refl _) _) (Nat.le_refl _)
                  have hF : Evs (W2.alloc (.cells (evc u) 41)) (some ⟨W2.heap.size, 0, none⟩) 1 1 [u] := evs_single _ _ u hu (liesE_new W2 u)
                  have hll := lvTo_len A x i
                  have hle : w4.heap.size ≤ (W2.alloc (.cells (evc u) 41)).heap.size := by have := HS2.out.2.size; simp; omega
                  have HB3 : Hid (Below w4.heap.size w4 (W2.alloc (.cells (evc u) 41))) := HS2.out.2.alloc HS2.out.2.size _
                  have hsn2 : Hid (lvTo A x (i + 1) = lvTo A x i ++ [u]) := by show _ = _; rw [hsn.out, if_neg he]
                  rw [decide_eq_false he]
                  clear HS2 hsn he
                  generalize lvTo A x i = R at *
                  go_wp2_with (first | refine load_ev_mid rfl rfl rfl hr2 hu16 ?_ | refine build_ev1 rfl rfl rfl hu16 ?_ | refine wpList_appE rfl _ _ rfl w4.heap.size _ R rfl hRow _ 1 1 [u] rfl hF (by omega) hle ?_)
                  intro v5 w5 hR5 hg5 ho5
                  have HS5 : Aside (Row w5 w4.heap.size v5 (lvTo A x (i + 1)) ∧ Below w4.heap.size w4 w5) := ⟨by rw [hsn2.out]; exact hR5, HB3.out.grown hg5 hle hRow.own⟩
                  clear hR5 hg5 ho5 hRow hF HB3 hsn2 hll hle hr2 hix
                  go_wp2
                  go_roundg (q - (i + 1))
                  case measure => omega
                  case rel => exact ⟨i + 1, by go_num, by omega, Nat.le_refl _, HS5⟩
              · obtain rfl : i = q := by omega
                have hltz2 : ¬ (i : Int) < (i : Int) := by omega
                obtain ⟨w5, hw5⟩ : ∃ y : World, y = wr := ⟨_, rfl⟩
                subst hw5
                have HR : Aside (Row w5 w4.heap.size u10 (A.filter fun e => decide (e ≠ x)) ∧ Below w4.heap.size w4 w5) := by
                  have := HS.out
                  rw [lvTo, List.take_of_length_le (by omega)] at this
                  exact this
                clear HS
                obtain ⟨a5, c5, hv5, hE5⟩ := HR.out.1.evs (fun e he => HWA.out e (List.mem_filter.1 he).1)
                subst hv5
                have hfl : (A.filter fun e => decide (e ≠ x)).length ≤ i := by rw [← hq9]; exact List.length_filter_le _ _
                have HS6 : Aside (Evs w5 a3 p c3 T ∧ Below w.heap.size w w5 ∧ Evs w5 a5 (A.filter fun e => decide (e ≠ x)).length c5 (A.filter fun e => decide (e ≠ x))) := ⟨HS4.out.2.1.below HR.out.2 (Nat.le_refl _), HS4.out.2.2.1.trans (HR.out.2.mono HS4.out.2.2.1.size), hE5⟩
                clear HR hE5 HS4
                have HWF : Hid (∀ e ∈ (A.filter fun e => decide (e ≠ x)), Wide e) := fun e he => HWA.out e (List.mem_filter.1 he).1
                generalize (A.filter fun e => decide (e ≠ x)) = F at *
                go_wp2_with fail
                have hcon := order_any a3 p c3 T key w5 HS6.out.1 (by omega)
                rw [HO.out] at hcon
                refine hcon.mono ?_
                rintro e w6 ⟨v6, rfl, hR6, hb6⟩
                obtain ⟨a6, c6, hv6, hE6⟩ := hR6.evs HWF.out
                subst hv6
                have HS7 : Aside (Below w.heap.size w w6 ∧ Evs w6 a5 F.length c5 F ∧ Evs w6 a6 F.length c6 F) := ⟨HS6.out.2.1.trans (hb6.mono HS6.out.2.1.size), HS6.out.2.2.below hb6 (Nat.le_refl _), hE6⟩
                clear hR6 hb6 hE6 HS6 hcon
                go_wp2_with fail
                refine (same_yes a6 a5 _ c6 c5 F w6 HS7.out.2.2 HS7.out.2.1 (by omega)).mono ?_
                rintro e w7 ⟨rfl, hb7⟩
                have HB9 : Hid (Below w.heap.size w w7) := HS7.out.1.trans (hb7.mono HS7.out.1.size)
                clear hb7 HS7
                go_wp2
                go_ret
                exact ⟨rfl, HB9.out⟩
end Go.Proofs.Ytagjgamigldjnaa
