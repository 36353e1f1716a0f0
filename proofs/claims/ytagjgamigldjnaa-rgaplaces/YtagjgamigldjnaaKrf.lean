/-
  What the reference's nodes and parent come to.
-/
import Derived.Test.YtagjgamigldjnaaKit
namespace Go.Proofs.Ytagjgamigldjnaa
set_option maxRecDepth 100000
open Go.RowKit

theorem enters_rlater (xs : Array Value) (w : World) : (callFunc 19 xs).run Try.prog w = .ok (.enter 19 xs) w := enters Try.func19 (by kernel_rfl) (by kernel_rfl) xs w
theorem range_ref {w : World} {b k : Nat} {e : Ev} (h : w.rangeAt b k (evl e)) (hl : e.deps.length = 16) : w.rangeAt b (k + 19 + 5) (dotc e.rr e.rn).toList := fun j v hv => by
  have h5 : (evl e)[24 + j]? = some v := by
    rw [show 24 + j = 19 + (5 + j) by omega, evl_hi hl]
    match j, hv with
    | 0, hv => exact hv
    | 1, hv => exact hv
  have := h (24 + j) v h5
  rwa [show k + (24 + j) = k + 19 + 5 + j by omega] at this
theorem LiesD.range {w : World} {g : Nat} {r n : Int} (h : LiesD w g r n) : w.rangeAt g 0 (dotc r n).toList := fun j v hv => by
  match j, hv with
  | 0, hv => obtain rfl := Option.some.inj hv; exact h.cell0
  | 1, hv => obtain rfl := Option.some.inj hv; exact h.cell1
set_option maxHeartbeats 4000000 in
theorem rnodes_any (ao : Option Addr) (m c : Nat) (E : List Ev) (key : List UInt8) (w : World) (hE : Evs w ao m c E) (hm : m ≤ 1000) :
    Calls Try.prog 24 #[.slice ao m c, .string (sb key)] w fun e w' => ∃ v, e = .returned v ∧ Row w' w.heap.size v (nodesE key E) ∧ Below w.heap.size w w' := by
  have hlen := hE.len
  have HE : Aside (Evs w ao m c E) := hE
  have H0 : Aside (Row w w.heap.size (.slice none 0 0) (nodeTo key E 0) ∧ Below w.heap.size w w) := ⟨row_nil _ _, Below.refl _ _⟩
  clear hE
  go_enter Try.func24, Try.ntmps24
  go_wp2
  go_loopg [5, 9] m (fun kx s5 s9 wr => ∃ i : Nat, s9 = .int .i64 i ∧ i ≤ m ∧ m - i ≤ kx ∧ Aside (Row wr w.heap.size s5 (nodeTo key E i) ∧ Below w.heap.size w wr))
  case atStart => exact ⟨0, rfl, Nat.zero_le _, by omega, H0⟩
  case round =>
    clear H0
    obtain ⟨i, rfl, him, hkx, HS⟩ := hrel
    by_cases hlt : i < m
    · have hltz : (i : Int) < (m : Int) := by omega
      obtain ⟨b, off, u, rfl, hui, hu, hr, hbl⟩ := (HE.out.below HS.out.2 (Nat.le_refl _)).at hlt
      have hu16 := hu.1
      have hix := fun W : World => index_ev W (b := b) (off := off) (k := i) (m := m) (c := c) hlt
      have c19 := range_kind hr hu16
      have c20 := range_key hr hu16
      have hkb := sb_beq u.key key
      have HSN : Hid (nodeTo key E (i + 1) = if nodeE key u then nodeTo key E i ++ [u] else nodeTo key E i) := nodeTo_succ hui
      by_cases hk : u.kind = 9 ∧ u.key = key
      · have HN : Hid (nodeE key u = true) := node_yes hk.1 hk.2
        have hRow : Row (wr.alloc (.cells (evc u) 41)) w.heap.size u5 (nodeTo key E i) := HS.out.1.below ((Below.refl _ _).alloc (Nat.le_refl _) _) (Nat.le_refl _)
        have hF : Evs (wr.alloc (.cells (evc u) 41)) (some ⟨wr.heap.size, 0, none⟩) 1 1 [u] := evs_single _ _ u hu (liesE_new wr u)
        have hll := nodeTo_len key E i
        have hle : w.heap.size ≤ (wr.alloc (.cells (evc u) 41)).heap.size := by have := HS.out.2.size; simp; omega
        have HB3 : Hid (Below w.heap.size w (wr.alloc (.cells (evc u) 41))) := HS.out.2.alloc HS.out.2.size _
        rw [decide_eq_true hk.2] at hkb
        have hk9 : u.kind = 9 := hk.1
        clear HS hk hui
        go_wp2_with (first | refine load_ev_mid rfl rfl rfl hr hu16 ?_ | refine build_ev1 rfl rfl rfl hu16 ?_ | refine wpList_appE rfl _ _ rfl w.heap.size _ (nodeTo key E i) rfl hRow _ 1 1 [u] rfl hF (by omega) hle ?_)
        intro v4 w4 hR4 hg4 ho4
        have HS4 : Aside (Row w4 w.heap.size v4 (nodeTo key E (i + 1)) ∧ Below w.heap.size w w4) := ⟨by rw [HSN.out, HN.out]; exact hR4, HB3.out.grown hg4 hle hRow.own⟩
        clear hR4 hg4 ho4 hRow hF HB3 HSN HN hll hle hkb c20 c19 hk9 hr hix
        go_wp2
        go_roundg (m - (i + 1))
        case measure => omega
        case rel => exact ⟨i + 1, by go_num, by omega, Nat.le_refl _, HS4⟩
      · have HS4 : Aside (Row wr w.heap.size u5 (nodeTo key E (i + 1)) ∧ Below w.heap.size w wr) := ⟨by rw [HSN.out, node_no hk]; exact HS.out.1, HS.out.2⟩
        clear HS HSN hr hui
        by_cases hk9 : u.kind = 9
        · rw [decide_eq_false (fun e => hk ⟨hk9, e⟩)] at hkb
          clear hk
          go_wp2
          go_roundg (m - (i + 1))
          case measure => omega
          case rel => exact ⟨i + 1, by go_num, by omega, Nat.le_refl _, HS4⟩
        · clear hk hkb
          go_wp2
          go_roundg (m - (i + 1))
          case measure => omega
          case rel => exact ⟨i + 1, by go_num, by omega, Nat.le_refl _, HS4⟩
    · obtain rfl : i = m := by omega
      have HR : Hid (Row wr w.heap.size u5 (nodesE key E) ∧ Below w.heap.size w wr) := by
        have := HS.out
        rw [nodeTo_all (by omega)] at this
        exact this
      clear HS
      go_wp2
      go_ret
      exact ⟨_, rfl, HR.out⟩
set_option maxHeartbeats 4000000 in
theorem rparent_any (ao : Option Addr) (m c : Nat) (N : List Ev) (i : Nat) (him : i < m) (w0 : World) (hE : Evs w0 ao m c N) (hm : m ≤ 1000) :
    Calls Try.prog 32 #[.slice ao m c, .int .i64 (i : Int)] w0 fun e w' => e = .returned (.int .i64 (pz (parI N (atN N i)))) ∧ Below w0.heap.size w0 w' := by
  have hlen := hE.len
  have hZ0 : LiesD (w0.alloc (.cells (dotc 0 0) 26)) w0.heap.size 0 0 := heap_alloc_new w0 _
  have hZ : LiesD ((w0.alloc (.cells (dotc 0 0) 26)).setRow w0.heap.size (dotc 0 0)) w0.heap.size 0 0 := hZ0.row 0 0
  have hB1 : Below w0.heap.size w0 ((w0.alloc (.cells (dotc 0 0) 26)).setRow w0.heap.size (dotc 0 0)) := below_setRow ((Below.refl _ _).alloc (Nat.le_refl _) _) (Nat.le_refl _) _
  have hE1 := hE.below hB1 (Nat.le_refl _)
  obtain ⟨b, off, u, rfl, hui, hu, hru, hbl⟩ := hE1.at him
  have hu16 := hu.1
  have hat : Hid (atN N i = u) := atN_get hui
  have HB1 : Hid (Below w0.heap.size w0 ((w0.alloc (.cells (dotc 0 0) 26)).setRow w0.heap.size (dotc 0 0))) := hB1
  have HE1 : Aside (Evs ((w0.alloc (.cells (dotc 0 0) 26)).setRow w0.heap.size (dotc 0 0)) (some ⟨b, off, none⟩) m c N) := hE1
  have hz3 : Hid (i < m) := him
  clear hE hB1 hE1 hui
  go_enter Try.func32, Try.ntmps32
  go_upto_region 2 with (refine store_dot rfl rfl rfl rfl hZ0 ?_)
  change Code.wp _ _ _ _ ((w0.alloc (.cells (dotc 0 0) 26)).setRow w0.heap.size (dotc 0 0))
  generalize (w0.alloc (.cells (dotc 0 0) 26)).setRow w0.heap.size (dotc 0 0) = w at hZ hru hbl HB1 HE1 ⊢
  clear hZ0
  by_cases hr : u.rr = 0 ∧ u.rn = 0
  · have HA : Hid (parI N (atN N i) = none) := by show _ = _; rw [hat.out]; exact par_no (.inl (by unfold noRef; exact decide_eq_true hr))
    have hq2 : Hid (decide (u.rr = 0 ∧ u.rn = 0) = true) := decide_eq_true hr
    clear hr
    refine region_vals [8, 9, 10, 11, 12, 13, 14, 15] [.slice (some ⟨b, off, none⟩) m c, .int .i64 (i : Int), .pointer (some ⟨b, off + i * 26, none⟩), .pointer (some ⟨b, off + i * 26 + 19, none⟩), .pointer (some ⟨b, off + i * 26 + 19 + 5, none⟩), .agg (dotc u.rr u.rn), .agg (dotc 0 0), .bool true] _ (by kernel_rfl) (by kernel_rfl) (by rfl) (by decide) (by kernel_rfl) (by simp only [lay, Act.put, List.setIfInBounds_toArray, List.set_cons_zero, List.set_cons_succ, List.getD_cons_zero, List.getD_cons_succ, Nat.reduceAdd]; rfl) ⟨?_, ?_, ?_, ?_, ?_, ?_, ?_, ?_, trivial⟩ ?_
    · exact .inl ⟨rfl, fun W hb => yields_move rfl rfl⟩
    · exact .inl ⟨rfl, fun W hb => yields_move rfl rfl⟩
    · exact .inl ⟨rfl, fun W hb => yields_indexAddr rfl rfl rfl (index_ev W him)⟩
    · exact .inl ⟨rfl, fun W hb => yields_field rfl rfl (field_e3i W _ _)⟩
    · exact .inl ⟨rfl, fun W hb => yields_field rfl rfl (field_p5 W _ _)⟩
    · exact .inl ⟨rfl, fun W hb => yields_load rfl rfl (load_dtr (range_ref (range_below hru hb hbl) hu16))⟩
    · exact .inl ⟨rfl, fun W hb => yields_load rfl rfl (load_dtr (hZ.below hb hZ.lt).range)⟩
    · exact .inl ⟨rfl, fun W hb => yields_bin rfl rfl rfl (eqGuard_dt W _ _ _ _) (eql_dt W hq2.out)⟩
    intro W1 hb1
    have HB2 : Hid (Below w0.heap.size w0 W1) := HB1.out.trans (hb1.mono HB1.out.size)
    clear hb1 hZ hru hq2 HB1 HE1
    go_wp2
    go_ret
    exact ⟨by rw [HA.out]; rfl, HB2.out⟩
  · have hnr : Hid (noRef u = false) := by show _ = _; unfold noRef; exact decide_eq_false hr
    have hq2 : Hid (decide (u.rr = 0 ∧ u.rn = 0) = false) := decide_eq_false hr
    clear hr
    refine region_vals [8, 9, 10, 11, 12, 13, 14, 15] [.slice (some ⟨b, off, none⟩) m c, .int .i64 (i : Int), .pointer (some ⟨b, off + i * 26, none⟩), .pointer (some ⟨b, off + i * 26 + 19, none⟩), .pointer (some ⟨b, off + i * 26 + 19 + 5, none⟩), .agg (dotc u.rr u.rn), .agg (dotc 0 0), .bool false] _ (by kernel_rfl) (by kernel_rfl) (by rfl) (by decide) (by kernel_rfl) (by simp only [lay, Act.put, List.setIfInBounds_toArray, List.set_cons_zero, List.set_cons_succ, List.getD_cons_zero, List.getD_cons_succ, Nat.reduceAdd]; rfl) ⟨?_, ?_, ?_, ?_, ?_, ?_, ?_, ?_, trivial⟩ ?_
    · exact .inl ⟨rfl, fun W hb => yields_move rfl rfl⟩
    · exact .inl ⟨rfl, fun W hb => yields_move rfl rfl⟩
    · exact .inl ⟨rfl, fun W hb => yields_indexAddr rfl rfl rfl (index_ev W him)⟩
    · exact .inl ⟨rfl, fun W hb => yields_field rfl rfl (field_e3i W _ _)⟩
    · exact .inl ⟨rfl, fun W hb => yields_field rfl rfl (field_p5 W _ _)⟩
    · exact .inl ⟨rfl, fun W hb => yields_load rfl rfl (load_dtr (range_ref (range_below hru hb hbl) hu16))⟩
    · exact .inl ⟨rfl, fun W hb => yields_load rfl rfl (load_dtr (hZ.below hb hZ.lt).range)⟩
    · exact .inl ⟨rfl, fun W hb => yields_bin rfl rfl rfl (eqGuard_dt W _ _ _ _) (eql_dt W hq2.out)⟩
    intro W1 hb1
    have H0 : Aside (Below w0.heap.size w0 W1 ∧ Below w.heap.size w W1 ∧ ∀ j, j < 0 → canPar u (atN N j) = false) := ⟨HB1.out.trans (hb1.mono HB1.out.size), hb1, fun j hj => by omega⟩
    clear hb1 hZ hq2
    go_wp2
    go_loopg [18] m (fun kx s18 wr => ∃ k : Nat, s18 = .int .i64 k ∧ k ≤ m ∧ m - k ≤ kx ∧ Aside (Below w0.heap.size w0 wr ∧ Below w.heap.size w wr ∧ ∀ j, j < k → canPar u (atN N j) = false))
    case atStart => exact ⟨0, rfl, Nat.zero_le _, by omega, H0⟩
    case round =>
      clear H0
      obtain ⟨k, rfl, hkm', hkx, HS⟩ := hrel
      by_cases hkm : k < m
      · have hltz : (k : Int) < (m : Int) := by omega
        obtain ⟨b', off', x, hao, hxk, hx, hrx, hbx⟩ := (HE1.out.below HS.out.2.1 (Nat.le_refl _)).at hkm
        obtain ⟨rfl, rfl⟩ : b = b' ∧ off = off' := by simpa using hao
        have hx16 := hx.1
        have hru2 := range_below hru HS.out.2.1 hbl
        have hbu2 : b < wr.heap.size := hbx
        have hatx : Hid (atN N k = x) := atN_get hxk
        clear hao hxk
        by_cases hd : x.r = u.rr ∧ x.n = u.rn
        · have hq3 : Hid (decide (x.r = u.rr ∧ x.n = u.rn) = true) := decide_eq_true hd
          go_upto_region 7 with (fail)
          refine region_vals [21, 22, 23, 24, 25, 26, 27, 28, 29, 30, 31, 32, 33, 34, 35, 36, 37, 38, 39, 40, 41, 42, 43] [.slice (some ⟨b, off, none⟩) m c, .int .i64 (k : Int), .pointer (some ⟨b, off + k * 26, none⟩), .pointer (some ⟨b, off + k * 26 + 0, none⟩), .agg (dotc x.r x.n), .slice (some ⟨b, off, none⟩) m c, .int .i64 (i : Int), .pointer (some ⟨b, off + i * 26, none⟩), .pointer (some ⟨b, off + i * 26 + 19, none⟩), .pointer (some ⟨b, off + i * 26 + 19 + 5, none⟩), .agg (dotc u.rr u.rn), .bool true, .bool true, .slice (some ⟨b, off, none⟩) m c, .int .i64 (i : Int), .pointer (some ⟨b, off + i * 26, none⟩), .agg (evc u), .slice (some ⟨b, off, none⟩) m c, .int .i64 (k : Int), .pointer (some ⟨b, off + k * 26, none⟩), .agg (evc x), .bool (laterE u x), .bool (laterE u x)] _ (by kernel_rfl) (by kernel_rfl) (by rfl) (by decide) (by kernel_rfl) (by simp only [lay, Act.put, List.setIfInBounds_toArray, List.set_cons_zero, List.set_cons_succ, List.getD_cons_zero, List.getD_cons_succ, Nat.reduceAdd]; rfl) ⟨?_, ?_, ?_, ?_, ?_, ?_, ?_, ?_, ?_, ?_, ?_, ?_, ?_, ?_, ?_, ?_, ?_, ?_, ?_, ?_, ?_, ?_, ?_, trivial⟩ ?_
          · exact .inl ⟨rfl, fun W hb => yields_move rfl rfl⟩
          · exact .inl ⟨rfl, fun W hb => yields_move rfl rfl⟩
          · exact .inl ⟨rfl, fun W hb => yields_indexAddr rfl rfl rfl (index_ev W hkm)⟩
          · exact .inl ⟨rfl, fun W hb => yields_field rfl rfl (field_e0 W _ _)⟩
          · exact .inl ⟨rfl, fun W hb => yields_load rfl rfl (load_dt (range_below hrx hb hbx))⟩
          · exact .inl ⟨rfl, fun W hb => yields_move rfl rfl⟩
          · exact .inl ⟨rfl, fun W hb => yields_move rfl rfl⟩
          · exact .inl ⟨rfl, fun W hb => yields_indexAddr rfl rfl rfl (index_ev W him)⟩
          · exact .inl ⟨rfl, fun W hb => yields_field rfl rfl (field_e3i W _ _)⟩
          · exact .inl ⟨rfl, fun W hb => yields_field rfl rfl (field_p5 W _ _)⟩
          · exact .inl ⟨rfl, fun W hb => yields_load rfl rfl (load_dtr (range_ref (range_below hru2 hb hbu2) hu16))⟩
          · exact .inl ⟨rfl, fun W hb => yields_bin rfl rfl rfl (eqGuard_dt W _ _ _ _) (eql_dt W hq3.out)⟩
          · exact .inl ⟨rfl, fun W hb => yields_move rfl rfl⟩
          · exact .inl ⟨rfl, fun W hb => yields_move rfl rfl⟩
          · exact .inl ⟨rfl, fun W hb => yields_move rfl rfl⟩
          · exact .inl ⟨rfl, fun W hb => yields_indexAddr rfl rfl rfl (index_ev W him)⟩
          · exact .inl ⟨rfl, fun W hb => yields_load rfl rfl (load_part (range_below hru2 hb hbu2) hu16)⟩
          · exact .inl ⟨rfl, fun W hb => yields_move rfl rfl⟩
          · exact .inl ⟨rfl, fun W hb => yields_move rfl rfl⟩
          · exact .inl ⟨rfl, fun W hb => yields_indexAddr rfl rfl rfl (index_ev W hkm)⟩
          · exact .inl ⟨rfl, fun W hb => yields_load rfl rfl (load_part (range_below hrx hb hbx) hx16)⟩
          · exact .inl ⟨rfl, fun W hb => yields_call (xs := [.tmp 37, .tmp 41]) (vs := [.agg (evc u), .agg (evc x)]) rfl rfl (enters_rlater _ _) (rlater_any u x W)⟩
          · exact .inl ⟨rfl, fun W hb => yields_pick rfl rfl rfl⟩
          intro W2 hb2
          have HS2 : Aside (Below w0.heap.size w0 W2 ∧ Below w.heap.size w W2 ∧ ∀ j, j < k → canPar u (atN N j) = false) := ⟨HS.out.1.trans (hb2.mono HS.out.1.size), HS.out.2.1.trans (hb2.mono HS.out.2.1.size), HS.out.2.2⟩
          clear hb2 HS hq3 hrx hru2
          rcases Bool.eq_false_or_eq_true (laterE u x) with hl | hl
          · rw [hl]
            have HA : Hid (parI N (atN N i) = some k ∧ Below w0.heap.size w0 W2) := ⟨by rw [hat.out]; exact par_is hnr.out (by omega) (by rw [hatx.out]; exact can_iff.2 ⟨hd, hl⟩) HS2.out.2.2, HS2.out.1⟩
            clear HS2 hl hd
            go_wp2
            go_ret
            exact ⟨by rw [HA.out.1]; rfl, HA.out.2⟩
          · rw [hl]
            have HS3 : Aside (Below w0.heap.size w0 W2 ∧ Below w.heap.size w W2 ∧ ∀ j, j < k + 1 → canPar u (atN N j) = false) := ⟨HS2.out.1, HS2.out.2.1, fun j hj => by
              by_cases e : j = k
              · subst e
                rw [hatx.out]
                unfold canPar
                rw [hl, Bool.and_false]
              · exact HS2.out.2.2 j (by omega)⟩
            clear HS2 hl hd
            go_wp2
            go_roundg (m - (k + 1))
            case measure => omega
            case rel => exact ⟨k + 1, by go_num, by omega, Nat.le_refl _, HS3⟩
        · have hq3 : Hid (decide (x.r = u.rr ∧ x.n = u.rn) = false) := decide_eq_false hd
          go_upto_region 7 with (fail)
          refine region_vals [21, 22, 23, 24, 25, 26, 27, 28, 29, 30, 31, 32, 33, 34, 35, 36, 37, 38, 39, 40, 41, 42, 43] [.slice (some ⟨b, off, none⟩) m c, .int .i64 (k : Int), .pointer (some ⟨b, off + k * 26, none⟩), .pointer (some ⟨b, off + k * 26 + 0, none⟩), .agg (dotc x.r x.n), .slice (some ⟨b, off, none⟩) m c, .int .i64 (i : Int), .pointer (some ⟨b, off + i * 26, none⟩), .pointer (some ⟨b, off + i * 26 + 19, none⟩), .pointer (some ⟨b, off + i * 26 + 19 + 5, none⟩), .agg (dotc u.rr u.rn), .bool false, .bool false, undef, undef, undef, undef, undef, undef, undef, undef, undef, .bool false] _ (by kernel_rfl) (by kernel_rfl) (by rfl) (by decide) (by kernel_rfl) (by simp only [lay, Act.put, List.setIfInBounds_toArray, List.set_cons_zero, List.set_cons_succ, List.getD_cons_zero, List.getD_cons_succ, Nat.reduceAdd]; rfl) ⟨?_, ?_, ?_, ?_, ?_, ?_, ?_, ?_, ?_, ?_, ?_, ?_, ?_, ?_, ?_, ?_, ?_, ?_, ?_, ?_, ?_, ?_, ?_, trivial⟩ ?_
          · exact .inl ⟨rfl, fun W hb => yields_move rfl rfl⟩
          · exact .inl ⟨rfl, fun W hb => yields_move rfl rfl⟩
          · exact .inl ⟨rfl, fun W hb => yields_indexAddr rfl rfl rfl (index_ev W hkm)⟩
          · exact .inl ⟨rfl, fun W hb => yields_field rfl rfl (field_e0 W _ _)⟩
          · exact .inl ⟨rfl, fun W hb => yields_load rfl rfl (load_dt (range_below hrx hb hbx))⟩
          · exact .inl ⟨rfl, fun W hb => yields_move rfl rfl⟩
          · exact .inl ⟨rfl, fun W hb => yields_move rfl rfl⟩
          · exact .inl ⟨rfl, fun W hb => yields_indexAddr rfl rfl rfl (index_ev W him)⟩
          · exact .inl ⟨rfl, fun W hb => yields_field rfl rfl (field_e3i W _ _)⟩
          · exact .inl ⟨rfl, fun W hb => yields_field rfl rfl (field_p5 W _ _)⟩
          · exact .inl ⟨rfl, fun W hb => yields_load rfl rfl (load_dtr (range_ref (range_below hru2 hb hbu2) hu16))⟩
          · exact .inl ⟨rfl, fun W hb => yields_bin rfl rfl rfl (eqGuard_dt W _ _ _ _) (eql_dt W hq3.out)⟩
          · exact .inl ⟨rfl, fun W hb => yields_move rfl rfl⟩
          · exact .inr ⟨rfl, rfl⟩
          · exact .inr ⟨rfl, rfl⟩
          · exact .inr ⟨rfl, rfl⟩
          · exact .inr ⟨rfl, rfl⟩
          · exact .inr ⟨rfl, rfl⟩
          · exact .inr ⟨rfl, rfl⟩
          · exact .inr ⟨rfl, rfl⟩
          · exact .inr ⟨rfl, rfl⟩
          · exact .inr ⟨rfl, rfl⟩
          · exact .inl ⟨rfl, fun W hb => yields_pick rfl rfl rfl⟩
          intro W2 hb2
          have HS3 : Aside (Below w0.heap.size w0 W2 ∧ Below w.heap.size w W2 ∧ ∀ j, j < k + 1 → canPar u (atN N j) = false) := ⟨HS.out.1.trans (hb2.mono HS.out.1.size), HS.out.2.1.trans (hb2.mono HS.out.2.1.size), fun j hj => by
            by_cases e : j = k
            · subst e
              rw [hatx.out]
              unfold canPar
              rw [decide_eq_false hd, Bool.false_and]
            · exact HS.out.2.2 j (by omega)⟩
          clear hb2 HS hq3 hrx hru2 hd
          go_wp2
          go_roundg (m - (k + 1))
          case measure => omega
          case rel => exact ⟨k + 1, by go_num, by omega, Nat.le_refl _, HS3⟩
      · obtain rfl : k = m := by omega
        have hltz : ¬ (k : Int) < (k : Int) := by omega
        have HA : Hid (parI N (atN N i) = none ∧ Below w0.heap.size w0 wr) := ⟨by rw [hat.out]; exact par_no (.inr (fun j hj => HS.out.2.2 j (by omega))), HS.out.1⟩
        clear HS
        go_wp2
        go_ret
        exact ⟨by rw [HA.out.1]; rfl, HA.out.2⟩
end Go.Proofs.Ytagjgamigldjnaa
