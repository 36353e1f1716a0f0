/-
  What typeOf, latestType, ofKey and Type come to.
-/
import Derived.Test.YtmnhbkehicpohaaLal
namespace Go.Proofs.Ytmnhbkehicpohaa
set_option maxRecDepth 100000
open Go.RowKit

set_option maxHeartbeats 400000 in
theorem typeof_any (k : Int) (w : World) : Calls Try.prog 43 #[.int .i64 k] w fun e w' => e = .returned (.int .i64 (typE k)) ∧ w' = w := by
  unfold typE
  go_enter Try.func43, Try.ntmps43
  go_wp2
  all_goals
    go_ret
    refine ⟨?_, rfl⟩
    simp_all
theorem range_at {w : World} {b k : Nat} {e : Ev} (h : w.rangeAt b k (evl e)) (hl : e.deps.length = 16) (j : Nat) : w.cell? ⟨b, k + (19 + j), none⟩ = (opl e)[j]? ∨ (opl e)[j]? = none := by
  cases hj : (opl e)[j]? with
  | none => exact .inr rfl
  | some v => exact .inl (h (19 + j) v (by rw [evl_hi hl]; exact hj))
theorem range_kind {w : World} {b k : Nat} {e : Ev} (h : w.rangeAt b k (evl e)) (hl : e.deps.length = 16) : w.cell? ⟨b, k + 19, none⟩ = some (.int .i64 e.kind) := (range_at h hl 0).resolve_right (by simp [opl])
theorem range_key {w : World} {b k : Nat} {e : Ev} (h : w.rangeAt b k (evl e)) (hl : e.deps.length = 16) : w.cell? ⟨b, k + 20, none⟩ = some (.string (sb e.key)) := (range_at h hl 1).resolve_right (by simp [opl])
theorem range_field {w : World} {b k : Nat} {e : Ev} (h : w.rangeAt b k (evl e)) (hl : e.deps.length = 16) : w.cell? ⟨b, k + 21, none⟩ = some (.string (sb e.field)) := (range_at h hl 2).resolve_right (by simp [opl])
theorem last_at {S : List Ev} {k : Nat} {u : Ev} (hl : S.length = k + 1) (h : S[k]? = some u) : lastE S = typE u.kind := by
  unfold lastE
  rw [List.getLast?_eq_getElem?, hl, Nat.add_sub_cancel, h]
set_option maxHeartbeats 400000 in
theorem latest_any (ao : Option Addr) (m c : Nat) (S : List Ev) (w : World) (hE : Evs w ao m c S) (hm : m ≤ 1000) :
    Calls Try.prog 39 #[.slice ao m c] w fun e w' => e = .returned (.int .i64 (lastE S)) ∧ w' = w := by
  have hlen := hE.len
  cases m with
  | zero =>
    have hS : S = [] := List.eq_nil_of_length_eq_zero hlen
    subst hS
    clear hE
    go_enter Try.func39, Try.ntmps39
    go_wp2
    go_ret
    exact ⟨rfl, rfl⟩
  | succ k =>
    obtain ⟨b, off, u, rfl, hu, hw, hr, hb⟩ := hE.at (Nat.lt_succ_self k)
    have HL : Hid (lastE S = typE u.kind) := last_at hlen hu
    have ck := range_kind hr hw.1
    have hix := fun W : World => index_ev W (b := b) (off := off) (k := k) (m := k + 1) (c := c) (Nat.lt_succ_self k)
    have hne : ¬ ((k + 1 : Nat) : Int) = 0 := by omega
    clear hE hr
    go_enter Try.func39, Try.ntmps39
    go_wp2_with fail
    refine (typeof_any u.kind w).mono ?_
    rintro e w' ⟨rfl, rfl⟩
    clear ck
    go_wp2
    go_ret
    exact ⟨by rw [HL.out]; rfl, rfl⟩

def keyTo (key : List UInt8) (E : List Ev) (i : Nat) : List Ev := ofKeyE key (E.take i)
theorem keyTo_succ {key : List UInt8} {E : List Ev} {i : Nat} {u : Ev} (h : E[i]? = some u) : keyTo key E (i + 1) = if u.key = key then keyTo key E i ++ [u] else keyTo key E i := by
  unfold keyTo ofKeyE
  rw [take_snoc h, List.filter_append, List.filter_cons, List.filter_nil]
  by_cases hk : u.key = key <;> simp [hk]
theorem keyTo_len (key : List UInt8) (E : List Ev) (i : Nat) : (keyTo key E i).length ≤ i := by
  unfold keyTo ofKeyE
  have := List.length_filter_le (fun e => decide (e.key = key)) (E.take i)
  have := List.length_take_le i E
  omega
theorem sb_beq (a b : List UInt8) : ((sb a).toList == (sb b).toList) = decide (a = b) := by
  rw [ByteArray.toList_eq, ByteArray.toList_eq, data_sb, data_sb, Bool.eq_iff_iff]
  simp
set_option maxHeartbeats 4000000 in
theorem ofkey_any (ao : Option Addr) (m c : Nat) (E : List Ev) (key : List UInt8) (w : World) (hE : Evs w ao m c E) (hm : m ≤ 1000) :
    Calls Try.prog 40 #[.slice ao m c, .string (sb key)] w fun e w' => ∃ v, e = .returned v ∧ Row w' w.heap.size v (ofKeyE key E) ∧ Below w.heap.size w w' := by
  have hlen := hE.len
  have HE : Aside (Evs w ao m c E) := hE
  have H0 : Aside (Row w w.heap.size (.slice none 0 0) (keyTo key E 0) ∧ Below w.heap.size w w) := ⟨row_nil _ _, Below.refl _ _⟩
  clear hE
  go_enter Try.func40, Try.ntmps40
  go_wp2
  go_loopg [5, 10] m (fun kx s5 s10 wr => ∃ i : Nat, s10 = .int .i64 i ∧ i ≤ m ∧ m - i ≤ kx ∧ Aside (Row wr w.heap.size s5 (keyTo key E i) ∧ Below w.heap.size w wr))
  case atStart => exact ⟨0, rfl, Nat.zero_le _, by omega, H0⟩
  case round =>
    clear H0
    obtain ⟨i, rfl, him, hkx, HS⟩ := hrel
    by_cases hlt : i < m
    · have hltz : (i : Int) < (m : Int) := by omega
      obtain ⟨b, off, u, rfl, hui, hu, hr, hbl⟩ := (HE.out.below HS.out.2 (Nat.le_refl _)).at hlt
      have hu16 := hu.1
      have hix := fun W : World => index_ev W (b := b) (off := off) (k := i) (m := m) (c := c) hlt
      have hsz : w.heap.size ≤ wr.heap.size := HS.out.2.size
      have hz := liesE_new wr zv
      have hE1 : LiesE ((wr.alloc (.cells (evc zv) 30)).setRow wr.heap.size (evc u)) wr.heap.size u := hz.row u
      have hB1 : Below wr.heap.size wr ((wr.alloc (.cells (evc zv) 30)).setRow wr.heap.size (evc u)) := below_setRow ((Below.refl _ _).alloc (Nat.le_refl _) _) (Nat.le_refl _) _
      have HS1 : Aside (Row ((wr.alloc (.cells (evc zv) 30)).setRow wr.heap.size (evc u)) w.heap.size u5 (keyTo key E i) ∧ Below w.heap.size w ((wr.alloc (.cells (evc zv) 30)).setRow wr.heap.size (evc u)) ∧ LiesE ((wr.alloc (.cells (evc zv) 30)).setRow wr.heap.size (evc u)) wr.heap.size u) :=
        ⟨HS.out.1.below hB1 (Nat.le_refl _), HS.out.2.trans (hB1.mono hsz), hE1⟩
      clear hB1
      go_upto_region 5 with (first | refine load_ev_mid rfl rfl rfl hr hu16 ?_ | refine store_ev rfl rfl rfl rfl hz hu16 rfl ?_)
      change Code.wp _ _ _ _ ((wr.alloc (.cells (evc zv) 30)).setRow wr.heap.size (evc u))
      clear hE1 hz hr hix HS hbl
      generalize (wr.alloc (.cells (evc zv) 30)).setRow wr.heap.size (evc u) = W at HS1 ⊢
      generalize wr.heap.size = D at *
      have hE1 := HS1.out.2.2
      have c20 := hE1.c20 hu16
      have hkb := sb_beq u.key key
      by_cases hk : u.key = key
      · have HSN : Hid (keyTo key E (i + 1) = keyTo key E i ++ [u]) := by show _ = _; rw [keyTo_succ hui, if_pos hk]
        have hRow : Row (W.alloc (.cells (evc u) 30)) w.heap.size u5 (keyTo key E i) := HS1.out.1.below ((Below.refl _ _).alloc (Nat.le_refl _) _) (Nat.le_refl _)
        have hF : Evs (W.alloc (.cells (evc u) 30)) (some ⟨W.heap.size, 0, none⟩) 1 1 [u] := evs_single _ _ u hu (liesE_new W u)
        have hll := keyTo_len key E i
        have hle : w.heap.size ≤ (W.alloc (.cells (evc u) 30)).heap.size := by have := HS1.out.2.1.size; simp; omega
        have HB3 : Hid (Below w.heap.size w (W.alloc (.cells (evc u) 30))) := HS1.out.2.1.alloc HS1.out.2.1.size _
        rw [decide_eq_true hk] at hkb
        clear HS1 hk
        go_wp2_with (first | refine load_ev rfl rfl rfl hE1 hu16 ?_ | refine build_ev1 rfl rfl rfl hu16 ?_ | refine wpList_appE rfl _ _ rfl w.heap.size _ (keyTo key E i) rfl hRow _ 1 1 [u] rfl hF (by omega) hle ?_)
        intro v4 w4 hR4 hg4 ho4
        have HS4 : Aside (Row w4 w.heap.size v4 (keyTo key E (i + 1)) ∧ Below w.heap.size w w4) := ⟨by rw [HSN.out]; exact hR4, HB3.out.grown hg4 hle hRow.own⟩
        clear hR4 hg4 ho4 hRow hF hE1 HB3 HSN hll hle hkb c20
        go_wp2
        go_roundg (m - (i + 1))
        case measure => omega
        case rel => exact ⟨i + 1, by go_num, by omega, Nat.le_refl _, HS4⟩
      · have HS4 : Aside (Row W w.heap.size u5 (keyTo key E (i + 1)) ∧ Below w.heap.size w W) := ⟨by rw [keyTo_succ hui, if_neg hk]; exact HS1.out.1, HS1.out.2.1⟩
        rw [decide_eq_false hk] at hkb
        clear HS1 hk
        go_wp2
        go_roundg (m - (i + 1))
        case measure => omega
        case rel => exact ⟨i + 1, by go_num, by omega, Nat.le_refl _, HS4⟩
    · obtain rfl : i = m := by omega
      have HR : Hid (Row wr w.heap.size u5 (ofKeyE key E) ∧ Below w.heap.size w wr) := by
        have := HS.out
        rw [keyTo, List.take_of_length_le (by omega)] at this
        exact this
      clear HS
      go_wp2
      go_ret
      exact ⟨_, rfl, HR.out⟩
theorem evs_wide {w : World} {ao : Option Addr} {m c : Nat} {E : List Ev} (h : Evs w ao m c E) {F : List Ev} (hF : ∀ e ∈ F, e ∈ E) : ∀ e ∈ F, Wide e := fun e he => h.wide e (hF e he)
theorem mem_ofKey {key : List UInt8} {l : List Ev} {e : Ev} (h : e ∈ ofKeyE key l) : e ∈ l := (List.mem_filter.1 h).1
theorem mem_all {l : List Ev} {e : Ev} (h : e ∈ allE l) : e ∈ l := (all_mem.1 h).1
theorem ofKey_len (key : List UInt8) (l : List Ev) : (ofKeyE key l).length ≤ l.length := List.length_filter_le _ _
set_option maxHeartbeats 400000 in
theorem type_any (ao : Option Addr) (m c : Nat) (E : List Ev) (key : List UInt8) (w : World) (hE : Evs w ao m c E) (hm : m ≤ 1000) :
    Calls Try.prog 19 #[.slice ao m c, .string (sb key)] w fun e w' => e = .returned (.int .i64 (typeE E key)) ∧ Below w.heap.size w w' := by
  have hlen := hE.len
  have hw : Hid (∀ e ∈ E, Wide e) := hE.wide
  go_enter Try.func19, Try.ntmps19
  go_wp2_with fail
  refine (ofkey_any ao m c E key w hE hm).mono ?_
  rintro e w1 ⟨v1, rfl, hR1, hb1⟩
  obtain ⟨a1, c1, hv1, hE1⟩ := hR1.evs (fun e he => hw.out e (mem_ofKey he))
  subst hv1
  have hl1 := ofKey_len key E
  have HB1 : Hid (Below w.heap.size w w1) := hb1
  clear hE hb1 hR1
  go_wp2_with fail
  refine (all_any a1 _ c1 _ w1 hE1 (by omega)).mono ?_
  rintro e w2 ⟨v2, rfl, hR2, hb2⟩
  obtain ⟨a2, c2, hv2, hE2⟩ := hR2.evs (fun e he => hw.out e (mem_ofKey (mem_all he)))
  subst hv2
  have hl2 := all_length (ofKeyE key E)
  have HB2 : Hid (Below w.heap.size w w2) := HB1.out.trans (hb2.mono HB1.out.size)
  clear hE1 hb2 hR2 HB1
  go_wp2_with fail
  refine (latest_any a2 _ c2 _ w2 hE2 (by omega)).mono ?_
  rintro e w3 ⟨rfl, hw3⟩
  obtain rfl := hw3.symm
  have HT : Hid (lastE (allE (ofKeyE key E)) = typeE E key) := by show _ = _; rw [all_key]; rfl
  clear hE2 hw3
  go_wp2
  go_ret
  exact ⟨by rw [HT.out]; rfl, HB2.out⟩
end Go.Proofs.Ytmnhbkehicpohaa
