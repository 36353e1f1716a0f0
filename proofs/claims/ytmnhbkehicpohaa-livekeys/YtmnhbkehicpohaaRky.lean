/-
  What the reference's Key, Of, With and Keys come to.
-/
import Derived.Test.YtmnhbkehicpohaaRla
import Derived.Test.YtmnhbkehicpohaaLsa
import Derived.Test.YtmnhbkehicpohaaLdg
import Derived.Test.YtmnhbkehicpohaaLtx
import Derived.Test.YtmnhbkehicpohaaLtp
namespace Go.Proofs.Ytmnhbkehicpohaa
set_option maxRecDepth 100000
open Go.RowKit Go.Shelf Go.Sort

theorem last_key {S : List Ev} {i : Nat} {u : Ev} {key : List UInt8} (h : S[i]? = some u) : lastE (keyTo key S (i + 1)) = if u.key = key then typE u.kind else lastE (keyTo key S i) := by
  rw [keyTo_succ h]
  split
  · unfold lastE
    simp
  · rfl
set_option maxHeartbeats 1000000 in
theorem rkey_any (ao : Option Addr) (m c : Nat) (S : List Ev) (key : List UInt8) (w : World) (hE : Evs w ao m c S) (hm : m ≤ 1000) :
    Calls Try.prog 20 #[.slice ao m c, .string (sb key)] w fun e w' => e = .returned (.int .i64 (lastE (ofKeyE key S))) ∧ Below w.heap.size w w' := by
  have hlen := hE.len
  have HE : Aside (Evs w ao m c S) := hE
  clear hE
  go_enter Try.func20, Try.ntmps20
  go_wp2
  go_loopg [5, 9] m (fun kx s5 s9 wr => ∃ i : Nat, s9 = .int .i64 i ∧ s5 = .int .i64 (lastE (keyTo key S i)) ∧ i ≤ m ∧ m - i ≤ kx ∧ Aside (Below w.heap.size w wr))
  case atStart => exact ⟨0, rfl, rfl, Nat.zero_le _, by omega, Below.refl _ _⟩
  case round =>
    obtain ⟨i, rfl, rfl, him, hkx, HB⟩ := hrel
    by_cases hlt : i < m
    · have hltz : (i : Int) < (m : Int) := by omega
      obtain ⟨b, off, u, rfl, hui, hu, hr, hbl⟩ := (HE.out.below HB.out (Nat.le_refl _)).at hlt
      have hu16 := hu.1
      have hix := fun W : World => index_ev W (b := b) (off := off) (k := i) (m := m) (c := c) hlt
      have c20 := range_key hr hu16
      have c19 := range_kind hr hu16
      have hkb := sb_beq u.key key
      have HL : Hid (lastE (keyTo key S (i + 1)) = if u.key = key then typE u.kind else lastE (keyTo key S i)) := last_key hui
      by_cases hk : u.key = key
      · have HL2 : Hid (lastE (keyTo key S (i + 1)) = typE u.kind) := by show _ = _; rw [HL.out, if_pos hk]
        rw [decide_eq_true hk] at hkb
        clear hk HL hr
        go_wp2_with fail
        refine (rtype_any u.kind _).mono ?_
        rintro e w2 ⟨rfl, hb2⟩
        have HB2 : Aside (Below w.heap.size w w2) := HB.out.trans (hb2.mono HB.out.size)
        clear hb2 HB c19 c20 hkb
        go_wp2
        go_roundg (m - (i + 1))
        case measure => omega
        case rel => exact ⟨i + 1, by go_num, by rw [HL2.out], by omega, Nat.le_refl _, HB2⟩
      · have HL2 : Hid (lastE (keyTo key S (i + 1)) = lastE (keyTo key S i)) := by show _ = _; rw [HL.out, if_neg hk]
        rw [decide_eq_false hk] at hkb
        clear hk HL hr c19
        go_wp2
        go_roundg (m - (i + 1))
        case measure => omega
        case rel => exact ⟨i + 1, by go_num, by rw [HL2.out], by omega, Nat.le_refl _, HB⟩
    · obtain rfl : m = i := by omega
      have HR : Hid (lastE (keyTo key S m) = lastE (ofKeyE key S)) := by show _ = _; rw [keyTo, List.take_of_length_le (by omega)]
      go_wp2
      go_ret
      exact ⟨by rw [HR.out]; rfl, HB.out⟩

def ofTo (S : List Ev) (key : List UInt8) (t : Int) (i : Nat) : List Ev := (keyTo key S i).filter fun e => decide (typE e.kind = t)
def ofL (S : List Ev) (key : List UInt8) : List Ev := (ofKeyE key S).filter fun e => decide (typE e.kind = lastE (ofKeyE key S))
theorem ofTo_succ {S : List Ev} {i : Nat} {u : Ev} {key : List UInt8} {t : Int} (h : S[i]? = some u) : ofTo S key t (i + 1) = if u.key = key ∧ typE u.kind = t then ofTo S key t i ++ [u] else ofTo S key t i := by
  unfold ofTo
  rw [keyTo_succ h]
  by_cases hk : u.key = key
  · rw [if_pos hk, List.filter_append]
    by_cases ht : typE u.kind = t
    · rw [if_pos ⟨hk, ht⟩]
      simp [ht]
    · rw [if_neg (fun h => ht h.2)]
      simp [ht]
  · rw [if_neg hk, if_neg (fun h => hk h.1)]
theorem ofTo_len (S : List Ev) (key : List UInt8) (t : Int) (i : Nat) : (ofTo S key t i).length ≤ i := Nat.le_trans (List.length_filter_le _ _) (keyTo_len key S i)
set_option maxHeartbeats 1000000 in
theorem rof_any (ao : Option Addr) (m c : Nat) (S : List Ev) (key : List UInt8) (w : World) (hE : Evs w ao m c S) (hm : m ≤ 1000) :
    Calls Try.prog 22 #[.slice ao m c, .string (sb key)] w fun e w' => ∃ v, e = .returned v ∧ Row w' w.heap.size v (ofL S key) ∧ Below w.heap.size w w' := by
  have hlen := hE.len
  have HE : Aside (Evs w ao m c S) := hE
  clear hE
  go_enter Try.func22, Try.ntmps22
  go_wp2_with fail
  refine (rkey_any ao m c S key w HE.out hm).mono ?_
  rintro e w1 ⟨rfl, hb1⟩
  have H0 : Aside (Row w1 w.heap.size (.slice none 0 0) (ofTo S key (lastE (ofKeyE key S)) 0) ∧ Below w.heap.size w w1) := ⟨row_nil _ _, hb1⟩
  have HT : Hid (ofTo S key (lastE (ofKeyE key S)) m = ofL S key) := by show _ = _; rw [ofTo, keyTo, List.take_of_length_le (by omega)]; rfl
  clear hb1
  generalize lastE (ofKeyE key S) = t at *
  go_wp2
  go_loopg [6, 13] m (fun kx s6 s13 wr => ∃ i : Nat, s13 = .int .i64 i ∧ i ≤ m ∧ m - i ≤ kx ∧ Aside (Row wr w.heap.size s6 (ofTo S key t i) ∧ Below w.heap.size w wr))
  case atStart => exact ⟨0, rfl, Nat.zero_le _, by omega, H0⟩
  case round =>
    clear H0
    obtain ⟨i, rfl, him, hkx, HS⟩ := hrel
    by_cases hlt : i < m
    · have hltz : (i : Int) < (m : Int) := by omega
      obtain ⟨b, off, u, rfl, hui, hu, hr, hbl⟩ := (HE.out.below HS.out.2 (Nat.le_refl _)).at hlt
      have hu16 := hu.1
      have hix := fun W : World => index_ev W (b := b) (off := off) (k := i) (m := m) (c := c) hlt
      have c20 := range_key hr hu16
      have c19 := range_kind hr hu16
      have hkb := sb_beq u.key key
      have HL : Hid (ofTo S key t (i + 1) = if u.key = key ∧ typE u.kind = t then ofTo S key t i ++ [u] else ofTo S key t i) := ofTo_succ hui
      by_cases hk : u.key = key
      · rw [decide_eq_true hk] at hkb
        go_wp2_with fail
        refine (rtype_any u.kind _).mono ?_
        rintro e w2 ⟨rfl, hb2⟩
        have HS2 : Aside (Row w2 w.heap.size u6 (ofTo S key t i) ∧ Below w.heap.size w w2) := ⟨HS.out.1.below hb2 (Nat.le_refl _), HS.out.2.trans (hb2.mono HS.out.2.size)⟩
        have hr2 := range_below hr hb2 hbl
        clear hb2 HS c19 c20 hkb hr
        by_cases ht : typE u.kind = t
        · have htb : (typE u.kind == t) = true := by simpa using ht
          have HSN : Hid (ofTo S key t (i + 1) = ofTo S key t i ++ [u]) := by show _ = _; rw [HL.out, if_pos ⟨hk, ht⟩]
          have hRow : Row (w2.alloc (.cells (evc u) 30)) w.heap.size u6 (ofTo S key t i) := HS2.out.1.below ((Below.refl _ _).alloc (Nat.le_refl _) _) (Nat.le_refl _)
          have hF : Evs (w2.alloc (.cells (evc u) 30)) (some ⟨w2.heap.size, 0, none⟩) 1 1 [u] := evs_single _ _ u hu (liesE_new w2 u)
          have hll := ofTo_len S key t i
          have hle : w.heap.size ≤ (w2.alloc (.cells (evc u) 30)).heap.size := by have := HS2.out.2.size; simp; omega
          have HB3 : Hid (Below w.heap.size w (w2.alloc (.cells (evc u) 30))) := HS2.out.2.alloc HS2.out.2.size _
          clear HS2 HL hk ht
          generalize ofTo S key t i = R at *
          go_wp2_with (first | refine load_ev_mid rfl rfl rfl hr2 hu16 ?_ | refine build_ev1 rfl rfl rfl hu16 ?_ | refine wpList_appE rfl _ _ rfl w.heap.size _ R rfl hRow _ 1 1 [u] rfl hF (by omega) hle ?_)
          intro v4 w4 hR4 hg4 ho4
          have HS4 : Aside (Row w4 w.heap.size v4 (ofTo S key t (i + 1)) ∧ Below w.heap.size w w4) := ⟨by rw [HSN.out]; exact hR4, HB3.out.grown hg4 hle hRow.own⟩
          clear hR4 hg4 ho4 hRow hF HB3 HSN hll hle hr2 hix
          go_wp2
          go_roundg (m - (i + 1))
          case measure => omega
          case rel => exact ⟨i + 1, by go_num, by omega, Nat.le_refl _, HS4⟩
        · have htb : (typE u.kind == t) = false := by simpa using ht
          have HS4 : Aside (Row w2 w.heap.size u6 (ofTo S key t (i + 1)) ∧ Below w.heap.size w w2) := by rw [HL.out, if_neg (fun h => ht h.2)]; exact HS2.out
          clear HS2 HL hk ht hr2
          go_wp2
          go_roundg (m - (i + 1))
          case measure => omega
          case rel => exact ⟨i + 1, by go_num, by omega, Nat.le_refl _, HS4⟩
      · have HS4 : Aside (Row wr w.heap.size u6 (ofTo S key t (i + 1)) ∧ Below w.heap.size w wr) := by rw [HL.out, if_neg (fun h => hk h.1)]; exact HS.out
        rw [decide_eq_false hk] at hkb
        clear hk HL hr c19 HS
        go_wp2
        go_roundg (m - (i + 1))
        case measure => omega
        case rel => exact ⟨i + 1, by go_num, by omega, Nat.le_refl _, HS4⟩
    · obtain rfl : m = i := by omega
      have HR : Hid (Row wr w.heap.size u6 (ofL S key) ∧ Below w.heap.size w wr) := by rw [← HT.out]; exact HS.out
      clear HS
      go_wp2
      go_ret
      exact ⟨u6, rfl, HR.out⟩

/-! A text into texts that rise. -/
def WInv (s : List UInt8) (p o : List (List UInt8)) (d : Bool) : Prop :=
  (d = false ∧ o = p ∧ ∀ x ∈ p, x < s) ∨ (d = true ∧ ∃ A B, p = A ++ B ∧ o = A ++ s :: B ∧ (∀ a ∈ A, a < s) ∧ (∀ b ∈ B, s < b) ∧ B ≠ [])
theorem winv_zero (s : List UInt8) : WInv s [] [] false := .inl ⟨rfl, rfl, by simp⟩
theorem winv_on {s x : List UInt8} {p o : List (List UInt8)} (h : WInv s p o true) (hp : (p ++ [x]).Pairwise (· < ·)) : WInv s (p ++ [x]) (o ++ [x]) true := by
  rcases h with ⟨h, -⟩ | ⟨-, A, B, rfl, rfl, hA, hB, hne⟩
  · cases h
  · refine .inr ⟨rfl, A, B ++ [x], by simp, by simp, hA, fun b hb => ?_, by simp⟩
    rcases List.mem_append.1 hb with hb | hb
    · exact hB b hb
    · rw [List.mem_singleton.1 hb]
      obtain ⟨y, hy⟩ := List.exists_mem_of_ne_nil B hne
      exact List.lt_trans (hB y hy) ((List.pairwise_append.1 hp).2.2 y (by simp [hy]) x (by simp))
theorem winv_in {s x : List UInt8} {p o : List (List UInt8)} (h : WInv s p o false) (hx : s < x) : WInv s (p ++ [x]) ((o ++ [s]) ++ [x]) true := by
  rcases h with ⟨-, rfl, h2⟩ | ⟨h, -⟩
  · exact .inr ⟨rfl, o, [x], rfl, by simp, h2, by simpa using hx, by simp⟩
  · cases h
theorem winv_no {s x : List UInt8} {p o : List (List UInt8)} (h : WInv s p o false) (hx : x < s) : WInv s (p ++ [x]) (o ++ [x]) false := by
  rcases h with ⟨-, rfl, h2⟩ | ⟨h, -⟩
  · refine .inl ⟨rfl, rfl, fun y hy => ?_⟩
    rcases List.mem_append.1 hy with hy | hy
    · exact h2 y hy
    · rw [List.mem_singleton.1 hy]; exact hx
  · cases h
theorem winv_len {s : List UInt8} {p o : List (List UInt8)} {d : Bool} (h : WInv s p o d) : o.length ≤ p.length + 1 := by
  rcases h with ⟨-, rfl, -⟩ | ⟨-, A, B, rfl, rfl, -⟩ <;> simp <;> omega
theorem winv_end {s : List UInt8} {p o : List (List UInt8)} (h : WInv s p o true) (hp : p.Pairwise (· < ·)) : o.Pairwise (· < ·) ∧ (∀ z, z ∈ o ↔ z ∈ p ∨ z = s) ∧ o.length ≤ p.length + 1 := by
  refine ⟨?_, ?_, winv_len h⟩
  · rcases h with ⟨h, -⟩ | ⟨-, A, B, rfl, rfl, hA, hB, -⟩
    · cases h
    · obtain ⟨h1, h2, h3⟩ := List.pairwise_append.1 hp
      refine List.pairwise_append.2 ⟨h1, List.pairwise_cons.2 ⟨hB, h2⟩, fun a ha b hb => ?_⟩
      rcases List.mem_cons.1 hb with rfl | hb
      · exact hA a ha
      · exact h3 a ha b hb
  · rcases h with ⟨h, -⟩ | ⟨-, A, B, rfl, rfl, -⟩
    · cases h
    · intro z
      simp only [List.mem_append, List.mem_cons]
      constructor
      · rintro (h | h | h)
        · exact .inl (.inl h)
        · exact .inr h
        · exact .inl (.inr h)
      · rintro ((h | h) | h)
        · exact .inl h
        · exact .inr (.inr h)
        · exact .inr (.inl h)
theorem winv_add {s : List UInt8} {p o : List (List UInt8)} (h : WInv s p o false) (hp : p.Pairwise (· < ·)) : (o ++ [s]).Pairwise (· < ·) ∧ (∀ z, z ∈ o ++ [s] ↔ z ∈ p ∨ z = s) ∧ (o ++ [s]).length ≤ p.length + 1 := by
  rcases h with ⟨-, rfl, h2⟩ | ⟨h, -⟩
  · refine ⟨List.pairwise_append.2 ⟨hp, by simp, fun a ha b hb => ?_⟩, by simp, by simp⟩
    rw [List.mem_singleton.1 hb]
    exact h2 a ha
  · cases h
theorem gtr_sb (x s : List UInt8) {t : Bool} (h : decide (s < x) = t) (hne : x ≠ s) (W : World) : (binOp .gtr 9 (.string (sb x)) (.string (sb s))).run Try.prog W = .ok (.bool t) W := by
  have e : (!(Op.bytesLess (sb x).toList (sb s).toList || (sb x).toList == (sb s).toList)) = t := by
    rw [sb_beq, decide_eq_false hne, Bool.or_false, ByteArray.toList_eq, ByteArray.toList_eq, data_sb, data_sb, bytesLess_eq, ← h, Bool.eq_iff_iff]
    simp only [Bool.not_eq_true', decide_eq_false_iff_not, decide_eq_true_eq]
    exact ⟨fun hn => lt_of_le_ne (List.not_lt.1 hn) (Ne.symm hne), fun hl => List.lt_asymm hl⟩
  rw [show binOp .gtr 9 (.string (sb x)) (.string (sb s)) = pure (.bool !(Op.bytesLess (sb x).toList (sb s).toList || (sb x).toList == (sb s).toList)) by simp [binOp, Op.stringOp], e]
  rfl
end Go.Proofs.Ytmnhbkehicpohaa
