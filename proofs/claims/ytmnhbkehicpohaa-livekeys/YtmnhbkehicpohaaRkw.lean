/-
  What the reference's With and Keys come to.
-/
import Derived.Test.YtmnhbkehicpohaaRky
namespace Go.Proofs.Ytmnhbkehicpohaa
set_option maxRecDepth 100000
open Go.RowKit Go.Shelf Go.Sort

theorem take_snocT {L : List (List UInt8)} {i : Nat} {u : List UInt8} (h : L[i]? = some u) : L.take (i + 1) = L.take i ++ [u] := by
  rw [List.take_add_one, h]; rfl
set_option maxHeartbeats 1000000 in
theorem rwith_any (base : Nat) (v : Value) (l : List (List UInt8)) (s : List UInt8) (w : World) (hR : TRow w base v l) (hb : base ≤ w.heap.size) (hl : l.length ≤ 1000) (ho : l.Pairwise (· < ·)) :
    Calls Try.prog 38 #[v, .string (sb s)] w fun e w' => ∃ v' R, e = .returned v' ∧ TRow w' base v' R ∧ R.Pairwise (· < ·) ∧ (∀ z, z ∈ R ↔ z ∈ l ∨ z = s) ∧ R.length ≤ l.length + 1 ∧ Below w.heap.size w w' := by
  obtain ⟨ao, c, rfl, hTL⟩ := hR.tl
  have HT : Aside (TL w ao l ∧ TRow w base (.slice ao l.length c) l ∧ l.Pairwise (· < ·)) := ⟨hTL, hR, ho⟩
  have hbase : Hid (base ≤ w.heap.size) := hb
  obtain ⟨m, hm⟩ : ∃ m, m = l.length := ⟨_, rfl⟩
  have HM : Hid (m = l.length) := hm
  rw [← hm] at hl HT ⊢
  have H0 : Aside (WInv s (l.take 0) [] false ∧ TRow w w.heap.size (.slice none 0 0) [] ∧ Below w.heap.size w w) := ⟨winv_zero s, World.ownsRow_nil _ _ _ _, Below.refl _ _⟩
  clear hR hTL ho hm hb
  go_enter Try.func38, Try.ntmps38
  go_wp2
  go_loopg [5, 6, 10] m (fun kx s5 s6 s10 wr => ∃ (i : Nat) (d : Bool) (o : List (List UInt8)), s10 = .int .i64 i ∧ s6 = .bool d ∧ i ≤ m ∧ m - i ≤ kx ∧ Aside (WInv s (l.take i) o d ∧ TRow wr w.heap.size s5 o ∧ Below w.heap.size w wr))
  case atStart => exact ⟨0, false, [], rfl, rfl, Nat.zero_le _, by omega, H0⟩
  case round =>
    clear H0
    obtain ⟨i, d, o, rfl, rfl, him, hkx, HS⟩ := hrel
    have hol : o.length ≤ i + 1 := by
      have := winv_len HS.out.1
      rw [List.length_take] at this
      omega
    by_cases hlt : i < m
    · have hltz : (i : Int) < (m : Int) := by omega
      obtain ⟨x, hx⟩ : ∃ x, l[i]? = some x := ⟨_, List.getElem?_eq_getElem (by have := HM.out; omega)⟩
      obtain ⟨g, rfl, dx⟩ := (HT.out.1.below HS.out.2.2 (Nat.le_refl _)) i x hx
      have hkb := sb_beq x s
      by_cases hk : x = s
      · have HR : Hid (∃ R, TRow wr base (.slice (some ⟨g, 0, none⟩) m c) R ∧ R.Pairwise (· < ·) ∧ (∀ z, z ∈ R ↔ z ∈ l ∨ z = s) ∧ R.length ≤ m + 1 ∧ Below w.heap.size w wr) := by
          refine ⟨l, HT.out.2.1.below HS.out.2.2 (Nat.le_refl _), HT.out.2.2, fun z => ⟨.inl, fun h => ?_⟩, by have := HM.out; omega, HS.out.2.2⟩
          rcases h with h | h
          · exact h
          · rw [h, ← hk]
            exact List.mem_of_getElem? hx
        rw [decide_eq_true hk] at hkb
        clear hk HS HT
        go_wp2
        go_ret
        obtain ⟨R, hR⟩ := HR.out
        exact ⟨_, R, rfl, hR⟩
      · have hsn : Hid (l.take (i + 1) = l.take i ++ [x]) := take_snocT hx
        have hpw : Hid ((l.take i ++ [x]).Pairwise (· < ·)) := by show List.Pairwise _ _; rw [← take_snocT hx]; exact List.Pairwise.sublist (List.take_sublist _ _) HT.out.2.2
        rw [decide_eq_false hk] at hkb
        cases d with
        | true =>
          have HW : Hid (WInv s (l.take (i + 1)) (o ++ [x]) true) := by show WInv _ _ _ _; rw [hsn.out]; exact winv_on HS.out.1 hpw.out
          have hRow : TRow (wr.alloc (.cells #[.string (sb x)] 9)) w.heap.size u5 o := HS.out.2.1.below ((Below.refl _ _).alloc (Nat.le_refl _) _) (Nat.le_refl _)
          have hle : w.heap.size ≤ wr.heap.size := HS.out.2.2.size
          have HB3 : Hid (Below w.heap.size w (wr.alloc (.cells #[.string (sb x)] 9))) := HS.out.2.2.alloc hle _
          clear HS hk hsn hpw
          go_wp2_with (at_builtin; refine wpList_appT rfl _ _ rfl w.heap.size _ o rfl hRow x rfl rfl (by omega) hle ?_)
          intro v4 w4 hR4 hg4
          have HS4 : Aside (WInv s (l.take (i + 1)) (o ++ [x]) true ∧ TRow w4 w.heap.size v4 (o ++ [x]) ∧ Below w.heap.size w w4) := ⟨HW.out, hR4, HB3.out.grown hg4 (by simp; omega) hRow.own⟩
          clear hR4 hg4 hRow HB3 HW hle hkb
          go_wp2
          go_roundg (m - (i + 1))
          case measure => omega
          case rel => exact ⟨i + 1, true, o ++ [x], by go_num, rfl, by omega, Nat.le_refl _, HS4⟩
        | false =>
          by_cases hsx : s < x
          · have HW : Hid (WInv s (l.take (i + 1)) ((o ++ [s]) ++ [x]) true) := by show WInv _ _ _ _; rw [hsn.out]; exact winv_in HS.out.1 hsx
            have hgt := fun W : World => gtr_sb x s (decide_eq_true hsx) hk W
            have hRow : TRow (wr.alloc (.cells #[.string (sb s)] 9)) w.heap.size u5 o := HS.out.2.1.below ((Below.refl _ _).alloc (Nat.le_refl _) _) (Nat.le_refl _)
            have hle : w.heap.size ≤ wr.heap.size := HS.out.2.2.size
            have HB3 : Hid (Below w.heap.size w (wr.alloc (.cells #[.string (sb s)] 9))) := HS.out.2.2.alloc hle _
            clear HS hk hsn hpw hsx
            go_wp2_with (at_builtin; refine wpList_appT rfl _ _ rfl w.heap.size _ o rfl hRow s rfl rfl (by omega) hle ?_)
            intro v4 w4 hR4 hg4
            have HS4 : Aside (TRow w4 w.heap.size v4 (o ++ [s]) ∧ Below w.heap.size w w4) := ⟨hR4, HB3.out.grown hg4 (by simp; omega) hRow.own⟩
            clear hR4 hg4 hRow HB3 hle hkb hgt dx
            obtain ⟨g', hg', dx⟩ := (HT.out.1.below HS4.out.2 (Nat.le_refl _)) i x hx
            obtain rfl : g = g' := by simpa using hg'
            have hRow : TRow (w4.alloc (.cells #[.string (sb x)] 9)) w.heap.size v4 (o ++ [s]) := HS4.out.1.below ((Below.refl _ _).alloc (Nat.le_refl _) _) (Nat.le_refl _)
            have hle : w.heap.size ≤ w4.heap.size := HS4.out.2.size
            have HB3 : Hid (Below w.heap.size w (w4.alloc (.cells #[.string (sb x)] 9))) := HS4.out.2.alloc hle _
            have hol2 : (o ++ [s]).length ≤ i + 2 := by simp; omega
            obtain ⟨o2, ho2⟩ : ∃ o2, o ++ [s] = o2 := ⟨_, rfl⟩
            rw [ho2] at hRow hol2 HW
            clear HS4 hg' ho2
            go_wp2_with (at_builtin; refine wpList_appT rfl _ _ rfl w.heap.size _ o2 rfl hRow x rfl rfl (by omega) hle ?_)
            intro v5 w5 hR5 hg5
            have HS5 : Aside (WInv s (l.take (i + 1)) (o2 ++ [x]) true ∧ TRow w5 w.heap.size v5 (o2 ++ [x]) ∧ Below w.heap.size w w5) := ⟨HW.out, hR5, HB3.out.grown hg5 (by simp; omega) hRow.own⟩
            clear hR5 hg5 hRow HB3 HW hle dx
            go_wp2
            go_roundg (m - (i + 1))
            case measure => omega
            case rel => exact ⟨i + 1, true, o2 ++ [x], by go_num, rfl, by omega, Nat.le_refl _, HS5⟩
          · have HW : Hid (WInv s (l.take (i + 1)) (o ++ [x]) false) := by show WInv _ _ _ _; rw [hsn.out]; exact winv_no HS.out.1 (lt_of_le_ne (List.not_lt.1 hsx) hk)
            have hgt := fun W : World => gtr_sb x s (decide_eq_false hsx) hk W
            have hRow : TRow (wr.alloc (.cells #[.string (sb x)] 9)) w.heap.size u5 o := HS.out.2.1.below ((Below.refl _ _).alloc (Nat.le_refl _) _) (Nat.le_refl _)
            have hle : w.heap.size ≤ wr.heap.size := HS.out.2.2.size
            have HB3 : Hid (Below w.heap.size w (wr.alloc (.cells #[.string (sb x)] 9))) := HS.out.2.2.alloc hle _
            clear HS hk hsn hpw hsx
            go_wp2_with (at_builtin; refine wpList_appT rfl _ _ rfl w.heap.size _ o rfl hRow x rfl rfl (by omega) hle ?_)
            intro v4 w4 hR4 hg4
            have HS4 : Aside (WInv s (l.take (i + 1)) (o ++ [x]) false ∧ TRow w4 w.heap.size v4 (o ++ [x]) ∧ Below w.heap.size w w4) := ⟨HW.out, hR4, HB3.out.grown hg4 (by simp; omega) hRow.own⟩
            clear hR4 hg4 hRow HB3 HW hle hkb hgt
            go_wp2
            go_roundg (m - (i + 1))
            case measure => omega
            case rel => exact ⟨i + 1, false, o ++ [x], by go_num, rfl, by omega, Nat.le_refl _, HS4⟩
    · obtain rfl : m = i := by omega
      have hall : Hid (l.take m = l) := List.take_of_length_le (by have := HM.out; omega)
      have HS2 : Aside (WInv s l o d ∧ TRow wr w.heap.size u5 o ∧ Below w.heap.size w wr) := by have := HS.out; rw [hall.out] at this; exact this
      clear HS
      cases d with
      | true =>
        have HR : Hid (TRow wr base u5 o ∧ o.Pairwise (· < ·) ∧ (∀ z, z ∈ o ↔ z ∈ l ∨ z = s) ∧ o.length ≤ m + 1 ∧ Below w.heap.size w wr) := by
          obtain ⟨h1, h2, h3⟩ := winv_end HS2.out.1 HT.out.2.2
          exact ⟨HS2.out.2.1.lower hbase.out, h1, h2, by have := HM.out; omega, HS2.out.2.2⟩
        clear HS2 HT
        go_wp2
        go_ret
        exact ⟨_, o, rfl, HR.out⟩
      | false =>
        have HW : Hid ((o ++ [s]).Pairwise (· < ·) ∧ (∀ z, z ∈ o ++ [s] ↔ z ∈ l ∨ z = s) ∧ (o ++ [s]).length ≤ m + 1) := by
          obtain ⟨h1, h2, h3⟩ := winv_add HS2.out.1 HT.out.2.2
          exact ⟨h1, h2, by have := HM.out; omega⟩
        have hRow : TRow (wr.alloc (.cells #[.string (sb s)] 9)) w.heap.size u5 o := HS2.out.2.1.below ((Below.refl _ _).alloc (Nat.le_refl _) _) (Nat.le_refl _)
        have hle : w.heap.size ≤ wr.heap.size := HS2.out.2.2.size
        have HB3 : Hid (Below w.heap.size w (wr.alloc (.cells #[.string (sb s)] 9))) := HS2.out.2.2.alloc hle _
        clear HS2 HT
        go_wp2_with (at_builtin; refine wpList_appT rfl _ _ rfl w.heap.size _ o rfl hRow s rfl rfl (by omega) hle ?_)
        intro v4 w4 hR4 hg4
        have HR : Hid (TRow w4 base v4 (o ++ [s]) ∧ (o ++ [s]).Pairwise (· < ·) ∧ (∀ z, z ∈ o ++ [s] ↔ z ∈ l ∨ z = s) ∧ (o ++ [s]).length ≤ m + 1 ∧ Below w.heap.size w w4) := ⟨hR4.lower hbase.out, HW.out.1, HW.out.2.1, HW.out.2.2, HB3.out.grown hg4 (by simp; omega) hRow.own⟩
        clear hR4 hg4 hRow HB3 HW hle
        go_wp2
        go_ret
        exact ⟨_, _, rfl, HR.out⟩
set_option maxHeartbeats 1000000 in
theorem rkeys_any (ao : Option Addr) (m c : Nat) (A : List Ev) (w : World) (hE : Evs w ao m c A) (hm : m ≤ 1000) :
    Calls Try.prog 18 #[.slice ao m c] w fun e w' => ∃ v, e = .returned v ∧ TRow w' w.heap.size v (Lib.compact (tsort (A.map (·.key)))) ∧ Below w.heap.size w w' := by
  have hlen := hE.len
  have HE : Aside (Evs w ao m c A) := hE
  clear hE
  have H0 : Aside (TRow w w.heap.size (.slice none 0 0) [] ∧ ([] : List (List UInt8)).Pairwise (· < ·) ∧ (∀ z, z ∈ ([] : List (List UInt8)) ↔ z ∈ kTo A 0) ∧ Below w.heap.size w w) := ⟨World.ownsRow_nil _ _ _ _, List.Pairwise.nil, by simp [kTo], Below.refl _ _⟩
  go_enter Try.func18, Try.ntmps18
  go_wp2
  go_loopg [3, 7] m (fun kx s3 s7 wr => ∃ (i : Nat) (R : List (List UInt8)), s7 = .int .i64 i ∧ i ≤ m ∧ m - i ≤ kx ∧ R.length ≤ i ∧ Aside (TRow wr w.heap.size s3 R ∧ R.Pairwise (· < ·) ∧ (∀ z, z ∈ R ↔ z ∈ kTo A i) ∧ Below w.heap.size w wr))
  case atStart => exact ⟨0, [], rfl, Nat.zero_le _, by omega, Nat.le_refl _, H0⟩
  case round =>
    clear H0
    obtain ⟨i, R, rfl, him, hkx, hRl, HS⟩ := hrel
    by_cases hlt : i < m
    · have hltz : (i : Int) < (m : Int) := by omega
      obtain ⟨b, off, u, rfl, hui, hu, hr, hbl⟩ := (HE.out.below HS.out.2.2.2 (Nat.le_refl _)).at hlt
      have hu16 := hu.1
      have hix := fun W : World => index_ev W (b := b) (off := off) (k := i) (m := m) (c := c) hlt
      have c20 := range_key hr hu16
      have HK : Hid (kTo A (i + 1) = kTo A i ++ [u.key]) := kTo_succ hui
      clear hr
      go_wp2_with fail
      refine (rwith_any w.heap.size u3 R u.key wr HS.out.1 HS.out.2.2.2.size (by omega) HS.out.2.1).mono ?_
      rintro e w2 ⟨v2, R2, rfl, h1, h2, h3, h4, h5⟩
      have HS2 : Aside (TRow w2 w.heap.size v2 R2 ∧ R2.Pairwise (· < ·) ∧ (∀ z, z ∈ R2 ↔ z ∈ kTo A (i + 1)) ∧ Below w.heap.size w w2) := by
        refine ⟨h1, h2, fun z => ?_, HS.out.2.2.2.trans (h5.mono HS.out.2.2.2.size)⟩
        rw [h3, HK.out, List.mem_append, HS.out.2.2.1, List.mem_singleton]
      have hRl2 : R2.length ≤ i + 1 := by omega
      clear HS h1 h2 h3 h4 h5 c20 hix HK
      go_wp2
      go_roundg (m - (i + 1))
      case measure => omega
      case rel => exact ⟨i + 1, R2, by go_num, by omega, Nat.le_refl _, hRl2, HS2⟩
    · obtain rfl : m = i := by omega
      have HR : Hid (TRow wr w.heap.size u3 (Lib.compact (tsort (A.map (·.key)))) ∧ Below w.heap.size w wr) := by
        obtain ⟨h1, h2, h3, h4⟩ := HS.out
        have e : R = Lib.compact (tsort (A.map (·.key))) := strict_one _ _ h2 (compact_to _ (tsort_sorted _) _ (Nat.le_refl _)).1 (fun z => by
          rw [h3, compact_mem, kTo, List.take_of_length_le (by omega)])
        rw [← e]
        exact ⟨h1, h4⟩
      clear HS
      go_wp2
      go_ret
      exact ⟨_, rfl, HR.out⟩
end Go.Proofs.Ytmnhbkehicpohaa
