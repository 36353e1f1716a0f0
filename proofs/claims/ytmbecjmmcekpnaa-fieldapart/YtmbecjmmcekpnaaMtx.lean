/-
  Rows of texts: appended to, sorted, compared; a text into texts that rise.
-/
import Derived.Test.YtmbecjmmcekpnaaMso
import Derived.Test.YtmbecjmmcekpnaaGba
import Derived.Sort.OwnSorted
import Derived.Sort.Grow
import Derived.Lib.OwnBridge
import Derived.Sort.EveryDepth
import Derived.BigQuiet
namespace Go.Proofs.Ytmbecjmmcekpnaa
set_option maxRecDepth 100000
open Go.RowKit Go.Shelf Go.Sort

abbrev TRow (w : World) (base : Nat) (v : Value) (S : List (List UInt8)) : Prop := w.ownsRow base 9 1 v S.length (S.map encStr)
def tsort (S : List (List UInt8)) : List (List UInt8) := S.mergeSort fun x y => decide (x ≤ y)
theorem tsort_len (S : List (List UInt8)) : (tsort S).length = S.length := List.length_mergeSort S
theorem sorts_any (base : Nat) (v : Value) (S : List (List UInt8)) (w : World) (hR : TRow w base v S) (hL : S.length ≤ 1000) (hb : base ≤ w.heap.size) :
    Calls Try.prog 21 #[v] w fun e w' => e = .returned (.tuple #[]) ∧ TRow w' base v (tsort S) ∧ Below base w w' := by
  by_cases hv : v = .slice none 0 0
  · subst hv
    have h0 : S = [] := by
      rcases hR.2 with ⟨-, h0⟩ | ⟨g, cap, cur, h, -⟩
      · exact List.eq_nil_of_length_eq_zero h0
      · cases h
    subst h0
    refine Calls.mono (calls_of_every_depth (fun D => AnyS.slices_Sort_string_none_alone laysSort D none 0 w)) ?_
    rintro e w' ⟨rfl, rfl⟩
    exact ⟨rfl, by rw [show tsort [] = [] by simp [tsort]]; exact hR, Below.refl _ _⟩
  · obtain ⟨g, cap, rfl, hbg, hgl, hncap, hcm, hlen, hH⟩ := Lib.holds_of_ownsRow hR hv
    refine Calls.mono (calls_of_every_depth (fun D => AnyS.slices_Sort_string_alone laysSort D g 0 cap S w hH hgl (by omega))) ?_
    rintro e w' ⟨rfl, nn, os, rfl⟩
    rcases hR.2 with ⟨h0, _⟩ | ⟨g', cap', cur, hv', hbase, hb', h1, h2, h3, h4⟩
    · cases h0
    cases hv'
    have hs := ownsRow_sorted (n := nn) (os := os) (ts := tsort S) (tsort_len S) hbase hb' h1 h2 h3
    refine ⟨rfl, ?_, (Below.refl _ _).grown (grownBy_sorted _) hb (fun j hj => by cases hj; exact hbase)⟩
    rw [TRow, tsort_len]
    exact hs
theorem infoT : (Try.prog.info? 9).map (fun i => (i.zero, i.size, i.bytes)) = some (some (.string ByteArray.empty), 1, 16) := by kernel_rfl
theorem new_one (w : World) (a : Value) (t : TypeId) : ∀ j u, [a][j]? = some u → (w.alloc (Obj.cells #[a] t)).cell? ((⟨w.heap.size, 0, none⟩ : Addr).add j) = some u := by
  intro j u hu
  rw [Addr.add_lit, Nat.zero_add, World.cell?_alloc_mark]
  simpa using hu
theorem TRow.below {w w' : World} {base B : Nat} {v : Value} {S : List (List UInt8)} (h : TRow w base v S) (hb : Below B w w') (hB : w.heap.size ≤ B) : TRow w' base v S := by
  refine ⟨h.1, ?_⟩
  rcases h.2 with hn | ⟨g, cap, cur, e, hbg, hg, rest⟩
  · exact .inl hn
  · have hlt := (Array.getElem?_eq_some_iff.1 hg).1
    exact .inr ⟨g, cap, cur, e, hbg, by rw [hb.block g (by omega)]; exact hg, rest⟩
theorem TRow.lower {w : World} {base b : Nat} {v : Value} {S : List (List UInt8)} (h : TRow w base v S) (hb : b ≤ base) : TRow w b v S := by
  refine ⟨h.1, ?_⟩
  rcases h.2 with hn | ⟨g, cap, cur, e, hbg, rest⟩
  · exact .inl hn
  · exact .inr ⟨g, cap, cur, e, Nat.le_trans hb hbg, rest⟩
theorem TRow.own {w : World} {base : Nat} {v : Value} {S : List (List UInt8)} (h : TRow w base v S) : ∀ k, v.ownBlock = some k → base ≤ k := by
  rcases h.2 with ⟨rfl, -⟩ | ⟨g, cap, cur, rfl, hb, -⟩
  · intro k hk; cases hk
  · intro k hk; cases hk; exact hb
theorem wpList_appT {t : ByteArray} {ops : Array Oper} {rest : List Oper} {o : Oper} {a : Act} {w : World} {Q : Exit → Act → World → Prop} (hw : Region.wanted o (yielded ops a.tmps) = true) (s x : Operand)
    (ho : o.op = .call { callee := .builtin .append, args := #[s, x], argTypes := #[50, 50] })
    (base : Nat) (v : Value) (S : List (List UInt8)) (hs : a.eval s = v) (hown : TRow (w.alloc (Obj.cells #[Value.string t] 9)) base v S) (t' : List UInt8) (ht : t = sb t')
    (hx : a.eval x = .slice (some ⟨w.heap.size, 0, none⟩) 1 1) (hnm : S.length ≤ 1048575) (hbase : base ≤ w.heap.size)
    (h : ∀ v' w', TRow w' base v' (S ++ [t']) → (w.alloc (Obj.cells #[Value.string t] 9)).grownBy w' v.ownBlock → wpList Try.prog ops Q rest (a.put o.dst v') w') : wpList Try.prog ops Q (o :: rest) a (w.alloc (Obj.cells #[Value.string t] 9)) := by
  obtain ⟨i0, hi, hz0, hz1, hz2⟩ := info_parts infoT
  refine wpList_step fun K hK => ?_
  rw [if_pos hw]
  refine wp_append_own _ s x 50 ho base 9 i0 (.string ByteArray.empty) 1 16 Try.underlying50 hi hz0 hz1 hz2 rfl (by omega) v S.length _ hs hown ⟨w.heap.size, 0, none⟩ 1 1 [Value.string t] hx rfl (new_one w (Value.string t) 9) (by simp [Value.oneCell']) (by unfold maxLen; omega) (by omega) (by simp; omega) fun v' w' h2 h3 _ => hK _ _ (h v' w' ?_ h3)
  rw [TRow, List.length_append, List.map_append]
  subst ht
  exact h2
/-- A list of texts, as it is read. -/
def TL (w : World) (ao : Option Addr) (S : List (List UInt8)) : Prop := ∀ j t, S[j]? = some t → ∃ g, ao = some ⟨g, 0, none⟩ ∧ w.cell? ⟨g, j, none⟩ = some (.string (sb t))
theorem TRow.tl {w : World} {base : Nat} {v : Value} {S : List (List UInt8)} (h : TRow w base v S) : ∃ ao c, v = .slice ao S.length c ∧ TL w ao S := by
  rcases h.2 with ⟨rfl, h0⟩ | ⟨g, cap, cur, rfl, hb, hg, hnc, hcm, hcs, htake⟩
  · have : S = [] := List.eq_nil_of_length_eq_zero h0
    subst this
    exact ⟨none, 0, rfl, fun j t h => by cases h⟩
  · refine ⟨some ⟨g, 0, none⟩, cap, rfl, fun j t ht => ⟨g, rfl, ?_⟩⟩
    have h1 := h.cells (g := g) rfl j (encStr t) (by rw [List.getElem?_map, ht]; rfl)
    rw [Addr.add_mid, Nat.zero_add] at h1
    exact h1
theorem TL.below {w w' : World} {ao : Option Addr} {S : List (List UInt8)} {B : Nat} (h : TL w ao S) (hb : Below B w w') (hB : w.heap.size ≤ B) : TL w' ao S := fun j t ht => by
  obtain ⟨g, hg, hc⟩ := h j t ht
  exact ⟨g, hg, (hb.cell (Nat.lt_of_lt_of_le (World.block_lt_of_cell? w _ hc) hB)).trans hc⟩
theorem lt_of_le_ne {x y : List UInt8} (h : x ≤ y) (h2 : x ≠ y) : x < y := by
  rcases Classical.em (x < y) with h3 | h3
  · exact h3
  · exact absurd (List.le_antisymm h (List.not_lt.1 h3)) h2
theorem strict_one : ∀ X Y : List (List UInt8), X.Pairwise (· < ·) → Y.Pairwise (· < ·) → (∀ z, z ∈ X ↔ z ∈ Y) → X = Y
  | [], [], _, _, _ => rfl
  | [], y :: Y, _, _, h => by have := (h y).2 (by simp); cases this
  | x :: X, [], _, _, h => by have := (h x).1 (by simp); cases this
  | x :: X, y :: Y, hx, hy, h => by
    obtain ⟨x1, x2⟩ := List.pairwise_cons.1 hx
    obtain ⟨y1, y2⟩ := List.pairwise_cons.1 hy
    have e : x = y := by
      rcases List.mem_cons.1 ((h x).1 (by simp)) with e | e
      · exact e
      · rcases List.mem_cons.1 ((h y).2 (by simp)) with e' | e'
        · exact e'.symm
        · exact absurd (y1 x e) (List.lt_asymm (x1 y e'))
    subst e
    rw [strict_one X Y x2 y2 fun z => ⟨fun hz => ?_, fun hz => ?_⟩]
    · rcases List.mem_cons.1 ((h z).1 (List.mem_cons_of_mem _ hz)) with e | e
      · subst e
        exact absurd (x1 z hz) (List.lt_irrefl z)
      · exact e
    · rcases List.mem_cons.1 ((h z).2 (List.mem_cons_of_mem _ hz)) with e | e
      · subst e
        exact absurd (y1 z hz) (List.lt_irrefl z)
      · exact e
def WInv (s : List UInt8) (p o : List (List UInt8)) (d : Bool) : Prop :=
  (d = false ∧ o = p ∧ ∀ x ∈ p, x < s) ∨ (d = true ∧ ∃ A B, p = A ++ B ∧ o = A ++ s :: B ∧ (∀ a ∈ A, a < s) ∧ (∀ b ∈ B, s < b) ∧ B ≠ [])
theorem winv_zero (s : List UInt8) : WInv s [] [] false := .inl ⟨rfl, rfl, by simp⟩
theorem winv_on {s x : List UInt8} {p o : List (List UInt8)} (h : WInv s p o true) (hp : (p ++ [x]).Pairwise (· < ·)) : WInv s (p ++ [x]) (o ++ [x]) true := by
  rcases h with ⟨h, -⟩ | ⟨-, A, B, rfl, rfl, hA, hB, hne⟩
  · cases h
  · refine .inr ⟨rfl, A, B ++ [x], by simp, by simp, hA, fun b hb => ?_, by simp⟩
    rcases List.mem_append.1 hb with hb | hb
    · exact hB b hb
    · rw [List.mem_singleton.1 hb]
      obtain ⟨y, hy⟩ := List.exists_mem_of_ne_nil B hne
      exact List.lt_trans (hB y hy) ((List.pairwise_append.1 hp).2.2 y (by simp [hy]) x (by simp))
theorem winv_in {s x : List UInt8} {p o : List (List UInt8)} (h : WInv s p o false) (hx : s < x) : WInv s (p ++ [x]) ((o ++ [s]) ++ [x]) true := by
  rcases h with ⟨-, rfl, h2⟩ | ⟨h, -⟩
  · exact .inr ⟨rfl, o, [x], rfl, by simp, h2, by simpa using hx, by simp⟩
  · cases h
theorem winv_no {s x : List UInt8} {p o : List (List UInt8)} (h : WInv s p o false) (hx : x < s) : WInv s (p ++ [x]) (o ++ [x]) false := by
  rcases h with ⟨-, rfl, h2⟩ | ⟨h, -⟩
  · refine .inl ⟨rfl, rfl, fun y hy => ?_⟩
    rcases List.mem_append.1 hy with hy | hy
    · exact h2 y hy
    · rw [List.mem_singleton.1 hy]; exact hx
  · cases h
theorem winv_len {s : List UInt8} {p o : List (List UInt8)} {d : Bool} (h : WInv s p o d) : o.length ≤ p.length + 1 := by
  rcases h with ⟨-, rfl, -⟩ | ⟨-, A, B, rfl, rfl, -⟩ <;> simp <;> omega
theorem winv_end {s : List UInt8} {p o : List (List UInt8)} (h : WInv s p o true) (hp : p.Pairwise (· < ·)) : o.Pairwise (· < ·) ∧ (∀ z, z ∈ o ↔ z ∈ p ∨ z = s) ∧ o.length ≤ p.length + 1 := by
  refine ⟨?_, ?_, winv_len h⟩
  · rcases h with ⟨h, -⟩ | ⟨-, A, B, rfl, rfl, hA, hB, -⟩
    · cases h
    · obtain ⟨h1, h2, h3⟩ := List.pairwise_append.1 hp
      refine List.pairwise_append.2 ⟨h1, List.pairwise_cons.2 ⟨hB, h2⟩, fun a ha b hb => ?_⟩
      rcases List.mem_cons.1 hb with rfl | hb
      · exact hA a ha
      · exact h3 a ha b hb
  · rcases h with ⟨h, -⟩ | ⟨-, A, B, rfl, rfl, -⟩
    · cases h
    · intro z
      simp only [List.mem_append, List.mem_cons]
      constructor
      · rintro (h | h | h)
        · exact .inl (.inl h)
        · exact .inr h
        · exact .inl (.inr h)
      · rintro ((h | h) | h)
        · exact .inl h
        · exact .inr (.inr h)
        · exact .inr (.inl h)
theorem winv_add {s : List UInt8} {p o : List (List UInt8)} (h : WInv s p o false) (hp : p.Pairwise (· < ·)) : (o ++ [s]).Pairwise (· < ·) ∧ (∀ z, z ∈ o ++ [s] ↔ z ∈ p ∨ z = s) ∧ (o ++ [s]).length ≤ p.length + 1 := by
  rcases h with ⟨-, rfl, h2⟩ | ⟨h, -⟩
  · refine ⟨List.pairwise_append.2 ⟨hp, by simp, fun a ha b hb => ?_⟩, by simp, by simp⟩
    rw [List.mem_singleton.1 hb]
    exact h2 a ha
  · cases h
theorem gtr_sb (x s : List UInt8) {t : Bool} (h : decide (s < x) = t) (hne : x ≠ s) (W : World) : (binOp .gtr 9 (.string (sb x)) (.string (sb s))).run Try.prog W = .ok (.bool t) W := by
  have e : (!(Op.bytesLess (sb x).toList (sb s).toList || (sb x).toList == (sb s).toList)) = t := by
    rw [sb_beq, decide_eq_false hne, Bool.or_false, ByteArray.toList_eq, ByteArray.toList_eq, data_sb, data_sb, bytesLess_eq, ← h, Bool.eq_iff_iff]
    simp only [Bool.not_eq_true', decide_eq_false_iff_not, decide_eq_true_eq]
    exact ⟨fun hn => lt_of_le_ne (List.not_lt.1 hn) (Ne.symm hne), fun hl => List.lt_asymm hl⟩
  rw [show binOp .gtr 9 (.string (sb x)) (.string (sb s)) = pure (.bool !(Op.bytesLess (sb x).toList (sb s).toList || (sb x).toList == (sb s).toList)) by simp [binOp, Op.stringOp], e]
  rfl
theorem take_snocT {L : List (List UInt8)} {i : Nat} {u : List UInt8} (h : L[i]? = some u) : L.take (i + 1) = L.take i ++ [u] := by
  rw [List.take_add_one, h]; rfl
set_option maxHeartbeats 1000000 in
theorem rwith_any (base : Nat) (v : Value) (l : List (List UInt8)) (s : List UInt8) (w : World) (hR : TRow w base v l) (hb : base ≤ w.heap.size) (hl : l.length ≤ 1000) (ho : l.Pairwise (· < ·)) :
    Calls Try.prog 18 #[v, .string (sb s)] w fun e w' => ∃ v' R, e = .returned v' ∧ TRow w' base v' R ∧ R.Pairwise (· < ·) ∧ (∀ z, z ∈ R ↔ z ∈ l ∨ z = s) ∧ R.length ≤ l.length + 1 ∧ Below w.heap.size w w' := by
  obtain ⟨ao, c, rfl, hTL⟩ := hR.tl
  have HT : Aside (TL w ao l ∧ TRow w base (.slice ao l.length c) l ∧ l.Pairwise (· < ·)) := ⟨hTL, hR, ho⟩
  have hbase : Hid (base ≤ w.heap.size) := hb
  obtain ⟨m, hm⟩ : ∃ m, m = l.length := ⟨_, rfl⟩
  have HM : Hid (m = l.length) := hm
  rw [← hm] at hl HT ⊢
  have H0 : Aside (WInv s (l.take 0) [] false ∧ TRow w w.heap.size (.slice none 0 0) [] ∧ Below w.heap.size w w) := ⟨winv_zero s, World.ownsRow_nil _ _ _ _, Below.refl _ _⟩
  clear hR hTL ho hm hb
  go_enter Try.func18, Try.ntmps18
  go_wp2
  go_loopg [5, 6, 10] m (fun kx s5 s6 s10 wr => ∃ (i : Nat) (d : Bool) (o : List (List UInt8)), s10 = .int .i64 i ∧ s6 = .bool d ∧ i ≤ m ∧ m - i ≤ kx ∧ Aside (WInv s (l.take i) o d ∧ TRow wr w.heap.size s5 o ∧ Below w.heap.size w wr))
  case atStart => exact ⟨0, false, [], rfl, rfl, Nat.zero_le _, by omega, H0⟩
  case round =>
    clear H0
    obtain ⟨i, d, o, rfl, rfl, him, hkx, HS⟩ := hrel
    have hol : o.length ≤ i + 1 := by
      have := winv_len HS.out.1
      rw [List.length_take] at this
      omega
    by_cases hlt : i < m
    · have hltz : (i : Int) < (m : Int) := by omega
      obtain ⟨x, hx⟩ : ∃ x, l[i]? = some x := ⟨_, List.getElem?_eq_getElem (by have := HM.out; omega)⟩
      obtain ⟨g, rfl, dx⟩ := (HT.out.1.below HS.out.2.2 (Nat.le_refl _)) i x hx
      have hkb := sb_beq x s
      by_cases hk : x = s
      · have HR : Hid (∃ R, TRow wr base (.slice (some ⟨g, 0, none⟩) m c) R ∧ R.Pairwise (· < ·) ∧ (∀ z, z ∈ R ↔ z ∈ l ∨ z = s) ∧ R.length ≤ m + 1 ∧ Below w.heap.size w wr) := by
          refine ⟨l, HT.out.2.1.below HS.out.2.2 (Nat.le_refl _), HT.out.2.2, fun z => ⟨.inl, fun h => ?_⟩, by have := HM.out; omega, HS.out.2.2⟩
          rcases h with h | h
          · exact h
          · rw [h, ← hk]
            exact List.mem_of_getElem? hx
        rw [decide_eq_true hk] at hkb
        clear hk HS HT
        go_wp2
        go_ret
        obtain ⟨R, hR⟩ := HR.out
        exact ⟨_, R, rfl, hR⟩
      · have hsn : Hid (l.take (i + 1) = l.take i ++ [x]) := take_snocT hx
        have hpw : Hid ((l.take i ++ [x]).Pairwise (· < ·)) := by show List.Pairwise _ _; rw [← take_snocT hx]; exact List.Pairwise.sublist (List.take_sublist _ _) HT.out.2.2
        rw [decide_eq_false hk] at hkb
        cases d with
        | true =>
          have HW : Hid (WInv s (l.take (i + 1)) (o ++ [x]) true) := by show WInv _ _ _ _; rw [hsn.out]; exact winv_on HS.out.1 hpw.out
          have hRow : TRow (wr.alloc (.cells #[.string (sb x)] 9)) w.heap.size u5 o := HS.out.2.1.below ((Below.refl _ _).alloc (Nat.le_refl _) _) (Nat.le_refl _)
          have hle : w.heap.size ≤ wr.heap.size := HS.out.2.2.size
          have HB3 : Hid (Below w.heap.size w (wr.alloc (.cells #[.string (sb x)] 9))) := HS.out.2.2.alloc hle _
          clear HS hk hsn hpw
          go_wp2_with (at_builtin; refine wpList_appT rfl _ _ rfl w.heap.size _ o rfl hRow x rfl rfl (by omega) hle ?_)
          intro v4 w4 hR4 hg4
          have HS4 : Aside (WInv s (l.take (i + 1)) (o ++ [x]) true ∧ TRow w4 w.heap.size v4 (o ++ [x]) ∧ Below w.heap.size w w4) := ⟨HW.out, hR4, HB3.out.grown hg4 (by simp; omega) hRow.own⟩
          clear hR4 hg4 hRow HB3 HW hle hkb
          go_wp2
          go_roundg (m - (i + 1))
          case measure => omega
          case rel => exact ⟨i + 1, true, o ++ [x], by go_num, rfl, by omega, Nat.le_refl _, HS4⟩
        | false =>
          by_cases hsx : s < x
          · have HW : Hid (WInv s (l.take (i + 1)) ((o ++ [s]) ++ [x]) true) := by show WInv _ _ _ _; rw [hsn.out]; exact winv_in HS.out.1 hsx
            have hgt := fun W : World => gtr_sb x s (decide_eq_true hsx) hk W
            have hRow : TRow (wr.alloc (.cells #[.string (sb s)] 9)) w.heap.size u5 o := HS.out.2.1.below ((Below.refl _ _).alloc (Nat.le_refl _) _) (Nat.le_refl _)
            have hle : w.heap.size ≤ wr.heap.size := HS.out.2.2.size
            have HB3 : Hid (Below w.heap.size w (wr.alloc (.cells #[.string (sb s)] 9))) := HS.out.2.2.alloc hle _
            clear HS hk hsn hpw hsx
            go_wp2_with (at_builtin; refine wpList_appT rfl _ _ rfl w.heap.size _ o rfl hRow s rfl rfl (by omega) hle ?_)
            intro v4 w4 hR4 hg4
            have HS4 : Aside (TRow w4 w.heap.size v4 (o ++ [s]) ∧ Below w.heap.size w w4) := ⟨hR4, HB3.out.grown hg4 (by simp; omega) hRow.own⟩
            clear hR4 hg4 hRow HB3 hle hkb hgt dx
            obtain ⟨g', hg', dx⟩ := (HT.out.1.below HS4.out.2 (Nat.le_refl _)) i x hx
            obtain rfl : g = g' := by simpa using hg'
            have hRow : TRow (w4.alloc (.cells #[.string (sb x)] 9)) w.heap.size v4 (o ++ [s]) := HS4.out.1.below ((Below.refl _ _).alloc (Nat.le_refl _) _) (Nat.le_refl _)
            have hle : w.heap.size ≤ w4.heap.size := HS4.out.2.size
            have HB3 : Hid (Below w.heap.size w (w4.alloc (.cells #[.string (sb x)] 9))) := HS4.out.2.alloc hle _
            have hol2 : (o ++ [s]).length ≤ i + 2 := by simp; omega
            obtain ⟨o2, ho2⟩ : ∃ o2, o ++ [s] = o2 := ⟨_, rfl⟩
            rw [ho2] at hRow hol2 HW
            clear HS4 hg' ho2
            go_wp2_with (at_builtin; refine wpList_appT rfl _ _ rfl w.heap.size _ o2 rfl hRow x rfl rfl (by omega) hle ?_)
            intro v5 w5 hR5 hg5
            have HS5 : Aside (WInv s (l.take (i + 1)) (o2 ++ [x]) true ∧ TRow w5 w.heap.size v5 (o2 ++ [x]) ∧ Below w.heap.size w w5) := ⟨HW.out, hR5, HB3.out.grown hg5 (by simp; omega) hRow.own⟩
            clear hR5 hg5 hRow HB3 HW hle dx
            go_wp2
            go_roundg (m - (i + 1))
            case measure => omega
            case rel => exact ⟨i + 1, true, o2 ++ [x], by go_num, rfl, by omega, Nat.le_refl _, HS5⟩
          · have HW : Hid (WInv s (l.take (i + 1)) (o ++ [x]) false) := by show WInv _ _ _ _; rw [hsn.out]; exact winv_no HS.out.1 (lt_of_le_ne (List.not_lt.1 hsx) hk)
            have hgt := fun W : World => gtr_sb x s (decide_eq_false hsx) hk W
            have hRow : TRow (wr.alloc (.cells #[.string (sb x)] 9)) w.heap.size u5 o := HS.out.2.1.below ((Below.refl _ _).alloc (Nat.le_refl _) _) (Nat.le_refl _)
            have hle : w.heap.size ≤ wr.heap.size := HS.out.2.2.size
            have HB3 : Hid (Below w.heap.size w (wr.alloc (.cells #[.string (sb x)] 9))) := HS.out.2.2.alloc hle _
            clear HS hk hsn hpw hsx
            go_wp2_with (at_builtin; refine wpList_appT rfl _ _ rfl w.heap.size _ o rfl hRow x rfl rfl (by omega) hle ?_)
            intro v4 w4 hR4 hg4
            have HS4 : Aside (WInv s (l.take (i + 1)) (o ++ [x]) false ∧ TRow w4 w.heap.size v4 (o ++ [x]) ∧ Below w.heap.size w w4) := ⟨HW.out, hR4, HB3.out.grown hg4 (by simp; omega) hRow.own⟩
            clear hR4 hg4 hRow HB3 HW hle hkb hgt
            go_wp2
            go_roundg (m - (i + 1))
            case measure => omega
            case rel => exact ⟨i + 1, false, o ++ [x], by go_num, rfl, by omega, Nat.le_refl _, HS4⟩
    · obtain rfl : m = i := by omega
      have hall : Hid (l.take m = l) := List.take_of_length_le (by have := HM.out; omega)
      have HS2 : Aside (WInv s l o d ∧ TRow wr w.heap.size u5 o ∧ Below w.heap.size w wr) := by have := HS.out; rw [hall.out] at this; exact this
      clear HS
      cases d with
      | true =>
        have HR : Hid (TRow wr base u5 o ∧ o.Pairwise (· < ·) ∧ (∀ z, z ∈ o ↔ z ∈ l ∨ z = s) ∧ o.length ≤ m + 1 ∧ Below w.heap.size w wr) := by
          obtain ⟨h1, h2, h3⟩ := winv_end HS2.out.1 HT.out.2.2
          exact ⟨HS2.out.2.1.lower hbase.out, h1, h2, by have := HM.out; omega, HS2.out.2.2⟩
        clear HS2 HT
        go_wp2
        go_ret
        exact ⟨_, o, rfl, HR.out⟩
      | false =>
        have HW : Hid ((o ++ [s]).Pairwise (· < ·) ∧ (∀ z, z ∈ o ++ [s] ↔ z ∈ l ∨ z = s) ∧ (o ++ [s]).length ≤ m + 1) := by
          obtain ⟨h1, h2, h3⟩ := winv_add HS2.out.1 HT.out.2.2
          exact ⟨h1, h2, by have := HM.out; omega⟩
        have hRow : TRow (wr.alloc (.cells #[.string (sb s)] 9)) w.heap.size u5 o := HS2.out.2.1.below ((Below.refl _ _).alloc (Nat.le_refl _) _) (Nat.le_refl _)
        have hle : w.heap.size ≤ wr.heap.size := HS2.out.2.2.size
        have HB3 : Hid (Below w.heap.size w (wr.alloc (.cells #[.string (sb s)] 9))) := HS2.out.2.2.alloc hle _
        clear HS2 HT
        go_wp2_with (at_builtin; refine wpList_appT rfl _ _ rfl w.heap.size _ o rfl hRow s rfl rfl (by omega) hle ?_)
        intro v4 w4 hR4 hg4
        have HR : Hid (TRow w4 base v4 (o ++ [s]) ∧ (o ++ [s]).Pairwise (· < ·) ∧ (∀ z, z ∈ o ++ [s] ↔ z ∈ l ∨ z = s) ∧ (o ++ [s]).length ≤ m + 1 ∧ Below w.heap.size w w4) := ⟨hR4.lower hbase.out, HW.out.1, HW.out.2.1, HW.out.2.2, HB3.out.grown hg4 (by simp; omega) hRow.own⟩
        clear hR4 hg4 hRow HB3 HW hle
        go_wp2
        go_ret
        exact ⟨_, _, rfl, HR.out⟩
end Go.Proofs.Ytmbecjmmcekpnaa
