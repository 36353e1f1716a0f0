/-
  What slices.Sort and slices.Compact of texts come to; what Keys comes to.
-/
import Derived.Test.YtmlfekbmbnfkjaaGreatDoorQ28
import Derived.Test.YtmlfekbmbnfkjaaGreatDoorQ18
import Derived.Sort.OwnSorted
import Derived.Sort.Grow
import Derived.Lib.OwnBridge
import Derived.Sort.EveryDepth
namespace Go.Proofs.YtmlfekbmbnfkjaaGreatDoor
set_option maxRecDepth 100000
set_option maxRecDepth 100000
open Go.RowKit Go.Shelf Go.Sort

abbrev TRow (w : World) (base : Nat) (v : Value) (S : List (List UInt8)) : Prop := w.ownsRow base 9 1 v S.length (S.map encStr)
def tsort (S : List (List UInt8)) : List (List UInt8) := S.mergeSort fun x y => decide (x ≤ y)
theorem tsort_len (S : List (List UInt8)) : (tsort S).length = S.length := List.length_mergeSort S
theorem sorts_any (base : Nat) (v : Value) (S : List (List UInt8)) (w : World) (hR : TRow w base v S) (hL : S.length ≤ 1000) (hb : base ≤ w.heap.size) :
    Calls Tryz.prog 235 #[v] w fun e w' => e = .returned (.tuple #[]) ∧ TRow w' base v (tsort S) ∧ Below base w w' := by
  by_cases hv : v = .slice none 0 0
  · subst hv
    have h0 : S = [] := by
      rcases hR.2 with ⟨-, h0⟩ | ⟨g, cap, cur, h, -⟩
      · exact List.eq_nil_of_length_eq_zero h0
      · cases h
    subst h0
    refine Calls.mono (calls_of_every_depth (fun D => AnyS.slices_Sort_string_none_alone laysSort D none 0 w)) ?_
    rintro e w' ⟨rfl, rfl⟩
    exact ⟨rfl, by rw [show tsort [] = [] by simp [tsort]]; exact hR, Below.refl _ _⟩
  · obtain ⟨g, cap, rfl, hbg, hgl, hncap, hcm, hlen, hH⟩ := Lib.holds_of_ownsRow hR hv
    refine Calls.mono (calls_of_every_depth (fun D => AnyS.slices_Sort_string_alone laysSort D g 0 cap S w hH hgl (by omega))) ?_
    rintro e w' ⟨rfl, nn, os, rfl⟩
    rcases hR.2 with ⟨h0, _⟩ | ⟨g', cap', cur, hv', hbase, hb', h1, h2, h3, h4⟩
    · cases h0
    cases hv'
    have hs := ownsRow_sorted (n := nn) (os := os) (ts := tsort S) (tsort_len S) hbase hb' h1 h2 h3
    refine ⟨rfl, ?_, (Below.refl _ _).grown (grownBy_sorted _) hb (fun j hj => by cases hj; exact hbase)⟩
    rw [TRow, tsort_len]
    exact hs
/-! Appending a text. -/
def kTo (A : List Ev) (i : Nat) : List (List UInt8) := (A.take i).map (·.key)
theorem infoT : (Tryz.prog.info? 9).map (fun i => (i.zero, i.size, i.bytes)) = some (some (.string ByteArray.empty), 1, 16) := by kernel_rfl
theorem new_one (w : World) (a : Value) (t : TypeId) : ∀ j u, [a][j]? = some u → (w.alloc (Obj.cells #[a] t)).cell? ((⟨w.heap.size, 0, none⟩ : Addr).add j) = some u := by
  intro j u hu
  rw [Addr.add_lit, Nat.zero_add, World.cell?_alloc_mark]
  simpa using hu
theorem TRow.below {w w' : World} {base B : Nat} {v : Value} {S : List (List UInt8)} (h : TRow w base v S) (hb : Below B w w') (hB : w.heap.size ≤ B) : TRow w' base v S := by
  refine ⟨h.1, ?_⟩
  rcases h.2 with hn | ⟨g, cap, cur, e, hbg, hg, rest⟩
  · exact .inl hn
  · have hlt := (Array.getElem?_eq_some_iff.1 hg).1
    exact .inr ⟨g, cap, cur, e, hbg, by rw [hb.block g (by omega)]; exact hg, rest⟩
theorem TRow.lower {w : World} {base b : Nat} {v : Value} {S : List (List UInt8)} (h : TRow w base v S) (hb : b ≤ base) : TRow w b v S := by
  refine ⟨h.1, ?_⟩
  rcases h.2 with hn | ⟨g, cap, cur, e, hbg, rest⟩
  · exact .inl hn
  · exact .inr ⟨g, cap, cur, e, Nat.le_trans hb hbg, rest⟩
theorem kTo_succ {A : List Ev} {i : Nat} {u : Ev} (h : A[i]? = some u) : kTo A (i + 1) = kTo A i ++ [u.key] := by
  rw [kTo, take_snoc h, List.map_append]
  rfl
theorem kTo_len (A : List Ev) (i : Nat) : (kTo A i).length ≤ i := by
  rw [kTo, List.length_map, List.length_take]
  omega
theorem TRow.own {w : World} {base : Nat} {v : Value} {S : List (List UInt8)} (h : TRow w base v S) : ∀ k, v.ownBlock = some k → base ≤ k := by
  rcases h.2 with ⟨rfl, -⟩ | ⟨g, cap, cur, rfl, hb, -⟩
  · intro k hk; cases hk
  · intro k hk; cases hk; exact hb
theorem wpList_appT {t : ByteArray} {ops : Array Oper} {rest : List Oper} {o : Oper} {a : Act} {w : World} {Q : Exit → Act → World → Prop} (hw : Region.wanted o (yielded ops a.tmps) = true) (s x : Operand)
    (ho : o.op = .call { callee := .builtin .append, args := #[s, x], argTypes := #[22, 22] })
    (base : Nat) (v : Value) (S : List (List UInt8)) (hs : a.eval s = v) (hown : TRow (w.alloc (Obj.cells #[Value.string t] 9)) base v S) (t' : List UInt8) (ht : t = sb t')
    (hx : a.eval x = .slice (some ⟨w.heap.size, 0, none⟩) 1 1) (hnm : S.length ≤ 1048575) (hbase : base ≤ w.heap.size)
    (h : ∀ v' w', TRow w' base v' (S ++ [t']) → (w.alloc (Obj.cells #[Value.string t] 9)).grownBy w' v.ownBlock → wpList Tryz.prog ops Q rest (a.put o.dst v') w') : wpList Tryz.prog ops Q (o :: rest) a (w.alloc (Obj.cells #[Value.string t] 9)) := by
  obtain ⟨i0, hi, hz0, hz1, hz2⟩ := info_parts infoT
  refine wpList_step fun K hK => ?_
  rw [if_pos hw]
  refine wp_append_own _ s x 22 ho base 9 i0 (.string ByteArray.empty) 1 16 Tryz.underlying22 hi hz0 hz1 hz2 rfl (by omega) v S.length _ hs hown ⟨w.heap.size, 0, none⟩ 1 1 [Value.string t] hx rfl (new_one w (Value.string t) 9) (by simp [Value.oneCell']) (by unfold maxLen; omega) (by omega) (by simp; omega) fun v' w' h2 h3 _ => hK _ _ (h v' w' ?_ h3)
  rw [TRow, List.length_append, List.map_append]
  subst ht
  exact h2
def keysE (E : List Ev) : List (List UInt8) := Lib.compact (tsort ((allE E).map (·.key)))
theorem keysE_len (E : List Ev) : (keysE E).length ≤ E.length := by
  have h1 := Lib.compact_length_le (tsort ((allE E).map (·.key)))
  have h2 := all_length E
  rw [tsort_len, List.length_map] at h1
  unfold keysE
  omega
end Go.Proofs.YtmlfekbmbnfkjaaGreatDoor

/-
  Texts: two lists of texts that are alike.
-/
namespace Go.Proofs.YtmlfekbmbnfkjaaGreatDoor
set_option maxRecDepth 100000
set_option maxRecDepth 100000
open Go.RowKit Go.Shelf Go.Sort

/-- A list of texts, as it is read. -/
def TL (w : World) (ao : Option Addr) (S : List (List UInt8)) : Prop := ∀ j t, S[j]? = some t → ∃ g, ao = some ⟨g, 0, none⟩ ∧ w.cell? ⟨g, j, none⟩ = some (.string (sb t))
theorem TRow.tl {w : World} {base : Nat} {v : Value} {S : List (List UInt8)} (h : TRow w base v S) : ∃ ao c, v = .slice ao S.length c ∧ TL w ao S := by
  rcases h.2 with ⟨rfl, h0⟩ | ⟨g, cap, cur, rfl, hb, hg, hnc, hcm, hcs, htake⟩
  · have : S = [] := List.eq_nil_of_length_eq_zero h0
    subst this
    exact ⟨none, 0, rfl, fun j t h => by cases h⟩
  · refine ⟨some ⟨g, 0, none⟩, cap, rfl, fun j t ht => ⟨g, rfl, ?_⟩⟩
    have h1 := h.cells (g := g) rfl j (encStr t) (by rw [List.getElem?_map, ht]; rfl)
    rw [Addr.add_mid, Nat.zero_add] at h1
    exact h1
theorem TL.below {w w' : World} {ao : Option Addr} {S : List (List UInt8)} {B : Nat} (h : TL w ao S) (hb : Below B w w') (hB : w.heap.size ≤ B) : TL w' ao S := fun j t ht => by
  obtain ⟨g, hg, hc⟩ := h j t ht
  exact ⟨g, hg, (hb.cell (Nat.lt_of_lt_of_le (World.block_lt_of_cell? w _ hc) hB)).trans hc⟩
set_option maxHeartbeats 1000000 in
theorem texts_yes (a1 a2 : Option Addr) (c1 c2 : Nat) (S : List (List UInt8)) (w : World) (h1 : TL w a1 S) (h2 : TL w a2 S) (hm : S.length ≤ 1048576) :
    Calls Tryz.prog 32 #[.slice a1 S.length c1, .slice a2 S.length c2] w fun e w' => e = .returned (.bool true) ∧ Below w.heap.size w w' := by
  have H1 : Aside (TL w a1 S ∧ TL w a2 S) := ⟨h1, h2⟩
  clear h1 h2
  obtain ⟨m, hmS⟩ : ∃ m, m = S.length := ⟨_, rfl⟩
  have HM : Hid (m = S.length) := hmS
  rw [← hmS] at hm ⊢
  clear hmS
  go_enter Tryz.func32, Tryz.ntmps32
  go_wp2_with fail
  go_loopg [13] m (fun kx s13 wr => ∃ k : Nat, s13 = .int .i64 (k : Int) ∧ k ≤ m ∧ m - k ≤ kx ∧ Aside (Below w.heap.size w wr))
  case atStart => exact ⟨0, rfl, Nat.zero_le _, by omega, Below.refl _ _⟩
  case round =>
    obtain ⟨k, rfl, hk, hkx, HB⟩ := hrel
    by_cases hkm : k < m
    · have hkz : (k : Int) < (m : Int) := by omega
      obtain ⟨t, ht⟩ : ∃ t, S[k]? = some t := ⟨_, List.getElem?_eq_getElem (by have := HM.out; omega)⟩
      obtain ⟨g1, rfl, d1⟩ := (H1.out.1.below HB.out (Nat.le_refl _)) k t ht
      obtain ⟨g2, rfl, d2⟩ := (H1.out.2.below HB.out (Nat.le_refl _)) k t ht
      go_upto_region 6 with (fail)
      go_quiet (fail)
      go_wp2
      go_roundg (m - (k + 1))
      case measure => omega
      case rel => exact ⟨k + 1, by go_num, by omega, Nat.le_refl _, Below.drewN HB.out _⟩
    · obtain rfl : k = m := by omega
      go_wp2
      go_ret
      exact ⟨rfl, HB.out⟩
end Go.Proofs.YtmlfekbmbnfkjaaGreatDoor

