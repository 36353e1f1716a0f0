/-
  What slices.Sort and slices.Compact of texts come to; what Keys comes to.
-/
import Derived.Test.YtmnhbkehicpohaaLso
import Derived.Test.YtmnhbkehicpohaaLal
import Derived.Sort.OwnSorted
import Derived.Sort.Grow
import Derived.Lib.OwnBridge
import Derived.Sort.EveryDepth
namespace Go.Proofs.Ytmnhbkehicpohaa
set_option maxRecDepth 100000
open Go.RowKit Go.Shelf Go.Sort

abbrev TRow (w : World) (base : Nat) (v : Value) (S : List (List UInt8)) : Prop := w.ownsRow base 9 1 v S.length (S.map encStr)
def tsort (S : List (List UInt8)) : List (List UInt8) := S.mergeSort fun x y => decide (x ≤ y)
theorem tsort_len (S : List (List UInt8)) : (tsort S).length = S.length := List.length_mergeSort S
theorem sorts_any (base : Nat) (v : Value) (S : List (List UInt8)) (w : World) (hR : TRow w base v S) (hL : S.length ≤ 1000) (hb : base ≤ w.heap.size) :
    Calls Try.prog 36 #[v] w fun e w' => e = .returned (.tuple #[]) ∧ TRow w' base v (tsort S) ∧ Below base w w' := by
  by_cases hv : v = .slice none 0 0
  · subst hv
    have h0 : S = [] := by
      rcases hR.2 with ⟨-, h0⟩ | ⟨g, cap, cur, h, -⟩
      · exact List.eq_nil_of_length_eq_zero h0
      · cases h
    subst h0
    refine Calls.mono (calls_of_every_depth (fun D => AnyS.slices_Sort_string_none_alone laysSort D none 0 w)) ?_
    rintro e w' ⟨rfl, rfl⟩
    exact ⟨rfl, by rw [show tsort [] = [] by simp [tsort]]; exact hR, Below.refl _ _⟩
  · obtain ⟨g, cap, rfl, hbg, hgl, hncap, hcm, hlen, hH⟩ := Lib.holds_of_ownsRow hR hv
    refine Calls.mono (calls_of_every_depth (fun D => AnyS.slices_Sort_string_alone laysSort D g 0 cap S w hH hgl (by omega))) ?_
    rintro e w' ⟨rfl, nn, os, rfl⟩
    rcases hR.2 with ⟨h0, _⟩ | ⟨g', cap', cur, hv', hbase, hb', h1, h2, h3, h4⟩
    · cases h0
    cases hv'
    have hs := ownsRow_sorted (n := nn) (os := os) (ts := tsort S) (tsort_len S) hbase hb' h1 h2 h3
    refine ⟨rfl, ?_, (Below.refl _ _).grown (grownBy_sorted _) hb (fun j hj => by cases hj; exact hbase)⟩
    rw [TRow, tsort_len]
    exact hs
theorem compact_any (base : Nat) (v : Value) (S : List (List UInt8)) (w : World) (hR : TRow w base v S) (hL : S.length ≤ 1000) :
    Calls Try.prog 37 #[v] w fun e w' => ∃ v', e = .returned v' ∧ TRow w' base v' (Lib.compact S) ∧ Below base w w' := by
  by_cases hv : v = .slice none 0 0
  · subst hv
    have h0 : S = [] := by
      rcases hR.2 with ⟨-, h0⟩ | ⟨g, cap, cur, h, -⟩
      · exact List.eq_nil_of_length_eq_zero h0
      · cases h
    subst h0
    refine Calls.mono (calls_of_every_depth (fun D => AnyS.slices_Compact_string_empty_in laysCompact D none 0 w)) ?_
    rintro e w' ⟨rfl, rfl⟩
    exact ⟨_, rfl, hR, Below.refl _ _⟩
  · obtain ⟨g, cap, rfl, hbg, hgl, hncap, hcm, hlen, hH⟩ := Lib.holds_of_ownsRow hR hv
    refine Calls.mono (calls_of_every_depth (fun D => AnyS.slices_Compact_string_in laysCompact D g 0 cap S w hH (by omega) hncap)) ?_
    rintro e w' ⟨rfl, q, rfl⟩
    have hle := Lib.compact_length_le S
    have hc := Lib.ownsRow_putRow (q := q) (k := (Lib.compact S).length) (ys := Lib.compact S ++ List.replicate (S.length - (Lib.compact S).length) []) hR (by simp; omega) (by omega)
    rw [List.take_left] at hc
    exact ⟨_, rfl, hc, Lib.below_putRow (Below.refl _ _) hbg⟩
/-! Appending a text. -/
def kTo (A : List Ev) (i : Nat) : List (List UInt8) := (A.take i).map (·.key)
theorem infoT : (Try.prog.info? 9).map (fun i => (i.zero, i.size, i.bytes)) = some (some (.string ByteArray.empty), 1, 16) := by kernel_rfl
theorem new_one (w : World) (a : Value) (t : TypeId) : ∀ j u, [a][j]? = some u → (w.alloc (Obj.cells #[a] t)).cell? ((⟨w.heap.size, 0, none⟩ : Addr).add j) = some u := by
  intro j u hu
  rw [Addr.add_lit, Nat.zero_add, World.cell?_alloc_mark]
  simpa using hu
theorem TRow.below {w w' : World} {base B : Nat} {v : Value} {S : List (List UInt8)} (h : TRow w base v S) (hb : Below B w w') (hB : w.heap.size ≤ B) : TRow w' base v S := by
  refine ⟨h.1, ?_⟩
  rcases h.2 with hn | ⟨g, cap, cur, e, hbg, hg, rest⟩
  · exact .inl hn
  · have hlt := (Array.getElem?_eq_some_iff.1 hg).1
    exact .inr ⟨g, cap, cur, e, hbg, by rw [hb.block g (by omega)]; exact hg, rest⟩
theorem TRow.lower {w : World} {base b : Nat} {v : Value} {S : List (List UInt8)} (h : TRow w base v S) (hb : b ≤ base) : TRow w b v S := by
  refine ⟨h.1, ?_⟩
  rcases h.2 with hn | ⟨g, cap, cur, e, hbg, rest⟩
  · exact .inl hn
  · exact .inr ⟨g, cap, cur, e, Nat.le_trans hb hbg, rest⟩
theorem kTo_succ {A : List Ev} {i : Nat} {u : Ev} (h : A[i]? = some u) : kTo A (i + 1) = kTo A i ++ [u.key] := by
  rw [kTo, take_snoc h, List.map_append]
  rfl
theorem kTo_len (A : List Ev) (i : Nat) : (kTo A i).length ≤ i := by
  rw [kTo, List.length_map, List.length_take]
  omega
theorem TRow.own {w : World} {base : Nat} {v : Value} {S : List (List UInt8)} (h : TRow w base v S) : ∀ k, v.ownBlock = some k → base ≤ k := by
  rcases h.2 with ⟨rfl, -⟩ | ⟨g, cap, cur, rfl, hb, -⟩
  · intro k hk; cases hk
  · intro k hk; cases hk; exact hb
theorem wpList_appT {t : ByteArray} {ops : Array Oper} {rest : List Oper} {o : Oper} {a : Act} {w : World} {Q : Exit → Act → World → Prop} (hw : Region.wanted o (yielded ops a.tmps) = true) (s x : Operand)
    (ho : o.op = .call { callee := .builtin .append, args := #[s, x], argTypes := #[38, 38] })
    (base : Nat) (v : Value) (S : List (List UInt8)) (hs : a.eval s = v) (hown : TRow (w.alloc (Obj.cells #[Value.string t] 9)) base v S) (t' : List UInt8) (ht : t = sb t')
    (hx : a.eval x = .slice (some ⟨w.heap.size, 0, none⟩) 1 1) (hnm : S.length ≤ 1048575) (hbase : base ≤ w.heap.size)
    (h : ∀ v' w', TRow w' base v' (S ++ [t']) → (w.alloc (Obj.cells #[Value.string t] 9)).grownBy w' v.ownBlock → wpList Try.prog ops Q rest (a.put o.dst v') w') : wpList Try.prog ops Q (o :: rest) a (w.alloc (Obj.cells #[Value.string t] 9)) := by
  obtain ⟨i0, hi, hz0, hz1, hz2⟩ := info_parts infoT
  refine wpList_step fun K hK => ?_
  rw [if_pos hw]
  refine wp_append_own _ s x 38 ho base 9 i0 (.string ByteArray.empty) 1 16 Try.underlying38 hi hz0 hz1 hz2 rfl (by omega) v S.length _ hs hown ⟨w.heap.size, 0, none⟩ 1 1 [Value.string t] hx rfl (new_one w (Value.string t) 9) (by simp [Value.oneCell']) (by unfold maxLen; omega) (by omega) (by simp; omega) fun v' w' h2 h3 _ => hK _ _ (h v' w' ?_ h3)
  rw [TRow, List.length_append, List.map_append]
  subst ht
  exact h2
def keysE (E : List Ev) : List (List UInt8) := Lib.compact (tsort ((allE E).map (·.key)))
theorem keysE_len (E : List Ev) : (keysE E).length ≤ E.length := by
  have h1 := Lib.compact_length_le (tsort ((allE E).map (·.key)))
  have h2 := all_length E
  rw [tsort_len, List.length_map] at h1
  unfold keysE
  omega
set_option maxHeartbeats 1000000 in
theorem keys_any (ao : Option Addr) (m c : Nat) (E : List Ev) (w : World) (hE : Evs w ao m c E) (hm : m ≤ 1000) :
    Calls Try.prog 17 #[.slice ao m c] w fun e w' => ∃ v, e = .returned v ∧ TRow w' w.heap.size v (keysE E) ∧ Below w.heap.size w w' := by
  have hlen := hE.len
  have hw : Hid (∀ e ∈ allE E, Wide e) := fun e he => hE.wide e (all_mem.1 he).1
  go_enter Try.func17, Try.ntmps17
  go_wp2_with fail
  refine (all_any ao m c E w hE hm).mono ?_
  rintro e w1 ⟨v1, rfl, hR1, hb1⟩
  obtain ⟨a1, c1, hv1, hE1⟩ := hR1.evs hw.out
  subst hv1
  have hl1 := all_length E
  have HK : Hid (keysE E = Lib.compact (tsort ((allE E).map (·.key)))) := rfl
  have hn : (allE E).length ≤ 1000 := by omega
  clear hE hR1 hl1 hlen hw
  generalize allE E = A at *
  have hA := hE1.len
  obtain ⟨n, hnA⟩ : ∃ n, n = A.length := ⟨_, rfl⟩
  rw [← hnA] at hn hE1 ⊢
  have HE1 : Aside (Evs w1 a1 n c1 A) := hE1
  have H0 : Aside (TRow w1 w1.heap.size (.slice none 0 0) (kTo A 0) ∧ Below w1.heap.size w1 w1) := ⟨World.ownsRow_nil _ _ _ _, Below.refl _ _⟩
  have HB1 : Hid (Below w.heap.size w w1) := hb1
  have HN : Hid (n = A.length) := hnA
  clear hE1 hb1 hA hnA
  go_wp2
  go_loopg [3, 9] n (fun kx s3 s9 wr => ∃ i : Nat, s9 = .int .i64 i ∧ i ≤ n ∧ n - i ≤ kx ∧ Aside (TRow wr w1.heap.size s3 (kTo A i) ∧ Below w1.heap.size w1 wr))
  case atStart => exact ⟨0, rfl, Nat.zero_le _, by omega, H0⟩
  case round =>
    clear H0
    obtain ⟨i, rfl, him, hkx, HS⟩ := hrel
    by_cases hlt : i < n
    · have hltz : (i : Int) < (n : Int) := by omega
      obtain ⟨b, off, u, rfl, hui, hu, hr, hbl⟩ := (HE1.out.below HS.out.2 (Nat.le_refl _)).at hlt
      have hu16 := hu.1
      have hix := fun W : World => index_ev W (b := b) (off := off) (k := i) (m := n) (c := c1) hlt
      have hz := liesE_new wr zv
      have hE1 : LiesE ((wr.alloc (.cells (evc zv) 30)).setRow wr.heap.size (evc u)) wr.heap.size u := hz.row u
      have hB1 : Below wr.heap.size wr ((wr.alloc (.cells (evc zv) 30)).setRow wr.heap.size (evc u)) := below_setRow ((Below.refl _ _).alloc (Nat.le_refl _) _) (Nat.le_refl _) _
      have HS1 : Aside (TRow ((wr.alloc (.cells (evc zv) 30)).setRow wr.heap.size (evc u)) w1.heap.size u3 (kTo A i) ∧ Below w1.heap.size w1 ((wr.alloc (.cells (evc zv) 30)).setRow wr.heap.size (evc u)) ∧ LiesE ((wr.alloc (.cells (evc zv) 30)).setRow wr.heap.size (evc u)) wr.heap.size u) :=
        ⟨HS.out.1.below hB1 (Nat.le_refl _), HS.out.2.trans (hB1.mono HS.out.2.size), hE1⟩
      clear hB1
      go_upto_region 5 with (first | refine load_ev_mid rfl rfl rfl hr hu16 ?_ | refine store_ev rfl rfl rfl rfl hz hu16 rfl ?_)
      change Code.wp _ _ _ _ ((wr.alloc (.cells (evc zv) 30)).setRow wr.heap.size (evc u))
      clear hE1 hz hr hix HS hbl
      generalize (wr.alloc (.cells (evc zv) 30)).setRow wr.heap.size (evc u) = W at HS1 ⊢
      generalize wr.heap.size = D at *
      have hE1 := HS1.out.2.2
      have c20 := hE1.c20 hu16
      have HSN : Hid (kTo A (i + 1) = kTo A i ++ [u.key]) := kTo_succ hui
      have hll := kTo_len A i
      have hRow : TRow (W.alloc (.cells #[.string (sb u.key)] 9)) w1.heap.size u3 (kTo A i) := HS1.out.1.below ((Below.refl _ _).alloc (Nat.le_refl _) _) (Nat.le_refl _)
      have hle : w1.heap.size ≤ W.heap.size := HS1.out.2.1.size
      have HB3 : Hid (Below w1.heap.size w1 (W.alloc (.cells #[.string (sb u.key)] 9))) := HS1.out.2.1.alloc hle _
      clear HS1
      go_wp2_with (at_builtin; refine wpList_appT rfl _ _ rfl w1.heap.size _ (kTo A i) rfl hRow u.key rfl rfl (by omega) hle ?_)
      intro v4 w4 hR4 hg4
      have HS4 : Aside (TRow w4 w1.heap.size v4 (kTo A (i + 1)) ∧ Below w1.heap.size w1 w4) := ⟨by rw [HSN.out]; exact hR4, HB3.out.grown hg4 (by simp; omega) hRow.own⟩
      clear hR4 hg4 hRow hE1 HB3 HSN hll hle c20
      go_wp2
      go_roundg (n - (i + 1))
      case measure => omega
      case rel => exact ⟨i + 1, by go_num, by omega, Nat.le_refl _, HS4⟩
    · obtain rfl : i = n := by omega
      have HR : Aside (TRow wr w.heap.size u3 (A.map (·.key)) ∧ Below w.heap.size w wr) := by
        have := HS.out
        rw [kTo, List.take_of_length_le (by have := HN.out; omega)] at this
        exact ⟨this.1.lower HB1.out.size, HB1.out.trans (this.2.mono HB1.out.size)⟩
      have hkl : (A.map (·.key)).length ≤ 1000 := by rw [List.length_map, ← HN.out]; exact hn
      clear HS HE1
      generalize A.map (·.key) = T at *
      go_wp2_with fail
      refine (sorts_any w.heap.size _ T wr HR.out.1 hkl HR.out.2.size).mono ?_
      rintro e w3 ⟨rfl, hR3, hb3⟩
      have HR3 : Aside (TRow w3 w.heap.size u3 (tsort T) ∧ Below w.heap.size w w3) := ⟨hR3, HR.out.2.trans hb3⟩
      clear hR3 hb3 HR
      go_wp2_with fail
      refine (compact_any w.heap.size _ (tsort T) w3 HR3.out.1 (by rw [tsort_len]; exact hkl)).mono ?_
      rintro e w4 ⟨v4, rfl, hR4, hb4⟩
      have HF : Hid (TRow w4 w.heap.size v4 (keysE E) ∧ Below w.heap.size w w4) := ⟨by rw [HK.out]; exact hR4, HR3.out.2.trans hb4⟩
      clear hR4 hb4 HR3 HK
      go_wp2
      go_ret
      exact ⟨_, rfl, HF.out⟩
end Go.Proofs.Ytmnhbkehicpohaa
