/-
  What Trim and Events of a log come to.
-/
import Derived.Test.YteanpepmncgagaaPdf
import Derived.Lib.SliceRun
namespace Go.Proofs.Yteanpepmncgagaa
set_option maxRecDepth 100000
open Go.RowKit

theorem eclone_any (ao : Option Addr) (m c : Nat) (E : List Ev) (w : World) (hE : Evs w ao m c E) (hm : m ≤ 1048576) :
    Calls Try.prog 35 #[.slice ao m c] w fun e w' => ∃ v, e = .returned v ∧ Row w' w.heap.size v E ∧ Below w.heap.size w w' := by
  cases ao with
  | none =>
    obtain ⟨h0, h1⟩ := hE.zero rfl
    subst h0 h1
    have hl : E = [] := List.eq_nil_of_length_eq_zero hE.len
    subst hl
    have heq := fun w : World => Lib.run_eql_slice_nil (P := Try.prog) w 27 39 none 0 0 0 0 Try.underlying27
    go_enter Try.func35, Try.ntmps35
    go_wp2
    go_ret
    exact ⟨_, rfl, row_nil _ _, Below.refl _ _⟩
  | some ad =>
    have hR := row_empty w w.heap.size (Nat.le_refl _)
    have hB1 := hE.below ((Below.refl _ w).alloc (Nat.le_refl _) (Obj.cells #[] 39)) (Nat.le_refl _)
    have HB : Hid _ := (Below.refl _ w).alloc (Nat.le_refl _) (Obj.cells #[] 39)
    have heq := fun w : World => Lib.run_eql_slice_nil (P := Try.prog) w 27 39 (some ad) m c 0 0 Try.underlying27
    clear hE
    go_enter Try.func35, Try.ntmps35
    go_wp2_with (refine wpList_appE rfl _ _ rfl w.heap.size _ [] rfl hR _ m c E rfl hB1 (by simp; omega) (by simp) ?_)
    intro v' w' h1 h2 h3
    have hb := HB.out.grown h2 (by simp) (fun k hk => by simp only [Value.ownBlock, Option.some.injEq] at hk; omega)
    clear hR hB1 HB h2 h3
    go_wp2
    go_ret
    exact ⟨v', rfl, by simpa using h1, hb⟩
theorem src_back {w W0 : World} {p : Value} {E : List Ev} {g : Nat} {v : Value} (h : LP w p E) (hb : Below w.heap.size w W0) (hs : Src W0 p g v) : Src w p g v ∧ ∀ k, v.ownBlock = some k → k < w.heap.size := by
  rcases hs with ⟨rfl, hc⟩ | ⟨rfl, h1, h2⟩
  · rcases h with ⟨g', v', hp, hL⟩ | ⟨hp, -⟩
    · injection hp with hp; injection hp with hp; injection hp with hp
      subst hp
      have hc' := (hb.block _ hL.lt).symm.trans hc
      refine ⟨.inl ⟨rfl, hc'⟩, fun k e1 => ?_⟩
      rw [hL.uniq hc'] at e1
      exact hL.rowLt e1
    · cases hp
  · exact ⟨.inr ⟨rfl, by have := hb.size; omega, h2⟩, by rw [h2]; intro k e1; cases e1⟩
set_option maxHeartbeats 1000000 in
theorem pevents_any (p : Value) (E : List Ev) (hm : E.length ≤ 1000) (w : World) (h : LP w p E) : Calls Try.prog 18 #[p] w fun ex w' => ∃ r, ex = .returned r ∧ Row w' w.heap.size r E ∧ Below w.heap.size w w' := by
  have hO := porz_any p E w h
  clear h
  go_enter Try.func18, Try.ntmps18
  go_wp2_with fail
  refine Calls.mono hO ?_
  rintro ex w1 ⟨g, v, rfl, hL, hb, -⟩
  obtain ⟨ao, c, rfl, hE⟩ := hL.val
  have hc := hL.c0
  have hC := eclone_any ao E.length c E w1 hE (by omega)
  have HB : Hid _ := hb
  clear hL hO hb hE
  go_wp2_with fail
  refine Calls.mono hC ?_
  rintro ex w2 ⟨r, rfl, hR, hb2⟩
  have HF : Hid (Row w2 w.heap.size r E ∧ Below w.heap.size w w2) := ⟨hR.lower HB.out.size, HB.out.trans (hb2.mono HB.out.size)⟩
  clear hR hb2 hC HB hc
  go_wp2
  go_ret
  exact ⟨_, rfl, HF.out⟩
set_option maxHeartbeats 2000000 in
theorem ptrim_any (p : Value) (E : List Ev) (x : List Int) (hx : x.length = 16) (hm : E.length ≤ 1000) (w : World) (h : LP w p E) : Calls Try.prog 15 #[p, .agg (vals x)] w fun ex w' => ex = .returned (.int .i64 ((E.length - (trimE E x).length : Nat) : Int)) ∧ ∃ g v v', Lp 31 w' g v' (trimE E x) ∧ Tn g v.ownBlock v'.ownBlock w w' ∧ Src w p g v := by
  have hb0 : Below w.heap.size w (w.alloc (.cells (vals x) 35)) := (Below.refl _ w).alloc (Nat.le_refl _) _
  have hV0 := lies_new w x
  have hO := porz_any p E _ (h.below hb0)
  have hl0 := hV0.lt
  generalize hW0 : w.alloc (.cells (vals x) 35) = W0 at *
  have HS : Hid (∀ g v, Src W0 p g v → Src w p g v ∧ ∀ k, v.ownBlock = some k → k < w.heap.size) := fun g v hs => src_back h hb0 hs
  clear h
  go_enter Try.func15, Try.ntmps15
  go_wp2_with fail
  refine Calls.mono hO ?_
  rintro ex w1 ⟨g, v, rfl, hL, hb1, hs⟩
  have hb01 : Below w.heap.size w w1 := hb0.trans (hb1.mono hb0.size)
  have hV := hV0.below hb1 hl0
  have HSS : Hid (Src w p g v) := (HS.out g v hs).1
  have hvb := (HS.out g v hs).2
  have hD := pdel_any 0 v E w.heap.size x w1 hL.row hL.wide hm hV hx (fun k hk => by have := hvb k hk; omega)
  obtain ⟨ao, c, hv, -⟩ := hL.val
  have hc := hL.c0
  have HL : Hid (Lp 31 w1 g v E) := hL
  have HB1 : Hid (Below w.heap.size w w1) := hb01
  rw [hv] at hD hc
  have HV : Hid (v = .slice ao E.length c) := hv
  clear hL hb1 hb01 hb0 hV hvb hO hs HS hv hV0
  go_wp2_with fail
  refine Calls.mono hD ?_
  rintro ex w2 ⟨v', rfl, hR2, hg2, ho2⟩
  have hwd : ∀ e ∈ trimE E x, Wide e := fun e he => HL.out.wide e (trim_mem he)
  obtain ⟨a2, c2, rfl, -⟩ := hR2.evs hwd
  rw [← HV.out] at hg2 ho2
  have hc2 : w2.heap[g]? = some (.cells #[v] 31 (0, 0)) := (hg2.block g HL.out.lt (fun e1 => HL.out.apart tl_ne e1.symm rfl)).trans HL.out.cell
  obtain ⟨hst, hL3⟩ := set_log hc2 tl_ne hR2 hwd
  have hlen := trim_len E x
  have HT : Hid (Lp 31 (w2.setCell ⟨g, 0, none⟩ (.slice a2 (trimE E x).length c2)) g (.slice a2 (trimE E x).length c2) (trimE E x) ∧ Tn g v.ownBlock (Value.slice a2 (trimE E x).length c2).ownBlock w (w2.setCell ⟨g, 0, none⟩ (.slice a2 (trimE E x).length c2))) := by
    refine ⟨hL3, hg2.os.trans HB1.out.os, hg2.tape.trans HB1.out.tape, hg2.output.trans HB1.out.output, ?_, fun k hk hkg hkv => ?_, fun k hk => .inl (ho2 k hk)⟩
    · have := HB1.out.size
      have := hg2.size
      rw [size_setC]; omega
    · rw [Below.heap_setCell w2 ⟨g, 0, none⟩ _ k hkg, hg2.block k (Nat.lt_of_lt_of_le hk HB1.out.size) (fun e1 => hkv e1.symm), HB1.out.block k hk]
  have hc3 := hL3.c0
  clear hR2 hg2 ho2 hc2 hL3 HL HB1 hwd hD hc
  obtain ⟨n2, hn2⟩ : ∃ n2, (trimE E x).length = n2 := ⟨_, rfl⟩
  obtain ⟨n1, hn1⟩ : ∃ n1, E.length = n1 := ⟨_, rfl⟩
  have HN : Hid ((trimE E x).length = n2 ∧ E.length = n1) := ⟨hn2, hn1⟩
  rw [hn2] at hst HT hc3 hlen
  rw [hn1] at hlen hm
  generalize hw3 : w2.setCell ⟨g, 0, none⟩ (.slice a2 n2 c2) = w3 at *
  have hw : IntKind.i64.wrap ((n1 : Int) - (n2 : Int)) = ((n1 - n2 : Nat) : Int) := by simp [IntKind.wrap, IntKind.signed, IntKind.bits]; omega
  rw [hn1, hn2]
  clear hn1 hn2 hw3 hlen HV
  go_wp2_with (refine wpList_storeR (ty := 27) (x := .tmp 21) (y := .tmp 19) (ad := ⟨g, 0, none⟩) (v := .slice a2 n2 c2) (w' := w3) rfl rfl rfl rfl hst ?_)
  go_ret
  exact ⟨by rw [HN.out.1, HN.out.2]; rfl, g, v, _, HT.out.1, HT.out.2, HSS.out⟩
end Go.Proofs.Yteanpepmncgagaa
