/-
  What the reference's All comes to.
-/
import Derived.Test.YtmnhbkehicpohaaLen
import Derived.Test.YtmnhbkehicpohaaLsl
namespace Go.Proofs.Ytmnhbkehicpohaa
set_option maxRecDepth 100000
open Go.RowKit

theorem wpl_ex {ops : Array Oper} {rest : List Oper} {o : Oper} {a : Act} {w : World} {Q : Exit → Act → World → Prop} {v : Value} (hw : Region.wanted o (yielded ops a.tmps) = true) (he : (execOp a.eval o).run Try.prog w = .ok (.value v) w)
    (h : wpList Try.prog ops Q rest (a.put o.dst v) w) : wpList Try.prog ops Q (o :: rest) a w :=
  wpList_step fun K hK => by
    rw [if_pos hw]
    unfold Oper.wp
    rw [he, Oper.upon_value]
    exact hK _ _ h
theorem enters_rends (xs : Array Value) (w : World) : (callFunc 15 xs).run Try.prog w = .ok (.enter 15 xs) w := enters Try.func15 (by kernel_rfl) (by kernel_rfl) xs w
theorem enters_rlater (xs : Array Value) (w : World) : (callFunc 31 xs).run Try.prog w = .ok (.enter 31 xs) w := enters Try.func31 (by kernel_rfl) (by kernel_rfl) xs w
theorem sub_one (W : World) (q : Nat) (hq : q ≤ 1048576) : (binOp .sub 3 (.int .i64 ((q + 1 : Nat) : Int)) (.int .i64 1)).run Try.prog W = .ok (.int .i64 (q : Int)) W := by
  have hw : IntKind.i64.wrap (q : Int) = (q : Int) := by simp [IntKind.wrap, IntKind.signed, IntKind.bits]; omega
  have he : (((q + 1 : Nat) : Int) - 1) = (q : Int) := by omega
  simp only [go_sem, he, hw]
  rfl
theorem gtr_b (W : World) (m n : Int) {t : Bool} (h : decide (n < m) = t) : (binOp .gtr 3 (.int .i64 m) (.int .i64 n)).run Try.prog W = .ok (.bool t) W := by
  subst h
  simp [go_sem]

theorem ins_at {S : List Ev} (hS : S.Pairwise fun x y => ltE y x = false) (u : Ev) (p : Nat) (hp : p ≤ S.length) (h1 : ∀ x ∈ S.drop p, laterE x u = true) (h2 : ∀ q x, p = q + 1 → S[q]? = some x → laterE x u = false) : insE u S = S.take p ++ u :: S.drop p := by
  have key := ins_split u (S.take p) (S.drop p) (fun a ha => ?_) (fun b hb => h1 b (List.mem_of_mem_head? hb))
  · rw [List.take_append_drop] at key
    exact key
  · cases p with
    | zero => simp at ha
    | succ q =>
      have hx : S[q]? = some (S[q]'(by omega)) := List.getElem?_eq_getElem (by omega)
      have hx1 := h2 q _ rfl hx
      obtain ⟨k, hk⟩ := List.getElem?_of_mem ha
      have hkq : k < q + 1 := by
        have := (List.getElem?_eq_some_iff.1 hk).1
        rw [List.length_take] at this
        omega
      rw [List.getElem?_take_of_lt hkq] at hk
      by_cases e : k = q
      · subst e
        rw [hx] at hk
        cases hk
        exact hx1
      · obtain ⟨hkl, hk2⟩ := List.getElem?_eq_some_iff.1 hk
        have h3 := List.pairwise_iff_getElem.1 hS k q hkl (by omega) (by omega)
        rw [hk2] at h3
        exact (ltE_swo.ntrans u _ a hx1 h3 : ltE u a = false)
def endTo (E : List Ev) (u : Ev) (j : Nat) : Bool := (typE u.kind == 0) || (E.take j).any (fun b => endsE b u)
theorem endTo_succ {E : List Ev} {u x : Ev} {j : Nat} (h : E[j]? = some x) : endTo E u (j + 1) = (endTo E u j || endsE x u) := by
  unfold endTo
  rw [take_snoc h, List.any_append, Bool.or_assoc]
  simp
theorem endTo_all {E : List Ev} {u : Ev} {j : Nat} (h : E.length ≤ j) : endTo E u j = !(isLive E u) := by
  unfold endTo isLive
  rw [List.take_of_length_le h]
  have : (typE u.kind == 0) = !(addsE u.kind) := by
    cases ha : addsE u.kind
    · simpa using (typ_adds u.kind).2 ha
    · have : ¬ typE u.kind = 0 := fun e => by rw [(typ_adds u.kind).1 e] at ha; cases ha
      simpa using this
  rw [this]
  cases addsE u.kind <;> simp
theorem srt_live {E : List Ev} {i : Nat} {u : Ev} (h : E[i]? = some u) : srtE (liveTo E (i + 1)) = if isLive E u then insE u (srtE (liveTo E i)) else srtE (liveTo E i) := by
  rw [liveTo_succ h]
  split
  · exact srt_snoc _ _
  · rfl
theorem srt_ord (l : List Ev) : (srtE l).Pairwise fun x y => ltE y x = false := (srt_st l).ord

set_option maxHeartbeats 4000000 in
theorem rall_any (ao : Option Addr) (m c : Nat) (E : List Ev) (w : World) (hE : Evs w ao m c E) (hm : m ≤ 1000) :
    Calls Try.prog 13 #[.slice ao m c] w fun e w' => ∃ v, e = .returned v ∧ Row w' w.heap.size v (allE E) ∧ Below w.heap.size w w' := by
  have hlen := hE.len
  have HE : Aside (Evs w ao m c E) := hE
  clear hE
  have H0 : Aside (Row w w.heap.size (.slice none 0 0) (srtE (liveTo E 0)) ∧ Below w.heap.size w w) := ⟨row_nil _ _, Below.refl _ _⟩
  go_enter Try.func13, Try.ntmps13
  go_wp2
  go_loopg [3, 11] m (fun kx s3 s11 wr => ∃ i : Nat, s11 = .int .i64 i ∧ i ≤ m ∧ m - i ≤ kx ∧ Aside (Row wr w.heap.size s3 (srtE (liveTo E i)) ∧ Below w.heap.size w wr))
  case atStart => exact ⟨0, rfl, Nat.zero_le _, by omega, H0⟩
  case round =>
    clear H0
    obtain ⟨i, rfl, him, hkO, HS⟩ := hrel
    by_cases hlt : i < m
    · have hltz : (i : Int) < (m : Int) := by omega
      obtain ⟨b1, o1, u, rfl, hui, hu, hr, hbl⟩ := (HE.out.below HS.out.2 (Nat.le_refl _)).at hlt
      have hu16 := hu.1
      obtain ⟨S, hS⟩ : ∃ S, srtE (liveTo E i) = S := ⟨_, rfl⟩
      have HI : Hid (srtE (liveTo E (i + 1)) = if isLive E u then insE u S else S) := by show _ = _; rw [← hS]; exact srt_live hui
      have HO : Hid (S.Pairwise fun x y => ltE y x = false) := by show List.Pairwise _ _; rw [← hS]; exact srt_ord _
      have hSl : S.length ≤ i := by rw [← hS, srt_length]; exact liveTo_len E i
      have HW : Hid (∀ e ∈ S, Wide e) := fun e he => HE.out.wide e (liveTo_mem (srt_mem.1 (by rw [hS]; exact he)))
      rw [hS] at HS
      clear hS
      have ck := range_kind hr hu16
      have hix := fun W : World => index_ev W (b := b1) (off := o1) (k := i) (m := m) (c := c) hlt
      go_wp2_with fail
      refine (rtype_any u.kind _).mono ?_
      rintro e w2 ⟨rfl, hb2⟩
      have HS2 : Aside (Row w2 w.heap.size u3 S ∧ Below w.heap.size w w2) := ⟨HS.out.1.below hb2 (Nat.le_refl _), HS.out.2.trans (hb2.mono HS.out.2.size)⟩
      clear HS hb2 hr ck hbl
      go_wp2
      go_loopg [5, 24] m (fun kx s5 s24 wr2 => ∃ j : Nat, s24 = .int .i64 j ∧ s5 = .bool (endTo E u j) ∧ j ≤ m ∧ m - j ≤ kx ∧ Aside (Below w2.heap.size w2 wr2))
      case atStart => exact ⟨0, rfl, by simp [endTo], Nat.zero_le _, by omega, Below.refl _ _⟩
      case round =>
        obtain ⟨j, rfl, rfl, hjm, hkx, HBr⟩ := hrel
        have HBw : Hid (Below w.heap.size w wr) := HS2.out.2.trans (HBr.out.mono HS2.out.2.size)
        by_cases hjl : j < m
        · have hjz : (j : Int) < (m : Int) := by omega
          obtain ⟨b1', o1', x, hb1', hxj, hwx, hr1, hl1⟩ := (HE.out.below HBw.out (Nat.le_refl _)).at hjl
          obtain ⟨b1'', o1'', u', hb1'', hui', -, hr2, hl2⟩ := (HE.out.below HBw.out (Nat.le_refl _)).at hlt
          obtain rfl : u = u' := by rw [hui] at hui'; exact Option.some.inj hui'
          simp only [Option.some.injEq, Addr.mk.injEq, and_true] at hb1' hb1''
          obtain ⟨rfl, rfl⟩ := hb1'
          obtain ⟨rfl, rfl⟩ := hb1''
          have HA : Hid (endTo E u (j + 1) = (endTo E u j || endsE x u)) := endTo_succ hxj
          generalize endTo E u j = t at *
          cases t with
          | true =>
            go_wp2_with fail
            refine wp_region_noPanic ?_
            refine wp_region_held_drew (S := fun W' : World => W'.rangeAt b1 (o1 + j * 26) (evl x) ∧ W'.rangeAt b1 (o1 + i * 26) (evl u)) (by kernel_rfl) ⟨hr1, hr2⟩ (fun hHeld => ?_)
            refine wpAnyH_take (i := 0) (oi := { dst := some 27, op := _, type := _, pos := _, after := _, guard := _ }) (v := .bool true) rfl (by kernel_rfl) (by kernel_rfl) (by kernel_rfl) (fun _ _ _ h => h) (Or.inl ⟨by rfl, ?_⟩) (by assumption) ?_
            · intro w9 hSw
              exact exec_move rfl rfl
            simp only [Act.put, List.setIfInBounds_toArray, List.set_cons_zero, List.set_cons_succ]
            refine wpAnyH_take (i := 1) (oi := { dst := some 28, op := _, type := _, pos := _, after := _, guard := _ }) (v := .bool true) rfl (by kernel_rfl) (by kernel_rfl) (by kernel_rfl) (fun _ _ _ h => h) (Or.inl ⟨by rfl, ?_⟩) (by assumption) ?_
            · intro w9 hSw
              exact exec_move rfl rfl
            simp only [Act.put, List.setIfInBounds_toArray, List.set_cons_zero, List.set_cons_succ]
            refine wpAnyH_take (i := 2) (oi := { dst := some 29, op := _, type := _, pos := _, after := _, guard := _ }) (v := undef) rfl (by kernel_rfl) (by kernel_rfl) (by kernel_rfl) (fun _ _ _ h => h) (Or.inr ⟨by rfl, rfl⟩) (by assumption) ?_
            simp only [Act.put, List.setIfInBounds_toArray, List.set_cons_zero, List.set_cons_succ]
            refine wpAnyH_take (i := 3) (oi := { dst := some 30, op := _, type := _, pos := _, after := _, guard := _ }) (v := undef) rfl (by kernel_rfl) (by kernel_rfl) (by kernel_rfl) (fun _ _ _ h => h) (Or.inr ⟨by rfl, rfl⟩) (by assumption) ?_
            simp only [Act.put, List.setIfInBounds_toArray, List.set_cons_zero, List.set_cons_succ]
            refine wpAnyH_take (i := 4) (oi := { dst := some 31, op := _, type := _, pos := _, after := _, guard := _ }) (v := undef) rfl (by kernel_rfl) (by kernel_rfl) (by kernel_rfl) (fun _ _ _ h => h) (Or.inr ⟨by rfl, rfl⟩) (by assumption) ?_
            simp only [Act.put, List.setIfInBounds_toArray, List.set_cons_zero, List.set_cons_succ]
            refine wpAnyH_take (i := 5) (oi := { dst := some 32, op := _, type := _, pos := _, after := _, guard := _ }) (v := undef) rfl (by kernel_rfl) (by kernel_rfl) (by kernel_rfl) (fun _ _ _ h => h) (Or.inr ⟨by rfl, rfl⟩) (by assumption) ?_
            simp only [Act.put, List.setIfInBounds_toArray, List.set_cons_zero, List.set_cons_succ]
            refine wpAnyH_take (i := 6) (oi := { dst := some 33, op := _, type := _, pos := _, after := _, guard := _ }) (v := undef) rfl (by kernel_rfl) (by kernel_rfl) (by kernel_rfl) (fun _ _ _ h => h) (Or.inr ⟨by rfl, rfl⟩) (by assumption) ?_
            simp only [Act.put, List.setIfInBounds_toArray, List.set_cons_zero, List.set_cons_succ]
            refine wpAnyH_take (i := 7) (oi := { dst := some 34, op := _, type := _, pos := _, after := _, guard := _ }) (v := undef) rfl (by kernel_rfl) (by kernel_rfl) (by kernel_rfl) (fun _ _ _ h => h) (Or.inr ⟨by rfl, rfl⟩) (by assumption) ?_
            simp only [Act.put, List.setIfInBounds_toArray, List.set_cons_zero, List.set_cons_succ]
            refine wpAnyH_take (i := 8) (oi := { dst := some 35, op := _, type := _, pos := _, after := _, guard := _ }) (v := undef) rfl (by kernel_rfl) (by kernel_rfl) (by kernel_rfl) (fun _ _ _ h => h) (Or.inr ⟨by rfl, rfl⟩) (by assumption) ?_
            simp only [Act.put, List.setIfInBounds_toArray, List.set_cons_zero, List.set_cons_succ]
            refine wpAnyH_take (i := 9) (oi := { dst := some 36, op := _, type := _, pos := _, after := _, guard := _ }) (v := undef) rfl (by kernel_rfl) (by kernel_rfl) (by kernel_rfl) (fun _ _ _ h => h) (Or.inr ⟨by rfl, rfl⟩) (by assumption) ?_
            simp only [Act.put, List.setIfInBounds_toArray, List.set_cons_zero, List.set_cons_succ]
            refine wpAnyH_take (i := 10) (oi := { dst := some 37, op := _, type := _, pos := _, after := _, guard := _ }) (v := undef) rfl (by kernel_rfl) (by kernel_rfl) (by kernel_rfl) (fun _ _ _ h => h) (Or.inr ⟨by rfl, rfl⟩) (by assumption) ?_
            simp only [Act.put, List.setIfInBounds_toArray, List.set_cons_zero, List.set_cons_succ]
            refine wpAnyH_take (i := 11) (oi := { dst := some 38, op := _, type := _, pos := _, after := _, guard := _ }) (v := .bool true) rfl (by kernel_rfl) (by kernel_rfl) (by kernel_rfl) (fun _ _ _ h => h) (Or.inl ⟨by rfl, ?_⟩) (by assumption) ?_
            · intro w9 hSw
              exact exec_pick (b := true) rfl rfl rfl rfl
            simp only [Act.put, List.setIfInBounds_toArray, List.set_cons_zero, List.set_cons_succ]
            refine wpAnyH_take (i := 12) (oi := { dst := some 5, op := _, type := _, pos := _, after := _, guard := _ }) (v := .bool true) rfl (by kernel_rfl) (by kernel_rfl) (by kernel_rfl) (fun _ _ _ h => h) (Or.inl ⟨by rfl, ?_⟩) (by assumption) ?_
            · intro w9 hSw
              exact exec_assign rfl rfl
            simp only [Act.put, List.setIfInBounds_toArray, List.set_cons_zero, List.set_cons_succ]
            refine wpAnyH_done (by kernel_rfl) ?_ _
            refine NoPanic.normal ?_
            clear hHeld
            have HB5 : Aside (Below w2.heap.size w2 wr.drew) := HBr.out.drew
            clear hr1 hr2 HBr HBw
            go_wp2
            go_roundg (m - (j + 1))
            case measure => omega
            case rel => exact ⟨j + 1, by go_num, by rw [HA.out]; rfl, by omega, Nat.le_refl _, HB5⟩
          | false =>
            go_wp2_with fail
            refine wp_region_noPanic ?_
            refine wp_region_held_drew (S := fun W' : World => W'.rangeAt b1 (o1 + j * 26) (evl x) ∧ W'.rangeAt b1 (o1 + i * 26) (evl u)) (by kernel_rfl) ⟨hr1, hr2⟩ (fun hHeld => ?_)
            refine wpAnyH_take (i := 0) (oi := { dst := some 27, op := _, type := _, pos := _, after := _, guard := _ }) (v := .bool false) rfl (by kernel_rfl) (by kernel_rfl) (by kernel_rfl) (fun _ _ _ h => h) (Or.inl ⟨by rfl, ?_⟩) (by assumption) ?_
            · intro w9 hSw
              exact exec_move rfl rfl
            simp only [Act.put, List.setIfInBounds_toArray, List.set_cons_zero, List.set_cons_succ]
            refine wpAnyH_take (i := 1) (oi := { dst := some 28, op := _, type := _, pos := _, after := _, guard := _ }) (v := .bool false) rfl (by kernel_rfl) (by kernel_rfl) (by kernel_rfl) (fun _ _ _ h => h) (Or.inl ⟨by rfl, ?_⟩) (by assumption) ?_
            · intro w9 hSw
              exact exec_move rfl rfl
            simp only [Act.put, List.setIfInBounds_toArray, List.set_cons_zero, List.set_cons_succ]
            refine wpAnyH_take (i := 2) (oi := { dst := some 29, op := _, type := _, pos := _, after := _, guard := _ }) (v := .slice (some ⟨b1, o1, none⟩) m c) rfl (by kernel_rfl) (by kernel_rfl) (by kernel_rfl) (fun _ _ _ h => h) (Or.inl ⟨by rfl, ?_⟩) (by assumption) ?_
            · intro w9 hSw
              exact exec_move rfl rfl
            simp only [Act.put, List.setIfInBounds_toArray, List.set_cons_zero, List.set_cons_succ]
            refine wpAnyH_take (i := 3) (oi := { dst := some 30, op := _, type := _, pos := _, after := _, guard := _ }) (v := .int .i64 (j : Int)) rfl (by kernel_rfl) (by kernel_rfl) (by kernel_rfl) (fun _ _ _ h => h) (Or.inl ⟨by rfl, ?_⟩) (by assumption) ?_
            · intro w9 hSw
              exact exec_move rfl rfl
            simp only [Act.put, List.setIfInBounds_toArray, List.set_cons_zero, List.set_cons_succ]
            refine wpAnyH_take (i := 4) (oi := { dst := some 31, op := _, type := _, pos := _, after := _, guard := _ }) (v := .pointer (some ⟨b1, o1 + j * 26, none⟩)) rfl (by kernel_rfl) (by kernel_rfl) (by kernel_rfl) (fun _ _ _ h => h) (Or.inl ⟨by rfl, ?_⟩) (by assumption) ?_
            · intro w9 hSw
              exact exec_index rfl rfl rfl (index_ev w9 hjl)
            simp only [Act.put, List.setIfInBounds_toArray, List.set_cons_zero, List.set_cons_succ]
            refine wpAnyH_take (i := 5) (oi := { dst := some 32, op := _, type := _, pos := _, after := _, guard := _ }) (v := .agg (evc x)) rfl (by kernel_rfl) (by kernel_rfl) (by kernel_rfl) (fun _ _ _ h => h) (Or.inl ⟨by rfl, ?_⟩) (by assumption) ?_
            · intro w9 hSw
              exact exec_load (ad := ⟨b1, o1 + j * 26, none⟩) rfl rfl (load_part hSw.1 hwx.1)
            simp only [Act.put, List.setIfInBounds_toArray, List.set_cons_zero, List.set_cons_succ]
            refine wpAnyH_take (i := 6) (oi := { dst := some 33, op := _, type := _, pos := _, after := _, guard := _ }) (v := .slice (some ⟨b1, o1, none⟩) m c) rfl (by kernel_rfl) (by kernel_rfl) (by kernel_rfl) (fun _ _ _ h => h) (Or.inl ⟨by rfl, ?_⟩) (by assumption) ?_
            · intro w9 hSw
              exact exec_move rfl rfl
            simp only [Act.put, List.setIfInBounds_toArray, List.set_cons_zero, List.set_cons_succ]
            refine wpAnyH_take (i := 7) (oi := { dst := some 34, op := _, type := _, pos := _, after := _, guard := _ }) (v := .int .i64 (i : Int)) rfl (by kernel_rfl) (by kernel_rfl) (by kernel_rfl) (fun _ _ _ h => h) (Or.inl ⟨by rfl, ?_⟩) (by assumption) ?_
            · intro w9 hSw
              exact exec_move rfl rfl
            simp only [Act.put, List.setIfInBounds_toArray, List.set_cons_zero, List.set_cons_succ]
            refine wpAnyH_take (i := 8) (oi := { dst := some 35, op := _, type := _, pos := _, after := _, guard := _ }) (v := .pointer (some ⟨b1, o1 + i * 26, none⟩)) rfl (by kernel_rfl) (by kernel_rfl) (by kernel_rfl) (fun _ _ _ h => h) (Or.inl ⟨by rfl, ?_⟩) (by assumption) ?_
            · intro w9 hSw
              exact exec_index rfl rfl rfl (index_ev w9 hlt)
            simp only [Act.put, List.setIfInBounds_toArray, List.set_cons_zero, List.set_cons_succ]
            refine wpAnyH_take (i := 9) (oi := { dst := some 36, op := _, type := _, pos := _, after := _, guard := _ }) (v := .agg (evc u)) rfl (by kernel_rfl) (by kernel_rfl) (by kernel_rfl) (fun _ _ _ h => h) (Or.inl ⟨by rfl, ?_⟩) (by assumption) ?_
            · intro w9 hSw
              exact exec_load (ad := ⟨b1, o1 + i * 26, none⟩) rfl rfl (load_part hSw.2 hu16)
            simp only [Act.put, List.setIfInBounds_toArray, List.set_cons_zero, List.set_cons_succ]
            clear hHeld
            refine wpAnyH_ready (rs := [10]) (by kernel_rfl) (by simp) ?_
            refine AllReadyH.cons (o := { dst := some 37, op := _, type := _, pos := _, after := _, guard := _ }) rfl (fun K hK => ?_) AllReadyH.nil
            rw [if_pos (by rfl)]
            refine wp_callL (xs := [.tmp 32, .tmp 36]) (vs := [.agg (evc x), .agg (evc u)]) rfl rfl (enters_rends _ _) (rends_any x u hwx.1 hu16 _) ?_
            rintro e w5 ⟨rfl, hb5⟩
            refine ⟨_, rfl, ?_⟩
            have hr1' := range_below (w := wr.drew) hr1 hb5 hl1
            have hr2' := range_below (w := wr.drew) hr2 hb5 hl2
            refine hK.out _ _ ⟨hr1', hr2'⟩ (fun hHeld => ?_)
            clear hK K
            simp only [Act.put, List.setIfInBounds_toArray, List.set_cons_zero, List.set_cons_succ]
            refine wpAnyH_take (i := 11) (oi := { dst := some 38, op := _, type := _, pos := _, after := _, guard := _ }) (v := .bool (endsE x u)) rfl (by kernel_rfl) (by kernel_rfl) (by kernel_rfl) (fun _ _ _ h => h) (Or.inl ⟨by rfl, ?_⟩) (by assumption) ?_
            · intro w9 hSw
              exact exec_pick (b := false) rfl rfl rfl rfl
            simp only [Act.put, List.setIfInBounds_toArray, List.set_cons_zero, List.set_cons_succ]
            refine wpAnyH_take (i := 12) (oi := { dst := some 5, op := _, type := _, pos := _, after := _, guard := _ }) (v := .bool (endsE x u)) rfl (by kernel_rfl) (by kernel_rfl) (by kernel_rfl) (fun _ _ _ h => h) (Or.inl ⟨by rfl, ?_⟩) (by assumption) ?_
            · intro w9 hSw
              exact exec_assign rfl rfl
            simp only [Act.put, List.setIfInBounds_toArray, List.set_cons_zero, List.set_cons_succ]
            refine wpAnyH_done (by kernel_rfl) ?_ _
            refine NoPanic.normal ?_
            clear hHeld
            have HB5 : Aside (Below w2.heap.size w2 w5) := (HBr.out.drew).trans (hb5.mono HBr.out.size)
            clear hr1 hr2 HBr HBw hb5
            go_wp2
            go_roundg (m - (j + 1))
            case measure => omega
            case rel => exact ⟨j + 1, by go_num, by rw [HA.out, Bool.false_or], by omega, Nat.le_refl _, HB5⟩
        · obtain rfl : m = j := by omega
          have HL : Hid (endTo E u m = !(isLive E u)) := endTo_all (by omega)
          have HS3 : Aside (Row wr w.heap.size u3 S ∧ Below w.heap.size w wr) := ⟨HS2.out.1.below HBr.out (Nat.le_refl _), HBw.out⟩
          clear HS2 HBr HBw
          rw [HL.out]
          cases hlv : isLive E u with
          | false =>
            have HS4 : Aside (Row wr w.heap.size u3 (srtE (liveTo E (i + 1))) ∧ Below w.heap.size w wr) := by rw [HI.out, hlv]; exact HS3.out
            clear HS3 HI HL HO
            go_wp2
            go_roundg (m - (i + 1))
            case measure => omega
            case rel => exact ⟨i + 1, by go_num, by omega, Nat.le_refl _, HS4⟩
          | true =>
            have HJ : Hid (srtE (liveTo E (i + 1)) = insE u S) := by show _ = _; rw [HI.out, if_pos hlv]
            clear HI
            rename World => w3
            obtain ⟨aS, cS, rfl, hES⟩ := HS3.out.1.evs HW.out
            have HZ0 : Aside (Evs w3 aS S.length cS S ∧ Below w.heap.size w w3) := ⟨hES, HS3.out.2⟩
            have hcS : S.length ≤ cS := hES.room
            clear hES HS3 HL hlv
            go_wp2
            go_loopg [7] S.length (fun kx s7 wr3 => ∃ p : Nat, s7 = .int .i64 p ∧ p ≤ S.length ∧ p ≤ kx ∧ Aside ((∀ x ∈ S.drop p, laterE x u = true) ∧ Below w3.heap.size w3 wr3))
            case atStart => exact ⟨S.length, rfl, Nat.le_refl _, Nat.le_refl _, ⟨by simp, Below.refl _ _⟩⟩
            case round =>
              obtain ⟨p, rfl, hpl, hkB, HP⟩ := hrel
              have HZ : Aside (Evs wr aS S.length cS S ∧ Below w.heap.size w wr) := ⟨HZ0.out.1.below HP.out.2 (Nat.le_refl _), HZ0.out.2.trans (HP.out.2.mono HZ0.out.2.size)⟩
              cases p with
              | zero =>
                go_wp2_with fail
                refine region_vals [43, 44, 45, 46, 47, 48, 49, 50, 51, 52, 53, 54, 55, 56] [.int .i64 ((0 : Nat) : Int), .bool false, .bool false, undef, undef, undef, undef, undef, undef, undef, undef, undef, undef, .bool false] _ (by kernel_rfl) (by kernel_rfl) (by rfl) (by decide) (by kernel_rfl) (by simp only [lay, Act.put, List.setIfInBounds_toArray, List.set_cons_zero, List.set_cons_succ, List.getD_cons_zero, List.getD_cons_succ, Nat.reduceAdd]; rfl) ⟨?_, ?_, ?_, ?_, ?_, ?_, ?_, ?_, ?_, ?_, ?_, ?_, ?_, ?_, trivial⟩ ?_
                · exact .inl ⟨rfl, fun W hb => yields_move rfl rfl⟩
                · exact .inl ⟨rfl, fun W hb => yields_bin rfl rfl rfl rfl (gtr_b W _ _ rfl)⟩
                · exact .inl ⟨rfl, fun W hb => yields_move rfl rfl⟩
                · exact .inr ⟨rfl, rfl⟩
                · exact .inr ⟨rfl, rfl⟩
                · exact .inr ⟨rfl, rfl⟩
                · exact .inr ⟨rfl, rfl⟩
                · exact .inr ⟨rfl, rfl⟩
                · exact .inr ⟨rfl, rfl⟩
                · exact .inr ⟨rfl, rfl⟩
                · exact .inr ⟨rfl, rfl⟩
                · exact .inr ⟨rfl, rfl⟩
                · exact .inr ⟨rfl, rfl⟩
                · exact .inl ⟨rfl, fun W hb => yields_pick (b := false) rfl rfl rfl⟩
                intro wz hbz
                have HIp : Hid (insE u S = S.take 0 ++ u :: S.drop 0) := ins_at HO.out u 0 hpl HP.out.1 (fun q x h => by cases h)
                have HZz : Aside (Evs wz aS S.length cS S ∧ Below w.heap.size w wz) := ⟨HZ.out.1.below hbz (Nat.le_refl _), HZ.out.2.trans (hbz.mono HZ.out.2.size)⟩
                clear HZ HP hbz
                have hpl' : 0 ≤ S.length := hpl
                have hpc : 0 ≤ cS := Nat.le_trans hpl' hcS
                obtain ⟨b3, o3, u', hb3, hui3, -, hr3, hl3⟩ := (HE.out.below HZz.out.2 (Nat.le_refl _)).at hlt
                obtain rfl : u = u' := by rw [hui] at hui3; exact Option.some.inj hui3
                simp only [Option.some.injEq, Addr.mk.injEq, and_true] at hb3
                obtain ⟨rfl, rfl⟩ := hb3
                have hN := row_nil wz wz.heap.size
                have hT0 := HZz.out.1.take hpl'
                obtain ⟨TA, hTA⟩ : ∃ TA, S.take (0) = TA := ⟨_, rfl⟩
                obtain ⟨TD, hTD⟩ : ∃ TD, S.drop (0) = TD := ⟨_, rfl⟩
                have HTD : Hid (S.drop (0) = TD) := hTD
                have hT : Evs wz aS (0) cS TA := by rw [← hTA]; exact hT0
                have htl : TA.length ≤ 1000 := by rw [← hTA, List.length_take]; omega
                have HIq : Hid (insE u S = TA ++ u :: TD) := by show _ = _; rw [HIp.out, hTA, hTD]
                clear hT0 hTA hTD HIp
                have hpl1 : 0 ≤ 1000 := by omega
                go_wp2_with (first | refine wpl_ex rfl (exec_slice rfl rfl rfl (slice_at _ hpc)) ?_ | refine wpList_appE rfl _ _ rfl wz.heap.size _ [] rfl hN _ (0) cS TA rfl hT (by simp only [List.length_nil]; omega) (Nat.le_refl _) ?_)
                intro v5 w5 hR5 hg5 ho5
                have hR5a : Row w5 wz.heap.size v5 TA := by simpa using hR5
                have hB5 : Below wz.heap.size wz w5 := (Below.refl _ _).grown hg5 (Nat.le_refl _) (fun k h => by cases h)
                have hr5 := range_below hr3 hB5 hl3
                have hRow6 : Row (w5.alloc (.cells (evc u) 30)) wz.heap.size v5 TA := hR5a.below ((Below.refl _ _).alloc (Nat.le_refl _) _) (Nat.le_refl _)
                have hF6 : Evs (w5.alloc (.cells (evc u) 30)) (some ⟨w5.heap.size, 0, none⟩) 1 1 [u] := evs_single _ _ u hu (liesE_new w5 u)
                have hle6 : wz.heap.size ≤ (w5.alloc (.cells (evc u) 30)).heap.size := by have := hB5.size; simp; omega
                have HB6 : Hid (Below wz.heap.size wz (w5.alloc (.cells (evc u) 30))) := hB5.alloc hB5.size _
                clear hR5 hR5a hg5 ho5 hB5 hN hT hr3
                go_wp2_with (first | refine load_ev_mid rfl rfl rfl hr5 hu16 ?_ | refine build_ev1 rfl rfl rfl hu16 ?_ | refine wpList_appE rfl _ _ rfl wz.heap.size _ TA rfl hRow6 _ 1 1 [u] rfl hF6 (by omega) hle6 ?_)
                intro v7 w7 hR7 hg7 ho7
                have hB7 : Below wz.heap.size wz w7 := HB6.out.grown hg7 hle6 hRow6.own
                have hD0 := (HZz.out.1.below hB7 (Nat.le_refl _)).drop hpl'
                have hD : Evs w7 (dropA aS cS (0)) (S.length - (0)) (cS - (0)) TD := by rw [← HTD.out]; exact hD0
                clear hD0
                have hs7 : wz.heap.size ≤ w7.heap.size := hB7.size
                have htl7 : (TA ++ [u]).length ≤ 1001 := by rw [List.length_append]; simp only [List.length_cons, List.length_nil]; omega
                have hdl : S.length - (0) ≤ 1000 := by omega
                have HB7 : Hid (Below wz.heap.size wz w7) := hB7
                generalize hFF : TA ++ [u] = FF at hR7 htl7
                have HFF : Hid (TA ++ [u] = FF) := hFF
                clear hg7 ho7 hRow6 hF6 hle6 HB6 hr5 hB7 hFF
                go_wp2_with (first | refine wpl_ex rfl (exec_slicef rfl rfl rfl (slice_from _ hpl')) ?_ | refine wpList_appE rfl _ _ rfl wz.heap.size _ FF rfl hR7 _ (S.length - (0)) (cS - (0)) TD rfl hD (by omega) hs7 ?_)
                intro v8 w8 hR8 hg8 ho8
                have HS9 : Aside (Row w8 w.heap.size v8 (srtE (liveTo E (i + 1))) ∧ Below w.heap.size w w8) := by
                  refine ⟨?_, HZz.out.2.trans ((HB7.out.grown hg8 hs7 hR7.own).mono HZz.out.2.size)⟩
                  rw [HJ.out, HIq.out]
                  rw [← HFF.out, List.append_assoc] at hR8
                  exact hR8.lower HZz.out.2.size
                clear hR8 hg8 ho8 hR7 hD HZz HB7 HIq HFF htl7 hdl hs7
                go_wp2
                go_roundg (m - (i + 1))
                case measure => omega
                case rel => exact ⟨i + 1, by go_num, by omega, Nat.le_refl _, HS9⟩
              | succ q =>
                have hql : q < S.length := by omega
                obtain ⟨bS, oS, y, hbS, hyq, hwy, hr1, hl1⟩ := HZ.out.1.at hql
                subst hbS
                obtain ⟨b1'', o1'', u', hb1'', hui', -, hr2, hl2⟩ := (HE.out.below HZ.out.2 (Nat.le_refl _)).at hlt
                obtain rfl : u = u' := by rw [hui] at hui'; exact Option.some.inj hui'
                simp only [Option.some.injEq, Addr.mk.injEq, and_true] at hb1''
                obtain ⟨rfl, rfl⟩ := hb1''
                have hpz : decide ((0 : Int) < ((q + 1 : Nat) : Int)) = true := decide_eq_true (by omega)
                have hq1 : q ≤ 1048576 := by omega
                rcases Bool.eq_false_or_eq_true (laterE y u) with hly | hly
                · go_wp2_with fail
                  refine region_vals [43, 44, 45, 46, 47, 48, 49, 50, 51, 52, 53, 54, 55, 56] [.int .i64 ((q + 1 : Nat) : Int), .bool true, .bool true, .slice (some ⟨bS, oS, none⟩) S.length cS, .int .i64 ((q + 1 : Nat) : Int), .int .i64 (q : Int), .pointer (some ⟨bS, oS + q * 26, none⟩), .agg (evc y), .slice (some ⟨b1, o1, none⟩) m c, .int .i64 (i : Int), .pointer (some ⟨b1, o1 + i * 26, none⟩), .agg (evc u), .bool true, .bool true] _ (by kernel_rfl) (by kernel_rfl) (by rfl) (by decide) (by kernel_rfl) (by simp only [lay, Act.put, List.setIfInBounds_toArray, List.set_cons_zero, List.set_cons_succ, List.getD_cons_zero, List.getD_cons_succ, Nat.reduceAdd]; rfl) ⟨?_, ?_, ?_, ?_, ?_, ?_, ?_, ?_, ?_, ?_, ?_, ?_, ?_, ?_, trivial⟩ ?_
                  · exact .inl ⟨rfl, fun W hb => yields_move rfl rfl⟩
                  · exact .inl ⟨rfl, fun W hb => yields_bin rfl rfl rfl rfl (gtr_b W _ _ hpz)⟩
                  · exact .inl ⟨rfl, fun W hb => yields_move rfl rfl⟩
                  · exact .inl ⟨rfl, fun W hb => yields_move rfl rfl⟩
                  · exact .inl ⟨rfl, fun W hb => yields_move rfl rfl⟩
                  · exact .inl ⟨rfl, fun W hb => yields_bin rfl rfl rfl rfl (sub_one W q hq1)⟩
                  · exact .inl ⟨rfl, fun W hb => yields_indexAddr rfl rfl rfl (index_ev W hql)⟩
                  · exact .inl ⟨rfl, fun W hb => yields_load rfl rfl (load_part (range_below hr1 hb hl1) hwy.1)⟩
                  · exact .inl ⟨rfl, fun W hb => yields_move rfl rfl⟩
                  · exact .inl ⟨rfl, fun W hb => yields_move rfl rfl⟩
                  · exact .inl ⟨rfl, fun W hb => yields_indexAddr rfl rfl rfl (index_ev W hlt)⟩
                  · exact .inl ⟨rfl, fun W hb => yields_load rfl rfl (load_part (range_below hr2 hb hl2) hu16)⟩
                  · exact .inl ⟨rfl, fun W hb => yields_call (vs := [.agg (evc y), .agg (evc u)]) (v := .bool true) rfl rfl (enters_rlater _ _) (okcall (rlater_any y u W) hly)⟩
                  · exact .inl ⟨rfl, fun W hb => yields_pick (b := true) rfl rfl rfl⟩
                  intro wz hbz
                  have HP2 : Aside ((∀ x ∈ S.drop q, laterE x u = true) ∧ Below w3.heap.size w3 wz) := by
                    refine ⟨fun x hx => ?_, HP.out.2.trans (hbz.mono HP.out.2.size)⟩
                    rw [List.drop_eq_getElem_cons hql] at hx
                    rcases List.mem_cons.1 hx with rfl | hx
                    · rw [List.getElem?_eq_getElem hql] at hyq
                      rw [Option.some.inj hyq]
                      exact hly
                    · exact HP.out.1 x hx
                  clear hr1 hr2 HZ HP hbz hpz
                  have hsb := fun W : World => sub_one W q hq1
                  go_wp2
                  go_roundg q
                  case measure => omega
                  case rel => exact ⟨q, rfl, by omega, Nat.le_refl _, HP2⟩
                · go_wp2_with fail
                  refine region_vals [43, 44, 45, 46, 47, 48, 49, 50, 51, 52, 53, 54, 55, 56] [.int .i64 ((q + 1 : Nat) : Int), .bool true, .bool true, .slice (some ⟨bS, oS, none⟩) S.length cS, .int .i64 ((q + 1 : Nat) : Int), .int .i64 (q : Int), .pointer (some ⟨bS, oS + q * 26, none⟩), .agg (evc y), .slice (some ⟨b1, o1, none⟩) m c, .int .i64 (i : Int), .pointer (some ⟨b1, o1 + i * 26, none⟩), .agg (evc u), .bool false, .bool false] _ (by kernel_rfl) (by kernel_rfl) (by rfl) (by decide) (by kernel_rfl) (by simp only [lay, Act.put, List.setIfInBounds_toArray, List.set_cons_zero, List.set_cons_succ, List.getD_cons_zero, List.getD_cons_succ, Nat.reduceAdd]; rfl) ⟨?_, ?_, ?_, ?_, ?_, ?_, ?_, ?_, ?_, ?_, ?_, ?_, ?_, ?_, trivial⟩ ?_
                  · exact .inl ⟨rfl, fun W hb => yields_move rfl rfl⟩
                  · exact .inl ⟨rfl, fun W hb => yields_bin rfl rfl rfl rfl (gtr_b W _ _ hpz)⟩
                  · exact .inl ⟨rfl, fun W hb => yields_move rfl rfl⟩
                  · exact .inl ⟨rfl, fun W hb => yields_move rfl rfl⟩
                  · exact .inl ⟨rfl, fun W hb => yields_move rfl rfl⟩
                  · exact .inl ⟨rfl, fun W hb => yields_bin rfl rfl rfl rfl (sub_one W q hq1)⟩
                  · exact .inl ⟨rfl, fun W hb => yields_indexAddr rfl rfl rfl (index_ev W hql)⟩
                  · exact .inl ⟨rfl, fun W hb => yields_load rfl rfl (load_part (range_below hr1 hb hl1) hwy.1)⟩
                  · exact .inl ⟨rfl, fun W hb => yields_move rfl rfl⟩
                  · exact .inl ⟨rfl, fun W hb => yields_move rfl rfl⟩
                  · exact .inl ⟨rfl, fun W hb => yields_indexAddr rfl rfl rfl (index_ev W hlt)⟩
                  · exact .inl ⟨rfl, fun W hb => yields_load rfl rfl (load_part (range_below hr2 hb hl2) hu16)⟩
                  · exact .inl ⟨rfl, fun W hb => yields_call (vs := [.agg (evc y), .agg (evc u)]) (v := .bool false) rfl rfl (enters_rlater _ _) (okcall (rlater_any y u W) hly)⟩
                  · exact .inl ⟨rfl, fun W hb => yields_pick (b := true) rfl rfl rfl⟩
                  intro wz hbz
                  have HIp : Hid (insE u S = S.take (q + 1) ++ u :: S.drop (q + 1)) := ins_at HO.out u (q + 1) hpl HP.out.1 (fun q' x h hx => by
                    obtain rfl : q = q' := by omega
                    rw [hyq] at hx
                    rw [← Option.some.inj hx]
                    exact hly)
                  have HZz : Aside (Evs wz (some ⟨bS, oS, none⟩) S.length cS S ∧ Below w.heap.size w wz) := ⟨HZ.out.1.below hbz (Nat.le_refl _), HZ.out.2.trans (hbz.mono HZ.out.2.size)⟩
                  clear hr1 hr2 HZ HP hbz hpz
                  have hpl' : q + 1 ≤ S.length := hpl
                  have hpc : q + 1 ≤ cS := Nat.le_trans hpl' hcS
                  obtain ⟨b3, o3, u', hb3, hui3, -, hr3, hl3⟩ := (HE.out.below HZz.out.2 (Nat.le_refl _)).at hlt
                  obtain rfl : u = u' := by rw [hui] at hui3; exact Option.some.inj hui3
                  simp only [Option.some.injEq, Addr.mk.injEq, and_true] at hb3
                  obtain ⟨rfl, rfl⟩ := hb3
                  have hN := row_nil wz wz.heap.size
                  have hT0 := HZz.out.1.take hpl'
                  obtain ⟨TA, hTA⟩ : ∃ TA, S.take (q + 1) = TA := ⟨_, rfl⟩
                  obtain ⟨TD, hTD⟩ : ∃ TD, S.drop (q + 1) = TD := ⟨_, rfl⟩
                  have HTD : Hid (S.drop (q + 1) = TD) := hTD
                  have hT : Evs wz (some ⟨bS, oS, none⟩) (q + 1) cS TA := by rw [← hTA]; exact hT0
                  have htl : TA.length ≤ 1000 := by rw [← hTA, List.length_take]; omega
                  have HIq : Hid (insE u S = TA ++ u :: TD) := by show _ = _; rw [HIp.out, hTA, hTD]
                  clear hT0 hTA hTD HIp
                  have hpl1 : q + 1 ≤ 1000 := by omega
                  go_wp2_with (first | refine wpl_ex rfl (exec_slice rfl rfl rfl (slice_at _ hpc)) ?_ | refine wpList_appE rfl _ _ rfl wz.heap.size _ [] rfl hN _ (q + 1) cS TA rfl hT (by simp only [List.length_nil]; omega) (Nat.le_refl _) ?_)
                  intro v5 w5 hR5 hg5 ho5
                  have hR5a : Row w5 wz.heap.size v5 TA := by simpa using hR5
                  have hB5 : Below wz.heap.size wz w5 := (Below.refl _ _).grown hg5 (Nat.le_refl _) (fun k h => by cases h)
                  have hr5 := range_below hr3 hB5 hl3
                  have hRow6 : Row (w5.alloc (.cells (evc u) 30)) wz.heap.size v5 TA := hR5a.below ((Below.refl _ _).alloc (Nat.le_refl _) _) (Nat.le_refl _)
                  have hF6 : Evs (w5.alloc (.cells (evc u) 30)) (some ⟨w5.heap.size, 0, none⟩) 1 1 [u] := evs_single _ _ u hu (liesE_new w5 u)
                  have hle6 : wz.heap.size ≤ (w5.alloc (.cells (evc u) 30)).heap.size := by have := hB5.size; simp; omega
                  have HB6 : Hid (Below wz.heap.size wz (w5.alloc (.cells (evc u) 30))) := hB5.alloc hB5.size _
                  clear hR5 hR5a hg5 ho5 hB5 hN hT hr3
                  go_wp2_with (first | refine load_ev_mid rfl rfl rfl hr5 hu16 ?_ | refine build_ev1 rfl rfl rfl hu16 ?_ | refine wpList_appE rfl _ _ rfl wz.heap.size _ TA rfl hRow6 _ 1 1 [u] rfl hF6 (by omega) hle6 ?_)
                  intro v7 w7 hR7 hg7 ho7
                  have hB7 : Below wz.heap.size wz w7 := HB6.out.grown hg7 hle6 hRow6.own
                  have hD0 := (HZz.out.1.below hB7 (Nat.le_refl _)).drop hpl'
                  have hD : Evs w7 (dropA (some ⟨bS, oS, none⟩) cS (q + 1)) (S.length - (q + 1)) (cS - (q + 1)) TD := by rw [← HTD.out]; exact hD0
                  clear hD0
                  have hs7 : wz.heap.size ≤ w7.heap.size := hB7.size
                  have htl7 : (TA ++ [u]).length ≤ 1001 := by rw [List.length_append]; simp only [List.length_cons, List.length_nil]; omega
                  have hdl : S.length - (q + 1) ≤ 1000 := by omega
                  have HB7 : Hid (Below wz.heap.size wz w7) := hB7
                  generalize hFF : TA ++ [u] = FF at hR7 htl7
                  have HFF : Hid (TA ++ [u] = FF) := hFF
                  clear hg7 ho7 hRow6 hF6 hle6 HB6 hr5 hB7 hFF
                  go_wp2_with (first | refine wpl_ex rfl (exec_slicef rfl rfl rfl (slice_from _ hpl')) ?_ | refine wpList_appE rfl _ _ rfl wz.heap.size _ FF rfl hR7 _ (S.length - (q + 1)) (cS - (q + 1)) TD rfl hD (by omega) hs7 ?_)
                  intro v8 w8 hR8 hg8 ho8
                  have HS9 : Aside (Row w8 w.heap.size v8 (srtE (liveTo E (i + 1))) ∧ Below w.heap.size w w8) := by
                    refine ⟨?_, HZz.out.2.trans ((HB7.out.grown hg8 hs7 hR7.own).mono HZz.out.2.size)⟩
                    rw [HJ.out, HIq.out]
                    rw [← HFF.out, List.append_assoc] at hR8
                    exact hR8.lower HZz.out.2.size
                  clear hR8 hg8 ho8 hR7 hD HZz HB7 HIq HFF htl7 hdl hs7
                  go_wp2
                  go_roundg (m - (i + 1))
                  case measure => omega
                  case rel => exact ⟨i + 1, by go_num, by omega, Nat.le_refl _, HS9⟩
    · obtain rfl : m = i := by omega
      have HR : Hid (Row wr w.heap.size u3 (allE E) ∧ Below w.heap.size w wr) := by
        have := HS.out
        rw [liveTo_all (by omega)] at this
        exact this
      clear HS
      go_wp2
      go_ret
      exact ⟨u3, rfl, HR.out⟩
end Go.Proofs.Ytmnhbkehicpohaa
