/-
  What BagNil comes to.
-/
import Derived.Test.YteihijejohgfpaaBnl
import Derived.Test.YteihijejohgfpaaBrp
namespace Go.Proofs.Yteihijejohgfpaa
open Go.RowKit

theorem load_clw {ops : Array Oper} {rest : List Oper} {op : Oper} {a : Act} {w : World} {Q : Exit → Act → World → Prop} {x : Operand} {g : Nat} {o : Cl} (hw : Region.wanted op (yielded ops a.tmps) = true) (ho : op.op = .load 38 x)
    (hx : a.eval x = .pointer (some ⟨g, 0, none⟩)) (hC : LiesC w g o) (hl : o.v.length = 16)
    (h : wpList Try.prog ops Q rest (a.put op.dst (.agg (clc o))) w) : wpList Try.prog ops Q (op :: rest) a w :=
  wpList_step fun K hK => by
    rw [if_pos hw]
    exact wp_load_mid 38 x ho g 0 hx (cll o) _ hC.range under_cl rfl (info_cl hl) (hK _ _ h)

theorem exec_fieldR {o : Oper} {a : Act} {w : World} {x : Operand} {b : Nat} (ho : o.op = .fieldAddr 29 x 0) (hx : a.eval x = .pointer (some ⟨b, 0, none⟩)) : (execOp a.eval o).run Try.prog w = .ok (.value (.pointer (some ⟨b, 0, none⟩))) w := by
  have h : (Instr.fieldAt 29 (.pointer (some ⟨b, 0, none⟩)) 0).run Try.prog w = .ok (.pointer (some ⟨b, 0, none⟩)) w := by go_simp
  unfold execOp; simp only [ho, hx, Sem.run_bind, h, Result.andThen_ok, Sem.run_pure]
theorem load_rl {w : World} {ad : Addr} {v : Value} (h : w.cell? ad = some v) : (loadVar 27 ad).run Try.prog w = .ok v w := by
  go_simp
theorem enters_items (xs : Array Value) (w : World) : (callFunc 22 xs).run Try.prog w = .ok (.enter 22 xs) w := enters Try.func22 (by kernel_rfl) (by kernel_rfl) xs w
theorem enters_same (xs : Array Value) (w : World) : (callFunc 21 xs).run Try.prog w = .ok (.enter 21 xs) w := enters Try.func21 (by kernel_rfl) (by kernel_rfl) xs w
theorem set_same {γ : Type} {l : List γ} {j : Nat} {a : γ} (h : l[j]? = some a) : l.set j a = l := by
  obtain ⟨hj, rfl⟩ := List.getElem?_eq_some_iff.1 h
  exact List.set_getElem_self hj
/-- One item's number is turned. -/
theorem Rw.setX {e : TypeId} {w : World} {base g n cap : Nat} {S : List (It Int)} (h : Rw e w base (.slice (some ⟨g, 0, none⟩) n cap) S) {k : Nat} (hk : k < S.length) (x : Int) : ∀ i, S[k]? = some i → Rw e (w.setCell ⟨g, k * 3 + 2, none⟩ (.int .i64 x)) base (.slice (some ⟨g, 0, none⟩) n cap) (S.set k ⟨i.r, i.n, x⟩) := fun i hi => by
  rcases h.2 with ⟨hv, -⟩ | ⟨g', cap', cur, hv, hbg, hg, hn, hc, hcs, htk⟩
  · cases hv
  · simp only [Value.slice.injEq, Option.some.injEq, Addr.mk.injEq, and_true] at hv
    obtain ⟨rfl, rfl, rfl⟩ := hv
    have e3 := heap_setCell_same w g (k * 3 + 2) cur _ (.int .i64 x) hg
    refine ⟨by rw [its_length], .inr ⟨g, cap, _, by rw [List.length_set], hbg, e3, by rw [List.length_set]; exact hn, hc, by simpa using hcs, ?_⟩⟩
    have i0 : (its S).set (k * 3) (.int .i64 i.r) = its S := set_same (by have := its_at k i hi 0 _ rfl; simpa using this)
    have i1 : (its S).set (k * 3 + 1) (.int .i64 i.n) = its S := set_same (its_at k i hi 1 _ rfl)
    rw [List.length_set, its_set S k _ hk, i0, i1, ← htk]
    simp only [Array.toList_setIfInBounds]
    rw [List.take_set]
set_option maxHeartbeats 4000000 in
set_option maxRecDepth 100000 in
theorem bnil_walk (o : Cl) (ho : IsCl o) (a : Option Addr) (len cap : Nat) (E : List (It Int)) (w : World) (hE : Lst itl 3 w a len cap E) :
    Calls Try.prog 7 #[.agg (clc o), .slice a len cap] w fun e w' => e = .returned (.bool true) ∧ Below w.heap.size w w' := by
  have hlen := hE.1
  have hmx := hE.maxLen
  have hv16 := ho.v
  obtain ⟨W, hW⟩ : ∃ W, w.alloc (.cells (clc o) 38) = W := ⟨_, rfl⟩
  have hC : LiesC W w.heap.size o := hW ▸ heap_alloc_new w _
  have hb0 : Below w.heap.size w W := hW ▸ (Below.refl _ w).alloc (Nat.le_refl _) _
  by_cases hl : 300 < len
  · have hl' : (300 : Int) < (len : Int) := by omega
    clear hE hC
    go_enter Try.func7, Try.ntmps7
    go_wp2_with fail
    refine (awake_any W).mono ?_
    rintro e w1 ⟨rfl, hb1⟩
    go_wp2_with fail
    refine (awake_any w1).mono ?_
    rintro e w2 ⟨rfl, hb2⟩
    have hb := (hb0.trans (hb1.mono hb0.size)).trans (hb2.mono (by have := hb0.size; have := hb1.size; omega))
    go_wp2
    go_ret
    exact ⟨rfl, hb⟩
  · have hl' : ¬ (300 : Int) < (len : Int) := by omega
    have HC : Hid (∀ W', Below W.heap.size W W' → LiesC W' w.heap.size o) := fun W' hb => hC.below hb hC.lt
    clear hC
    go_enter Try.func7, Try.ntmps7
    go_wp2_with fail
    refine (awake_any W).mono ?_
    rintro e w1 ⟨rfl, hb1⟩
    clear hW
    have hC1 := HC.out _ hb1
    have c1 := hC1.c1
    have c2 := hC1.c2
    have c3 := hC1.c3
    go_wp2_with fail
    refine (put_nil ⟨o.r, o.n, o.x⟩ w1).mono ?_
    rintro e w2 ⟨rfl, hb2'⟩
    have hb2 := hb1.trans (hb2'.mono hb1.size)
    clear hC1 c1 c2 c3 hb2' hb1
    have hC1 := HC.out _ hb2
    have c1 := hC1.c1
    have c2 := hC1.c2
    go_wp2_with fail
    refine (get_nil o.r o.n w2).mono ?_
    rintro e w3 ⟨rfl, hb3'⟩
    have hb3 := hb2.trans (hb3'.mono hb2.size)
    clear hC1 c1 c2 hb3' hb2
    have hC1 := HC.out _ hb3
    have c1 := hC1.c1
    have c2 := hC1.c2
    go_wp2_with fail
    refine (remove_nil o.r o.n w3).mono ?_
    rintro e w4 ⟨rfl, hb4'⟩
    have hb4 := hb3.trans (hb4'.mono hb3.size)
    clear hC1 c1 c2 hb4' hb3
    have hC1 := HC.out _ hb4
    go_wp2_with (first | refine load_clw rfl rfl rfl hC1 hv16 ?_)
    refine (drops_nil o hv16 w4).mono ?_
    rintro e w5 ⟨rfl, hb5'⟩
    have hb5 := hb4.trans (hb5'.mono hb4.size)
    clear hC1 hb5' hb4
    go_wp2_with fail
    refine (items_nil w5).mono ?_
    rintro e w6 ⟨ao6, cap6, rfl, hb6'⟩
    have hb6 := hb5.trans (hb6'.mono hb5.size)
    clear hb6' hb5
    go_wp2_with fail
    refine (blen_nil w6).mono ?_
    rintro e w7 ⟨rfl, hb7'⟩
    have hb7 := hb6.trans (hb7'.mono hb6.size)
    clear hb7' hb6
    have hbw : Below w.heap.size w w7 := hb0.trans (hb7.mono hb0.size)
    have hE1 := hE.below hbw (Nat.le_refl _)
    clear hE HC hb7 hb0
    go_wp2_with fail
    refine (new_any w7).mono ?_
    rintro e w8 ⟨rfl, hw8⟩
    have HW8 : Hid (w8 = w7.alloc (.cells #[.map none] 32)) := hw8
    clear hw8
    have hs8 : w8.heap.size = w7.heap.size + 1 := by rw [HW8.out]; simp
    have hT := br_new w7
    have hb3 : Below w7.heap.size w7 ((w7.alloc (.cells #[.map none] 32)).alloc (.cells #[.slice none 0 0] 29)) := ((Below.refl _ w7).alloc (Nat.le_refl _) _).alloc (by simp) _
    rw [← HW8.out] at hT hb3
    have HT : Hid (Br w7.heap.size (w8.alloc (.cells #[.slice none 0 0] 29)) w7.heap.size none [] (w7.heap.size + 1) (.slice none 0 0) []) := hT
    have HB3 : Hid (Below w7.heap.size w7 (w8.alloc (.cells #[.slice none 0 0] 29))) := hb3
    have HS8 : Hid (w8.heap.size = w7.heap.size + 1) := hs8
    clear hT hb3 HW8 hs8
    go_wp2_with fail
    have hT := HT.out
    have hb3 := HB3.out
    clear HT HB3
    rw [HS8.out]
    clear HS8
    generalize w8.alloc (.cells #[.slice none 0 0] 29) = w9 at *
    go_loopw [65] (fun c wr => ∃ (k : Nat) (m : Option Nat) (v : Value), k ≤ len ∧ c = .int .i64 (k : Int) ∧ Br w7.heap.size wr w7.heap.size m (puts (E.take k)) (w7.heap.size + 1) v (puts (E.take k)) ∧ Below w7.heap.size w7 wr) (fun c _ => len - (intOf c).toNat)
    case atStart => exact ⟨0, none, .slice none 0 0, Nat.zero_le _, rfl, hT, hb3⟩
    case round =>
      clear hT hb3
      obtain ⟨k, m, vR, hk, rfl, hT, hb2⟩ := hrel
      by_cases hlt : k < len
      · have hlt' : (k : Int) < (len : Int) := by omega
        obtain ⟨b, off, i, ha, hi, hblt, c0, c1, c2⟩ := (hE1.below hb2 (Nat.le_refl _)).at3 hlt
        subst ha
        have hPl := puts_length (E.take k)
        rw [List.length_take] at hPl
        have hSr := Srt.puts (E.take k)
        have hP := put_any _ _ _ i wr.drew hT.a.bg.drew
        have HT : Hid (Br w7.heap.size wr.drew w7.heap.size m (puts (E.take k)) (w7.heap.size + 1) vR (puts (E.take k))) := hT.drew
        clear hT
        go_wp2_with fail
        go_region_with (first | (go_at_call 11; refine Calls.mono hP ?_; rintro e w4 ⟨rfl, m4, hB4, ht4⟩))
        all_goals
          obtain ⟨hT4, hb4⟩ := HT.out.left hb2.size hB4 ht4
          have hb5 := hb2.drew.trans hb4
          obtain ⟨b', off', i', ha', hi', hblt', d0, d1, d2⟩ := (hE1.below hb5 (Nat.le_refl _)).at3 hlt
          simp only [Option.some.injEq, Addr.mk.injEq, and_true] at ha'
          obtain ⟨rfl, rfl⟩ := ha'
          rw [hi] at hi'
          obtain rfl := Option.some.inj hi'
          have hP2 := rput_any _ _ _ _ hSr i w4.drew hT4.b.drew (by omega)
          have HT4 : Hid (Br w7.heap.size w4.drew w7.heap.size m4 (put (puts (E.take k)) i) (w7.heap.size + 1) vR (puts (E.take k))) := hT4.drew
          clear HT hP hB4 ht4 c0 c1 c2 hT4 hb2 hb4
          go_wp2_with fail
          go_region_with (first | (go_at_call 12; refine Calls.mono hP2 ?_; rintro e w6 ⟨rfl, v6, hB6, ht6⟩))
        all_goals
          obtain ⟨hT6, hb6⟩ := HT4.out.right hb5.drew.size hB6 ht6
          have hb7 := hb5.drew.trans hb6
          clear HT4 hP2 hB6 ht6 d0 d1 d2 hb6 hb5
          go_wp2
          go_roundw
          case rel => exact ⟨k + 1, m4, v6, by omega, by go_num, by rw [puts_take hi]; exact hT6, hb7⟩
          case measure => simp [intOf]; omega
      · have hlt' : ¬ (k : Int) < (len : Int) := by omega
        rw [List.take_of_length_le (by omega)] at hT
        have hL : (puts E).length ≤ 300 := by have := puts_length E; omega
        generalize puts E = S at *
        clear hE1
        go_wp2_with fail
        refine Calls.mono (items_any _ _ _ _ hT.a.bg (by omega)) ?_
        rintro e w10 ⟨vA, rfl, hA, hbA⟩
        have hT10 := hT.below hbA (Nat.le_refl _)
        have hb10 := hb2.trans (hbA.mono hb2.size)
        obtain ⟨nn, hn⟩ : ∃ nn, S.length = nn := ⟨_, rfl⟩
        obtain ⟨aA, cA, hvA, hcA, hmA⟩ := hA.val
        subst hvA
        rw [hn] at hA hcA hL ⊢
        have hdl : ∀ d, (Value.slice aA nn cA).ownBlock = some d → wr.heap.size ≤ d := fun d hd => (hA.lt d hd).1
        have hbl : ∀ q, m = some q → q < wr.heap.size := fun q hq => (hT.a.bg.own q hq).1
        have hgl := hT.a.bg.lt
        have hGl := hT.b.lt
        have hrl : ∀ d, vR.ownBlock = some d → d < wr.heap.size := fun d hd => (hT.b.row.lt d hd).2
        clear hT hb2 hbA
        generalize wr.heap.size = s9 at *
        go_wp2_with fail
        go_loopw [97] (fun c wr => ∃ (k : Nat) (S' : List (It Int)), k ≤ nn ∧ c = .int .i64 (k : Int) ∧ S'.length = nn ∧ Rw 60 wr s9 (.slice aA nn cA) S' ∧ Br w7.heap.size wr w7.heap.size m S (w7.heap.size + 1) vR S ∧ Below w7.heap.size w7 wr) (fun c _ => nn - (intOf c).toNat)
        case atStart => exact ⟨0, S, Nat.zero_le _, rfl, hn, hA, hT10, hb10⟩
        case round =>
          clear hA hT10 hb10
          obtain ⟨k, S', hk, rfl, hn', hA, hT, hb⟩ := hrel
          by_cases hkn : k < nn
          · have hkn' : (k : Int) < (nn : Int) := by omega
            obtain ⟨g, _, i, e1, -, hi, hgs, hglt, c0, c1, c2, fz⟩ := hA.at3 (k := k) (by omega)
            simp only [Value.slice.injEq] at e1
            obtain ⟨rfl, -, rfl⟩ := e1
            have f2 := fz (k * 3 + 2)
            have hset := hA.setX (k := k) (by omega) (-1)
            have hT2 : Br w7.heap.size (wr.setCell ⟨g, k * 3 + 2, none⟩ (.int .i64 (-1))) w7.heap.size m S (w7.heap.size + 1) vR S := by
              have hk2 : ∀ d, d < s9 → (wr.setCell ⟨g, k * 3 + 2, none⟩ (.int .i64 (-1))).heap[d]? = wr.heap[d]? := fun d hd => Below.heap_setCell _ _ _ d (by show d ≠ g; omega)
              have hka : ∀ d, (d = w7.heap.size ∨ m = some d) → d < s9 := fun d hor => by
                rcases hor with e | e
                · omega
                · exact hbl d e
              exact ⟨⟨hT.a.bg.kept (fun d _ hor => hk2 d (hka d hor)), hT.a.low, hT.a.own⟩, ⟨by rw [hk2 _ hGl]; exact hT.b.blk, hT.b.row.keep fun d hd => hk2 d (hrl d hd)⟩, hT.low⟩
            have hb2 : Below w7.heap.size w7 (wr.setCell ⟨g, k * 3 + 2, none⟩ (.int .i64 (-1))) := hb.setCell (p := ⟨g, k * 3 + 2, none⟩) (by show w7.heap.size ≤ g; omega) _
            have HA2 : Hid (Rw 60 (wr.setCell ⟨g, k * 3 + 2, none⟩ (.int .i64 (-1))) s9 (.slice (some ⟨g, 0, none⟩) nn cA) (S'.set k ⟨i.r, i.n, -1⟩)) := by have h9 := hset i hi; exact h9
            clear hA hT hb hset fz
            go_wp2
            go_roundw
            case rel => exact ⟨k + 1, _, by omega, by go_num, by rw [List.length_set]; exact hn', HA2.out, hT2, hb2⟩
            case measure => simp [intOf]; omega
          · have hkn' : ¬ (k : Int) < (nn : Int) := by omega
            have hS0 : wr.drew.cell? ⟨w7.heap.size + 1, 0, none⟩ = some vR := hT.drew.b.c0
            have hBd := hT.drew
            have hbd := hb.drew
            clear hA hT hb
            go_wp2_with fail
            refine wp_region_noPanic ?_
            refine wp_region_held_drew (S := fun W' : World => W'.cell? ⟨w7.heap.size + 1, 0, none⟩ = some vR) (by kernel_rfl) hS0 (fun hHeld => ?_)
            refine wpAnyH_take (i := 0) (oi := { dst := some 105, op := _, type := _, pos := _, after := _, guard := _ }) (v := .pointer (some ⟨w7.heap.size, 0, none⟩)) rfl (by kernel_rfl) (by kernel_rfl) (by kernel_rfl) (fun _ _ _ h => h) (Or.inl ⟨by rfl, ?_⟩) (by assumption) ?_
            · intro w9 hSw
              exact exec_move rfl rfl
            simp only [Act.put, List.setIfInBounds_toArray, List.set_cons_zero, List.set_cons_succ]
            refine wpAnyH_take (i := 2) (oi := { dst := some 107, op := _, type := _, pos := _, after := _, guard := _ }) (v := .pointer (some ⟨w7.heap.size + 1, 0, none⟩)) rfl (by kernel_rfl) (by kernel_rfl) (by kernel_rfl) (fun _ _ _ h => h) (Or.inl ⟨by rfl, ?_⟩) (by assumption) ?_
            · intro w9 hSw
              exact exec_move rfl rfl
            simp only [Act.put, List.setIfInBounds_toArray, List.set_cons_zero, List.set_cons_succ]
            refine wpAnyH_take (i := 3) (oi := { dst := some 108, op := _, type := _, pos := _, after := _, guard := _ }) (v := .pointer (some ⟨w7.heap.size + 1, 0, none⟩)) rfl (by kernel_rfl) (by kernel_rfl) (by kernel_rfl) (fun _ _ _ h => h) (Or.inl ⟨by rfl, ?_⟩) (by assumption) ?_
            · intro w9 hSw
              exact exec_nil rfl rfl
            simp only [Act.put, List.setIfInBounds_toArray, List.set_cons_zero, List.set_cons_succ]
            refine wpAnyH_take (i := 4) (oi := { dst := some 109, op := _, type := _, pos := _, after := _, guard := _ }) (v := .pointer (some ⟨w7.heap.size + 1, 0, none⟩)) rfl (by kernel_rfl) (by kernel_rfl) (by kernel_rfl) (fun _ _ _ h => h) (Or.inl ⟨by rfl, ?_⟩) (by assumption) ?_
            · intro w9 hSw
              exact exec_fieldR rfl rfl
            simp only [Act.put, List.setIfInBounds_toArray, List.set_cons_zero, List.set_cons_succ]
            refine wpAnyH_take (i := 5) (oi := { dst := some 110, op := _, type := _, pos := _, after := _, guard := _ }) (v := vR) rfl (by kernel_rfl) (by kernel_rfl) (by kernel_rfl) (fun _ _ _ h => h) (Or.inl ⟨by rfl, ?_⟩) (by assumption) ?_
            · intro w9 hSw
              exact exec_load (ad := ⟨w7.heap.size + 1, 0, none⟩) rfl rfl (load_rl hSw)
            simp only [Act.put, List.setIfInBounds_toArray, List.set_cons_zero, List.set_cons_succ]
            clear hHeld
            refine wpAnyH_ready (rs := [1]) (by kernel_rfl) (by simp) ?_
            refine AllReadyH.cons (o := { dst := some 106, op := _, type := _, pos := _, after := _, guard := _ }) rfl (fun K hK => ?_) AllReadyH.nil
            rw [if_pos (by rfl)]
            refine wp_callL (xs := [.tmp 105]) (vs := [.pointer (some ⟨w7.heap.size, 0, none⟩)]) rfl rfl (enters_items _ _) (items_any _ _ _ _ hBd.a.bg (by omega)) ?_
            rintro e w12 ⟨vX, rfl, hX, hbX⟩
            refine ⟨_, rfl, ?_⟩
            have hB12 := hBd.below hbX (Nat.le_refl _)
            have hb12 := hbd.trans (hbX.mono hbd.size)
            refine hK.out _ _ hB12.b.c0 (fun hHeld => ?_)
            clear hK K
            simp only [Act.put, List.setIfInBounds_toArray, List.set_cons_zero, List.set_cons_succ]
            refine wpAnyH_ready (rs := [6]) (by kernel_rfl) (by simp) ?_
            refine AllReadyH.cons (o := { dst := some 111, op := _, type := _, pos := _, after := _, guard := _ }) rfl (fun K hK => ?_) AllReadyH.nil
            rw [if_pos (by rfl)]
            refine wp_callL (xs := [.tmp 106, .tmp 110]) (vs := [vX, vR]) rfl rfl (enters_same _ _) (same_any _ _ _ _ _ w12 hX hB12.b.row) ?_
            rintro e w13 ⟨rfl, hb13'⟩
            refine ⟨_, rfl, ?_⟩
            have hb13 := hb12.trans (hb13'.mono hb12.size)
            have hB13 := hB12.below hb13' (Nat.le_refl _)
            refine hK.out _ _ hB13.b.c0 (fun hHeld => ?_)
            clear hK K
            simp only [Act.put, List.setIfInBounds_toArray, List.set_cons_zero, List.set_cons_succ]
            refine wpAnyH_take (i := 7) (oi := { dst := some 4, op := _, type := _, pos := _, after := _, guard := _ }) (v := .bool true) rfl (by kernel_rfl) (by kernel_rfl) (by kernel_rfl) (fun _ _ _ h => h) (Or.inl ⟨by rfl, ?_⟩) (by assumption) ?_
            · intro w9 hSw
              exact exec_assign rfl rfl
            simp only [Act.put, List.setIfInBounds_toArray, List.set_cons_zero, List.set_cons_succ]
            refine wpAnyH_done (by kernel_rfl) ?_ _
            refine NoPanic.normal ?_
            have hfin := hbw.trans (hb13.mono hbw.size)
            clear hHeld hB13 hb13 hb13' hB12 hb12 hX hbX
            go_wp2
            go_ret
            exact ⟨rfl, hfin⟩
end Go.Proofs.Yteihijejohgfpaa
