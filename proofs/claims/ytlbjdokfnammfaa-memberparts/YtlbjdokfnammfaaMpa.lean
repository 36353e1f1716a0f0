/-
  MemberParts: the walk.
-/
import Derived.Test.YtlbjdokfnammfaaMwk
namespace Go.Proofs.Ytlbjdokfnammfaa
set_option maxRecDepth 100000
open Go.RowKit Go.Sort

set_option maxHeartbeats 4000000 in
theorem mparts_walk (ao : Option Addr) (m c : Nat) (A : List Ev) (bo : Option Addr) (n d : Nat) (B : List Ev) (s : List UInt8) (w : World) (hA : Evs w ao m c A) (hB : Evs w bo n d B) :
    Calls Try.prog 4 #[.slice ao m c, .slice bo n d, .string (sb s)] w fun e w' => e = .returned (.bool true) ∧ Below w.heap.size w w' := by
  go_enter Try.func4, Try.ntmps4
  go_wp2_with fail
  refine (awake_any w).mono ?_
  rintro e w1 ⟨rfl, hb1⟩
  have HS1 : Aside (Evs w1 ao m c A ∧ Evs w1 bo n d B ∧ Below w.heap.size w w1) := ⟨hA.below hb1 (Nat.le_refl _), hB.below hb1 (Nat.le_refl _), hb1⟩
  clear hb1 hA hB
  go_wp2_with fail
  refine (few_any ao m c A w1 HS1.out.1).mono ?_
  rintro e w2 ⟨t, rfl, ht, hb2⟩
  have HS2 : Aside (Evs w2 ao m c A ∧ Evs w2 bo n d B ∧ Below w.heap.size w w2) := ⟨HS1.out.1.below hb2 (Nat.le_refl _), HS1.out.2.1.below hb2 (Nat.le_refl _), HS1.out.2.2.trans (hb2.mono HS1.out.2.2.size)⟩
  clear hb2 HS1
  cases t with
  | false =>
    clear ht
    go_wp2_with fail
    refine (awake_any w2).mono ?_
    rintro e w3 ⟨rfl, hb3⟩
    have HB3 : Hid (Below w.heap.size w w3) := HS2.out.2.2.trans (hb3.mono HS2.out.2.2.size)
    clear hb3 HS2
    go_wp2
    go_ret
    exact ⟨rfl, HB3.out⟩
  | true =>
    obtain ⟨hm, hfA⟩ := ht rfl
    have HFA : Aside (∀ e ∈ A, e.field.length ≤ 1000) := hfA
    clear ht hfA
    go_wp2_with fail
    refine (few_any bo n d B w2 HS2.out.2.1).mono ?_
    rintro e w3 ⟨t, rfl, ht, hb3⟩
    have HS3 : Aside (Evs w3 ao m c A ∧ Evs w3 bo n d B ∧ Below w.heap.size w w3) := ⟨HS2.out.1.below hb3 (Nat.le_refl _), HS2.out.2.1.below hb3 (Nat.le_refl _), HS2.out.2.2.trans (hb3.mono HS2.out.2.2.size)⟩
    clear hb3 HS2
    cases t with
    | false =>
      clear ht
      go_wp2_with fail
      refine (awake_any w3).mono ?_
      rintro e w4 ⟨rfl, hb4⟩
      have HB4 : Hid (Below w.heap.size w w4) := HS3.out.2.2.trans (hb4.mono HS3.out.2.2.size)
      clear hb4 HS3
      go_wp2
      go_ret
      exact ⟨rfl, HB4.out⟩
    | true =>
      obtain ⟨hn, hfB⟩ := ht rfl
      have HFB : Aside (∀ e ∈ B, e.field.length ≤ 1000) := hfB
      clear ht hfB
      have hlA := HS3.out.1.len
      have hlB := HS3.out.2.1.len
      have HX : Hid ((∀ e ∈ A ++ B, Wide e ∧ e.field.length ≤ 1000)) := show ∀ e ∈ A ++ B, Wide e ∧ e.field.length ≤ 1000 from fun e he => (List.mem_append.1 he).elim (fun h => ⟨HS3.out.1.wide e h, HFA.out e h⟩) (fun h => ⟨HS3.out.2.1.wide e h, HFB.out e h⟩)
      have HY : Hid ((∀ e ∈ (B ++ A) ++ B, Wide e ∧ e.field.length ≤ 1000)) := show ∀ e ∈ (B ++ A) ++ B, Wide e ∧ e.field.length ≤ 1000 from fun e he => (List.mem_append.1 he).elim (fun h => HX.out e (by rcases List.mem_append.1 h with h | h <;> simp [h])) (fun h => HX.out e (by simp [h]))
      have HM : Hid ((∀ z, z ∈ fldE (A ++ B) ↔ z ∈ fldE ((B ++ A) ++ B)) ∧ (∀ z, z ∈ dtE (A ++ B) s ↔ z ∈ dtE ((B ++ A) ++ B) s) ∧ hasE (A ++ B) s = (hasE A s || hasE B s)) := by
        refine ⟨fun z => ?_, fun z => ?_, hasE_append _ _ _⟩
        · simp only [fldE_append, List.mem_append]
          exact ⟨fun h => h.elim (fun h => .inl (.inr h)) (fun h => .inr h), fun h => h.elim (fun h => h.elim (fun h => .inr h) (fun h => .inl h)) (fun h => .inr h)⟩
        · simp only [dtE_append, List.mem_append]
          exact ⟨fun h => h.elim (fun h => .inl (.inr h)) (fun h => .inr h), fun h => h.elim (fun h => h.elim (fun h => .inr h) (fun h => .inl h)) (fun h => .inr h)⟩
      clear HFA HFB
      -- the first list
      have hN := row_empty w3 w3.heap.size (Nat.le_refl _)
      have hBe : Below w3.heap.size w3 (w3.alloc (.cells #[] 40)) := (Below.refl _ _).alloc (Nat.le_refl _) _
      have hA5 := HS3.out.1.below hBe (Nat.le_refl _)
      have HBe : Hid (Below w3.heap.size w3 (w3.alloc (.cells #[] 40))) := hBe
      have hle5 : w3.heap.size ≤ (w3.alloc (.cells #[] 40)).heap.size := by simp
      clear hBe
      go_wp2_with (first | refine build_ev0 rfl rfl ?_ | refine wpList_appE rfl _ _ rfl w3.heap.size _ [] rfl hN _ m c A rfl hA5 (by simp only [List.length_nil]; omega) hle5 ?_)
      intro v4 w4 hR4 hg4 ho4
      have hR4a : Row w4 w3.heap.size v4 A := hR4
      have hB4 : Below w3.heap.size w3 w4 := HBe.out.grown hg4 hle5 hN.own
      have hB4a := HS3.out.2.1.below hB4 (Nat.le_refl _)
      have hle4 : w3.heap.size ≤ w4.heap.size := hB4.size
      have HB4 : Hid (Below w3.heap.size w3 w4) := hB4
      clear hR4 hg4 ho4 hN hA5 HBe hle5 hB4
      go_wp2_with (refine wpList_appE rfl _ _ rfl w3.heap.size _ A rfl hR4a _ n d B rfl hB4a (by omega) hle4 ?_)
      intro v5 w5 hR5 hg5 ho5
      have hB5 : Below w3.heap.size w3 w5 := HB4.out.grown hg5 hle4 hR4a.own
      obtain ⟨va, vc, hv5, hE5⟩ := hR5.evs (fun e he => (HX.out e he).1)
      have HS5 : Aside (Evs w5 va (A ++ B).length vc (A ++ B) ∧ Evs w5 ao m c A ∧ Evs w5 bo n d B ∧ Below w.heap.size w w5) := ⟨hE5, HS3.out.1.below hB5 (Nat.le_refl _), HS3.out.2.1.below hB5 (Nat.le_refl _), HS3.out.2.2.trans (hB5.mono HS3.out.2.2.size)⟩
      have hlX : (A ++ B).length ≤ 600 := by rw [List.length_append]; omega
      subst hv5
      clear hR5 hg5 ho5 hB5 HS3 HB4 hR4a hB4a hle4 hE5
      generalize A ++ B = X at *
      -- the second list
      have hN := row_empty w5 w5.heap.size (Nat.le_refl _)
      have hBe : Below w5.heap.size w5 (w5.alloc (.cells #[] 40)) := (Below.refl _ _).alloc (Nat.le_refl _) _
      have hA5 := HS5.out.2.2.1.below hBe (Nat.le_refl _)
      have HBe : Hid (Below w5.heap.size w5 (w5.alloc (.cells #[] 40))) := hBe
      have hle5 : w5.heap.size ≤ (w5.alloc (.cells #[] 40)).heap.size := by simp
      clear hBe
      go_wp2_with (first | refine build_ev0 rfl rfl ?_ | refine wpList_appE rfl _ _ rfl w5.heap.size _ [] rfl hN _ n d B rfl hA5 (by simp only [List.length_nil]; omega) hle5 ?_)
      intro v6 w6 hR6 hg6 ho6
      have hR6a : Row w6 w5.heap.size v6 B := hR6
      have hB6 : Below w5.heap.size w5 w6 := HBe.out.grown hg6 hle5 hN.own
      have hB6a := HS5.out.2.1.below hB6 (Nat.le_refl _)
      have hle6 : w5.heap.size ≤ w6.heap.size := hB6.size
      have HB6 : Hid (Below w5.heap.size w5 w6) := hB6
      clear hR6 hg6 ho6 hN hA5 HBe hle5 hB6
      go_wp2_with (refine wpList_appE rfl _ _ rfl w5.heap.size _ B rfl hR6a _ m c A rfl hB6a (by omega) hle6 ?_)
      intro v7 w7 hR7 hg7 ho7
      have hB7 : Below w5.heap.size w5 w7 := HB6.out.grown hg7 hle6 hR6a.own
      have hB7a := HS5.out.2.2.1.below hB7 (Nat.le_refl _)
      have hle7 : w5.heap.size ≤ w7.heap.size := hB7.size
      have HB7 : Hid (Below w5.heap.size w5 w7) := hB7
      have hlBA : (B ++ A).length ≤ 600 := by rw [List.length_append]; omega
      clear hg7 ho7 hB7 HB6 hR6a hB6a hle6
      obtain ⟨BA, hBA⟩ : ∃ BA, B ++ A = BA := ⟨_, rfl⟩
      rw [hBA] at hR7 hlBA HM HY
      clear hBA
      go_wp2_with (refine wpList_appE rfl _ _ rfl w5.heap.size _ BA rfl hR7 _ n d B rfl hB7a (by omega) hle7 ?_)
      intro v8 w8 hR8 hg8 ho8
      have hB8 : Below w5.heap.size w5 w8 := HB7.out.grown hg8 hle7 hR7.own
      obtain ⟨ya, yc, hv8, hE8⟩ := hR8.evs (fun e he => (HY.out e he).1)
      have HS8 : Aside (Evs w8 va X.length vc X ∧ Evs w8 ya (BA ++ B).length yc (BA ++ B) ∧ Evs w8 ao m c A ∧ Evs w8 bo n d B ∧ Below w.heap.size w w8) := ⟨HS5.out.1.below hB8 (Nat.le_refl _), hE8, HS5.out.2.1.below hB8 (Nat.le_refl _), HS5.out.2.2.1.below hB8 (Nat.le_refl _), HS5.out.2.2.2.trans (hB8.mono HS5.out.2.2.2.size)⟩
      have hlY : (BA ++ B).length ≤ 900 := by rw [List.length_append]; omega
      subst hv8
      clear hR8 hg8 ho8 hB8 HS5 HB7 hR7 hB7a hle7 hE8
      generalize BA ++ B = Y at *
      have hxl : X.length ≤ 1000 := by omega
      have hyl : Y.length ≤ 1000 := by omega
      generalize X.length = lx at *
      generalize Y.length = ly at *
      -- the members
      go_wp2_with fail
      refine (mall_any va lx vc X w8 HS8.out.1 hxl (fun e he => (HX.out e he).2)).mono ?_
      rintro e w9 ⟨v9, R9, rfl, hR9, hst9, hmem9, hl9, hb9⟩
      obtain ⟨a9, c9, rfl, hT9⟩ := hR9.tl
      have HS9 : Aside (Evs w9 va lx vc X ∧ Evs w9 ya ly yc Y ∧ Evs w9 ao m c A ∧ Evs w9 bo n d B ∧ TL w9 a9 R9 ∧ Below w.heap.size w w9) := ⟨HS8.out.1.below hb9 (Nat.le_refl _), HS8.out.2.1.below hb9 (Nat.le_refl _), HS8.out.2.2.1.below hb9 (Nat.le_refl _), HS8.out.2.2.2.1.below hb9 (Nat.le_refl _), hT9, HS8.out.2.2.2.2.trans (hb9.mono HS8.out.2.2.2.2.size)⟩
      have HM9 : Hid (R9.Pairwise (· < ·) ∧ ∀ z, z ∈ R9 ↔ z ∈ fldE X) := ⟨hst9, hmem9⟩
      clear HS8 hR9 hst9 hmem9 hb9 hT9
      obtain ⟨l9, hl9e⟩ : ∃ l9, R9.length = l9 := ⟨_, rfl⟩
      have HL9 : Hid (R9.length = l9) := hl9e
      rw [hl9e] at hl9 ⊢
      clear hl9e
      go_wp2_with fail
      refine (mall_any ya ly yc Y w9 HS9.out.2.1 hyl (fun e he => (HY.out e he).2)).mono ?_
      rintro e w10 ⟨v10, R10, rfl, hR10, hst10, hmem10, -, hb10⟩
      obtain rfl : R10 = R9 := strict_one _ _ hst10 HM9.out.1 (fun z => by rw [hmem10, HM9.out.2, HM.out.1])
      obtain ⟨a10, c10, rfl, hT10⟩ := hR10.tl
      have HTY : Hid (Calls Try.prog 8 #[.slice a9 l9 c9, .slice a10 l9 c10] w10 fun e w' => e = .returned (.bool true) ∧ Below w10.heap.size w10 w') := by
        have := texts_yes a9 a10 c9 c10 R10 w10 (HS9.out.2.2.2.2.1.below hb10 (Nat.le_refl _)) hT10 (by have := HL9.out; omega)
        rw [HL9.out] at this
        exact this
      have HS10 : Aside (Evs w10 va lx vc X ∧ Evs w10 ya ly yc Y ∧ Evs w10 ao m c A ∧ Evs w10 bo n d B ∧ Below w.heap.size w w10) := ⟨HS9.out.1.below hb10 (Nat.le_refl _), HS9.out.2.1.below hb10 (Nat.le_refl _), HS9.out.2.2.1.below hb10 (Nat.le_refl _), HS9.out.2.2.2.1.below hb10 (Nat.le_refl _), HS9.out.2.2.2.2.2.trans (hb10.mono HS9.out.2.2.2.2.2.size)⟩
      rw [HL9.out]
      clear HS9 hR10 hst10 hmem10 hb10 hT10 HM9 HL9
      go_wp2_with fail
      refine Calls.mono HTY.out ?_
      rintro e w11 ⟨rfl, hb11⟩
      have HS11 : Aside (Evs w11 va lx vc X ∧ Evs w11 ya ly yc Y ∧ Evs w11 ao m c A ∧ Evs w11 bo n d B ∧ Below w.heap.size w w11) := ⟨HS10.out.1.below hb11 (Nat.le_refl _), HS10.out.2.1.below hb11 (Nat.le_refl _), HS10.out.2.2.1.below hb11 (Nat.le_refl _), HS10.out.2.2.2.1.below hb11 (Nat.le_refl _), HS10.out.2.2.2.2.trans (hb11.mono HS10.out.2.2.2.2.size)⟩
      clear HS10 HTY hb11
      go_wp2_with fail
      refine (mhas_any va lx vc X s w11 HS11.out.1 hxl).mono ?_
      rintro e w12 ⟨rfl, hb12⟩
      have HS12 : Aside (Evs w12 va lx vc X ∧ Evs w12 ya ly yc Y ∧ Evs w12 ao m c A ∧ Evs w12 bo n d B ∧ Below w.heap.size w w12) := ⟨HS11.out.1.below hb12 (Nat.le_refl _), HS11.out.2.1.below hb12 (Nat.le_refl _), HS11.out.2.2.1.below hb12 (Nat.le_refl _), HS11.out.2.2.2.1.below hb12 (Nat.le_refl _), HS11.out.2.2.2.2.trans (hb12.mono HS11.out.2.2.2.2.size)⟩
      clear HS11 hb12
      rw [HM.out.2.2]
      go_wp2_with fail
      refine (mhas_any ao m c A s w12 HS12.out.2.2.1 (by omega)).mono ?_
      rintro e w13 ⟨rfl, hb13⟩
      have HS13 : Aside (Evs w13 va lx vc X ∧ Evs w13 ya ly yc Y ∧ Evs w13 bo n d B ∧ Below w.heap.size w w13) := ⟨HS12.out.1.below hb13 (Nat.le_refl _), HS12.out.2.1.below hb13 (Nat.le_refl _), HS12.out.2.2.2.1.below hb13 (Nat.le_refl _), HS12.out.2.2.2.2.trans (hb13.mono HS12.out.2.2.2.2.size)⟩
      clear HS12 hb13
      have HD : Hid (∀ z, z ∈ dtE X s ↔ z ∈ dtE Y s) := HM.out.2.1
      clear HM HX HY
      generalize hasE A s = hA at *
      obtain ⟨hB, hBe⟩ : ∃ hB, hasE B s = hB := ⟨_, rfl⟩
      have HBe : Hid (hasE B s = hB) := hBe
      rw [hBe]
      clear hBe
      cases hA with
      | true =>
        go_wp2_with fail
        refine (mdots_any va lx vc X s w13 HS13.out.1 hxl).mono ?_
        rintro e w15 ⟨v15, D15, rfl, hR15, hst15, hmem15, hl15, hb15⟩
        obtain ⟨a15, c15, rfl, hD15⟩ := hR15.dl
        have HS15 : Aside (Evs w15 ya ly yc Y ∧ DL w15 a15 D15 ∧ Below w.heap.size w w15) := ⟨HS13.out.2.1.below hb15 (Nat.le_refl _), hD15, HS13.out.2.2.2.trans (hb15.mono HS13.out.2.2.2.size)⟩
        have HM15 : Hid (StrD D15 ∧ ∀ z, z ∈ D15 ↔ z ∈ dtE X s) := ⟨hst15, hmem15⟩
        clear HS13 hR15 hst15 hmem15 hb15 hD15
        obtain ⟨l15, hl15e⟩ : ∃ l15, D15.length = l15 := ⟨_, rfl⟩
        have HL15 : Hid (D15.length = l15) := hl15e
        rw [hl15e] at hl15 ⊢
        clear hl15e
        go_wp2_with fail
        refine (mdots_any ya ly yc Y s w15 HS15.out.1 hyl).mono ?_
        rintro e w16 ⟨v16, D16, rfl, hR16, hst16, hmem16, -, hb16⟩
        obtain rfl : D16 = D15 := strD_one _ _ hst16 HM15.out.1 (fun z => by rw [hmem16, HM15.out.2, HD.out])
        obtain ⟨a16, c16, rfl, hD16⟩ := hR16.dl
        have HLD : Hid (Calls Try.prog 10 #[.slice a15 l15 c15, .slice a16 l15 c16] w16 fun e w' => e = .returned (.bool true) ∧ Below w16.heap.size w16 w') := by
          have := ldots_yes a15 a16 c15 c16 D16 w16 (HS15.out.2.1.below hb16 (Nat.le_refl _)) hD16 (by have := HL15.out; omega)
          rw [HL15.out] at this
          exact this
        have HB16 : Hid (Below w.heap.size w w16) := HS15.out.2.2.trans (hb16.mono HS15.out.2.2.size)
        rw [HL15.out]
        clear HS15 hR16 hst16 hmem16 hb16 hD16 HM15 HL15
        go_wp2_with fail
        refine Calls.mono HLD.out ?_
        rintro e w17 ⟨rfl, hb17⟩
        have HB17 : Hid (Below w.heap.size w w17) := HB16.out.trans (hb17.mono HB16.out.size)
        clear HLD hb17 HB16
        go_wp2
        go_ret
        exact ⟨rfl, HB17.out⟩
      | false =>
        go_wp2_with fail
        refine (mhas_any bo n d B s w13 HS13.out.2.2.1 (by omega)).mono ?_
        rintro e w14 ⟨rfl, hb14⟩
        have HS14 : Aside (Evs w14 va lx vc X ∧ Evs w14 ya ly yc Y ∧ Evs w14 bo n d B ∧ Below w.heap.size w w14) := ⟨HS13.out.1.below hb14 (Nat.le_refl _), HS13.out.2.1.below hb14 (Nat.le_refl _), HS13.out.2.2.1.below hb14 (Nat.le_refl _), HS13.out.2.2.2.trans (hb14.mono HS13.out.2.2.2.size)⟩
        clear HS13 hb14
        rw [HBe.out]
        cases hB with
        | true =>
          go_wp2_with fail
          refine (mdots_any va lx vc X s w14 HS14.out.1 hxl).mono ?_
          rintro e w15 ⟨v15, D15, rfl, hR15, hst15, hmem15, hl15, hb15⟩
          obtain ⟨a15, c15, rfl, hD15⟩ := hR15.dl
          have HS15 : Aside (Evs w15 ya ly yc Y ∧ DL w15 a15 D15 ∧ Below w.heap.size w w15) := ⟨HS14.out.2.1.below hb15 (Nat.le_refl _), hD15, HS14.out.2.2.2.trans (hb15.mono HS14.out.2.2.2.size)⟩
          have HM15 : Hid (StrD D15 ∧ ∀ z, z ∈ D15 ↔ z ∈ dtE X s) := ⟨hst15, hmem15⟩
          clear HS14 hR15 hst15 hmem15 hb15 hD15
          obtain ⟨l15, hl15e⟩ : ∃ l15, D15.length = l15 := ⟨_, rfl⟩
          have HL15 : Hid (D15.length = l15) := hl15e
          rw [hl15e] at hl15 ⊢
          clear hl15e
          go_wp2_with fail
          refine (mdots_any ya ly yc Y s w15 HS15.out.1 hyl).mono ?_
          rintro e w16 ⟨v16, D16, rfl, hR16, hst16, hmem16, -, hb16⟩
          obtain rfl : D16 = D15 := strD_one _ _ hst16 HM15.out.1 (fun z => by rw [hmem16, HM15.out.2, HD.out])
          obtain ⟨a16, c16, rfl, hD16⟩ := hR16.dl
          have HLD : Hid (Calls Try.prog 10 #[.slice a15 l15 c15, .slice a16 l15 c16] w16 fun e w' => e = .returned (.bool true) ∧ Below w16.heap.size w16 w') := by
            have := ldots_yes a15 a16 c15 c16 D16 w16 (HS15.out.2.1.below hb16 (Nat.le_refl _)) hD16 (by have := HL15.out; omega)
            rw [HL15.out] at this
            exact this
          have HB16 : Hid (Below w.heap.size w w16) := HS15.out.2.2.trans (hb16.mono HS15.out.2.2.size)
          rw [HL15.out]
          clear HS15 hR16 hst16 hmem16 hb16 hD16 HM15 HL15
          go_wp2_with fail
          refine Calls.mono HLD.out ?_
          rintro e w17 ⟨rfl, hb17⟩
          have HB17 : Hid (Below w.heap.size w w17) := HB16.out.trans (hb17.mono HB16.out.size)
          clear HLD hb17 HB16
          go_wp2
          go_ret
          exact ⟨rfl, HB17.out⟩
        | false =>
          go_wp2_with fail
          refine (mdots_any va lx vc X s w14 HS14.out.1 hxl).mono ?_
          rintro e w15 ⟨v15, D15, rfl, hR15, hst15, hmem15, hl15, hb15⟩
          obtain ⟨a15, c15, rfl, hD15⟩ := hR15.dl
          have HS15 : Aside (Evs w15 ya ly yc Y ∧ DL w15 a15 D15 ∧ Below w.heap.size w w15) := ⟨HS14.out.2.1.below hb15 (Nat.le_refl _), hD15, HS14.out.2.2.2.trans (hb15.mono HS14.out.2.2.2.size)⟩
          have HM15 : Hid (StrD D15 ∧ ∀ z, z ∈ D15 ↔ z ∈ dtE X s) := ⟨hst15, hmem15⟩
          clear HS14 hR15 hst15 hmem15 hb15 hD15
          obtain ⟨l15, hl15e⟩ : ∃ l15, D15.length = l15 := ⟨_, rfl⟩
          have HL15 : Hid (D15.length = l15) := hl15e
          rw [hl15e] at hl15 ⊢
          clear hl15e
          go_wp2_with fail
          refine (mdots_any ya ly yc Y s w15 HS15.out.1 hyl).mono ?_
          rintro e w16 ⟨v16, D16, rfl, hR16, hst16, hmem16, -, hb16⟩
          obtain rfl : D16 = D15 := strD_one _ _ hst16 HM15.out.1 (fun z => by rw [hmem16, HM15.out.2, HD.out])
          obtain ⟨a16, c16, rfl, hD16⟩ := hR16.dl
          have HLD : Hid (Calls Try.prog 10 #[.slice a15 l15 c15, .slice a16 l15 c16] w16 fun e w' => e = .returned (.bool true) ∧ Below w16.heap.size w16 w') := by
            have := ldots_yes a15 a16 c15 c16 D16 w16 (HS15.out.2.1.below hb16 (Nat.le_refl _)) hD16 (by have := HL15.out; omega)
            rw [HL15.out] at this
            exact this
          have HB16 : Hid (Below w.heap.size w w16) := HS15.out.2.2.trans (hb16.mono HS15.out.2.2.size)
          rw [HL15.out]
          clear HS15 hR16 hst16 hmem16 hb16 hD16 HM15 HL15
          go_wp2_with fail
          refine Calls.mono HLD.out ?_
          rintro e w17 ⟨rfl, hb17⟩
          have HB17 : Hid (Below w.heap.size w w17) := HB16.out.trans (hb17.mono HB16.out.size)
          clear HLD hb17 HB16
          go_wp2
          go_ret
          exact ⟨rfl, HB17.out⟩
end Go.Proofs.Ytlbjdokfnammfaa
