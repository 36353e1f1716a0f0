/-
  What the reference's All comes to.
-/
import Derived.Test.YtmacebekodndjaaZrf
namespace Go.Proofs.Ytmacebekodndjaa
set_option maxRecDepth 100000
open Go.RowKit

theorem load_Qm {w : World} {b k : Nat} {d : Pr} (h : w.rangeAt b k (prl d)) : (loadVar 50 ⟨b, k, none⟩).run Try.prog w = .ok (.agg (prc d)) w :=
  run_loadVar_mid (P := Try.prog) w b k 50 (prl d) _ h Try.underlying50 rfl (sizeQ d)
theorem eqGuard_Q (w : World) {op : BinOp} {x y : Operand} (d e : Pr) : (eqGuard op 50 x y (.agg (prc d)) (.agg (prc e))).run Try.prog w = .ok () w := run_eqGuard_agg w _ _ _ _ _ _ plain_Q
theorem eql_Q (w : World) {d e : Pr} {t : Bool} (h : decide (d = e) = t) : (binOp .eql 50 (.agg (prc d)) (.agg (prc e))).run Try.prog w = .ok (.bool t) w := by
  rw [run_eql_struct, run_equalIn_Q w 9998, Result.andThen_ok, h]
theorem enters_rzless (xs : Array Value) (w : World) : (callFunc 25 xs).run Try.prog w = .ok (.enter 25 xs) w := enters Try.func25 (by kernel_rfl) (by kernel_rfl) xs w
theorem okcallB {f : FuncId} {xs : Array Value} {w : World} {b t : Bool} (h : Calls Try.prog f xs w fun e w' => e = .returned (.bool b) ∧ Below w.heap.size w w') (hb : b = t) : Calls Try.prog f xs w fun e w' => e = .returned (.bool t) ∧ Below w.heap.size w w' := hb ▸ h
theorem QRow.both {w : World} {base : Nat} {v : Value} {S : List Pr} (h : QRow w base v S) : ∃ ao c, v = .slice ao S.length c ∧ QV w ao S.length c S ∧ PL w ao S := by
  obtain ⟨ao, c, hv, h1⟩ := h.qv
  obtain ⟨ao', c', hv', h2⟩ := h.pl
  rw [hv] at hv'
  simp only [Value.slice.injEq, true_and] at hv'
  exact ⟨ao, c, hv, h1, hv'.1 ▸ h2⟩

/-! One more pair into pairs that rise. -/
def AtTo (S : List Pr) (p : Pr) (k a : Nat) : Prop := a ≤ k ∧ (∀ (q : Nat) (x : Pr), a = q + 1 → S[q]? = some x → Bef x p) ∧ (∀ (j : Nat) (x : Pr), a ≤ j → j < k → S[j]? = some x → ¬ Bef x p)
theorem atTo_zero (S : List Pr) (p : Pr) : AtTo S p 0 0 := ⟨Nat.le_refl _, fun q x h => by omega, fun j x _ h => by omega⟩
theorem atTo_yes {S : List Pr} {p d : Pr} {k a : Nat} (h : AtTo S p k a) (hd : S[k]? = some d) (hb : Bef d p) : AtTo S p (k + 1) (k + 1) := ⟨Nat.le_refl _, fun q x hq hx => by
  obtain rfl : q = k := by omega
  rw [hd] at hx
  rw [← Option.some.inj hx]
  exact hb, fun j x h1 h2 => by omega⟩
theorem atTo_no {S : List Pr} {p d : Pr} {k a : Nat} (h : AtTo S p k a) (hd : S[k]? = some d) (hb : ¬ Bef d p) : AtTo S p (k + 1) a := ⟨by have := h.1; omega, h.2.1, fun j x h1 h2 hx => by
  by_cases e : j = k
  · subst e
    rw [hd] at hx
    rw [← Option.some.inj hx]
    exact hb
  · exact h.2.2 j x h1 (by omega) hx⟩
def knownTo (S : List Pr) (p : Pr) (k : Nat) : Bool := (S.take k).any fun x => decide (x = p)
theorem knownTo_succ {S : List Pr} {p d : Pr} {k : Nat} (h : S[k]? = some d) : knownTo S p (k + 1) = (knownTo S p k || decide (d = p)) := by
  unfold knownTo
  rw [List.take_add_one, h, List.any_append]
  simp
theorem knownTo_all {S : List Pr} {p : Pr} {k : Nat} (hk : S.length ≤ k) : knownTo S p k = true ↔ p ∈ S := by
  unfold knownTo
  rw [List.take_of_length_le hk, List.any_eq_true]
  constructor
  · rintro ⟨x, hx, he⟩
    rw [← of_decide_eq_true he]; exact hx
  · exact fun h => ⟨p, h, decide_eq_true rfl⟩
theorem ins_str {S : List Pr} {p : Pr} {k a : Nat} (hS : StrP S) (hk : k = S.length) (h : AtTo S p k a) (hn : ¬ p ∈ S) : StrP (S.take a ++ p :: S.drop a) := by
  obtain ⟨h1, h2, h3⟩ := h
  have hA : ∀ x ∈ S.take a, Bef x p := fun x hx => by
    obtain ⟨i, hi⟩ := List.mem_iff_getElem?.1 hx
    have hia : i < a := by
      have := (List.getElem?_eq_some_iff.1 hi).1
      rw [List.length_take] at this
      omega
    rw [List.getElem?_take_of_lt hia] at hi
    obtain ⟨q, rfl⟩ : ∃ q, a = q + 1 := ⟨a - 1, by omega⟩
    have hq : S[q]? = some (S[q]'(by omega)) := List.getElem?_eq_getElem (by omega)
    have hb := h2 q _ rfl hq
    by_cases e : i = q
    · subst e
      rw [hq] at hi
      rw [← Option.some.inj hi]
      exact hb
    · obtain ⟨hil, rfl⟩ := List.getElem?_eq_some_iff.1 hi
      exact bef_trans (List.pairwise_iff_getElem.1 hS i q hil (by omega) (by omega)) hb
  have hD : ∀ x ∈ S.drop a, Bef p x := fun x hx => by
    obtain ⟨i, hi⟩ := List.mem_iff_getElem?.1 hx
    rw [List.getElem?_drop] at hi
    have hil := (List.getElem?_eq_some_iff.1 hi).1
    exact bef_total (h3 (a + i) x (by omega) (by omega) hi) (fun e => hn (e ▸ List.mem_of_getElem? hi))
  have hS' : StrP (S.take a ++ S.drop a) := by rw [List.take_append_drop]; exact hS
  obtain ⟨h4, h5, h6⟩ := List.pairwise_append.1 hS'
  refine List.pairwise_append.2 ⟨h4, List.pairwise_cons.2 ⟨hD, h5⟩, fun x hx y hy => ?_⟩
  rcases List.mem_cons.1 hy with rfl | hy
  · exact hA x hx
  · exact h6 x hx y hy
theorem ins_mem {S : List Pr} {p d : Pr} {a : Nat} : d ∈ S.take a ++ p :: S.drop a ↔ d ∈ S ∨ d = p := by
  have : d ∈ S ↔ d ∈ S.take a ++ S.drop a := by rw [List.take_append_drop]
  rw [this]
  simp only [List.mem_append, List.mem_cons]
  constructor
  · rintro (h | h | h)
    · exact .inl (.inl h)
    · exact .inr h
    · exact .inl (.inr h)
  · rintro ((h | h) | h)
    · exact .inl h
    · exact .inr (.inr h)
    · exact .inr (.inl h)
theorem ins_len {S : List Pr} {p : Pr} {a : Nat} : (S.take a ++ p :: S.drop a).length = S.length + 1 := by
  simp only [List.length_append, List.length_cons, List.length_take, List.length_drop]
  omega
/-- The first ones' pairs. -/
def PartAll (E : List Ev) (i : Nat) (S : List Pr) : Prop := StrP S ∧ (∀ d : Pr, d ∈ S ↔ d.1 ∈ fldZ (E.take i) ∧ d.2 = numZ E d.1) ∧ S.length ≤ i
theorem part_zero (E : List Ev) : PartAll E 0 [] := ⟨List.Pairwise.nil, fun d => by simp [fldZ], Nat.le_refl _⟩
theorem part_pass {E : List Ev} {i : Nat} {S : List Pr} {u : Ev} (h : PartAll E i S) (hu : E[i]? = some u) (hz : zsE u = false) : PartAll E (i + 1) S := ⟨h.1, fun d => by rw [h.2.1, fldZ_take hu, hz]; simp, by have := h.2.2; omega⟩
theorem part_known {E : List Ev} {i : Nat} {S : List Pr} {u : Ev} (h : PartAll E i S) (hu : E[i]? = some u) (hz : zsE u = true) (hk : (u.field, numZ E u.field) ∈ S) : PartAll E (i + 1) S := ⟨h.1, fun d => by
  rw [h.2.1, fldZ_take hu, hz, if_pos rfl, List.mem_append, List.mem_singleton]
  constructor
  · rintro ⟨h1, h2⟩
    exact ⟨.inl h1, h2⟩
  · rintro ⟨h1 | h1, h2⟩
    · exact ⟨h1, h2⟩
    · have : d = (u.field, numZ E u.field) := Prod.ext h1 (by rw [h2, h1])
      rw [← this] at hk
      exact (h.2.1 d).1 hk, by have := h.2.2; omega⟩
theorem part_new {E : List Ev} {i k a : Nat} {S : List Pr} {u : Ev} (h : PartAll E i S) (hu : E[i]? = some u) (hz : zsE u = true) (hk : k = S.length) (ha : AtTo S (u.field, numZ E u.field) k a) (hn : ¬ (u.field, numZ E u.field) ∈ S) : PartAll E (i + 1) (S.take a ++ (u.field, numZ E u.field) :: S.drop a) := ⟨ins_str h.1 hk ha hn, fun d => by
  rw [ins_mem, h.2.1, fldZ_take hu, hz, if_pos rfl, List.mem_append, List.mem_singleton]
  constructor
  · rintro (⟨h1, h2⟩ | rfl)
    · exact ⟨.inl h1, h2⟩
    · exact ⟨.inr rfl, rfl⟩
  · rintro ⟨h1 | h1, h2⟩
    · exact .inl ⟨h1, h2⟩
    · exact .inr (Prod.ext h1 (by rw [h2, h1])), by rw [ins_len]; have := h.2.2; omega⟩

set_option maxHeartbeats 4000000 in
theorem rzall_any (ao : Option Addr) (m c : Nat) (E : List Ev) (w : World) (hE : Evs w ao m c E) (hm : m ≤ 1000) :
    Calls Try.prog 15 #[.slice ao m c] w fun e w' => ∃ (v : Value) (S : List Pr), e = .returned v ∧ QRow w' w.heap.size v S ∧ IsAll E S ∧ S.length ≤ m ∧ Below w.heap.size w w' := by
  have hlen := hE.len
  have HE : Aside (Evs w ao m c E) := hE
  clear hE
  have H0 : Aside (PartAll E 0 [] ∧ QRow w w.heap.size (.slice none 0 0) [] ∧ Below w.heap.size w w) := ⟨part_zero E, Qrow_nil _ _, Below.refl _ _⟩
  go_enter Try.func15, Try.ntmps15
  go_wp2
  go_loopg [3, 14] m (fun kx s3 s14 wr => ∃ (i : Nat) (S : List Pr), s14 = .int .i64 i ∧ i ≤ m ∧ m - i ≤ kx ∧ Aside (PartAll E i S ∧ QRow wr w.heap.size s3 S ∧ Below w.heap.size w wr))
  case atStart => exact ⟨0, [], rfl, Nat.zero_le _, by omega, H0⟩
  case round =>
    clear H0
    obtain ⟨i, S, rfl, him, hkO, HS⟩ := hrel
    by_cases hlt : i < m
    · have hltz : (i : Int) < (m : Int) := by omega
      obtain ⟨b1, o1, u, rfl, hui, hu, hr, hbl⟩ := (HE.out.below HS.out.2.2 (Nat.le_refl _)).at hlt
      have HUI : Hid (E[i]? = some u) := hui
      have hu16 := hu.1
      have c19 := range_kind hr hu16
      have c21 := range_field hr hu16
      have hix := fun W : World => index_ev W (b := b1) (off := o1) (k := i) (m := m) (c := c) hlt
      by_cases hk7 : u.kind = 7
      · have HZ : Hid (zsE u = true) := decide_eq_true hk7
        have HEr : Aside (Evs wr (some ⟨b1, o1, none⟩) m c E) := HE.out.below HS.out.2.2 (Nat.le_refl _)
        rw [hk7] at c19
        clear hui hk7
        go_wp2_with fail
        refine (rzget_any (some ⟨b1, o1, none⟩) m c E u.field wr HEr.out (by omega)).mono ?_
        rintro e w2 ⟨rfl, hb2⟩
        have HS2 : Aside (PartAll E i S ∧ QRow w2 w.heap.size u3 S ∧ Below w.heap.size w w2) := ⟨HS.out.1, HS.out.2.1.below hb2 (Nat.le_refl _), HS.out.2.2.trans (hb2.mono HS.out.2.2.size)⟩
        have hr2 := range_below hr hb2 hbl
        have d21 := range_field hr2 hu16
        clear hb2 HS hr hbl HEr c19 c21 hr2
        obtain ⟨x, HX⟩ : ∃ x, Hid (numZ E u.field = x) := ⟨_, show _ = _ from rfl⟩
        obtain ⟨y, HY⟩ : ∃ y, Hid (okZ E u.field = y) := ⟨_, show _ = _ from rfl⟩
        rw [HX.out, HY.out]
        obtain ⟨aS, cS, hvS, hQS, hPS⟩ := HS2.out.2.1.both
        have hB4 : Below w2.heap.size w2 (w2.alloc (.cells #[.string (sb u.field), .int .i64 x] 50)) := (Below.refl _ _).alloc (Nat.le_refl _) _
        have hnew := heap_alloc_new w2 (.cells #[.string (sb u.field), .int .i64 x] 50)
        have hrp : (w2.alloc (.cells #[.string (sb u.field), .int .i64 x] 50)).rangeAt w2.heap.size 0 (prl (u.field, x)) := fun j v hv => by
          rw [cell_of_row _ w2.heap.size (0 + j) _ _ _ hnew]
          rw [Nat.zero_add]
          simpa [prl] using hv
        have HS4 : Aside (QV (w2.alloc (.cells #[.string (sb u.field), .int .i64 x] 50)) aS S.length cS S ∧ PL (w2.alloc (.cells #[.string (sb u.field), .int .i64 x] 50)) aS S ∧ (w2.alloc (.cells #[.string (sb u.field), .int .i64 x] 50)).rangeAt w2.heap.size 0 (prl (u.field, x)) ∧ Below w.heap.size w (w2.alloc (.cells #[.string (sb u.field), .int .i64 x] 50))) :=
          ⟨hQS.below hB4 (Nat.le_refl _), hPS.below hB4 (Nat.le_refl _), hrp, HS2.out.2.2.alloc HS2.out.2.2.size _⟩
        have HPA : Hid (PartAll E i S) := HS2.out.1
        have hQ4 : Aside (QRow (w2.alloc (.cells #[.string (sb u.field), .int .i64 x] 50)) w.heap.size u3 S) := HS2.out.2.1.below hB4 (Nat.le_refl _)
        have hg7 : w2.heap.size < (w2.alloc (.cells #[.string (sb u.field), .int .i64 x] 50)).heap.size := by simp
        have hSl : S.length ≤ i := HPA.out.2.2
        have hScS : S.length ≤ cS := hQS.room
        subst hvS
        clear hQS hPS hB4 hnew hrp HS2
        go_upto_region 8 with (fail)
        clear d21 hix
        generalize hw4 : w2.alloc (.cells #[.string (sb u.field), .int .i64 x] 50) = w4 at HS4 hQ4 hg7 ⊢
        clear hw4
        generalize w2.heap.size = g7 at *
        obtain ⟨n, hn⟩ : ∃ n, n = S.length := ⟨_, rfl⟩
        have HN : Hid (n = S.length) := hn
        rw [← hn] at HS4 hQ4 hSl hScS ⊢
        clear hn
        have H5 : Aside (AtTo S (u.field, x) 0 0 ∧ Below w4.heap.size w4 w4) := ⟨atTo_zero _ _, Below.refl _ _⟩
        go_wp2
        go_loopg [8, 9, 45] n (fun kx s8 s9 s45 wr2 => ∃ k a : Nat, s45 = .int .i64 k ∧ s9 = .int .i64 a ∧ s8 = .bool (knownTo S (u.field, x) k) ∧ k ≤ n ∧ n - k ≤ kx ∧ Aside (AtTo S (u.field, x) k a ∧ Below w4.heap.size w4 wr2))
        case atStart => exact ⟨0, 0, rfl, rfl, rfl, Nat.zero_le _, by omega, H5⟩
        case round =>
          clear H5
          obtain ⟨k, a, rfl, rfl, rfl, hkn, hkx, HA⟩ := hrel
          by_cases hkl : k < n
          · have hkz : (k : Int) < (n : Int) := by omega
            obtain ⟨d, hd⟩ : ∃ d, S[k]? = some d := ⟨_, List.getElem?_eq_getElem (by have := HN.out; omega)⟩
            have HD : Hid (S[k]? = some d) := hd
            have hPr := HS4.out.2.1.below HA.out.2 (Nat.le_refl _)
            obtain ⟨gS, hgS, z0, z1⟩ := hPr k d hd
            subst hgS
            have hr1 := hPr.range hd
            have hl1 : gS < wr.heap.size := World.block_lt_of_cell? wr _ z0
            have hr2 := range_below HS4.out.2.2.1 HA.out.2 hg7
            have hl2 : g7 < wr.heap.size := Nat.lt_of_lt_of_le hg7 HA.out.2.size
            have HK : Hid (knownTo S (u.field, x) (k + 1) = (knownTo S (u.field, x) k || decide (d = (u.field, x)))) := knownTo_succ hd
            have HBw : Hid (Below w4.heap.size w4 wr) := HA.out.2
            have HAT : Hid (AtTo S (u.field, x) k a) := HA.out.1
            generalize knownTo S (u.field, x) k = t at *
            obtain ⟨p, hp⟩ : ∃ p, p = (u.field, x) := ⟨_, rfl⟩
            rw [← hp] at hr2 HK HAT
            have HPP : Hid (p = (u.field, x)) := hp
            obtain ⟨q, hq⟩ : ∃ q, decide (d = p) = q := ⟨_, rfl⟩
            rw [hq] at HK
            clear hPr z0 z1 hd HA hp
            have hb6 : Below wr.heap.size wr wr.drew := (Below.refl _ _).drew
            have hr1d := range_below hr1 hb6 hl1
            have hr2d := range_below hr2 hb6 hl2
            have hl1d : gS < wr.drew.heap.size := hl1
            have hl2d : g7 < wr.drew.heap.size := hl2
            have HB5 : Hid (Below w4.heap.size w4 wr.drew) := HBw.out.drew
            obtain ⟨f, HF⟩ : ∃ f, Hid (decide (Bef d p) = f) := ⟨_, show _ = _ from rfl⟩
            obtain ⟨t2, HT2⟩ : ∃ t2, Hid ((t || q) = t2) := ⟨_, show _ = _ from rfl⟩
            cases t with
            | true =>
              go_wp2_with fail
              refine wp_region_noPanic ?_
              refine wp_region_held_drew (S := fun W' : World => W'.rangeAt gS (k * 2) (prl d) ∧ W'.rangeAt g7 0 (prl p)) (by kernel_rfl) ⟨hr1, hr2⟩ (fun hHeld => ?_)
              refine wpAnyH_take (i := 0) (oi := { dst := some 48, op := _, type := _, pos := _, after := _, guard := _ }) (v := .bool true) rfl (by kernel_rfl) (by kernel_rfl) (by kernel_rfl) (fun _ _ _ h => h) (Or.inl ⟨by rfl, ?_⟩) (by assumption) ?_
              · intro w9 hSw
                exact exec_move rfl rfl
              simp only [Act.put, List.setIfInBounds_toArray, List.set_cons_zero, List.set_cons_succ]
              refine wpAnyH_take (i := 1) (oi := { dst := some 49, op := _, type := _, pos := _, after := _, guard := _ }) (v := .bool true) rfl (by kernel_rfl) (by kernel_rfl) (by kernel_rfl) (fun _ _ _ h => h) (Or.inl ⟨by rfl, ?_⟩) (by assumption) ?_
              · intro w9 hSw
                exact exec_move rfl rfl
              simp only [Act.put, List.setIfInBounds_toArray, List.set_cons_zero, List.set_cons_succ]
              refine wpAnyH_take (i := 2) (oi := { dst := some 50, op := _, type := _, pos := _, after := _, guard := _ }) (v := undef) rfl (by kernel_rfl) (by kernel_rfl) (by kernel_rfl) (fun _ _ _ h => h) (Or.inr ⟨by rfl, rfl⟩) (by assumption) ?_
              simp only [Act.put, List.setIfInBounds_toArray, List.set_cons_zero, List.set_cons_succ]
              refine wpAnyH_take (i := 3) (oi := { dst := some 51, op := _, type := _, pos := _, after := _, guard := _ }) (v := undef) rfl (by kernel_rfl) (by kernel_rfl) (by kernel_rfl) (fun _ _ _ h => h) (Or.inr ⟨by rfl, rfl⟩) (by assumption) ?_
              simp only [Act.put, List.setIfInBounds_toArray, List.set_cons_zero, List.set_cons_succ]
              refine wpAnyH_take (i := 4) (oi := { dst := some 52, op := _, type := _, pos := _, after := _, guard := _ }) (v := undef) rfl (by kernel_rfl) (by kernel_rfl) (by kernel_rfl) (fun _ _ _ h => h) (Or.inr ⟨by rfl, rfl⟩) (by assumption) ?_
              simp only [Act.put, List.setIfInBounds_toArray, List.set_cons_zero, List.set_cons_succ]
              refine wpAnyH_take (i := 5) (oi := { dst := some 53, op := _, type := _, pos := _, after := _, guard := _ }) (v := undef) rfl (by kernel_rfl) (by kernel_rfl) (by kernel_rfl) (fun _ _ _ h => h) (Or.inr ⟨by rfl, rfl⟩) (by assumption) ?_
              simp only [Act.put, List.setIfInBounds_toArray, List.set_cons_zero, List.set_cons_succ]
              refine wpAnyH_take (i := 6) (oi := { dst := some 54, op := _, type := _, pos := _, after := _, guard := _ }) (v := undef) rfl (by kernel_rfl) (by kernel_rfl) (by kernel_rfl) (fun _ _ _ h => h) (Or.inr ⟨by rfl, rfl⟩) (by assumption) ?_
              simp only [Act.put, List.setIfInBounds_toArray, List.set_cons_zero, List.set_cons_succ]
              refine wpAnyH_take (i := 7) (oi := { dst := some 55, op := _, type := _, pos := _, after := _, guard := _ }) (v := undef) rfl (by kernel_rfl) (by kernel_rfl) (by kernel_rfl) (fun _ _ _ h => h) (Or.inr ⟨by rfl, rfl⟩) (by assumption) ?_
              simp only [Act.put, List.setIfInBounds_toArray, List.set_cons_zero, List.set_cons_succ]
              refine wpAnyH_take (i := 8) (oi := { dst := some 56, op := _, type := _, pos := _, after := _, guard := _ }) (v := .bool true) rfl (by kernel_rfl) (by kernel_rfl) (by kernel_rfl) (fun _ _ _ h => h) (Or.inl ⟨by rfl, ?_⟩) (by assumption) ?_
              · intro w9 hSw
                exact exec_pick (b := true) rfl rfl rfl rfl
              simp only [Act.put, List.setIfInBounds_toArray, List.set_cons_zero, List.set_cons_succ]
              refine wpAnyH_take (i := 9) (oi := { dst := some 8, op := _, type := _, pos := _, after := _, guard := _ }) (v := .bool true) rfl (by kernel_rfl) (by kernel_rfl) (by kernel_rfl) (fun _ _ _ h => h) (Or.inl ⟨by rfl, ?_⟩) (by assumption) ?_
              · intro w9 hSw
                exact exec_assign rfl rfl
              simp only [Act.put, List.setIfInBounds_toArray, List.set_cons_zero, List.set_cons_succ]
              refine wpAnyH_done (by kernel_rfl) ?_ _
              refine NoPanic.normal ?_
              clear hHeld
              clear hr1 hr2 hb6
              cases f with
              | true =>
                go_wp2_with fail
                refine region_vals [57, 58, 59, 60, 61, 62] [.slice (some ⟨gS, 0, none⟩) n cS, .int .i64 (k : Int), .pointer (some ⟨gS, k * 2, none⟩), .agg (prc d), .agg (prc p), .bool true] _ (by kernel_rfl) (by kernel_rfl) (by rfl) (by decide) (by kernel_rfl) (by simp only [lay, Act.put, List.setIfInBounds_toArray, List.set_cons_zero, List.set_cons_succ, List.getD_cons_zero, List.getD_cons_succ, Nat.reduceAdd]; rfl) ⟨?_, ?_, ?_, ?_, ?_, ?_, trivial⟩ ?_
                · exact .inl ⟨rfl, fun W hb => yields_move rfl rfl⟩
                · exact .inl ⟨rfl, fun W hb => yields_move rfl rfl⟩
                · exact .inl ⟨rfl, fun W hb => yields_indexAddr rfl rfl rfl (by have h := index_Q W (b := gS) (off := 0) (k := k) (m := n) (c := cS) hkl; rw [Nat.zero_add] at h; exact h)⟩
                · exact .inl ⟨rfl, fun W hb => yields_load rfl rfl (load_Qm (range_below hr1d hb hl1d))⟩
                · exact .inl ⟨rfl, fun W hb => yields_load rfl rfl (load_Qm (range_below hr2d hb hl2d))⟩
                · exact .inl ⟨rfl, fun W hb => yields_call (vs := [.agg (prc d), .agg (prc p)]) (v := .bool true) rfl rfl (enters_rzless _ _) (okcallB (rzless_any d p W) HF.out)⟩
                intro wz hbz
                have HA2 : Aside (AtTo S (u.field, x) (k + 1) (k + 1) ∧ Below w4.heap.size w4 wz) := by
                  refine ⟨?_, HB5.out.trans (hbz.mono HB5.out.size)⟩
                  rw [← HPP.out]
                  exact atTo_yes HAT.out HD.out (of_decide_eq_true HF.out)
                have HK2 : Hid (knownTo S (u.field, x) (k + 1) = true) := by
                  show _ = _
                  rw [← HPP.out, HK.out]
                  rfl
                clear hr1d hr2d hbz HB5 HBw HAT HK
                go_wp2
                go_roundg (n - (k + 1))
                case measure => omega
                case rel => exact ⟨k + 1, k + 1, by go_num, by go_num, by rw [HK2.out], by omega, Nat.le_refl _, HA2⟩
              | false =>
                go_wp2_with fail
                refine region_vals [57, 58, 59, 60, 61, 62] [.slice (some ⟨gS, 0, none⟩) n cS, .int .i64 (k : Int), .pointer (some ⟨gS, k * 2, none⟩), .agg (prc d), .agg (prc p), .bool false] _ (by kernel_rfl) (by kernel_rfl) (by rfl) (by decide) (by kernel_rfl) (by simp only [lay, Act.put, List.setIfInBounds_toArray, List.set_cons_zero, List.set_cons_succ, List.getD_cons_zero, List.getD_cons_succ, Nat.reduceAdd]; rfl) ⟨?_, ?_, ?_, ?_, ?_, ?_, trivial⟩ ?_
                · exact .inl ⟨rfl, fun W hb => yields_move rfl rfl⟩
                · exact .inl ⟨rfl, fun W hb => yields_move rfl rfl⟩
                · exact .inl ⟨rfl, fun W hb => yields_indexAddr rfl rfl rfl (by have h := index_Q W (b := gS) (off := 0) (k := k) (m := n) (c := cS) hkl; rw [Nat.zero_add] at h; exact h)⟩
                · exact .inl ⟨rfl, fun W hb => yields_load rfl rfl (load_Qm (range_below hr1d hb hl1d))⟩
                · exact .inl ⟨rfl, fun W hb => yields_load rfl rfl (load_Qm (range_below hr2d hb hl2d))⟩
                · exact .inl ⟨rfl, fun W hb => yields_call (vs := [.agg (prc d), .agg (prc p)]) (v := .bool false) rfl rfl (enters_rzless _ _) (okcallB (rzless_any d p W) HF.out)⟩
                intro wz hbz
                have HA2 : Aside (AtTo S (u.field, x) (k + 1) (a) ∧ Below w4.heap.size w4 wz) := by
                  refine ⟨?_, HB5.out.trans (hbz.mono HB5.out.size)⟩
                  rw [← HPP.out]
                  exact atTo_no HAT.out HD.out (of_decide_eq_false HF.out)
                have HK2 : Hid (knownTo S (u.field, x) (k + 1) = true) := by
                  show _ = _
                  rw [← HPP.out, HK.out]
                  rfl
                clear hr1d hr2d hbz HB5 HBw HAT HK
                go_wp2
                go_roundg (n - (k + 1))
                case measure => omega
                case rel => exact ⟨k + 1, a, by go_num, by rfl, by rw [HK2.out], by omega, Nat.le_refl _, HA2⟩
            | false =>
              go_wp2_with fail
              refine wp_region_noPanic ?_
              refine wp_region_held_drew (S := fun W' : World => W'.rangeAt gS (k * 2) (prl d) ∧ W'.rangeAt g7 0 (prl p)) (by kernel_rfl) ⟨hr1, hr2⟩ (fun hHeld => ?_)
              refine wpAnyH_take (i := 0) (oi := { dst := some 48, op := _, type := _, pos := _, after := _, guard := _ }) (v := .bool false) rfl (by kernel_rfl) (by kernel_rfl) (by kernel_rfl) (fun _ _ _ h => h) (Or.inl ⟨by rfl, ?_⟩) (by assumption) ?_
              · intro w9 hSw
                exact exec_move rfl rfl
              simp only [Act.put, List.setIfInBounds_toArray, List.set_cons_zero, List.set_cons_succ]
              refine wpAnyH_take (i := 1) (oi := { dst := some 49, op := _, type := _, pos := _, after := _, guard := _ }) (v := .bool false) rfl (by kernel_rfl) (by kernel_rfl) (by kernel_rfl) (fun _ _ _ h => h) (Or.inl ⟨by rfl, ?_⟩) (by assumption) ?_
              · intro w9 hSw
                exact exec_move rfl rfl
              simp only [Act.put, List.setIfInBounds_toArray, List.set_cons_zero, List.set_cons_succ]
              refine wpAnyH_take (i := 2) (oi := { dst := some 50, op := _, type := _, pos := _, after := _, guard := _ }) (v := .slice (some ⟨gS, 0, none⟩) n cS) rfl (by kernel_rfl) (by kernel_rfl) (by kernel_rfl) (fun _ _ _ h => h) (Or.inl ⟨by rfl, ?_⟩) (by assumption) ?_
              · intro w9 hSw
                exact exec_move rfl rfl
              simp only [Act.put, List.setIfInBounds_toArray, List.set_cons_zero, List.set_cons_succ]
              refine wpAnyH_take (i := 3) (oi := { dst := some 51, op := _, type := _, pos := _, after := _, guard := _ }) (v := .int .i64 (k : Int)) rfl (by kernel_rfl) (by kernel_rfl) (by kernel_rfl) (fun _ _ _ h => h) (Or.inl ⟨by rfl, ?_⟩) (by assumption) ?_
              · intro w9 hSw
                exact exec_move rfl rfl
              simp only [Act.put, List.setIfInBounds_toArray, List.set_cons_zero, List.set_cons_succ]
              refine wpAnyH_take (i := 4) (oi := { dst := some 52, op := _, type := _, pos := _, after := _, guard := _ }) (v := .pointer (some ⟨gS, k * 2, none⟩)) rfl (by kernel_rfl) (by kernel_rfl) (by kernel_rfl) (fun _ _ _ h => h) (Or.inl ⟨by rfl, ?_⟩) (by assumption) ?_
              · intro w9 hSw
                exact exec_index rfl rfl rfl (by have h := index_Q w9 (b := gS) (off := 0) (k := k) (m := n) (c := cS) hkl; rw [Nat.zero_add] at h; exact h)
              simp only [Act.put, List.setIfInBounds_toArray, List.set_cons_zero, List.set_cons_succ]
              refine wpAnyH_take (i := 5) (oi := { dst := some 53, op := _, type := _, pos := _, after := _, guard := _ }) (v := .agg (prc d)) rfl (by kernel_rfl) (by kernel_rfl) (by kernel_rfl) (fun _ _ _ h => h) (Or.inl ⟨by rfl, ?_⟩) (by assumption) ?_
              · intro w9 hSw
                exact exec_load (ad := ⟨gS, k * 2, none⟩) rfl rfl (load_Qm hSw.1)
              simp only [Act.put, List.setIfInBounds_toArray, List.set_cons_zero, List.set_cons_succ]
              refine wpAnyH_take (i := 6) (oi := { dst := some 54, op := _, type := _, pos := _, after := _, guard := _ }) (v := .agg (prc p)) rfl (by kernel_rfl) (by kernel_rfl) (by kernel_rfl) (fun _ _ _ h => h) (Or.inl ⟨by rfl, ?_⟩) (by assumption) ?_
              · intro w9 hSw
                exact exec_load (ad := ⟨g7, 0, none⟩) rfl rfl (load_Qm hSw.2)
              simp only [Act.put, List.setIfInBounds_toArray, List.set_cons_zero, List.set_cons_succ]
              refine wpAnyH_take (i := 7) (oi := { dst := some 55, op := _, type := _, pos := _, after := _, guard := _ }) (v := .bool q) rfl (by kernel_rfl) (by kernel_rfl) (by kernel_rfl) (fun _ _ _ h => h) (Or.inl ⟨by rfl, ?_⟩) (by assumption) ?_
              · intro w9 hSw
                exact exec_bin rfl rfl rfl (eqGuard_Q w9 _ _) (eql_Q w9 hq)
              simp only [Act.put, List.setIfInBounds_toArray, List.set_cons_zero, List.set_cons_succ]
              refine wpAnyH_take (i := 8) (oi := { dst := some 56, op := _, type := _, pos := _, after := _, guard := _ }) (v := .bool q) rfl (by kernel_rfl) (by kernel_rfl) (by kernel_rfl) (fun _ _ _ h => h) (Or.inl ⟨by rfl, ?_⟩) (by assumption) ?_
              · intro w9 hSw
                exact exec_pick (b := false) rfl rfl rfl rfl
              simp only [Act.put, List.setIfInBounds_toArray, List.set_cons_zero, List.set_cons_succ]
              refine wpAnyH_take (i := 9) (oi := { dst := some 8, op := _, type := _, pos := _, after := _, guard := _ }) (v := .bool q) rfl (by kernel_rfl) (by kernel_rfl) (by kernel_rfl) (fun _ _ _ h => h) (Or.inl ⟨by rfl, ?_⟩) (by assumption) ?_
              · intro w9 hSw
                exact exec_assign rfl rfl
              simp only [Act.put, List.setIfInBounds_toArray, List.set_cons_zero, List.set_cons_succ]
              refine wpAnyH_done (by kernel_rfl) ?_ _
              refine NoPanic.normal ?_
              clear hHeld
              clear hr1 hr2 hb6
              cases f with
              | true =>
                go_wp2_with fail
                refine region_vals [57, 58, 59, 60, 61, 62] [.slice (some ⟨gS, 0, none⟩) n cS, .int .i64 (k : Int), .pointer (some ⟨gS, k * 2, none⟩), .agg (prc d), .agg (prc p), .bool true] _ (by kernel_rfl) (by kernel_rfl) (by rfl) (by decide) (by kernel_rfl) (by simp only [lay, Act.put, List.setIfInBounds_toArray, List.set_cons_zero, List.set_cons_succ, List.getD_cons_zero, List.getD_cons_succ, Nat.reduceAdd]; rfl) ⟨?_, ?_, ?_, ?_, ?_, ?_, trivial⟩ ?_
                · exact .inl ⟨rfl, fun W hb => yields_move rfl rfl⟩
                · exact .inl ⟨rfl, fun W hb => yields_move rfl rfl⟩
                · exact .inl ⟨rfl, fun W hb => yields_indexAddr rfl rfl rfl (by have h := index_Q W (b := gS) (off := 0) (k := k) (m := n) (c := cS) hkl; rw [Nat.zero_add] at h; exact h)⟩
                · exact .inl ⟨rfl, fun W hb => yields_load rfl rfl (load_Qm (range_below hr1d hb hl1d))⟩
                · exact .inl ⟨rfl, fun W hb => yields_load rfl rfl (load_Qm (range_below hr2d hb hl2d))⟩
                · exact .inl ⟨rfl, fun W hb => yields_call (vs := [.agg (prc d), .agg (prc p)]) (v := .bool true) rfl rfl (enters_rzless _ _) (okcallB (rzless_any d p W) HF.out)⟩
                intro wz hbz
                have HA2 : Aside (AtTo S (u.field, x) (k + 1) (k + 1) ∧ Below w4.heap.size w4 wz) := by
                  refine ⟨?_, HB5.out.trans (hbz.mono HB5.out.size)⟩
                  rw [← HPP.out]
                  exact atTo_yes HAT.out HD.out (of_decide_eq_true HF.out)
                have HK2 : Hid (knownTo S (u.field, x) (k + 1) = q) := by
                  show _ = _
                  rw [← HPP.out, HK.out]
                  rfl
                clear hr1d hr2d hbz HB5 HBw HAT HK
                go_wp2
                go_roundg (n - (k + 1))
                case measure => omega
                case rel => exact ⟨k + 1, k + 1, by go_num, by go_num, by rw [HK2.out], by omega, Nat.le_refl _, HA2⟩
              | false =>
                go_wp2_with fail
                refine region_vals [57, 58, 59, 60, 61, 62] [.slice (some ⟨gS, 0, none⟩) n cS, .int .i64 (k : Int), .pointer (some ⟨gS, k * 2, none⟩), .agg (prc d), .agg (prc p), .bool false] _ (by kernel_rfl) (by kernel_rfl) (by rfl) (by decide) (by kernel_rfl) (by simp only [lay, Act.put, List.setIfInBounds_toArray, List.set_cons_zero, List.set_cons_succ, List.getD_cons_zero, List.getD_cons_succ, Nat.reduceAdd]; rfl) ⟨?_, ?_, ?_, ?_, ?_, ?_, trivial⟩ ?_
                · exact .inl ⟨rfl, fun W hb => yields_move rfl rfl⟩
                · exact .inl ⟨rfl, fun W hb => yields_move rfl rfl⟩
                · exact .inl ⟨rfl, fun W hb => yields_indexAddr rfl rfl rfl (by have h := index_Q W (b := gS) (off := 0) (k := k) (m := n) (c := cS) hkl; rw [Nat.zero_add] at h; exact h)⟩
                · exact .inl ⟨rfl, fun W hb => yields_load rfl rfl (load_Qm (range_below hr1d hb hl1d))⟩
                · exact .inl ⟨rfl, fun W hb => yields_load rfl rfl (load_Qm (range_below hr2d hb hl2d))⟩
                · exact .inl ⟨rfl, fun W hb => yields_call (vs := [.agg (prc d), .agg (prc p)]) (v := .bool false) rfl rfl (enters_rzless _ _) (okcallB (rzless_any d p W) HF.out)⟩
                intro wz hbz
                have HA2 : Aside (AtTo S (u.field, x) (k + 1) (a) ∧ Below w4.heap.size w4 wz) := by
                  refine ⟨?_, HB5.out.trans (hbz.mono HB5.out.size)⟩
                  rw [← HPP.out]
                  exact atTo_no HAT.out HD.out (of_decide_eq_false HF.out)
                have HK2 : Hid (knownTo S (u.field, x) (k + 1) = q) := by
                  show _ = _
                  rw [← HPP.out, HK.out]
                  rfl
                clear hr1d hr2d hbz HB5 HBw HAT HK
                go_wp2
                go_roundg (n - (k + 1))
                case measure => omega
                case rel => exact ⟨k + 1, a, by go_num, by rfl, by rw [HK2.out], by omega, Nat.le_refl _, HA2⟩
          · obtain rfl : n = k := by omega
            have HKA : Hid (knownTo S (u.field, x) n = true ↔ (u.field, x) ∈ S) := knownTo_all (by have := HN.out; omega)
            have HAT : Hid (AtTo S (u.field, x) n a) := HA.out.1
            have hal : a ≤ n := HA.out.1.1
            generalize knownTo S (u.field, x) n = t at *
            have HZ4 : Aside (QV wr aS n cS S ∧ QRow wr w.heap.size (.slice aS n cS) S ∧ wr.rangeAt g7 0 (prl (u.field, x)) ∧ Below w.heap.size w wr) := ⟨HS4.out.1.below HA.out.2 (Nat.le_refl _), hQ4.out.below HA.out.2 (Nat.le_refl _), range_below HS4.out.2.2.1 HA.out.2 hg7, HS4.out.2.2.2.trans (HA.out.2.mono HS4.out.2.2.2.size)⟩
            have hlg : g7 < wr.heap.size := Nat.lt_of_lt_of_le hg7 HA.out.2.size
            clear HA HS4 hQ4
            cases t with
            | true =>
              have HS9 : Aside (PartAll E (i + 1) S ∧ QRow wr w.heap.size (.slice aS n cS) S ∧ Below w.heap.size w wr) := ⟨part_known HPA.out HUI.out HZ.out (by rw [HX.out]; exact HKA.out.1 rfl), HZ4.out.2.1, HZ4.out.2.2.2⟩
              clear HZ4
              go_wp2
              go_roundg (m - (i + 1))
              case measure => omega
              case rel => exact ⟨i + 1, S, by go_num, by omega, Nat.le_refl _, HS9⟩
            | false =>
              have HNE : Hid (PartAll E (i + 1) (S.take a ++ (u.field, x) :: S.drop a)) := by
                have h := part_new HPA.out HUI.out HZ.out HN.out (a := a) (by rw [HX.out]; exact HAT.out) (by rw [HX.out]; exact fun hin => by have := HKA.out.2 hin; cases this)
                rw [HX.out] at h
                exact h
              rename World => wz
              obtain ⟨p, hp⟩ : ∃ p, p = (u.field, x) := ⟨_, rfl⟩
              rw [← hp] at HNE HZ4
              clear hp HPA HKA HAT
              have hpc : a ≤ cS := Nat.le_trans hal hScS
              have hN := Qrow_nil wz wz.heap.size
              have hT0 := HZ4.out.1.take hal
              obtain ⟨TA, hTA⟩ : ∃ TA, S.take a = TA := ⟨_, rfl⟩
              obtain ⟨TD, hTD⟩ : ∃ TD, S.drop a = TD := ⟨_, rfl⟩
              have HTD : Hid (S.drop a = TD) := hTD
              have hT : QV wz aS a cS TA := by rw [← hTA]; exact hT0
              have htl : TA.length ≤ 1000 := by rw [← hTA, List.length_take]; omega
              have HIq : Hid (PartAll E (i + 1) (TA ++ p :: TD)) := by rw [← hTA, ← hTD]; exact HNE.out
              clear hT0 hTA hTD HNE
              have hpl1 : a ≤ 1000 := by omega
              go_wp2_with (first | refine wpl_ex rfl (exec_sliceT rfl rfl rfl (sliceQ_to _ hpc)) ?_ | refine wpList_appQs rfl _ _ rfl wz.heap.size _ [] rfl hN _ a cS TA rfl hT (by simp only [List.length_nil]; omega) (Nat.le_refl _) ?_)
              intro v5 w5 hR5 hg5
              have hR5a : QRow w5 wz.heap.size v5 TA := by simpa using hR5
              have hB5 : Below wz.heap.size wz w5 := (Below.refl _ _).grown hg5 (Nat.le_refl _) (fun k h => by cases h)
              have hr5 := range_below HZ4.out.2.2.1 hB5 hlg
              have hRow6 : QRow (w5.alloc (.cells (prc p) 50)) wz.heap.size v5 TA := hR5a.below ((Below.refl _ _).alloc (Nat.le_refl _) _) (Nat.le_refl _)
              have hle6 : wz.heap.size ≤ w5.heap.size := hB5.size
              have HB6 : Hid (Below wz.heap.size wz (w5.alloc (.cells (prc p) 50))) := hB5.alloc hB5.size _
              clear hR5 hR5a hg5 hB5 hN hT
              go_wp2_with (first | refine load_Q_mid rfl rfl rfl hr5 ?_ | refine build_Q1 rfl rfl rfl ?_ | refine wpList_appQ p rfl _ _ rfl wz.heap.size _ TA rfl hRow6 rfl (by omega) hle6 ?_)
              intro v7 w7 hR7 hg7'
              have hB7 : Below wz.heap.size wz w7 := HB6.out.grown hg7' HB6.out.size hRow6.own
              have hD0 := (HZ4.out.1.below hB7 (Nat.le_refl _)).drop hal
              have hD : QV w7 (dropQ aS cS a) (n - a) (cS - a) TD := by rw [← HTD.out]; exact hD0
              clear hD0
              have hs7 : wz.heap.size ≤ w7.heap.size := hB7.size
              have htl7 : (TA ++ [p]).length ≤ 1001 := by rw [List.length_append]; simp only [List.length_cons, List.length_nil]; omega
              have hdl : n - a ≤ 1000 := by omega
              have HB7 : Hid (Below wz.heap.size wz w7) := hB7
              generalize hFF : TA ++ [p] = FF at hR7 htl7
              have HFF : Hid (TA ++ [p] = FF) := hFF
              clear hg7' hRow6 hle6 HB6 hr5 hB7 hFF
              go_wp2_with (first | refine wpl_ex rfl (exec_sliceF rfl rfl rfl (sliceQ_from _ hal)) ?_ | refine wpList_appQs rfl _ _ rfl wz.heap.size _ FF rfl hR7 _ (n - a) (cS - a) TD rfl hD (by omega) hs7 ?_)
              intro v8 w8 hR8 hg8
              have HS9 : Aside (PartAll E (i + 1) (TA ++ p :: TD) ∧ QRow w8 w.heap.size v8 (TA ++ p :: TD) ∧ Below w.heap.size w w8) := by
                refine ⟨HIq.out, ?_, HZ4.out.2.2.2.trans ((HB7.out.grown hg8 hs7 hR7.own).mono HZ4.out.2.2.2.size)⟩
                rw [← HFF.out, List.append_assoc] at hR8
                exact hR8.lower HZ4.out.2.2.2.size
              clear hR8 hg8 hR7 hD HZ4 HB7 HIq HFF htl7 hdl hs7
              go_wp2
              go_roundg (m - (i + 1))
              case measure => omega
              case rel => exact ⟨i + 1, _, by go_num, by omega, Nat.le_refl _, HS9⟩
      · have HS4 : Aside (PartAll E (i + 1) S ∧ QRow wr w.heap.size u3 S ∧ Below w.heap.size w wr) := ⟨part_pass HS.out.1 hui (decide_eq_false hk7), HS.out.2⟩
        have hkb : (u.kind == 7) = false := by simpa using hk7
        have hkn : (u.kind != 7) = true := by simpa using hk7
        clear HS hr hk7
        go_wp2
        go_roundg (m - (i + 1))
        case measure => omega
        case rel => exact ⟨i + 1, S, by go_num, by omega, Nat.le_refl _, HS4⟩
    · obtain rfl : m = i := by omega
      have HR : Hid (QRow wr w.heap.size u3 S ∧ IsAll E S ∧ S.length ≤ m ∧ Below w.heap.size w wr) := by
        obtain ⟨⟨h1, h2, h3⟩, h4, h5⟩ := HS.out
        rw [List.take_of_length_le (by omega)] at h2
        exact ⟨h4, ⟨h1, h2⟩, h3, h5⟩
      clear HS
      go_wp2
      go_ret
      exact ⟨u3, S, rfl, HR.out⟩
end Go.Proofs.Ytmacebekodndjaa
