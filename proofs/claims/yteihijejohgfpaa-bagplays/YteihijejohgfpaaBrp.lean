/-
  What the reference bag's Put comes to.
-/
import Derived.Test.YteihijejohgfpaaBrf
import Derived.BigQuiet
namespace Go.Proofs.Yteihijejohgfpaa
set_option maxRecDepth 100000
open Go.RowKit

section
variable {α : Type}
theorem put_del (S : List (It α)) (d : It α) : put (del S d.r d.n) d = put S d := by
  unfold put del
  rw [List.filter_filter, List.filter_filter]
  congr 1
  · refine List.filter_congr fun i _ => ?_
    cases h : isAt d.r d.n i
    · simp
    · simp [(isAt_bef h).1]
  · congr 1
    refine List.filter_congr fun i _ => ?_
    cases h : isAt d.r d.n i
    · simp
    · simp [(isAt_bef h).2]
theorem put_snoc {T : List (It α)} {d i : It α} (h : bef d i = true) : put (T ++ [i]) d = put T d ++ [i] := by
  unfold put
  rw [List.filter_append, List.filter_append]
  simp [bef_asymm h, h]
theorem put_end {T : List (It α)} {d : It α} (h : ∀ j ∈ T, bef j d = true) : put T d = T ++ [d] := by
  unfold put
  rw [List.filter_eq_self.2 h, List.filter_eq_nil_iff.2 (fun j hj => by rw [bef_asymm (h j hj)]; simp)]
/-- How far it is: whether it is laid, and what stands there. -/
def sofar (S : List (It α)) (d : It α) (k : Nat) : List (It α) := if (S.take k).any (bef d) then put (S.take k) d else S.take k
theorem take_snoc {S : List (It α)} {k : Nat} {i : It α} (hi : S[k]? = some i) : S.take (k + 1) = S.take k ++ [i] := by rw [List.take_add_one, hi]; rfl
theorem any_snoc {S : List (It α)} {d i : It α} {k : Nat} (hi : S[k]? = some i) : (S.take (k + 1)).any (bef d) = ((S.take k).any (bef d) || bef d i) := by rw [take_snoc hi]; simp
theorem sofar_done {S : List (It α)} (hS : Srt S) {d i : It α} {k : Nat} (hi : S[k]? = some i) (h : (S.take k).any (bef d) = true) : (S.take (k + 1)).any (bef d) = true ∧ sofar S d (k + 1) = sofar S d k ++ [i] := by
  obtain ⟨j, hj, hdj⟩ := List.any_eq_true.1 h
  have hs : Srt (S.take (k + 1)) := List.Pairwise.sublist (List.take_sublist _ _) hS
  rw [take_snoc hi] at hs
  have hji := (List.pairwise_append.1 hs).2.2 j hj i (by simp)
  have hdi := bef_trans hdj hji
  have e : (S.take (k + 1)).any (bef d) = true := by rw [any_snoc hi, h]; rfl
  refine ⟨e, ?_⟩
  unfold sofar
  rw [e, h, if_pos rfl, if_pos rfl, take_snoc hi, put_snoc hdi]
theorem all_bef {S : List (It α)} {d : It α} (hd : hasD S d.r d.n = false) {k : Nat} (h : (S.take k).any (bef d) = false) : ∀ j ∈ S.take k, bef j d = true := fun j hj => by
  rcases bef_tri j d with h1 | h1 | h1
  · have : hasD S d.r d.n = true := List.any_eq_true.2 ⟨j, List.mem_of_mem_take hj, h1⟩
    rw [hd] at this; cases this
  · exact h1
  · have : (S.take k).any (bef d) = true := List.any_eq_true.2 ⟨j, hj, h1⟩
    rw [h] at this; cases this
theorem sofar_now {S : List (It α)} {d i : It α} {k : Nat} (hd : hasD S d.r d.n = false) (hi : S[k]? = some i) (h : (S.take k).any (bef d) = false) (hb : bef d i = true) : (S.take (k + 1)).any (bef d) = true ∧ sofar S d (k + 1) = (sofar S d k ++ [d]) ++ [i] := by
  have e : (S.take (k + 1)).any (bef d) = true := by rw [any_snoc hi, hb]; simp
  refine ⟨e, ?_⟩
  unfold sofar
  rw [e, h, if_pos rfl, if_neg (by simp), take_snoc hi, put_snoc hb, put_end (all_bef hd h)]
theorem sofar_not {S : List (It α)} {d i : It α} {k : Nat} (hi : S[k]? = some i) (h : (S.take k).any (bef d) = false) (hb : bef d i = false) : (S.take (k + 1)).any (bef d) = false ∧ sofar S d (k + 1) = sofar S d k ++ [i] := by
  have e : (S.take (k + 1)).any (bef d) = false := by rw [any_snoc hi, hb, h]; rfl
  refine ⟨e, ?_⟩
  unfold sofar
  rw [e, h, if_neg (by simp), if_neg (by simp), take_snoc hi]
theorem sofar_end {S : List (It α)} {d : It α} (hd : hasD S d.r d.n = false) : ((S.take S.length).any (bef d) = true → sofar S d S.length = put S d) ∧ ((S.take S.length).any (bef d) = false → sofar S d S.length ++ [d] = put S d) := by
  constructor
  · intro h; unfold sofar; rw [h, if_pos rfl, List.take_length]
  · intro h; unfold sofar
    rw [h, if_neg (by simp), ← put_end (all_bef hd h), List.take_length]
theorem sofar_len (S : List (It α)) (d : It α) (k : Nat) : (sofar S d k).length ≤ S.length + 1 := by
  unfold sofar
  have h1 : (S.take k).length ≤ S.length := by rw [List.length_take]; omega
  have h2 := put_length_le (S.take k) d
  split <;> omega
end
theorem LiesD.turn {w w' : World} {g D : Nat} {m m' : Option Nat} {r n : Int} (h : LiesD w D r n) (t : Turn g m m' w w') (h1 : g ≠ D) (h2 : ∀ k, m = some k → k ≠ D) : LiesD w' D r n := by
  rw [LiesD, t.block D h.lt (fun e => h1 e.symm) (fun e => h2 D e rfl)]; exact h

set_option maxHeartbeats 2000000 in
theorem rput_any (B G : Nat) (v : Value) (S : List (It Int)) (hS : Srt S) (i : It Int) (w : World) (h : Rb w B G v S) (hl : S.length ≤ 1000000) :
    Calls Try.prog 12 #[.pointer (some ⟨G, 0, none⟩), .agg (dotc i.r i.n), .int .i64 i.x] w fun e w' => e = .returned (.tuple #[]) ∧ ∃ v', Rb w' w.heap.size G v' (put S i) ∧ Turn G none none w w' := by
  obtain ⟨W, hW⟩ : ∃ W, w.alloc (.cells (dotc i.r i.n) 34) = W := ⟨_, rfl⟩
  have hD : LiesD W w.heap.size i.r i.n := hW ▸ liesD_new w i.r i.n
  have hb : Below w.heap.size w W := hW ▸ (Below.refl _ w).alloc (Nat.le_refl _) _
  have hs : W.heap.size = w.heap.size + 1 := by rw [← hW]; simp
  have hR := h.below hb (Nat.le_refl _)
  have hGlt := h.lt
  have d0 := hD.cell0
  have d1 := hD.cell1
  clear h
  have hpd := put_del S i
  have hdel := hasD_del S i.r i.n
  have hSd := hS.del i.r i.n
  have hdl := del_len_le S i.r i.n
  go_enter Try.func12, Try.ntmps12
  go_wp2_with fail
  refine (rremove_any B G v S i.r i.n W hR (by omega)).mono ?_
  rintro e w1 ⟨rfl, v1, hR1, ht1⟩
  clear hW d0 d1 hR
  generalize del S i.r i.n = S1 at *
  have hD1 := hD.turn ht1 (by omega) (fun k e => nomatch e)
  obtain ⟨ao, cap, rfl, hcap, hmx⟩ := hR1.row.val
  obtain ⟨len, hlen⟩ : ∃ len, S1.length = len := ⟨_, rfl⟩
  have HH : Hid (Rb w1 W.heap.size G (.slice ao S1.length cap) S1) := hR1
  rw [hlen] at hR1 hcap HH
  have hc0 := hR1.c0
  go_wp2_with fail
  clear hc0
  go_loopw [17, 6, 7] (fun c q f wr => ∃ (k : Nat) (F : Bool), k ≤ len ∧ c = .int .i64 (k : Int) ∧ f = .bool F ∧ Hid ((S1.take k).any (bef i) = F) ∧ Rw 64 wr w1.heap.size q (sofar S1 i k) ∧ Below w1.heap.size w1 wr) (fun c _ _ _ => len - (intOf c).toNat)
  case atStart => exact ⟨0, false, Nat.zero_le _, rfl, rfl, rfl, rw_nil _ _ _, Below.refl _ _⟩
  case round =>
    obtain ⟨k, F, hk, rfl, rfl, hF, hrow, hbw⟩ := hrel
    obtain ⟨ao2, cap2, hq2, -, -⟩ := hrow.val
    subst hq2
    have hsl := sofar_len S1 i k
    rw [hlen] at hsl
    by_cases hkl : k < len
    · have hkl' : (k : Int) < (len : Int) := by omega
      have hc0 := hR1.c0
      obtain ⟨g, _, t, e1, -, ht, -, hglt, c0, c1, c2, -⟩ := hR1.row.at3 (k := k) (by omega)
      simp only [Value.slice.injEq] at e1
      obtain ⟨rfl, -, rfl⟩ := e1
      have K1 : Hid (∀ W', Below w1.heap.size w1 W' → W'.cell? ⟨G, 0, none⟩ = some (.slice (some ⟨g, 0, none⟩) len cap) ∧ W'.cell? ⟨w.heap.size, 0, none⟩ = some (.int .i64 i.r) ∧ W'.cell? ⟨w.heap.size, 1, none⟩ = some (.int .i64 i.n) ∧ W'.cell? ⟨g, k * 3, none⟩ = some (.int .i64 t.r) ∧ W'.cell? ⟨g, k * 3 + 1, none⟩ = some (.int .i64 t.n) ∧ W'.cell? ⟨g, k * 3 + 2, none⟩ = some (.int .i64 t.x)) := fun W' hb =>
        ⟨(hb.cell hR1.lt).trans hc0, (hb.cell hD1.lt).trans hD1.cell0, (hb.cell hD1.lt).trans hD1.cell1, (hb.cell hglt).trans c0, (hb.cell hglt).trans c1, (hb.cell hglt).trans c2⟩
      have HR0 : Hid (Rw 64 wr.drew w1.heap.size (.slice ao2 (sofar S1 i k).length cap2) (sofar S1 i k)) := hrow.keep fun _ _ => rfl
      have HB0 : Hid (Below w1.heap.size w1 wr.drew) := hbw.drew
      have HRN : Hid (∀ nq, Rw 64 (wr.drewN nq) w1.heap.size (.slice ao2 (sofar S1 i k).length cap2) (sofar S1 i k)) := fun nq => hrow.keep fun _ _ => rfl
      have HBN : Hid (∀ nq, Below w1.heap.size w1 (wr.drewN nq)) := fun nq => hbw.trans ⟨rfl, rfl, rfl, Nat.le_refl _, fun _ _ => rfl⟩
      clear hrow hbw hc0 c0 c1 c2
      cases F
      · have Bf := before_any i.r i.n t.r t.n wr.drew
        obtain ⟨q, hq⟩ : ∃ q, Hid (bef i t = q) := ⟨_, rfl⟩
        rw [show decide (i.r < t.r ∨ (i.r = t.r ∧ i.n < t.n)) = q from hq.out] at Bf
        go_wp2_with fail
        go_region_held3 (fun W' => W'.cell? ⟨G, 0, none⟩ = some (.slice (some ⟨g, 0, none⟩) len cap) ∧ W'.cell? ⟨w.heap.size, 0, none⟩ = some (.int .i64 i.r) ∧ W'.cell? ⟨w.heap.size, 1, none⟩ = some (.int .i64 i.n) ∧ W'.cell? ⟨g, k * 3, none⟩ = some (.int .i64 t.r) ∧ W'.cell? ⟨g, k * 3 + 1, none⟩ = some (.int .i64 t.n) ∧ W'.cell? ⟨g, k * 3 + 2, none⟩ = some (.int .i64 t.x))
          (first | exact K1.out _ HB0.out | exact K1.out _ (HB0.out.trans (hb5.mono HB0.out.size)) | assumption)
          (first | (go_at_call 29; refine Calls.mono Bf ?_; rintro e w5 ⟨rfl, hb5⟩))
        have HR1 : Hid (Rw 64 w5 w1.heap.size (.slice ao2 (sofar S1 i k).length cap2) (sofar S1 i k)) := HR0.out.below hb5 (Nat.le_refl _)
        have HB1 : Hid (Below w1.heap.size w1 w5) := HB0.out.trans (hb5.mono HB0.out.size)
        clear hb5 Bf HR0 HB0 HRN HBN
        cases q
        · have hfin := sofar_not ht hF.out hq.out
          have HFIN : Hid ((S1.take (k + 1)).any (bef i) = false ∧ sofar S1 i (k + 1) = sofar S1 i k ++ [t]) := hfin
          clear hfin
          obtain ⟨g0, dd0, dd1, c0, c1, c2⟩ := K1.out _ HB1.out
          have hbd := run_build1 elR w5 t
          have hats := ats_new w5 64 t
          have hsz : w1.heap.size ≤ (w5.alloc (.cells (itc t) 64)).heap.size := by rw [World.size_alloc]; have h9 := HB1.out.size; omega
          simp only [itc] at hbd hats hsz
          go_wp2_with (first | (refine wpList_app1 elR rfl _ _ rfl w1.heap.size (.slice ao2 (sofar S1 i k).length cap2) (sofar S1 i k) rfl (HR1.out.alloc _) _ 1 t rfl hats (by first | omega | (rw [List.length_append]; simp only [List.length_cons, List.length_nil]; omega)) hsz ?_; intro v7 w7 h2 h3 h4))
          go_roundw
          case rel => exact ⟨k + 1, false, by omega, by go_num, rfl, HFIN.out.1, by rw [HFIN.out.2]; exact h2, (HB1.out.alloc HB1.out.size _).grown h3 hsz (fun q e => (HR1.out.lt q e).1)⟩
          case measure => simp [intOf]; omega
        · have hfin := sofar_now hdel ht hF.out hq.out
          have HFIN : Hid ((S1.take (k + 1)).any (bef i) = true ∧ sofar S1 i (k + 1) = (sofar S1 i k ++ [i]) ++ [t]) := hfin
          clear hfin
          obtain ⟨g0, dd0, dd1, c0, c1, c2⟩ := K1.out _ HB1.out
          have hbd := run_build1 elR w5 i
          have hats := ats_new w5 64 i
          have hsz : w1.heap.size ≤ (w5.alloc (.cells (itc i) 64)).heap.size := by rw [World.size_alloc]; have h9 := HB1.out.size; omega
          simp only [itc] at hbd hats hsz
          go_upto_region 9 with (first | (refine wpList_app1 elR rfl _ _ rfl w1.heap.size (.slice ao2 (sofar S1 i k).length cap2) (sofar S1 i k) rfl (HR1.out.alloc _) _ 1 i rfl hats (by first | omega | (rw [List.length_append]; simp only [List.length_cons, List.length_nil]; omega)) hsz ?_; intro v6 w6 h2 h3 h4))
          have HB2 : Hid (Below w1.heap.size w1 w6) := (HB1.out.alloc HB1.out.size _).grown h3 hsz (fun q e => (HR1.out.lt q e).1)
          obtain ⟨ao6, cap6, hv6, -, -⟩ := h2.val
          subst hv6
          have HR2 : Hid (Rw 64 w6 w1.heap.size (.slice ao6 (sofar S1 i k ++ [i]).length cap6) (sofar S1 i k ++ [i])) := h2
          clear h2 h3 h4 hbd hats hsz HR1 HB1 g0 dd0 dd1 c0 c1 c2
          obtain ⟨g0, dd0, dd1, c0, c1, c2⟩ := K1.out _ HB2.out
          have hbd := run_build1 elR w6 t
          have hats := ats_new w6 64 t
          have hsz : w1.heap.size ≤ (w6.alloc (.cells (itc t) 64)).heap.size := by rw [World.size_alloc]; have h9 := HB2.out.size; omega
          simp only [itc] at hbd hats hsz
          go_wp2_with (first | (refine wpList_app1 elR rfl _ _ rfl w1.heap.size (.slice ao6 (sofar S1 i k ++ [i]).length cap6) (sofar S1 i k ++ [i]) rfl (HR2.out.alloc _) _ 1 t rfl hats (by first | omega | (rw [List.length_append]; simp only [List.length_cons, List.length_nil]; omega)) hsz ?_; intro v7 w7 h2 h3 h4))
          go_roundw
          case rel => exact ⟨k + 1, true, by omega, by go_num, rfl, HFIN.out.1, by rw [HFIN.out.2]; exact h2, (HB2.out.alloc HB2.out.size _).grown h3 hsz (fun q e => (HR2.out.lt q e).1)⟩
          case measure => simp [intOf]; omega
      · have hfin := sofar_done hSd ht hF.out
        have HFIN : Hid ((S1.take (k + 1)).any (bef i) = true ∧ sofar S1 i (k + 1) = sofar S1 i k ++ [t]) := hfin
        clear hfin
        go_wp2_with fail
        go_quiet (fail)
        have HR1 : Hid (Rw 64 (wr.drewN nq) w1.heap.size (.slice ao2 (sofar S1 i k).length cap2) (sofar S1 i k)) := HRN.out nq
        have HB1 : Hid (Below w1.heap.size w1 (wr.drewN nq)) := HBN.out nq
        clear HR0 HB0 HRN HBN
        generalize wr.drewN nq = w5 at *
        obtain ⟨g0, dd0, dd1, c0, c1, c2⟩ := K1.out _ HB1.out
        have hbd := run_build1 elR w5 t
        have hats := ats_new w5 64 t
        have hsz : w1.heap.size ≤ (w5.alloc (.cells (itc t) 64)).heap.size := by rw [World.size_alloc]; have h9 := HB1.out.size; omega
        simp only [itc] at hbd hats hsz
        go_wp2_with (first | (refine wpList_app1 elR rfl _ _ rfl w1.heap.size (.slice ao2 (sofar S1 i k).length cap2) (sofar S1 i k) rfl (HR1.out.alloc _) _ 1 t rfl hats (by first | omega | (rw [List.length_append]; simp only [List.length_cons, List.length_nil]; omega)) hsz ?_; intro v7 w7 h2 h3 h4))
        go_roundw
        case rel => exact ⟨k + 1, true, by omega, by go_num, rfl, HFIN.out.1, by rw [HFIN.out.2]; exact h2, (HB1.out.alloc HB1.out.size _).grown h3 hsz (fun q e => (HR1.out.lt q e).1)⟩
        case measure => simp [intOf]; omega
    · have hkl' : ¬ (k : Int) < (len : Int) := by omega
      obtain rfl : k = len := by omega
      have hse := sofar_end hdel
      rw [hlen, hpd] at hse
      have hfin : ∀ (W' : World) (v' : Value) (S' : List (It Int)), Below w1.heap.size w1 W' → Rw 64 W' w1.heap.size v' S' → S' = put S i → Rb (W'.setCell ⟨G, 0, none⟩ v') w.heap.size G v' (put S i) ∧ Turn G none none w (W'.setCell ⟨G, 0, none⟩ v') := fun W' v' S' hb' hr' e => by
        subst e
        obtain ⟨h1, h2⟩ := HH.out.lay hb' hr'
        exact ⟨⟨h1.blk, h1.row.lower (by have := ht1.size; omega)⟩, ((Turn.of_below none hb).trans ht1).trans h2⟩
      have HFIN : Hid (∀ (W' : World) (v' : Value) (S' : List (It Int)), Below w1.heap.size w1 W' → Rw 64 W' w1.heap.size v' S' → S' = put S i → Rb (W'.setCell ⟨G, 0, none⟩ v') w.heap.size G v' (put S i) ∧ Turn G none none w (W'.setCell ⟨G, 0, none⟩ v')) := hfin
      clear hfin
      have hRr := hR1.below hbw (Nat.le_refl _)
      have hc0 := hRr.c0
      have hf0 := hRr.f0 0
      cases F
      · have HE : Hid (sofar S1 i k ++ [i] = put S i) := hse.2 hF.out
        have HR1 : Hid (Rw 64 wr w1.heap.size (.slice ao2 (sofar S1 i k).length cap2) (sofar S1 i k)) := hrow
        have HB1 : Hid (Below w1.heap.size w1 wr) := hbw
        have dd0 := (hD1.below hbw hD1.lt).cell0
        have dd1 := (hD1.below hbw hD1.lt).cell1
        have hbd := run_build1 elR wr i
        have hats := ats_new wr 64 i
        have hsz : w1.heap.size ≤ (wr.alloc (.cells (itc i) 64)).heap.size := by rw [World.size_alloc]; have h9 := HB1.out.size; omega
        simp only [itc] at hbd hats hsz
        have HHr : Hid (∀ W', Below w1.heap.size w1 W' → W'.cell? ⟨G, 0, none⟩ = some (.slice ao k cap) ∧ W'.frozen? ⟨G, 0, none⟩ = false) := fun W' hb => ⟨(hR1.below hb (Nat.le_refl _)).c0, (hR1.below hb (Nat.le_refl _)).f0 0⟩
        clear hrow hbw hRr hse
        go_upto_region 14 with (first | (refine wpList_app1 elR rfl _ _ rfl w1.heap.size (.slice ao2 (sofar S1 i k).length cap2) (sofar S1 i k) rfl (HR1.out.alloc _) _ 1 i rfl hats (by omega) hsz ?_; intro v6 w6 h2 h3 h4))
        have HB2 : Hid (Below w1.heap.size w1 w6) := (HB1.out.alloc HB1.out.size _).grown h3 hsz (fun q e => (HR1.out.lt q e).1)
        have HF := HFIN.out _ _ _ HB2.out h2 HE.out
        obtain ⟨ao6, cap6, hv6, -, -⟩ := h2.val
        subst hv6
        obtain ⟨g0, f0⟩ := HHr.out _ HB2.out
        clear h2 h3 h4 hbd hats hsz hc0 hf0 dd0 dd1
        generalize (sofar S1 i k ++ [i]).length = ln at *
        go_wp2
        go_end0
        first | exact ⟨rfl, ⟨_, HF.1⟩, HF.2⟩ | exact ⟨rfl, _, HF.1, HF.2⟩
      · have HF := HFIN.out _ _ _ hbw hrow (hse.1 hF.out)
        clear hrow hbw hRr hse
        go_wp2
        go_end0
        first | exact ⟨rfl, ⟨_, HF.1⟩, HF.2⟩ | exact ⟨rfl, _, HF.1, HF.2⟩
end Go.Proofs.Yteihijejohgfpaa
