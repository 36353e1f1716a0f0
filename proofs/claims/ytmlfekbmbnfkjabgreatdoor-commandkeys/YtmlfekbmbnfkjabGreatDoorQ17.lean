/-
  What Drop comes to (28 cells an item).
-/
import Derived.Test.YtmlfekbmbnfkjabGreatDoorQ16
import Derived.Test.YtmlfekbmbnfkjabGreatDoorQ03
import Derived.Defers
import Derived.Recover
import Derived.Test.YtmlfekbmbnfkjabGreatDoorQ13
import Derived.Maps.RangeRun
import Derived.OwnWalk
namespace Go.Proofs.YtmlfekbmbnfkjabGreatDoor.E
set_option maxRecDepth 100000
open Go.RowKit
open Go.ChangeMaps (setBlock)

/-- What isTrue tells of each thing that a vector has, one behind the other, and what it leaves. -/
structure WhJ (q : It (Cx 26) → Bool) (v : List Int) (wv : Value) (S : List (It (Cx 26))) (base : Nat) (K : Nat → World → Prop) : Prop where
  asks : ∀ (j : Nat) (i : It (Cx 26)) (W : World), S[j]? = some i → K j W → hasv v i.r i.n = true → Calls Tryz.prog 99 #[wv, .agg i.x.l.toArray] W fun e w' => e = .returned (.bool (q i)) ∧ K (j + 1) w' ∧ Kpc 86 W w'
  skips : ∀ (j : Nat) (i : It (Cx 26)) (W : World), S[j]? = some i → K j W → hasv v i.r i.n = false → K (j + 1) W
  stays : ∀ (j : Nat) (W W' : World) (row : Option Nat), K j W → W.grownBy W' row → (∀ g, row = some g → base ≤ g ∧ ∃ cur, W.heap[g]? = some (.cells cur 112 (0, 0))) → K j W'
theorem WhJ.below {q : It (Cx 26) → Bool} {v : List Int} {wv : Value} {S : List (It (Cx 26))} {base : Nat} {K : Nat → World → Prop} (h : WhJ q v wv S base K) {j : Nat} {W W' : World} (hK : K j W) (hb : Below W.heap.size W W') : K j W' :=
  h.stays j W W' none hK (grown_of_below hb) (fun g e => by cases e)
/-- What goes. -/
def gone (v : List Int) (q : It (Cx 26) → Bool) (i : It (Cx 26)) : Bool := hasv v i.r i.n && q i
/-- What Drop's function reads. -/
structure Jd (v : List Int) (wv : Value) (Bv Bw : Nat) (K : Nat → World → Prop) (j : Nat) (W : World) : Prop where
  k : K j W
  vec : Lies W Bv v
  fn : W.heap[Bw]? = some (.cells #[wv] 59 (0, 0))
theorem tvv_ne : (41 : Nat) ≠ 86 ∧ (59 : Nat) ≠ 86 ∧ (112 : Nat) ≠ 86 ∧ (41 : Nat) ≠ 112 ∧ (59 : Nat) ≠ 112 := by decide

set_option maxHeartbeats 1000000 in
theorem dropf_any (v : List Int) (hv : v.length = 16) (q : It (Cx 26) → Bool) (wv : Value) (S : List (It (Cx 26))) (base : Nat) (K : Nat → World → Prop) (hq : WhJ q v wv S base K) (j : Nat) (i : It (Cx 26)) (hi : S[j]? = some i) (Bv Bw : Nat) (w : World) (hJ : Jd v wv Bv Bw K j w) :
    Calls Tryz.prog 98 #[.agg (xc i), .pointer (some ⟨Bv, 0, none⟩), .pointer (some ⟨Bw, 0, none⟩)] w fun e w' => e = .returned (.bool (!gone v q i)) ∧ Jd v wv Bv Bw K (j + 1) w' ∧ Kpt w w' := by
  obtain ⟨W, hWw⟩ : ∃ W, w.alloc (.cells (xc i) 112) = W := ⟨_, rfl⟩
  have hb : Below w.heap.size w W := hWw ▸ (Below.refl _ w).alloc (Nat.le_refl _) _
  have hx : W.heap[w.heap.size]? = some (.cells (xc i) 112 (0, 0)) := by rw [← hWw]; exact heap_alloc_new w _
  have hlW : w.heap.size < W.heap.size := (Array.getElem?_eq_some_iff.1 hx).1
  have hV1 := hJ.vec.below hb hJ.vec.lt
  have hK1 := hq.below hJ.k hb
  have hF1 := (hb.block Bw (Array.getElem?_eq_some_iff.1 hJ.fn).1).trans hJ.fn
  have hH := has_any v i.r i.n hv W
  have hdd : (loadVar 32 ⟨w.heap.size, 0, none⟩).run Tryz.prog W = .ok (.agg (dotc i.r i.n)) W := by
    have hr : W.rangeAt w.heap.size 0 (dotc i.r i.n).toList := fun j u hu => by
      rw [Nat.zero_add, cell_of_row W _ j _ _ _ hx]
      rcases j with _ | _ | j
      · simpa [dotc, xc, xl] using hu
      · simpa [dotc, xc, xl] using hu
      · simp [dotc] at hu
    exact run_loadVar_mid (P := Tryz.prog) W w.heap.size 0 32 _ _ hr Tryz.underlying32 rfl (by kernel_rfl)
  have hld : ∀ W', W'.heap[w.heap.size]? = some (.cells (xc i) 112 (0, 0)) → (loadVar 47 ⟨w.heap.size, 2, none⟩).run Tryz.prog W' = .ok (.agg i.x.l.toArray) W' := fun W' h => by
    have hr : W'.rangeAt w.heap.size 2 i.x.l := fun j u hu => by
      rw [cell_of_row W' _ (2 + j) _ _ _ h]
      simp only [xc, xl, List.getElem?_toArray]
      rw [show 2 + j = j + 1 + 1 by omega, List.getElem?_cons_succ, List.getElem?_cons_succ]
      exact hu
    have hs := size_x i.x
    rw [List.size_toArray] at hs
    exact run_loadVar_mid (P := Tryz.prog) W' w.heap.size 2 47 _ _ hr Tryz.underlying47 rfl hs
  rcases Bool.eq_false_or_eq_true (hasv v i.r i.n) with hh | hh
  · have hA := fun W (hK : K j W) => hq.asks j i W hi hK hh
    have hg : gone v q i = q i := by unfold gone; rw [hh, Bool.true_and]
    rw [hg]
    rw [hh] at hH
    have HV : Hid (Lies W Bv v) := hV1
    have HQ : Hid _ := hq
    have HB : Hid _ := hb
    clear hJ hq hg hb
    go_enter Tryz.func98, Tryz.ntmps98
    go_wp2_with (first
      | (refine load_vec rfl rfl rfl hV1 hv ?_)
      | (refine wpList_loadR (ty := 32) (x := .tmp 6) (ad := ⟨w.heap.size, 0, none⟩) (v := .agg (dotc i.r i.n)) rfl rfl rfl hdd ?_))
    refine Calls.mono hH ?_
    rintro e w2 ⟨rfl, hb2⟩
    have hx2 := (hb2.block _ hlW).trans hx
    have hl2 := hld w2 hx2
    have hK2 := HQ.out.below hK1 hb2
    have hF2 := (hb2.block Bw (Array.getElem?_eq_some_iff.1 hF1).1).trans hF1
    have hcw : w2.cell? ⟨Bw, 0, none⟩ = some wv := cell_of_row w2 _ 0 _ _ _ hF2
    have hV2 := HV.out.below hb2 HV.out.lt
    have hQ := hA w2 hK2
    have hkp : Kpc 86 w w2 := (Kpc.of_below HB.out).trans (Kpc.of_below hb2)
    clear hH hb2 hWw hdd hld hx2 hK1 hF1 hA
    go_wp2_with (first
      | (refine wpList_loadW (ty := 47) (x := .tmp 12) (ad := ⟨w.heap.size, 2, none⟩) (v := .agg i.x.l.toArray) rfl rfl rfl hl2 ?_))
    refine Calls.mono hQ ?_
    rintro e w3 ⟨rfl, hK3, hk3⟩
    have FIN : Hid (Jd v wv Bv Bw K (j + 1) w3 ∧ Kpt w w3) := ⟨⟨hK3, (hk3.2 Bv _ _ tvv_ne.1 hV2).trans hV2, (hk3.2 Bw _ _ tvv_ne.2.1 hF2).trans hF2⟩, (hkp.trans hk3).1, fun k cur hc => (hkp.trans hk3).2 k cur _ tvv_ne.2.2.1 hc⟩
    clear hV2 hF2 hkp hk3 hK3
    go_wp2
    go_ret
    exact ⟨rfl, FIN.out⟩
  · have hg : gone v q i = false := by unfold gone; rw [hh, Bool.false_and]
    rw [hg]
    have hK2 := fun W (hK : K j W) => hq.skips j i W hi hK hh
    rw [hh] at hH
    have HV : Hid (Lies W Bv v) := hV1
    have HQ : Hid _ := hq
    have HB : Hid _ := hb
    clear hJ hq hg hb
    go_enter Tryz.func98, Tryz.ntmps98
    go_wp2_with (first
      | (refine load_vec rfl rfl rfl hV1 hv ?_)
      | (refine wpList_loadR (ty := 32) (x := .tmp 6) (ad := ⟨w.heap.size, 0, none⟩) (v := .agg (dotc i.r i.n)) rfl rfl rfl hdd ?_))
    refine Calls.mono hH ?_
    rintro e w2 ⟨rfl, hb2⟩
    have hF2 := (hb2.block Bw (Array.getElem?_eq_some_iff.1 hF1).1).trans hF1
    have hV2 := HV.out.below hb2 HV.out.lt
    have hK3 := hK2 w2 (HQ.out.below hK1 hb2)
    have hkp : Kpc 86 w w2 := (Kpc.of_below HB.out).trans (Kpc.of_below hb2)
    have FIN : Hid (Jd v wv Bv Bw K (j + 1) w2 ∧ Kpt w w2) := ⟨⟨hK3, hV2, hF2⟩, hkp.1, fun k cur hc => hkp.2 k cur _ tvv_ne.2.2.1 hc⟩
    clear hV2 hF2 hkp hK3 hH hb2 hWw hdd hld hK1 hF1
    go_wp2
    go_ret
    exact ⟨rfl, FIN.out⟩
/-- Taken away one behind the other. -/
def dels (S G : List (It (Cx 26))) : List (It (Cx 26)) := G.foldl (fun T i => del T i.r i.n) S
theorem dels_snoc (S G : List (It (Cx 26))) (i : It (Cx 26)) : dels S (G ++ [i]) = del (dels S G) i.r i.n := by simp [dels]
theorem dels_eq (S : List (It (Cx 26))) : ∀ G : List (It (Cx 26)), dels S G = S.filter (fun i => !G.any (fun j => isAt j.r j.n i)) := by
  intro G
  unfold dels
  induction G generalizing S with
  | nil => exact (List.filter_eq_self.2 (by simp)).symm
  | cons a G ih =>
    rw [List.foldl_cons, ih]
    unfold del
    rw [List.filter_filter]
    refine List.filter_congr fun i _ => ?_
    simp [Bool.and_comm]
theorem dels_gone (S : List (It (Cx 26))) (hS : Srt S) (P : It (Cx 26) → Bool) : dels S (S.filter P) = S.filter (fun i => !P i) := by
  rw [dels_eq]
  refine List.filter_congr fun i hi => ?_
  congr 1
  cases hp : P i
  · cases ha : (S.filter P).any (fun j => isAt j.r j.n i)
    · rfl
    · obtain ⟨j, hj, hji⟩ := List.any_eq_true.1 ha
      obtain ⟨hj1, hj2⟩ := List.mem_filter.1 hj
      rw [isAt_iff] at hji
      have e1 := find_some hS hi
      have e2 := find_some hS hj1
      rw [← hji.1, ← hji.2, e1] at e2
      cases e2
      rw [hp] at hj2; cases hj2
  · exact List.any_eq_true.2 ⟨i, List.mem_filter.2 ⟨hi, hp⟩, isAt_iff.2 ⟨rfl, rfl⟩⟩
theorem filter_nn (S : List (It (Cx 26))) (P : It (Cx 26) → Bool) : (S.filter fun i => !(!P i)) = S.filter P := by simp
theorem Bg.delete {w : World} {g o : Nat} {cs : Array Value} {ty : TypeId} {m : Option Nat} {S : List (It (Cx 26))} (h : Bg w g o cs ty m S) (r n : Int) (t0 : TypeId) (W : World) (hW : W.heap = w.heap) (h1 : W.os = w.os) (h2 : W.tape = w.tape) (h3 : W.output = w.output) :
    ∃ w', (Builtin.delete_ #[79, 32] t0 #[.map m, .agg (dotc r n)]).run Tryz.prog W = .ok (.tuple #[]) w' ∧ Bg w' g o cs ty m (del S r n) ∧ Tn g m m w w' := by
  rcases h.map with ⟨rfl, rfl⟩ | ⟨b, rfl, hm⟩
  · exact ⟨W, delete_nil W r n t0, ⟨by rw [hW]; exact h.blk, h.at', .inl ⟨rfl, rfl⟩⟩, h1, h2, h3, by rw [hW]; exact Nat.le_refl _, fun k _ _ _ => by rw [hW], fun _ e => .inl e⟩
  · obtain ⟨ob, ho⟩ := hm.delete r n t0
    have := ho W (by rw [hW])
    exact ⟨_, this.1, h.blocked hW this.2, tn_blocked g b w W ob hW h1 h2 h3⟩
theorem load_dit {w : World} {g : Nat} {i : It (Cx 26)} (h : w.heap[g]? = some (.cells (xc i) 112 (0, 0))) : (loadVar 32 ⟨g, 0, none⟩).run Tryz.prog w = .ok (.agg (dotc i.r i.n)) w := by
  have hr : w.rangeAt g 0 (dotc i.r i.n).toList := fun j u hu => by
    rw [Nat.zero_add, cell_of_row w _ j _ _ _ h]
    rcases j with _ | _ | j
    · simpa [dotc, xc, xl] using hu
    · simpa [dotc, xc, xl] using hu
    · simp [dotc] at hu
  exact run_loadVar_mid (P := Tryz.prog) w g 0 32 _ _ hr Tryz.underlying32 rfl (by kernel_rfl)
theorem field_it0 (w : World) (g : Nat) : (Instr.fieldAt 112 (.pointer (some ⟨g, 0, none⟩)) 0).run Tryz.prog w = .ok (.pointer (some ⟨g, 0, none⟩)) w := by kernel_rfl
set_option maxHeartbeats 2000000 in
theorem drop_any (g o : Nat) (m : Option Nat) (S : List (It (Cx 26))) (cs : Array Value) (ty : TypeId) (v : List Int) (hv : v.length = 16) (q : It (Cx 26) → Bool) (fn : Nat) (caps : Array Value) (w : World) (K : Nat → World → Prop) (hq : WhJ q v (.func (.func fn) #[] caps) S w.heap.size K)
    (hty0 : ty ≠ 112) (h : Bg w g o cs ty m S) (hl : S.length ≤ 1048576) (h0 : K 0 w) (hKB : ∀ W, K S.length W → ∃ cs', Bg W g o cs' ty m S) :
    Calls Tryz.prog 54 #[.pointer (some ⟨g, o, none⟩), .agg (vals v), .func (.func fn) #[] caps] w fun e w' => e = .returned (.int .i64 ((S.filter (gone v q)).length : Int)) ∧ ∃ w2 cs', K S.length w2 ∧ Bg w2 g o cs' ty m S ∧ Bg w' g o cs' ty m (S.filter fun i => !gone v q i) ∧ Tn g m m w2 w' := by
  have hmf : ∀ (fn : Fn) (first cap : Array Value) (w : World), (Instr.makeFunc fn first cap).run Tryz.prog w = .ok (.func fn first cap) w := fun _ _ _ _ => rfl
  generalize hwv : Value.func (.func fn) #[] caps = wv at *
  have hb0 : Below w.heap.size w ((w.alloc (.cells (vals v) 41)).alloc (.cells #[wv] 59)) := ((Below.refl _ w).alloc (Nat.le_refl _) _).alloc (by simp) _
  have hV0 : Lies ((w.alloc (.cells (vals v) 41)).alloc (.cells #[wv] 59)) w.heap.size v := (lies_new w v).alloc _
  have hF0 : ((w.alloc (.cells (vals v) 41)).alloc (.cells #[wv] 59)).heap[w.heap.size + 1]? = some (.cells #[wv] 59 (0, 0)) := by
    have h1 := heap_alloc_new (w.alloc (.cells (vals v) 41)) (.cells #[wv] 59)
    rwa [World.size_alloc] at h1
  have hz := orz_some g o ((w.alloc (.cells (vals v) 41)).alloc (.cells #[wv] 59))
  have hB0 := h.below hb0 (Nat.le_refl _)
  have hK0 := hq.below h0 hb0
  have hIt := items_any g o cs ty m S ((w.alloc (.cells (vals v) 41)).alloc (.cells #[wv] 59)) hB0 hl
  generalize hW0 : (w.alloc (.cells (vals v) 41)).alloc (.cells #[wv] 59) = W0 at *
  have hPJ : PredJ (fun i => !gone v q i) w.heap.size (w.heap.size + 1) S W0.heap.size (Jd v wv w.heap.size (w.heap.size + 1) K) := by
    refine ⟨fun j i W hi hJ => dropf_any v hv q wv S _ K hq j i hi _ _ W hJ, fun j W W' row hJ hg hr => ⟨hq.stays j W W' row hJ.k hg (fun g e => ⟨Nat.le_trans hb0.size (hr g e).1, (hr g e).2⟩), ?_, ?_⟩⟩
    · rw [Lies, hg.block _ hJ.vec.lt (fun e => ?_)]; exact hJ.vec
      obtain ⟨-, cur, hc⟩ := hr _ e.symm
      have := hJ.vec
      rw [Lies, hc] at this
      simp only [Option.some.injEq, Obj.cells.injEq] at this
      exact tvv_ne.2.2.2.1 this.2.1.symm
    · rw [hg.block _ (Array.getElem?_eq_some_iff.1 hJ.fn).1 (fun e => ?_)]; exact hJ.fn
      obtain ⟨-, cur, hc⟩ := hr _ e.symm
      have := hJ.fn
      rw [hc] at this
      simp only [Option.some.injEq, Obj.cells.injEq] at this
      exact tvv_ne.2.2.2.2 this.2.1.symm
  have HD : Hid _ := dels_gone S h.srt (gone v q)
  have HN : Hid _ := filter_nn S (gone v q)
  have hGl : (S.filter (gone v q)).length ≤ 1048576 := Nat.le_trans (List.length_filter_le _ _) hl
  generalize S.filter (gone v q) = G at *
  generalize gone v q = P at *
  have HP : Hid _ := hPJ
  have HQ : Hid _ := hq
  have HKB : Hid (∀ W, K S.length W → ∃ cs', Bg W g o cs' ty m S) := hKB
  have HI : Hid (Jd v wv w.heap.size (w.heap.size + 1) K 0 W0) := ⟨hK0, hV0, hF0⟩
  have hF0l : w.heap.size + 1 < W0.heap.size := (Array.getElem?_eq_some_iff.1 hF0).1
  clear hPJ hq hKB hB0 hK0 hV0 hF0 h h0
  subst hwv
  go_enter Tryz.func54, Tryz.ntmps54
  go_wp2_with fail
  refine Calls.mono hz ?_
  rintro e W' ⟨rfl, hW'⟩
  obtain rfl := hW'.symm
  go_wp2_with fail
  refine Calls.mono hIt ?_
  rintro e w1 ⟨vr, rfl, hr1, hb1⟩
  have hJ1 : Jd v (.func (.func fn) #[] caps) w.heap.size (w.heap.size + 1) K 0 w1 := ⟨HQ.out.below HI.out.k hb1, HI.out.vec.below hb1 HI.out.vec.lt, (hb1.block _ hF0l).trans HI.out.fn⟩
  have hDF := deletefunc_any _ _ _ _ _ _ HP.out vr w1 hr1 hJ1
  rw [HN.out] at hDF
  obtain ⟨ao, cap, hvr, -, -⟩ := hr1.val
  subst hvr
  go_wp2_with fail
  refine Calls.mono hDF ?_
  rintro e w2 ⟨vg, rfl, hr2, hJ2⟩
  obtain ⟨cs', hB2⟩ := HKB.out w2 hJ2.k
  have HK2 : Hid (K S.length w2) := hJ2.k
  have HB2 : Hid (Bg w2 g o cs' ty m S) := hB2
  have hml := fun k hk => (hB2.own k hk)
  have hgl := hB2.lt
  have hneg : ∀ d, vg.ownBlock = some d → d ≠ g ∨ True := fun _ _ => .inr trivial
  clear hDF hIt hr1 hb1 hJ1 HN HP HQ HKB HI hz hJ2 hneg
  obtain ⟨ao', cap', hvg, -, -⟩ := hr2.val
  obtain ⟨n, hn⟩ : ∃ n, G.length = n := ⟨_, rfl⟩
  rw [hn] at hGl hvg
  subst hvg
  have hty : ∀ d, (Value.slice ao' n cap').ownBlock = some d → d ≠ g ∧ m ≠ some d := fun d hd => by
    obtain ⟨cur, hc⟩ := hr2.cellsAt d hd
    refine ⟨?_, ?_⟩
    · rintro rfl
      rw [hB2.blk] at hc
      simp only [Option.some.injEq, Obj.cells.injEq] at hc
      exact hty0 hc.2.1
    · rintro rfl
      obtain ⟨b, e, hm⟩ := hB2.map.resolve_left (by simp)
      obtain rfl := Option.some.inj e
      obtain ⟨es, c, hb⟩ := hm.blk
      rw [hb] at hc; cases hc
  have HTY : Hid _ := hty
  clear hty
  go_wp2_with fail
  go_loopw [18] (fun c wr => ∃ k : Nat, k ≤ n ∧ c = .int .i64 (k : Int) ∧ Bg wr g o cs' ty m (dels S (G.take k)) ∧ Rw 112 wr W0.heap.size (.slice ao' n cap') G ∧ Tn g m m w2 wr) (fun c _ => n - (intOf c).toNat)
  case atStart => exact ⟨0, Nat.zero_le _, rfl, hB2, hr2, Tn.refl _ _ _⟩
  case round =>
    clear hB2 hr2
    obtain ⟨k, hk, rfl, hB, hr, ht⟩ := hrel
    by_cases hlt : k < n
    · have hlt' : (k : Int) < (n : Int) := by omega
      obtain ⟨gr, capr, i, hv', -, hi, hgb, hgrl, hrg, -⟩ := hr.atx (k := k) (by omega)
      simp only [Value.slice.injEq] at hv'
      obtain ⟨rfl, -, rfl⟩ := hv'
      have hld := ld_mid hrg
      have hst := st_new wr i
      have hb1 : Below wr.heap.size wr (wr.alloc (.cells (xc i) 112)) := (Below.refl _ wr).alloc (Nat.le_refl _) _
      have hx := heap_alloc_new wr (.cells (xc i) 112)
      generalize wr.alloc (.cells (xc i) 112) = W1 at *
      have hB1 := hB.below hb1 (Nat.le_refl _)
      obtain ⟨w3, hd, hB3, ht3⟩ := hB1.delete i.r i.n 0 W1.drew rfl rfl rfl rfl
      have hne := HTY.out gr rfl
      have hr3 : Rw 112 w3 W0.heap.size (.slice (some ⟨gr, 0, none⟩) n cap') G := (hr.below hb1 (Nat.le_refl _)).keep (w' := w3) (fun j hj => by
        simp only [Value.ownBlock, Option.some.injEq] at hj
        subst hj
        exact ht3.block _ (Nat.lt_of_lt_of_le hgrl hb1.size) hne.1 hne.2)
      have hHs : W1.drew.cell? ⟨g, o, none⟩ = some (.map m) ∧ W1.drew.heap[wr.heap.size]? = some (.cells (xc i) 112 (0, 0)) := ⟨hB1.c0, hx⟩
      have HS3 : Hid (w3.cell? ⟨g, o, none⟩ = some (.map m) ∧ w3.heap[wr.heap.size]? = some (.cells (xc i) 112 (0, 0))) := ⟨hB3.c0, (ht3.block _ (Array.getElem?_eq_some_iff.1 hx).1 (by have := ht.size; have := HB2.out.lt; omega) (fun e => by have := (hml _ e).1; have := ht.size; omega)).trans hx⟩
      have ht4 := (ht.trans (Tn.of_below m hb1)).trans ht3
      have HB3 : Hid (Bg w3 g o cs' ty m (dels S (G.take (k + 1)))) := by
        rw [List.take_add_one, hi, Option.toList_some, dels_snoc]; exact hB3
      have HR3 : Hid (Rw 112 w3 W0.heap.size (.slice (some ⟨gr, 0, none⟩) n cap') G) := hr3
      have HT4 : Hid _ := ht4
      clear hr hB hB1 hB3 hr3 ht4 ht3 ht hx hb1 hrg
      go_wp2_with (first
        | (refine wpList_loadR (ty := 112) (x := .tmp 20) (ad := ⟨gr, k * 28, none⟩) (v := .agg (xc i)) rfl rfl rfl hld ?_)
        | (refine wpList_storeR (ty := 112) (x := .tmp 9) (y := .tmp 21) (ad := ⟨wr.heap.size, 0, none⟩) (v := .agg (xc i)) (w' := W1) rfl rfl rfl rfl hst ?_))
      clear hld hst
      refine wp_region_noPanic ?_
      refine wp_region_held_drew (S := fun W' : World => W'.cell? ⟨g, o, none⟩ = some (.map m) ∧ W'.heap[wr.heap.size]? = some (.cells (xc i) 112 (0, 0))) (by kernel_rfl) hHs (fun hHeld => ?_)
      refine wpAnyH_take (i := 0) (oi := { dst := some 22, op := _, type := _, pos := _, after := _, guard := _ }) (v := .pointer (some ⟨g, o, none⟩)) rfl (by kernel_rfl) (by kernel_rfl) (by kernel_rfl) (fun _ _ _ h => h) (Or.inl ⟨by rfl, ?_⟩) (by assumption) ?_
      · intro w9 hSw
        exact y_move rfl rfl
      simp only [Act.put, List.setIfInBounds_toArray, List.set_cons_zero, List.set_cons_succ]
      refine wpAnyH_take (i := 1) (oi := { dst := some 23, op := _, type := _, pos := _, after := _, guard := _ }) (v := .pointer (some ⟨g, o, none⟩)) rfl (by kernel_rfl) (by kernel_rfl) (by kernel_rfl) (fun _ _ _ h => h) (Or.inl ⟨by rfl, ?_⟩) (by assumption) ?_
      · intro w9 hSw
        exact y_nil rfl rfl
      simp only [Act.put, List.setIfInBounds_toArray, List.set_cons_zero, List.set_cons_succ]
      refine wpAnyH_take (i := 2) (oi := { dst := some 24, op := _, type := _, pos := _, after := _, guard := _ }) (v := .pointer (some ⟨g, o, none⟩)) rfl (by kernel_rfl) (by kernel_rfl) (by kernel_rfl) (fun _ _ _ h => h) (Or.inl ⟨by rfl, ?_⟩) (by assumption) ?_
      · intro w9 hSw
        exact y_field rfl rfl (field_b _ _ _)
      simp only [Act.put, List.setIfInBounds_toArray, List.set_cons_zero, List.set_cons_succ]
      refine wpAnyH_take (i := 3) (oi := { dst := some 25, op := _, type := _, pos := _, after := _, guard := _ }) (v := .map m) rfl (by kernel_rfl) (by kernel_rfl) (by kernel_rfl) (fun _ _ _ h => h) (Or.inl ⟨by rfl, ?_⟩) (by assumption) ?_
      · intro w9 hSw
        exact y_load rfl rfl (load_m hSw.1)
      simp only [Act.put, List.setIfInBounds_toArray, List.set_cons_zero, List.set_cons_succ]
      refine wpAnyH_take (i := 4) (oi := { dst := some 26, op := _, type := _, pos := _, after := _, guard := _ }) (v := .pointer (some ⟨wr.heap.size, 0, none⟩)) rfl (by kernel_rfl) (by kernel_rfl) (by kernel_rfl) (fun _ _ _ h => h) (Or.inl ⟨by rfl, ?_⟩) (by assumption) ?_
      · intro w9 hSw
        exact y_field rfl rfl (field_it0 _ _)
      simp only [Act.put, List.setIfInBounds_toArray, List.set_cons_zero, List.set_cons_succ]
      refine wpAnyH_take (i := 5) (oi := { dst := some 27, op := _, type := _, pos := _, after := _, guard := _ }) (v := .agg (dotc i.r i.n)) rfl (by kernel_rfl) (by kernel_rfl) (by kernel_rfl) (fun _ _ _ h => h) (Or.inl ⟨by rfl, ?_⟩) (by assumption) ?_
      · intro w9 hSw
        exact y_load rfl rfl (load_dit hSw.2)
      simp only [Act.put, List.setIfInBounds_toArray, List.set_cons_zero, List.set_cons_succ]
      refine wpAnyH_ready (rs := [6]) (by kernel_rfl) (by simp) ?_
      refine AllReadyH.cons (o := { dst := none, op := _, type := _, pos := _, after := _, guard := _ }) rfl (fun K hK => ?_) AllReadyH.nil
      rw [if_pos (by rfl)]
      refine y_del (t1 := 79) (t2 := 32) (x := .tmp 25) (y := .tmp 27) (p := .map m) (q := .agg (dotc i.r i.n)) rfl rfl rfl hd ?_
      refine hK.out _ _ HS3.out (fun hHeld => ?_)
      clear hK K
      simp only [Act.put]
      refine wpAnyH_done (by kernel_rfl) ?_ _
      refine NoPanic.normal ?_
      clear hHeld
      clear hd hHs HS3
      go_wp2
      go_roundw
      case rel => exact ⟨k + 1, by omega, by go_num, HB3.out, HR3.out, HT4.out⟩
      case measure => simp [intOf]; omega
    · have hlt' : ¬ (k : Int) < (n : Int) := by omega
      rw [List.take_of_length_le (by omega), HD.out] at hB
      go_wp2
      go_ret
      exact ⟨rfl, w2, HK2.out, cs', HB2.out, hB, ht⟩
end Go.Proofs.YtmlfekbmbnfkjabGreatDoor.E

/-
  A bag's map in memory: one entry a thing, under its dot; what is stored, looked up, deleted.
-/
namespace Go.Proofs.YtmlfekbmbnfkjabGreatDoor.D
set_option maxRecDepth 100000
open Go.RowKit
open Go.ChangeMaps (setBlock heap_setBlock_same heap_setBlock_other)
open Go.MapKept (Stamped stamped_iff stamped_push stamped_modify stamped_erase stamped_empty)

def kvI (i : It (Cx 28)) : Value × Value := (.agg (dotc i.r i.n), .agg (xc i))
def kvE (e : MapEntry) : Value × Value := (e.key, e.val)
theorem dotc_inj {r n r' n' : Int} (h : (Value.agg (dotc r n)) = .agg (dotc r' n')) : r = r' ∧ n = n' := by
  simpa [dotc] using h

/-- A block is a map of these things. -/
def Mp (w : World) (b : Nat) (S : List (It (Cx 28))) : Prop :=
  ∃ (es : Array MapEntry) (clock : Nat) (L : List (It (Cx 28))), w.heap[b]? = some (.map es clock) ∧ Stamped es clock ∧ es.toList.map kvE = L.map kvI ∧ L.Perm S ∧ Srt S

theorem Mp.lt {w : World} {b : Nat} {S : List (It (Cx 28))} (h : Mp w b S) : b < w.heap.size := by
  obtain ⟨es, clock, L, hb, -⟩ := h
  exact (Array.getElem?_eq_some_iff.1 hb).1
theorem Mp.srt {w : World} {b : Nat} {S : List (It (Cx 28))} (h : Mp w b S) : Srt S := by
  obtain ⟨es, clock, L, -, -, -, -, hS⟩ := h
  exact hS
theorem Mp.kept {w w' : World} {b : Nat} {S : List (It (Cx 28))} (h : Mp w b S) (hk : w'.heap[b]? = w.heap[b]?) : Mp w' b S := by
  obtain ⟨es, clock, L, hb, rest⟩ := h
  exact ⟨es, clock, L, hk.trans hb, rest⟩
theorem Mp.below {w w' : World} {b B : Nat} {S : List (It (Cx 28))} (h : Mp w b S) (hb : Below B w w') (hB : b < B) : Mp w' b S := h.kept (hb.block b hB)
theorem Mp.alloc {w : World} {b : Nat} {S : List (It (Cx 28))} (h : Mp w b S) (o : Obj) : Mp (w.alloc o) b S := h.kept (Below.heap_alloc w o b h.lt)
theorem mp_new (w : World) : Mp (w.alloc (.map #[] 0)) w.heap.size [] :=
  ⟨#[], 0, [], MapKept.heap_alloc w _ |>.1, stamped_empty 0, rfl, List.Perm.refl _, Srt.nil⟩

theorem run_equal_dot (w : World) (r n r' n' : Int) : (Op.equal 32 (.agg (dotc r n)) (.agg (dotc r' n'))).run Tryz.prog w = .ok (decide (r = r' ∧ n = n')) w := run_equalIn_dot w 9998 r n r' n'
theorem run_checkKey_dot (w : World) (em : Bool) (r n : Int) : (Instr.checkKey em 10000 32 (.agg (dotc r n))).run Tryz.prog w = .ok () w := by kernel_rfl
theorem run_keyStays_dot (w : World) (r n : Int) : (Instr.keyThatStays (.agg (dotc r n)) (.agg (dotc r n))).run Tryz.prog w = .ok (.agg (dotc r n)) w := by
  simp [Instr.keyThatStays, Instr.sameBits, dotc]

theorem run_findAsking_dot (r n : Int) : ∀ (es : List MapEntry) (L : List (It (Cx 28))) (k : Nat), es.map kvE = L.map kvI →
    (find L r n = none ∧ ∀ w, (Instr.findAsking 32 (.agg (dotc r n)) es k).run Tryz.prog w = .ok none w) ∨
    ∃ j i, L[j]? = some i ∧ i.r = r ∧ i.n = n ∧ find L r n = some i ∧ ∀ w, (Instr.findAsking 32 (.agg (dotc r n)) es k).run Tryz.prog w = .ok (some (k + j, .agg (xc i))) w
  | [], [], k, _ => .inl ⟨rfl, fun w => by simp [Instr.findAsking]⟩
  | [], _ :: _, k, h => by simp at h
  | _ :: _, [], k, h => by simp at h
  | e :: es, i :: L, k, h => by
    simp only [List.map_cons, List.cons.injEq, kvE, kvI, Prod.mk.injEq] at h
    obtain ⟨⟨h1, h2⟩, h3⟩ := h
    have ih := run_findAsking_dot r n es L (k + 1) h3
    by_cases hd : r = i.r ∧ n = i.n
    · obtain ⟨rfl, rfl⟩ := hd
      refine .inr ⟨0, i, rfl, rfl, rfl, by simp [find, isAt], fun w => ?_⟩
      simp [Instr.findAsking, Sem.run_bind, h1, h2, run_equal_dot]
    · have hne : isAt r n i = false := by
        cases hh : isAt r n i
        · rfl
        · rw [isAt_iff] at hh; exact absurd ⟨hh.1.symm, hh.2.symm⟩ hd
      have hf : find (i :: L) r n = find L r n := by simp [find, hne]
      have hs : ∀ w, (Instr.findAsking 32 (.agg (dotc r n)) (e :: es) k).run Tryz.prog w = (Instr.findAsking 32 (.agg (dotc r n)) es (k + 1)).run Tryz.prog w := fun w => by
        simp [Instr.findAsking, Sem.run_bind, h1, run_equal_dot, hd]
      rw [hf]
      rcases ih with ⟨a, c⟩ | ⟨j, x, a, b, c, d, f⟩
      · exact .inl ⟨a, fun w => (hs w).trans (c w)⟩
      · exact .inr ⟨j + 1, x, a, b, c, d, fun w => by rw [hs w, f w, show k + 1 + j = k + (j + 1) by omega]⟩
theorem run_findKey_dot (r n : Int) (es : List MapEntry) (L : List (It (Cx 28))) (h : es.map kvE = L.map kvI) :
    (find L r n = none ∧ ∀ w, (Instr.findKey 32 (.agg (dotc r n)) es).run Tryz.prog w = .ok none w) ∨
    ∃ j i, L[j]? = some i ∧ i.r = r ∧ i.n = n ∧ find L r n = some i ∧ ∀ w, (Instr.findKey 32 (.agg (dotc r n)) es).run Tryz.prog w = .ok (some (j, .agg (xc i))) w := by
  cases es with
  | nil =>
    have hL : L = [] := by
      cases L with
      | nil => rfl
      | cons a L => simp at h
    subst hL
    exact .inl ⟨rfl, fun w => by simp [Instr.findKey, run_underlying Tryz.underlying32, Instr.findNow]⟩
  | cons e es =>
    have h0 := run_findAsking_dot r n (e :: es) L 0 h
    have hs : ∀ w, (Instr.findKey 32 (.agg (dotc r n)) (e :: es)).run Tryz.prog w = (Instr.findAsking 32 (.agg (dotc r n)) (e :: es) 0).run Tryz.prog w := fun w => by
      simp [Instr.findKey, Sem.run_bind, run_underlying Tryz.underlying32, Instr.findNow, Instr.sameNow]
    rcases h0 with ⟨a, c⟩ | ⟨j, i, a, b, c, d, f⟩
    · exact .inl ⟨a, fun w => (hs w).trans (c w)⟩
    · exact .inr ⟨j, i, a, b, c, d, fun w => by rw [hs w, f w, Nat.zero_add]⟩

theorem find_perm {L S : List (It (Cx 28))} (hp : L.Perm S) (hS : Srt S) (r n : Int) : find L r n = find S r n := by
  cases hf : find L r n with
  | none =>
    symm
    rw [find_none] at hf ⊢
    cases hh : hasD S r n
    · rfl
    · obtain ⟨i, hi, h1, h2⟩ := hasD_iff.1 hh
      have : hasD L r n = true := hasD_iff.2 ⟨i, hp.mem_iff.2 hi, h1, h2⟩
      rw [hf] at this; cases this
  | some i =>
    obtain ⟨hi, rfl, rfl⟩ := find_mem hf
    exact (find_some hS (hp.mem_iff.1 hi)).symm

/-- 'v, ok := m[d]'. -/
theorem Mp.lookup {w : World} {b : Nat} {S : List (It (Cx 28))} (h : Mp w b S) (r n : Int) :
    (Instr.lookup 82 (.map (some b)) (.agg (dotc r n)) true).run Tryz.prog w = .ok (.tuple #[.agg (xc ((find S r n).getD ⟨0, 0, zx⟩)), .bool (hasD S r n)]) w := by
  obtain ⟨es, clock, L, hb, hst, hL, hp, hS⟩ := h
  rw [hasD_find, ← find_perm hp hS]
  rcases run_findKey_dot r n es.toList L hL with ⟨h1, h2⟩ | ⟨j, i, h1, rfl, rfl, h2, h3⟩
  · simp [Instr.lookup, Sem.run_bind, run_underlying Tryz.underlying82, MapKept.run_getObj_map hb, run_checkKey_dot, h2, h1, Tryz.zeroValue135, zx_cells]
  · simp [Instr.lookup, Sem.run_bind, run_underlying Tryz.underlying82, MapKept.run_getObj_map hb, run_checkKey_dot, h3, h2]
theorem lookup_nil (w : World) (r n : Int) : (Instr.lookup 82 (.map none) (.agg (dotc r n)) true).run Tryz.prog w = .ok (.tuple #[.agg (xc ⟨0, 0, zx⟩), .bool false]) w := by
  rcases run_findKey_dot r n [] [] rfl with ⟨h1, h2⟩ | ⟨j, i, h1, _⟩
  · simp [Instr.lookup, Sem.run_bind, run_underlying Tryz.underlying82, run_checkKey_dot, h2, Tryz.zeroValue135, zx_cells]
  · simp at h1
/-- 'm[d] = Item{d, x}'. -/
theorem Mp.update {w : World} {b : Nat} {S : List (It (Cx 28))} (h : Mp w b S) (i : It (Cx 28)) :
    ∃ o : Obj, ∀ W : World, W.heap[b]? = w.heap[b]? → (Instr.mapUpdate 82 (.map (some b)) (.agg (dotc i.r i.n)) (.agg (xc i))).run Tryz.prog W = .ok () (setBlock W b o) ∧ Mp (setBlock W b o) b (put S i) := by
  obtain ⟨es, clock, L, hb0, hst, hL, hp, hS⟩ := h
  rw [hb0]
  have hkeys : ∀ x ∈ es.toList, ∃ j ∈ L, x.key = .agg (dotc j.r j.n) := fun x hx => by
    have : kvE x ∈ L.map kvI := by rw [← hL]; exact List.mem_map.2 ⟨x, hx, rfl⟩
    obtain ⟨j, hj, e⟩ := List.mem_map.1 this
    exact ⟨j, hj, (congrArg Prod.fst e).symm⟩
  rcases run_findKey_dot i.r i.n es.toList L hL with ⟨h1, h2⟩ | ⟨j, i0, h1, hr, hn, h2, h3⟩
  · have hno : ∀ x ∈ es.toList, x.key ≠ .agg (dotc i.r i.n) := fun x hx e => by
      obtain ⟨j, hj, e'⟩ := hkeys x hx
      rw [e'] at e
      obtain ⟨e1, e2⟩ := dotc_inj e
      rw [find_none] at h1
      have : hasD L i.r i.n = true := hasD_iff.2 ⟨j, hj, e1, e2⟩
      rw [h1] at this; cases this
    refine ⟨.map (es.push ⟨.agg (dotc i.r i.n), .agg (xc i), clock⟩) (clock + 1), fun w hb => ⟨?_, _, _, L ++ [i], heap_setBlock_same hb _, stamped_push hst hno, ?_, ?_, hS.put i⟩⟩
    · simp [Instr.mapUpdate, Sem.run_bind, run_underlying Tryz.underlying82, MapKept.run_getObj_map hb, run_checkKey_dot, h2, MapKept.run_setObj_map _ hb, setBlock]
    · rw [Array.toList_push, List.map_append, hL, List.map_append]; rfl
    · refine (List.perm_append_singleton i L).trans (((hp.cons i).trans ?_).trans (put_perm S i).symm)
      rw [del_of_not]
      rw [find_perm hp hS, find_none] at h1
      exact h1
  · have hkey : i0.r = i.r ∧ i0.n = i.n := ⟨hr, hn⟩
    have hjl : j < es.toList.length := by
      have h4 := (List.getElem?_eq_some_iff.1 h1).1
      have h5 := congrArg List.length hL
      simp only [List.length_map] at h5
      omega
    have hjs : j < es.size := by simpa using hjl
    obtain ⟨e0, he0⟩ : ∃ e0, es.toList[j]? = some e0 := ⟨_, List.getElem?_eq_getElem hjl⟩
    have hej : kvE e0 = kvI i0 := by
      have h4 : (es.toList.map kvE)[j]? = (L.map kvI)[j]? := by rw [hL]
      rw [List.getElem?_map, List.getElem?_map, h1, he0] at h4
      simpa using h4
    have hk0 : e0.key = .agg (dotc i.r i.n) := by
      have := congrArg Prod.fst hej
      simpa [kvE, kvI, hkey.1, hkey.2] using this
    have hj? : es[j]? = some e0 := by simpa using he0
    refine ⟨.map (es.modify j fun e => { e with key := .agg (dotc i.r i.n), val := .agg (xc i) }) clock, fun w hb => ⟨?_, _, _, L.set j i, heap_setBlock_same hb _, stamped_modify hst _ _ (fun _ _ => rfl) (fun e _ he => ?_), ?_, ?_, hS.put i⟩⟩
    · simp [Instr.mapUpdate, Sem.run_bind, run_underlying Tryz.underlying82, MapKept.run_getObj_map hb, run_checkKey_dot, h3, MapKept.run_setObj_map _ hb, setBlock, hj?, hk0, run_keyStays_dot]
    · rw [hj?] at he
      cases he
      exact hk0.symm
    · rw [Array.toList_modify]
      apply List.ext_getElem?
      intro m
      by_cases hm : m = j
      · subst hm
        rw [List.getElem?_map, List.getElem?_map, List.getElem?_modify_eq, he0, List.getElem?_set_self (List.getElem?_eq_some_iff.1 h1).1]
        rfl
      · rw [List.getElem?_map, List.getElem?_map, List.getElem?_modify, List.getElem?_set_ne (fun e => hm (Eq.symm e))]
        have h8 : (es.toList.map kvE)[m]? = (L.map kvI)[m]? := by rw [hL]
        have h9 : ¬ j = m := fun e => hm e.symm
        simpa [h9] using h8
    · have p1 : L.Perm (i0 :: L.eraseIdx j) := perm_erase h1
      have p2 : (L.set j i).Perm (i :: L.eraseIdx j) := perm_set h1
      refine p2.trans (List.Perm.trans ?_ (put_perm S i).symm)
      refine List.Perm.cons i ?_
      have p3 : (i0 :: L.eraseIdx j).Perm S := p1.symm.trans hp
      have p4 := p3.filter (fun x => !isAt i.r i.n x)
      rw [List.filter_cons_of_neg (by simp [isAt, hr, hn])] at p4
      refine List.Perm.trans (List.Perm.of_eq (List.filter_eq_self.2 fun x hx => ?_).symm) p4
      have ap : (i0 :: L.eraseIdx j).Pairwise fun a b => ¬ (a.r = b.r ∧ a.n = b.n) := (p3.symm.pairwise_iff (fun {a b} (hh : ¬ (a.r = b.r ∧ a.n = b.n)) e => hh ⟨e.1.symm, e.2.symm⟩)).1 hS.apart
      have := (List.pairwise_cons.1 ap).1 x hx
      cases hh : isAt i.r i.n x
      · rfl
      · rw [isAt_iff] at hh; exact absurd ⟨hr.trans hh.1.symm, hn.trans hh.2.symm⟩ this
/-- 'delete(m, d)'. -/
theorem Mp.delete {w : World} {b : Nat} {S : List (It (Cx 28))} (h : Mp w b S) (r n : Int) (ty : TypeId) :
    ∃ o : Obj, ∀ W : World, W.heap[b]? = w.heap[b]? → (Builtin.delete_ #[82, 32] ty #[.map (some b), .agg (dotc r n)]).run Tryz.prog W = .ok (.tuple #[]) (setBlock W b o) ∧ Mp (setBlock W b o) b (del S r n) := by
  obtain ⟨es, clock, L, hb0, hst, hL, hp, hS⟩ := h
  rw [hb0]
  rcases run_findKey_dot r n es.toList L hL with ⟨h1, h2⟩ | ⟨j, i0, h1, hr, hn, h2, h3⟩
  · refine ⟨.map es clock, fun w hb => ⟨?_, _, _, L, heap_setBlock_same hb _, hst, hL, ?_, hS.del r n⟩⟩
    · simp [Builtin.delete_, Sem.run_bind, run_underlying Tryz.underlying82, MapKept.run_getObj_map hb, run_checkKey_dot, h2, MapKept.run_setObj_map _ hb, setBlock]
    · rw [find_perm hp hS, find_none] at h1
      rw [del_of_not h1]; exact hp
  · have hjL := (List.getElem?_eq_some_iff.1 h1).1
    have hjl : j < es.toList.length := by
      have h5 := congrArg List.length hL
      simp only [List.length_map] at h5
      omega
    have hjs : j < es.size := by simpa using hjl
    have hsub : (es.eraseIdxIfInBounds j).toList = es.toList.eraseIdx j := by
      unfold Array.eraseIdxIfInBounds
      rw [dif_pos hjs]
      simp
    refine ⟨.map (es.eraseIdxIfInBounds j) clock, fun w hb => ⟨?_, _, _, L.eraseIdx j, heap_setBlock_same hb _, stamped_erase hst j, ?_, ?_, hS.del r n⟩⟩
    · simp [Builtin.delete_, Sem.run_bind, run_underlying Tryz.underlying82, MapKept.run_getObj_map hb, run_checkKey_dot, h3, MapKept.run_setObj_map _ hb, setBlock]
    · rw [hsub, map_erase, hL, map_erase]
    · have p1 : L.Perm (i0 :: L.eraseIdx j) := perm_erase h1
      have p3 : (i0 :: L.eraseIdx j).Perm S := p1.symm.trans hp
      have p4 := p3.filter (fun x => !isAt r n x)
      rw [List.filter_cons_of_neg (by simp [isAt, hr, hn])] at p4
      refine List.Perm.trans (List.Perm.of_eq (List.filter_eq_self.2 fun x hx => ?_).symm) p4
      have ap : (i0 :: L.eraseIdx j).Pairwise fun a b => ¬ (a.r = b.r ∧ a.n = b.n) := (p3.symm.pairwise_iff (fun {a b} (hh : ¬ (a.r = b.r ∧ a.n = b.n)) e => hh ⟨e.1.symm, e.2.symm⟩)).1 hS.apart
      have := (List.pairwise_cons.1 ap).1 x hx
      cases hh : isAt r n x
      · rfl
      · rw [isAt_iff] at hh; exact absurd ⟨hr.trans hh.1.symm, hn.trans hh.2.symm⟩ this
theorem delete_nil (w : World) (r n : Int) (ty : TypeId) : (Builtin.delete_ #[82, 32] ty #[.map none, .agg (dotc r n)]).run Tryz.prog w = .ok (.tuple #[]) w := by
  simp [Builtin.delete_, Sem.run_bind, run_underlying Tryz.underlying82, run_checkKey_dot]
theorem Mp.len {w : World} {b : Nat} {S : List (It (Cx 28))} (h : Mp w b S) (ty : TypeId) : (Builtin.len_ #[82] ty #[.map (some b)]).run Tryz.prog w = .ok (.int .i64 (S.length : Int)) w := by
  obtain ⟨es, clock, L, hb, hst, hL, hp, hS⟩ := h
  have h5 := congrArg List.length hL
  simp only [List.length_map, Array.length_toList] at h5
  simp [Builtin.len_, Sem.run_bind, run_underlying Tryz.underlying82, MapKept.run_getObj_map hb, goInt, h5, hp.length_eq]
theorem len_nil (w : World) (ty : TypeId) : (Builtin.len_ #[82] ty #[.map none]).run Tryz.prog w = .ok (.int .i64 0) w := by
  simp [Builtin.len_, Sem.run_bind, run_underlying Tryz.underlying82, goInt]
theorem grownBy_setBlock (w : World) (b : Nat) (o : Obj) : w.grownBy (setBlock w b o) (some b) :=
  ⟨rfl, rfl, rfl, by simp [setBlock], fun k _ hk => by
    have hne : b ≠ k := fun e => hk (by rw [e])
    simp [setBlock, hne]⟩
end Go.Proofs.YtmlfekbmbnfkjabGreatDoor.D

