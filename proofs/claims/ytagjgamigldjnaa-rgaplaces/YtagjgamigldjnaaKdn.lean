/-
  What liveDots comes to, and Items' closure.
-/
import Derived.Test.YtagjgamigldjnaaKte
namespace Go.Proofs.Ytagjgamigldjnaa
set_option maxRecDepth 100000
open Go.RowKit
open Go.ChangeMaps (setBlock heap_setBlock_same heap_setBlock_other)

/-- A cell holds a map of dots that tells this. -/
structure Thr (w : World) (k B : Nat) (F : Dt → Option Value) : Prop where
  cell : w.cell? ⟨k, 0, none⟩ = some (.map (some B))
  map : Mp dv w B F
  unit : ∀ d v, F d = some v → v = .agg #[]
theorem Thr.below {w w' : World} {k B : Nat} {F : Dt → Option Value} (h : Thr w k B F) (hb : Below w.heap.size w w') : Thr w' k B F :=
  ⟨(hb.cell (block_lt_of_cell h.cell)).trans h.cell, h.map.below hb h.map.lt, h.unit⟩
theorem heap_setCells_other {g k : Nat} (hk : k ≠ g) : ∀ (vs : List Value) (o : Nat) (w : World), (w.setCells g o vs).heap[k]? = w.heap[k]?
  | [], _, _ => rfl
  | v :: vs, o, w => (heap_setCells_other hk vs (o + 1) (w.setCell ⟨g, o, none⟩ v)).trans (heap_setCell_other w ⟨g, o, none⟩ k v hk)
theorem Thr.put {w : World} {k B g : Nat} {F : Dt → Option Value} (h : Thr w k B F) (hk : k ≠ g ∧ B ≠ g) (o : Nat) (vs : List Value) : Thr (w.setCells g o vs) k B F :=
  ⟨(World.cell?_setCells_out g _ _ _ _ (fun e => absurd e hk.1)).trans h.cell, h.map.kept (heap_setCells_other hk.2 vs o w), h.unit⟩
def bad (F : Dt → Option Value) (u : Ev) : Bool := !(F (u.r, u.n)).isSome
theorem mapS : Try.prog.underlying 52 = some (.map 26 55) := Try.underlying52
theorem load_mp {w : World} {ad : Addr} {v : Value} (h : w.cell? ad = some v) : (loadVar 52 ad).run Try.prog w = .ok v w := by
  have := Try.isAgg52 w
  go_simp
set_option maxHeartbeats 4000000 in
theorem notin_any (u : Ev) (_hu16 : u.deps.length = 16) (k B : Nat) (F : Dt → Option Value) (w : World) (hT : Thr w k B F) :
    Calls Try.prog 27 #[.agg (evc u), .pointer (some ⟨k, 0, none⟩)] w fun e w' => e = .returned (.bool (bad F u)) ∧ Below w.heap.size w w' := by
  have hE := liesE_new w u
  have hB : Below w.heap.size w (w.alloc (.cells (evc u) 41)) := (Below.refl _ w).alloc (Nat.le_refl _) _
  have hT1 := hT.below hB
  have hc := hT1.cell
  have hdt := hE.dotK
  have hlk := hT1.map.lookOk keyDot mapS (fun w => Try.zeroValue55 w) (u.r, u.n)
  have hgd : (F (u.r, u.n)).getD (.agg #[]) = .agg #[] := by
    cases hf : F (u.r, u.n) with
    | none => rfl
    | some v => exact hT.unit _ v hf
  rw [hgd] at hlk
  have hsc : ∀ (ad : Addr) (W : World), (storeCells ad []).run Try.prog W = .ok () W := fun _ _ => rfl
  obtain ⟨t, ht⟩ : ∃ t, (F (u.r, u.n)).isSome = t := ⟨_, rfl⟩
  rw [ht] at hlk
  have HB : Hid (Below w.heap.size w (w.alloc (.cells (evc u) 41))) := hB
  have HA : Hid (bad F u = !t) := by show _ = _; rw [← ht]; rfl
  clear hT hT1 hB ht hgd
  go_enter Try.func27, Try.ntmps27
  go_upto_region 1 with (fail)
  generalize w.alloc (.cells (evc u) 41) = W at hE hc hdt hlk HB ⊢
  go_wp2_with (first | refine load_dot_at rfl rfl rfl hdt ?_ | refine wpl_exK rfl (exec_lookupK rfl rfl rfl hlk) ?_)
  go_ret
  exact ⟨by rw [HA.out]; rfl, HB.out.alloc HB.out.size _⟩
/-- The dots of events, as a set. -/
def setF (D : List Dt) (d : Dt) : Option Value := if d ∈ D then some (.agg #[]) else none
theorem setF_unit (D : List Dt) (d : Dt) (v : Value) (h : setF D d = some v) : v = .agg #[] := by
  unfold setF at h
  split at h
  · exact (Option.some.inj h).symm
  · cases h
theorem setF_push (D : List Dt) (x : Dt) : (fun y => if x = y then some (.agg #[]) else setF D y) = setF (D ++ [x]) := by
  funext y
  unfold setF
  by_cases h : x = y
  · subst h; simp
  · have h' : ¬ y = x := fun e => h e.symm
    simp [h, h']
theorem setF_nil : setF [] = fun _ => none := by funext d; simp [setF]
def dotsE (L : List Ev) : List Dt := L.map fun e => (e.r, e.n)
theorem dots_succ {L : List Ev} {i : Nat} {u : Ev} (h : L[i]? = some u) : dotsE (L.take (i + 1)) = dotsE (L.take i) ++ [(u.r, u.n)] := by
  unfold dotsE
  rw [take_snoc h, List.map_append]
  rfl
set_option maxHeartbeats 4000000 in
theorem livedots_any (ao : Option Addr) (m c : Nat) (E : List Ev) (key : List UInt8) (w : World) (hE : Evs w ao m c E) (hm : m ≤ 1000) :
    Calls Try.prog 25 #[.slice ao m c, .string (sb key)] w fun e w' => e = .returned (.map (some w.heap.size)) ∧ Mp dv w' w.heap.size (setF (dotsE (nodesE key (allE E)))) ∧ Below w.heap.size w w' := by
  have hlen := hE.len
  have hwide : Hid (∀ e ∈ E, Wide e) := hE.wide
  have hB0 : Below w.heap.size w (w.alloc (.map #[] 0)) := (Below.refl _ _).alloc (Nat.le_refl _) _
  have hE0 := hE.below hB0 (Nat.le_refl _)
  have hM0 : Mp dv (w.alloc (.map #[] 0)) w.heap.size (fun _ => none) := mp_new dv w
  have HM0 : Hid (Mp dv (w.alloc (.map #[] 0)) w.heap.size (fun _ => none) ∧ Below w.heap.size w (w.alloc (.map #[] 0))) := ⟨hM0, hB0⟩
  have hs0 : w.heap.size < (w.alloc (.map #[] 0)).heap.size := hM0.lt
  have hmm := @run_makeMap Try.prog
  clear hE hB0 hM0
  go_enter Try.func25, Try.ntmps25
  go_wp2_with fail
  clear hmm
  generalize w.alloc (.map #[] 0) = W0 at hE0 HM0 hs0 ⊢
  refine (all_any ao m c E W0 hE0 hm).mono ?_
  rintro e w1 ⟨v1, rfl, hR1, hb1⟩
  obtain ⟨a1, c1, hv1, hE1⟩ := hR1.evs (fun e he => hwide.out e (all_mem.1 he).1)
  subst hv1
  have hl1 := all_length E
  have HM1 : Hid (Mp dv w1 w.heap.size (fun _ => none) ∧ Below w.heap.size w w1) := ⟨HM0.out.1.below hb1 hs0, HM0.out.2.trans (hb1.mono HM0.out.2.size)⟩
  have hs1 : w.heap.size < w1.heap.size := Nat.lt_of_lt_of_le hs0 hb1.size
  clear hR1 hb1 HM0 hE0
  go_wp2_with fail
  refine (nodesof_any a1 _ c1 _ key w1 hE1 (by omega)).mono ?_
  rintro e w2 ⟨v2, rfl, hR2, hb2⟩
  obtain ⟨a2, c2, hv2, hE2⟩ := hR2.evs (fun e he => hwide.out e (all_mem.1 (mem_nodes.1 he).1).1)
  subst hv2
  have hl2 := nodes_len key (allE E)
  obtain ⟨L, hL⟩ : ∃ L, nodesE key (allE E) = L := ⟨_, rfl⟩
  rw [hL] at hE2 hl2 ⊢
  obtain ⟨q, hq⟩ : ∃ q, L.length = q := ⟨_, rfl⟩
  rw [hq] at hE2 hl2 ⊢
  have HL : Hid (nodesE key (allE E) = L ∧ L.length = q) := ⟨hL, hq⟩
  have HE2 : Aside (Evs w2 a2 q c2 L) := hE2
  have hs2 : w.heap.size < w2.heap.size := Nat.lt_of_lt_of_le hs1 hb2.size
  have H0 : Aside (Mp dv w2 w.heap.size (setF (dotsE (L.take 0))) ∧ Below w.heap.size w w2 ∧ Below w2.heap.size w2 w2) := ⟨by rw [show dotsE (L.take 0) = [] from rfl, setF_nil]; exact HM1.out.1.below hb2 hs1, HM1.out.2.trans (hb2.mono HM1.out.2.size), Below.refl _ _⟩
  clear hR2 hb2 HM1 hE1 hE2 hL hq
  have H1 : Aside (Mp dv w2 w.heap.size (setF (dotsE (L.take 0))) ∧ Below w.heap.size w w2 ∧ w2.heap.size ≤ w2.heap.size ∧ ∀ k, k < w2.heap.size → k ≠ w.heap.size → w2.heap[k]? = w2.heap[k]?) := ⟨H0.out.1, H0.out.2.1, Nat.le_refl _, fun _ _ _ => rfl⟩
  clear H0
  have hEk : Hid (∀ W : World, (∀ k, k < w2.heap.size → k ≠ w.heap.size → W.heap[k]? = w2.heap[k]?) → Evs W a2 q c2 L) := by
    show ∀ W : World, _
    intro W hk
    refine HE2.out.kept (fun h0 ad ha => ?_)
    obtain ⟨b, off, u, e1, -, -, hr, hbl⟩ := HE2.out.at h0
    rw [e1] at ha
    obtain rfl := Option.some.inj ha
    refine hk b hbl (fun e => ?_)
    have h5 := H1.out.1
    obtain ⟨es, clock, hb, -⟩ := h5
    have h6 := hr 0 (.int .i64 u.r) rfl
    simp only [World.cell?, e, hb] at h6
    cases h6
  go_wp2
  go_loopg [14] q (fun kx s14 wr => ∃ i : Nat, s14 = .int .i64 i ∧ i ≤ q ∧ q - i ≤ kx ∧ Aside (Mp dv wr w.heap.size (setF (dotsE (L.take i))) ∧ Below w.heap.size w wr ∧ w2.heap.size ≤ wr.heap.size ∧ ∀ k, k < w2.heap.size → k ≠ w.heap.size → wr.heap[k]? = w2.heap[k]?))
  case atStart => exact ⟨0, rfl, Nat.zero_le _, by omega, H1.out.1, H1.out.2.1, Nat.le_refl _, fun _ _ _ => rfl⟩
  case round =>
    clear H1
    obtain ⟨i, rfl, him, hkx, HS⟩ := hrel
    by_cases hlt : i < q
    · have hltz : (i : Int) < (q : Int) := by omega
      obtain ⟨b, off, u, rfl, hui, hu, hr, hbl⟩ := (hEk.out wr HS.out.2.2.2).at hlt
      have hu16 := hu.1
      have hix := fun W : World => index_ev W (b := b) (off := off) (k := i) (m := q) (c := c2) hlt
      have hz := liesE_new wr zv
      have hB1 : Below wr.heap.size wr ((wr.alloc (.cells (evc zv) 41)).setRow wr.heap.size (evc u)) := below_setRow ((Below.refl _ _).alloc (Nat.le_refl _) _) (Nat.le_refl _) _
      have HS1 : Aside (LiesE ((wr.alloc (.cells (evc zv) 41)).setRow wr.heap.size (evc u)) wr.heap.size u ∧ Mp dv ((wr.alloc (.cells (evc zv) 41)).setRow wr.heap.size (evc u)) w.heap.size (setF (dotsE (L.take i))) ∧ Below w.heap.size w ((wr.alloc (.cells (evc zv) 41)).setRow wr.heap.size (evc u)) ∧ w2.heap.size ≤ ((wr.alloc (.cells (evc zv) 41)).setRow wr.heap.size (evc u)).heap.size ∧ ∀ k, k < w2.heap.size → k ≠ w.heap.size → ((wr.alloc (.cells (evc zv) 41)).setRow wr.heap.size (evc u)).heap[k]? = w2.heap[k]?) :=
        ⟨hz.row u, HS.out.1.below hB1 HS.out.1.lt, HS.out.2.1.trans (hB1.mono HS.out.2.1.size), Nat.le_trans HS.out.2.2.1 hB1.size, fun k h1 h2 => (hB1.block k (by have := HS.out.2.2.1; omega)).trans (HS.out.2.2.2 k h1 h2)⟩
      have HSN : Hid (dotsE (L.take (i + 1)) = dotsE (L.take i) ++ [(u.r, u.n)]) := dots_succ hui
      clear hB1 HS hui
      go_upto_region 5 with (first | refine load_ev_mid rfl rfl rfl hr hu16 ?_ | refine store_ev rfl rfl rfl rfl hz hu16 rfl ?_)
      change Code.wp _ _ _ _ ((wr.alloc (.cells (evc zv) 41)).setRow wr.heap.size (evc u))
      clear hz hr hix hbl
      generalize (wr.alloc (.cells (evc zv) 41)).setRow wr.heap.size (evc u) = W at HS1 ⊢
      generalize wr.heap.size = D at *
      have hdt := HS1.out.1.dotK
      obtain ⟨o, ho⟩ := HS1.out.2.1.update keyDot mapS (u.r, u.n) (.agg #[])
      obtain ⟨hr5, hM5⟩ := ho W rfl
      have hg5 := grownBy_setBlock W w.heap.size o
      have HS4 : Aside (Mp dv (setBlock W w.heap.size o) w.heap.size (setF (dotsE (L.take (i + 1)))) ∧ Below w.heap.size w (setBlock W w.heap.size o) ∧ w2.heap.size ≤ (setBlock W w.heap.size o).heap.size ∧ ∀ k, k < w2.heap.size → k ≠ w.heap.size → (setBlock W w.heap.size o).heap[k]? = w2.heap[k]?) := by
        refine ⟨by rw [HSN.out, ← setF_push]; exact hM5, HS1.out.2.2.1.grown hg5 HS1.out.2.2.1.size (fun k hk => by have : w.heap.size = k := Option.some.inj hk; omega), Nat.le_trans HS1.out.2.2.2.1 hg5.size, fun k h1 h2 => ?_⟩
        exact (hg5.block k (by have := HS1.out.2.2.2.1; omega) (fun e => h2 (Option.some.inj e))).trans (HS1.out.2.2.2.2 k h1 h2)
      clear HS1 HSN ho hM5 hg5
      go_wp2_with (first | refine load_dot_at rfl rfl rfl hdt ?_ | refine wpl_mapuK rfl rfl rfl rfl rfl hr5 ?_)
      go_roundg (q - (i + 1))
      case measure => omega
      case rel => exact ⟨i + 1, by go_num, by omega, Nat.le_refl _, HS4⟩
    · obtain rfl : i = q := by omega
      have hltz : ¬ (i : Int) < (i : Int) := by omega
      have HF : Hid (Mp dv wr w.heap.size (setF (dotsE (nodesE key (allE E)))) ∧ Below w.heap.size w wr) := by
        have := HS.out
        rw [List.take_of_length_le (by rw [HL.out.2]; exact Nat.le_refl _), ← HL.out.1] at this
        exact ⟨this.1, this.2.1⟩
      clear HS
      go_wp2
      go_ret
      exact ⟨rfl, HF.out⟩
end Go.Proofs.Ytagjgamigldjnaa
