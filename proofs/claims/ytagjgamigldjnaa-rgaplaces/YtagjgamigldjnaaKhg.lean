/-
  What hangingOn comes to: what hangs on each node, and on none, the latest first.
-/
import Derived.Test.YtagjgamigldjnaaGl
namespace Go.Proofs.Ytagjgamigldjnaa
set_option maxRecDepth 100000
open Go.RowKit

section
variable {ops : Array Oper} {rest : List Oper} {o : Oper} {a : Act} {w w' : World} {Q : Exit → Act → World → Prop} {x y z : Operand} {ty : TypeId} {v v' p q : Value}
theorem wpl_appK {t1 t2 : TypeId} (hw : Region.wanted o (yielded ops a.tmps) = true) (ho : o.op = .call { callee := .builtin .append, args := #[x, y], argTypes := #[t1, t2] }) (hx : a.eval x = v) (hy : a.eval y = v') {z : Value} (hr : (Builtin.append_ #[t1, t2] o.type #[v, v']).run Try.prog w = .ok z w')
    (h : wpList Try.prog ops Q rest (a.put o.dst z) w') : wpList Try.prog ops Q (o :: rest) a w :=
  wpList_step fun K hK => by
    rw [if_pos hw]
    exact wp_appK ho hx hy hr (hK _ _ h)
theorem wpl_mapuK (hw : Region.wanted o (yielded ops a.tmps) = true) (ho : o.op = .mapUpdate ty x y z) (hx : a.eval x = p) (hy : a.eval y = q) (hz : a.eval z = v) (hr : (Instr.mapUpdate ty p q v).run Try.prog w = .ok () w')
    (h : wpList Try.prog ops Q rest (a.put o.dst undef) w') : wpList Try.prog ops Q (o :: rest) a w :=
  wpList_step fun K hK => by
    rw [if_pos hw]
    exact wp_mapu ho hx hy hz hr (hK _ _ h)
end
theorem enters_parentof (xs : Array Value) (w : World) : (callFunc 31 xs).run Try.prog w = .ok (.enter 31 xs) w := enters Try.func31 (by kernel_rfl) (by kernel_rfl) xs w
theorem pz_inj {p q : Option Nat} (h : pz p = pz q) : p = q := by
  cases p <;> cases q <;> simp only [pz] at h
  · rfl
  · omega
  · omega
  · congr 1; omega
/-- Of the first t places, those whose parent's is z. -/
def hgTo (N : List Ev) (L : List Nat) (t : Nat) (z : Int) : List Nat := (L.take t).filter fun i => decide (pz (parI N (atN N i)) = z)
theorem hgTo_succ {N : List Ev} {L : List Nat} {t n : Nat} (h : L[t]? = some n) : hgTo N L (t + 1) = fun z => if pz (parI N (atN N n)) = z then hgTo N L t (pz (parI N (atN N n))) ++ [n] else hgTo N L t z := by
  funext z
  unfold hgTo
  rw [List.take_add_one, h, List.filter_append]
  by_cases hz : pz (parI N (atN N n)) = z
  · subst hz
    simp
  · simp [hz]
theorem hgTo_len (N : List Ev) (L : List Nat) (t : Nat) (z : Int) : (hgTo N L t z).length ≤ t := by
  unfold hgTo
  have := List.length_filter_le (fun i => decide (pz (parI N (atN N i)) = z)) (L.take t)
  rw [List.length_take] at this
  omega
theorem hgTo_all {N : List Ev} {L : List Nat} (h : Lf N N.length L) (p : Option Nat) : hgTo N L N.length (pz p) = kidsI N p := by
  refine KidsTo.one (p := p) (m := N.length) ⟨h.ord.sublist ?_, fun i => ?_⟩ (kids_is N p)
  · exact (List.filter_sublist).trans (List.take_sublist _ _)
  · unfold hgTo
    rw [List.take_of_length_le (by rw [h.len]; omega), List.mem_filter, h.mem i, decide_eq_true_eq]
    constructor
    · rintro ⟨h1, h2⟩; exact ⟨h1, pz_inj h2⟩
    · rintro ⟨h1, h2⟩; exact ⟨h1, by rw [h2]⟩
theorem IV.keptAt {w w' : World} {g m c : Nat} {F : List Nat} (h : IV w (some ⟨g, 0, none⟩) m c F) (hk : w'.heap[g]? = w.heap[g]?) : IV w' (some ⟨g, 0, none⟩) m c F :=
  ⟨h.len, h.room, h.zero, h.form, fun ad ha j u hu => by
    have h1 := h.cells ad ha j u hu
    obtain rfl : (⟨g, 0, none⟩ : Addr) = ad := Option.some.inj ha
    simp only [World.cell?] at h1 ⊢
    rw [hk]; exact h1⟩
/-- What is known within the loop: B: the new map, w1: the world behind byDot, w3: the world behind latestFirst. -/
structure Hgi (N : List Ev) (L : List Nat) (g B m : Nat) (w1 w3 : World) (t : Nat) (W : World) : Prop where
  grp : ∃ f, Gri iv W B w3.heap.size f (hgTo N L t)
  list : IV W (some ⟨g, 0, none⟩) m m L
  below : Below B w1 W
  size : w3.heap.size ≤ W.heap.size
theorem Hgi.next {N : List Ev} {L : List Nat} {g B m t : Nat} {w1 w3 W W' : World} (h : Hgi N L g B m w1 w3 t W) (hB : B ≤ w1.heap.size) (hb : Below W.heap.size W W') : Hgi N L g B m w1 w3 t W' := by
  obtain ⟨f, hf⟩ := h.grp
  exact ⟨⟨f, hf.below hb (Nat.le_refl _)⟩, h.list.below hb (Nat.le_refl _), h.below.trans (hb.mono (Nat.le_trans hB h.below.size)), Nat.le_trans h.size hb.size⟩
set_option maxHeartbeats 8000000 in
theorem hanging_any (ao : Option Addr) (m c : Nat) (N : List Ev) (w : World) (hE : Evs w ao m c N) (hm : m ≤ 1000) :
    Calls Try.prog 21 #[.slice ao m c] w fun e w' => ∃ B, e = .returned (.map (some B)) ∧ ∃ base f G, Gri iv w' B base f G ∧ (∀ p, G (pz p) = kidsI N p) ∧ Below w.heap.size w w' := by
  have hlen := hE.len
  have hmm := @run_makeMap Try.prog
  go_enter Try.func21, Try.ntmps21
  go_wp2_with fail
  refine (bydot_any ao m c N w hE hm).mono ?_
  rintro e w1 ⟨rfl, ⟨f0, G0, hG0, hP0, hL0⟩, hb1⟩
  have HB1 : Hid (Below w.heap.size w w1) := hb1
  have HP0 : Hid (∀ d, Plc N N.length d (G0 d)) := by rw [hlen]; exact hP0
  have HL0 : Hid (∀ d, (G0 d).length ≤ m) := hL0
  have HE1 : Aside (Evs w1 ao m c N) := hE.below hb1 (Nat.le_refl _)
  have HG0 : Aside (Gri dv w1 w.heap.size (w.heap.size + 1) f0 G0) := hG0
  clear hE hP0 hL0 hG0 hb1
  have hBm : Below w1.heap.size w1 (w1.alloc (.map #[] 0)) := (Below.refl _ _).alloc (Nat.le_refl _) _
  have hEm : Evs (w1.alloc (.map #[] 0)) ao m c N := HE1.out.below hBm (Nat.le_refl _)
  have HMm : Hid (Mp iv (w1.alloc (.map #[] 0)) w1.heap.size (fun _ => none)) := mp_new iv w1
  have HBm : Hid (Below w1.heap.size w1 (w1.alloc (.map #[] 0))) := hBm
  clear hBm
  go_wp2_with fail
  clear hmm
  refine (latestf_any ao m c N _ hEm hm).mono ?_
  rintro e w3 ⟨g, L, rfl, hLf, hIL, hb3⟩
  have hb13 : Hid (Below w1.heap.size w1 w3) := HBm.out.trans (hb3.mono HBm.out.size)
  have hlt3 : w1.heap.size < w3.heap.size := by have := hb3.size; simp at this; omega
  have H0 : Aside (Hgi N L g w1.heap.size m w1 w3 0 w3) := ⟨⟨fun _ => none, ⟨HMm.out.below hb3 (by simp), fun _ => irow_nil _ _, (fun _ _ _ h => by cases h), hlt3⟩⟩, hIL, hb13.out, Nat.le_refl _⟩
  have HLf : Hid (Lf N m L) := hLf
  have HLl : L.length = m := hLf.len
  have hgl : Hid (0 < m → g < w3.heap.size ∧ g ≠ w1.heap.size) := fun h0 => by
    obtain ⟨b', off', n, h1, h2, h3, h4⟩ := hIL.at h0
    have hbg : g = b' := by simpa using congrArg (fun o => o.map Addr.block) h1
    subst hbg
    refine ⟨h4, fun e => ?_⟩
    have h5 := (hb3.block w1.heap.size (by simp)).trans (MapKept.heap_alloc w1 (.map #[] 0)).1
    have h6 : off' = 0 := by simpa using congrArg (fun o => o.map Addr.off) h1.symm
    simp only [World.cell?, e, h5] at h3
    cases h3
  clear hLf hIL hb3 hEm HMm HBm
  go_wp2
  go_loopg [15] m (fun kx s15 wr => ∃ t : Nat, s15 = .int .i64 t ∧ t ≤ m ∧ m - t ≤ kx ∧ Aside (Hgi N L g w1.heap.size m w1 w3 t wr))
  case atStart => exact ⟨0, rfl, Nat.zero_le _, by omega, H0⟩
  case round =>
    clear H0
    obtain ⟨t, rfl, htm, hkx, HS⟩ := hrel
    by_cases hlt : t < m
    · have hltz : (t : Int) < (m : Int) := by omega
      obtain ⟨bg, og, n, hg0, htn, hcl, -⟩ := HS.out.list.at hlt
      obtain ⟨rfl, rfl⟩ : bg = g ∧ og = 0 := by
        have := Option.some.inj hg0
        simp only [Addr.mk.injEq, and_true] at this
        exact ⟨this.1.symm, this.2.symm⟩
      simp only [Nat.zero_add] at hcl
      have hnm : n < m := (HLf.out.mem n).1 (List.mem_of_getElem? htn)
      have hixi := fun W : World => index_i W (b := bg) (off := 0) (k := t) (m := m) (c := m) hlt
      obtain ⟨b, off, u, rfl, hui, hu, hr, hbl⟩ := (HE1.out.below HS.out.below (Nat.le_refl _)).at hnm
      have hu16 := hu.1
      have hat : Hid (atN N n = u) := atN_get hui
      have hix := fun W : World => index_ev W (b := b) (off := off) (k := n) (m := m) (c := c) hnm
      have hz := liesE_new wr zv
      have hB1 : Below wr.heap.size wr ((wr.alloc (.cells (evc zv) 41)).setRow wr.heap.size (evc u)) := below_setRow ((Below.refl _ _).alloc (Nat.le_refl _) _) (Nat.le_refl _) _
      have HS1 : Aside (LiesE ((wr.alloc (.cells (evc zv) 41)).setRow wr.heap.size (evc u)) wr.heap.size u ∧ Hgi N L bg w1.heap.size m w1 w3 t ((wr.alloc (.cells (evc zv) 41)).setRow wr.heap.size (evc u))) := ⟨hz.row u, HS.out.next (Nat.le_refl _) hB1⟩
      clear hB1 HS hui hg0
      go_upto_region 7 with (first | refine load_ev_mid rfl rfl rfl hr hu16 ?_ | refine store_ev rfl rfl rfl rfl hz hu16 rfl ?_)
      change Code.wp _ _ _ _ ((wr.alloc (.cells (evc zv) 41)).setRow wr.heap.size (evc u))
      clear hz hr hix hixi hbl hcl
      generalize (wr.alloc (.cells (evc zv) 41)).setRow wr.heap.size (evc u) = W0 at HS1 ⊢
      generalize wr.heap.size = D at *
      have hLE := HS1.out.1
      have hG1 := HG0.out.below HS1.out.2.below (Nat.le_refl _)
      obtain ⟨a2, c2, hv0, hIV⟩ := (hG1.rows (u.rr, u.rn)).iv
      obtain ⟨q, hq⟩ : ∃ q, (G0 (u.rr, u.rn)).length = q := ⟨_, rfl⟩
      rw [hq] at hv0 hIV
      have hq2 : q ≤ m := by have := HL0.out (u.rr, u.rn); omega
      have hlk : ∀ W, Below W0.heap.size W0 W → (Instr.lookup 58 (.map (some w.heap.size)) (.agg (dotc u.rr u.rn)) false).run Try.prog W = .ok (.slice a2 q c2) W := fun W hb => by
        have := (hG1.below hb (Nat.le_refl _)).look keyDot mapD (u.rr, u.rn)
        rw [hv0] at this
        exact this
      have hpar : ∀ W, Below W0.heap.size W0 W → Calls Try.prog 31 #[.agg (evc u), .slice (some ⟨b, off, none⟩) m c, .slice a2 q c2] W fun e w' => e = .returned (.int .i64 (pz (parI N u))) ∧ Below W.heap.size W w' := fun W hb => parentof_any u hu N _ m c _ a2 q c2 W ((HE1.out.below HS1.out.2.below (Nat.le_refl _)).below hb (Nat.le_refl _)) (hIV.below hb (Nat.le_refl _)) (HP0.out _) (by omega)
      clear hG1 hv0 hIV hq
      refine region_vals [23, 24, 25, 26, 27, 28, 29, 30, 8] [.agg (evc u), .slice (some ⟨b, off, none⟩) m c, .map (some w.heap.size), .pointer (some ⟨D, 19, none⟩), .pointer (some ⟨D, 24, none⟩), .agg (dotc u.rr u.rn), .slice a2 q c2, .int .i64 (pz (parI N u)), .int .i64 (pz (parI N u))] _ (by kernel_rfl) (by kernel_rfl) (by rfl) (by decide) (by kernel_rfl) (by simp only [lay, Act.put, List.setIfInBounds_toArray, List.set_cons_zero, List.set_cons_succ, List.getD_cons_zero, List.getD_cons_succ, Nat.reduceAdd]; rfl) ⟨?_, ?_, ?_, ?_, ?_, ?_, ?_, ?_, ?_, trivial⟩ ?_
      · exact .inl ⟨rfl, fun W hb => yields_load rfl rfl (load_ev_run (hLE.below hb hLE.lt) hu16)⟩
      · exact .inl ⟨rfl, fun W hb => yields_move rfl rfl⟩
      · exact .inl ⟨rfl, fun W hb => yields_move rfl rfl⟩
      · exact .inl ⟨rfl, fun W hb => yields_field rfl rfl (field_e3i W D 0)⟩
      · exact .inl ⟨rfl, fun W hb => yields_field rfl rfl (field_p5 W D 19)⟩
      · exact .inl ⟨rfl, fun W hb => yields_load rfl rfl (load_dtr ((hLE.below hb hLE.lt).ref hu16))⟩
      · exact .inl ⟨rfl, fun W hb => yields_lookup rfl rfl rfl (hlk W hb)⟩
      · exact .inl ⟨rfl, fun W hb => yields_call (xs := [.tmp 23, .tmp 24, .tmp 29]) (vs := [.agg (evc u), .slice (some ⟨b, off, none⟩) m c, .slice a2 q c2]) rfl rfl (enters_parentof _ _) (hpar W hb)⟩
      · exact .inl ⟨rfl, fun W hb => yields_assign rfl rfl⟩
      intro W1 hb1
      have HS2 : Aside (Hgi N L bg w1.heap.size m w1 w3 t W1) := HS1.out.2.next (Nat.le_refl _) hb1
      clear hb1 HS1 hlk hpar hLE
      obtain ⟨f, hG⟩ := HS2.out.grp
      have hlk := hG.look keyInt mapI (pz (parI N u))
      obtain ⟨v, w4, w5, hr4, hr5, hG5, hk4, hk5, hb5⟩ := hG.push keyInt mapI (pz (parI N u)) n (by have := hgTo_len N L t (pz (parI N u)); omega) HS2.out.size 50
      have HS4 : Aside (Hgi N L bg w1.heap.size m w1 w3 (t + 1) w5) := by
        have hgg := hgl.out (by omega)
        refine ⟨⟨_, by rw [hgTo_succ htn, hat.out]; exact hG5⟩, HS2.out.list.keptAt (hk5 bg (Nat.lt_of_lt_of_le hgg.1 HS2.out.size) (fun e => ?_) hgg.2), HS2.out.below.trans hb5, Nat.le_trans HS2.out.size hb5.size⟩
        have := ((hG.rows _).lt bg e.symm).1
        omega
      clear HS2 hG hG5 hk4 hk5 hb5 hat
      go_wp2_with (first | refine wpl_exK rfl (exec_lookupK rfl rfl rfl hlk) ?_ | refine build_I1 rfl rfl rfl ?_ | refine wpl_appK rfl rfl rfl rfl hr4 ?_ | refine wpl_mapuK rfl rfl rfl rfl rfl hr5 ?_)
      go_roundg (m - (t + 1))
      case measure => omega
      case rel => exact ⟨t + 1, by go_num, by omega, Nat.le_refl _, HS4⟩
    · obtain rfl : t = m := by omega
      have hltz : ¬ (t : Int) < (t : Int) := by omega
      have HF : Hid (∃ base f G, Gri iv wr w1.heap.size base f G ∧ (∀ p, G (pz p) = kidsI N p) ∧ Below w.heap.size w wr) := by
        obtain ⟨f, hG⟩ := HS.out.grp
        exact ⟨_, f, _, hG, fun p => by rw [← hlen]; exact hgTo_all (by rw [hlen]; exact HLf.out) p, HB1.out.trans (HS.out.below.mono HB1.out.size)⟩
      clear HS
      go_wp2
      go_ret
      obtain ⟨base, f, G, h1, h2, h3⟩ := HF.out
      exact ⟨_, rfl, base, f, G, h1, h2, h3⟩
end Go.Proofs.Ytagjgamigldjnaa
