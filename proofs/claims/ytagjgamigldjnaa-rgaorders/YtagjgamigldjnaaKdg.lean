/-
  What slices.DeleteFunc of events comes to: what stands in no map of dots is deleted.
-/
import Derived.Test.YtagjgamigldjnaaKdf
namespace Go.Proofs.Ytagjgamigldjnaa
set_option maxRecDepth 100000
open Go.RowKit Go.Shelf Go.Sort

theorem zero_one (k : Nat) : ∀ v ∈ (Builtin.zeroCells (evc zv) k).toList, v.oneCell' = true := by
  intro v hv
  have h1 := evc_one zv
  rw [Array.all_eq_true_iff_forall_mem] at h1
  simp only [Builtin.zeroCells, Array.toList_map, List.mem_map] at hv
  obtain ⟨t, -, rfl⟩ := hv
  have ht : t % (evc zv).size < (evc zv).size := Nat.mod_lt _ (by decide)
  rw [getElem!_pos (evc zv) _ ht]
  exact h1 _ (Array.getElem_mem ht)
theorem clear_any {w : World} {base g n cap i : Nat} {R : List Ev} (h : Row w base (.slice (some ⟨g, 0, none⟩) n cap) R) (hn : R.length = n) (hi : i < n) (ty : TypeId) :
    (Builtin.clear_ #[22] ty #[.slice (some ⟨g, i * 26, none⟩) (n - i) (cap - i)]).run Try.prog w = .ok (.tuple #[]) (w.setCells g (i * 26) (Builtin.zeroCells (evc zv) (n - i)).toList) := by
  have ht : Try.prog.underlying 22 = some (.slice 41) := Try.underlying22
  have hz : ∀ w, (zeroValue 41).run Try.prog w = .ok (.agg (evc zv)) w := Try.zeroValue41
  have hlen : (Builtin.zeroCells (evc zv) (n - i)).toList.length = (n - i) * 26 := by simp [Builtin.zeroCells, evc_size zv rfl]
  rcases h.2 with ⟨hh, -⟩ | ⟨g', cap', cur, hv, hbg, hg, hnc, hcm, hcs, htk⟩
  · cases hh
  · simp only [Value.slice.injEq, Option.some.injEq, Addr.mk.injEq, and_true] at hv
    obtain ⟨rfl, h1, rfl⟩ := hv
    have hst := run_storeCells_cells (P := Try.prog) g (i * 26) (Builtin.zeroCells (evc zv) (n - i)).toList 0 w (fun j hj => by
      rw [hlen] at hj
      have hlt : i * 26 + j < cur.size := by
        have : n * 26 ≤ cur.size := by omega
        omega
      rw [Nat.add_zero, cell_of_row w g _ _ _ _ hg, Array.getElem?_eq_getElem hlt]
      rfl) (fun j _ => frozen_of_row w g _ _ _ hg) (zero_one _)
    simp only [Nat.add_zero] at hst
    obtain ⟨q, hq⟩ : ∃ q, n - i = q + 1 := ⟨n - i - 1, by omega⟩
    rw [hq] at hst ⊢
    simp [Builtin.clear_, run_underlying ht, hz, Value.cells, hst]
theorem below_put {B b : Nat} {a : World} (hb : B ≤ b) : ∀ (vs : List Value) (o : Nat) (w : World), Below B a w → Below B a (w.setCells b o vs)
  | [], _, _, h => h
  | v :: r, o, _, h => below_put hb r (o + 1) _ (h.setCell (p := ⟨b, o, none⟩) hb v)
theorem slice_own (w : World) {g n cap i : Nat} (hi : i < n) (hn : n ≤ cap) : (Instr.sliceAt 22 (.slice (some ⟨g, 0, none⟩) n cap) (some (.int .i64 (i : Int))) none none).run Try.prog w = .ok (.slice (some ⟨g, i * 26, none⟩) (n - i) (cap - i)) w := by
  rw [slice_from w (by omega), dropA, if_neg (by omega)]
  show Result.ok (Value.slice (some (Addr.add ⟨g, 0, none⟩ (i * 26))) (n - i) (cap - i)) w = _
  rw [Addr.add_mid, Nat.zero_add]
theorem row_head {w : World} {base : Nat} {v : Value} {L : List Ev} (h : Row w base v L) : (v = .slice none 0 0 ∧ L = []) ∨ ∃ g cap, v = .slice (some ⟨g, 0, none⟩) L.length cap ∧ base ≤ g ∧ g < w.heap.size ∧ L.length ≤ cap ∧ v.ownBlock = some g := by
  rcases h.2 with ⟨rfl, h0⟩ | ⟨g, cap, cur, rfl, hb, hg, hnc, hcm, hcs, htake⟩
  · exact .inl ⟨rfl, List.eq_nil_of_length_eq_zero h0⟩
  · exact .inr ⟨g, cap, rfl, hb, (Array.getElem?_eq_some_iff.1 hg).1, hnc, rfl⟩
theorem delf_none (base : Nat) (L : List Ev) (ao : Option Addr) (n c : Nat) (k B : Nat) (F : Dt → Option Value) (w : World) (hR : Row w base (.slice ao n c) L) (hE : Evs w ao n c L) (hL : n ≤ 1000) (hc : Thr w k B F) (hb : base ≤ w.heap.size) (hno : ∀ u ∈ L, bad F u = false) :
    Calls Try.prog 26 #[.slice ao n c, .func (.func 27) #[] #[.pointer (some ⟨k, 0, none⟩)]] w fun e w' => ∃ v', e = .returned v' ∧ Row w' base v' (L.filter fun u => !bad F u) ∧ Below base w w' := by
  have HR : Aside (Row w base (.slice ao n c) (L.filter fun u => !bad F u)) := by
    show Row _ _ _ _
    rw [List.filter_eq_self.2 (fun v hv => by rw [hno v hv]; rfl)]
    exact hR
  have hlen := hE.len
  have HN : Hid (∀ u ∈ L, bad F u = false) := hno
  clear hR hno
  go_enter Try.func26, Try.ntmps26
  go_wp2_with fail
  refine (idxf_any ao n c L k B F w hE hc hL).mono ?_
  rintro e w1 ⟨i, rfl, HI, hb1⟩
  have hi : i = -1 := by
    rcases HI.out with ⟨h, -⟩ | ⟨j, hj, -, -, u, hu, hb⟩
    · exact h
    · rw [HN.out u (List.mem_of_getElem? hu)] at hb
      cases hb
  subst hi
  have HF : Hid (Row w1 base (.slice ao n c) (L.filter fun u => !bad F u) ∧ Below base w w1) := ⟨HR.out.below hb1 (Nat.le_refl _), hb1.mono hb⟩
  clear HI HN HR hE hc hb1
  go_wp2
  go_ret
  exact ⟨_, rfl, HF.out⟩
set_option maxHeartbeats 1000000 in
theorem delf_some (base : Nat) (L : List Ev) (g n cap : Nat) (k B : Nat) (F : Dt → Option Value) (w : World) (hR : Row w base (.slice (some ⟨g, 0, none⟩) n cap) L) (hE : Evs w (some ⟨g, 0, none⟩) n cap L) (hL : n ≤ 1000) (hcap : n ≤ cap) (hc : Thr w k B F) (hb : base ≤ g) (hg : g < w.heap.size) (hkg : k ≠ g ∧ B ≠ g) (hyes : ¬ ∀ u ∈ L, bad F u = false) :
    Calls Try.prog 26 #[.slice (some ⟨g, 0, none⟩) n cap, .func (.func 27) #[] #[.pointer (some ⟨k, 0, none⟩)]] w fun e w' => ∃ v', e = .returned v' ∧ Row w' base v' (L.filter fun u => !bad F u) ∧ Below base w w' := by
  have hlen := hE.len
  have HN : Hid (¬ ∀ u ∈ L, bad F u = false) := hyes
  have HR : Hid (Row w base (.slice (some ⟨g, 0, none⟩) n cap) L) := hR
  have HK : Hid ((k ≠ g ∧ B ≠ g) ∧ base ≤ g ∧ g < w.heap.size) := ⟨hkg, hb, hg⟩
  have HW : Hid (∀ e ∈ L, Wide e) := hE.wide
  have HC : Hid (Thr w k B F) := hc
  clear hR hyes hkg
  go_enter Try.func26, Try.ntmps26
  go_wp2_with fail
  refine (idxf_any _ n cap L k B F w hE hc hL).mono ?_
  rintro e w1 ⟨i, rfl, HI, hb1⟩
  obtain ⟨i0, hi0, rfl, h1, u0, hu0, hbad0⟩ : ∃ j : Nat, j < n ∧ i = (j : Int) ∧ (∀ u ∈ L.take j, bad F u = false) ∧ ∃ u, L[j]? = some u ∧ bad F u = true := by
    rcases HI.out with ⟨-, h⟩ | h
    · exact absurd h HN.out
    · exact h
  have H0 : Aside (Row w1 base (.slice (some ⟨g, 0, none⟩) n cap) L ∧ Cmpd F L L i0 (i0 + 1) ∧ (∀ e ∈ L, Wide e) ∧ Below base w w1 ∧ Thr w1 k B F) :=
    ⟨HR.out.below hb1 (Nat.le_refl _), Cmpd.start h1 hu0 hbad0, HW.out, hb1.mono (by omega), HC.out.below hb1⟩
  clear HI HN HR hE hc hb1 h1 hu0 hbad0 HC HW hb hg
  have hne : ((i0 : Int) == -1) = false := by simp
  go_wp2
  go_loopg [5, 6] n (fun kx s5 s6 wr => ∃ (i j : Nat) (R : List Ev), s5 = .int .i64 i ∧ s6 = .int .i64 j ∧ i < j ∧ j ≤ n ∧ n - j ≤ kx ∧ Aside (Row wr base (.slice (some ⟨g, 0, none⟩) n cap) R ∧ Cmpd F L R i j ∧ (∀ e ∈ R, Wide e) ∧ Below base w wr ∧ Thr wr k B F))
  case atStart => exact ⟨i0, i0 + 1, L, rfl, by go_num, by omega, by omega, by omega, H0⟩
  case round =>
    clear H0 hne
    obtain ⟨i, j, R, rfl, rfl, hij, hjn, hkx, HS⟩ := hrel
    by_cases hlt : j < n
    · have hltz : (j : Int) < (n : Int) := by omega
      have hRl : R.length = n := by rw [HS.out.2.1.len]; exact hlen
      obtain ⟨ao', c', hv', hE'⟩ := HS.out.1.evs HS.out.2.2.1
      rw [hRl] at hv' hE'
      obtain ⟨rfl, -, rfl⟩ : some ⟨g, 0, none⟩ = ao' ∧ n = n ∧ cap = c' := by simpa using hv'
      obtain ⟨b, o, u, hbo, hui, hu, hr, hbl⟩ := hE'.at hlt
      obtain ⟨rfl, rfl⟩ : g = b ∧ 0 = o := by simpa using hbo
      have hu16 := hu.1
      have hLj : L[j]? = some u := by rw [← HS.out.2.1.back j (Nat.le_refl _)]; exact hui
      have hix := fun W : World => index_ev W (b := g) (off := 0) (k := j) (m := n) (c := cap) hlt
      simp only [Nat.zero_add] at hix hr
      have hz := liesE_new wr zv
      have hE1 : LiesE ((wr.alloc (.cells (evc zv) 41)).setRow wr.heap.size (evc u)) wr.heap.size u := hz.row u
      have hB1 : Below wr.heap.size wr ((wr.alloc (.cells (evc zv) 41)).setRow wr.heap.size (evc u)) := below_setRow ((Below.refl _ _).alloc (Nat.le_refl _) _) (Nat.le_refl _) _
      have hgw : g < wr.heap.size := hbl
      have HS1 : Aside (Row ((wr.alloc (.cells (evc zv) 41)).setRow wr.heap.size (evc u)) base (.slice (some ⟨g, 0, none⟩) n cap) R ∧ Cmpd F L R i j ∧ (∀ e ∈ R, Wide e) ∧ Below base w ((wr.alloc (.cells (evc zv) 41)).setRow wr.heap.size (evc u)) ∧ Thr ((wr.alloc (.cells (evc zv) 41)).setRow wr.heap.size (evc u)) k B F ∧ LiesE ((wr.alloc (.cells (evc zv) 41)).setRow wr.heap.size (evc u)) wr.heap.size u) :=
        ⟨HS.out.1.below hB1 (Nat.le_refl _), HS.out.2.1, HS.out.2.2.1, HS.out.2.2.2.1.trans (hB1.mono (by have := HK.out.2.1; omega)), HS.out.2.2.2.2.below hB1, hE1⟩
      clear hB1 hE' hv' hbo
      go_upto_region 8 with (first | refine load_ev_mid rfl rfl rfl hr hu16 ?_ | refine store_ev rfl rfl rfl rfl hz hu16 rfl ?_)
      change Code.wp _ _ _ _ ((wr.alloc (.cells (evc zv) 41)).setRow wr.heap.size (evc u))
      clear hE1 hz hr hix HS hbl
      generalize (wr.alloc (.cells (evc zv) 41)).setRow wr.heap.size (evc u) = W at HS1 ⊢
      have hgD : Hid (g ≠ wr.heap.size ∧ g < wr.heap.size) := ⟨by omega, hgw⟩
      clear hgw
      generalize wr.heap.size = D at *
      have hE1 := HS1.out.2.2.2.2.2
      go_wp2_with (refine load_ev rfl rfl rfl hE1 hu16 ?_)
      refine (notin_any u hu.1 k B F W HS1.out.2.2.2.2.1).mono ?_
      rintro e w2 ⟨rfl, hb2⟩
      have hE2 : LiesE w2 D u := hE1.below hb2 hE1.lt
      have HS2 : Aside (Row w2 base (.slice (some ⟨g, 0, none⟩) n cap) R ∧ Cmpd F L R i j ∧ (∀ e ∈ R, Wide e) ∧ Below base w w2 ∧ Thr w2 k B F) :=
        ⟨HS1.out.1.below hb2 (Nat.le_refl _), HS1.out.2.1, HS1.out.2.2.1, HS1.out.2.2.2.1.trans (hb2.mono (by have := HK.out; have := hgD.out; have := hE1.lt; omega)), HS1.out.2.2.2.2.1.below hb2⟩
      rcases Bool.eq_false_or_eq_true (bad F u) with hp | hp
      · have hp' : (bad F u) = true := hp
        have HS3 : Aside (Row w2 base (.slice (some ⟨g, 0, none⟩) n cap) R ∧ Cmpd F L R i (j + 1) ∧ (∀ e ∈ R, Wide e) ∧ Below base w w2 ∧ Thr w2 k B F) := ⟨HS2.out.1, HS2.out.2.1.drop hLj hp, HS2.out.2.2⟩
        rw [hp']
        clear hp hp' HS1 HS2 hE1 hE2 hb2 hLj hui
        go_wp2
        go_roundg (n - (j + 1))
        case measure => omega
        case rel => exact ⟨i, j + 1, R, rfl, by go_num, by omega, by omega, Nat.le_refl _, HS3⟩
      · have hp' : (bad F u) = false := hp
        have hin : i < n := by omega
        have hinz : (i : Int) < (n : Int) := by omega
        have hth := row_there HS2.out.1 hRl hin
        have hix := fun W : World => index_ev W (b := g) (off := 0) (k := i) (m := n) (c := cap) hin
        simp only [Nat.zero_add] at hix
        have HS3 : Aside (Row (w2.setCells g (i * 26) (evl u)) base (.slice (some ⟨g, 0, none⟩) n cap) (R.set i u) ∧ Cmpd F L (R.set i u) (i + 1) (j + 1) ∧ (∀ e ∈ R.set i u, Wide e) ∧ Below base w (w2.setCells g (i * 26) (evl u)) ∧ Thr (w2.setCells g (i * 26) (evl u)) k B F) :=
          ⟨row_put HS2.out.1 hRl HS2.out.2.2.1 hu, HS2.out.2.1.keep (by omega) hLj hp, HS2.out.2.1.wide HS2.out.2.2.1 hu, below_put HK.out.2.1 _ _ _ HS2.out.2.2.2.1, HS2.out.2.2.2.2.put HK.out.1 _ _⟩
        rw [hp']
        clear hp hp' HS1 HS2 hE1 hb2 hLj hui
        go_wp2_with (first | refine load_ev rfl rfl rfl hE2 hu16 ?_ | refine store_ev_at hu16 rfl rfl rfl rfl hth ?_)
        go_roundg (n - (j + 1))
        case measure => omega
        case rel => exact ⟨i + 1, j + 1, R.set i u, by go_num, by go_num, by omega, by omega, Nat.le_refl _, HS3⟩
    · obtain rfl : j = n := by omega
      have hRl : R.length = j := by rw [HS.out.2.1.len]; exact hlen
      have hin : i ≤ cap := by omega
      have hinz : (i : Int) < (j : Int) := by omega
      have hcl := clear_any HS.out.1 hRl hij
      have hs1 := fun W : World => slice_own W (g := g) hij hcap
      have hs2 := fun W : World => slice_at W (ao := some ⟨g, 0, none⟩) (m := j) hin
      have HF : Hid (Row (wr.setCells g (i * 26) (Builtin.zeroCells (evc zv) (j - i)).toList) base (.slice (some ⟨g, 0, none⟩) i cap) (L.filter fun u => !bad F u) ∧ Below base w (wr.setCells g (i * 26) (Builtin.zeroCells (evc zv) (j - i)).toList)) :=
        ⟨by rw [← HS.out.2.1.all (by omega)]; exact row_cut HS.out.1 hRl HS.out.2.2.1 (by omega), below_put HK.out.2.1 _ _ _ HS.out.2.2.2.1⟩
      clear HS
      go_wp2
      go_ret
      exact ⟨_, rfl, HF.out⟩
theorem delf_any (base : Nat) (v : Value) (L : List Ev) (k B : Nat) (F : Dt → Option Value) (w : World) (hR : Row w base v L) (hW : ∀ e ∈ L, Wide e) (hL : L.length ≤ 1000) (hc : Thr w k B F) (hb : base ≤ w.heap.size) (hk : ∀ g, v.ownBlock = some g → k ≠ g ∧ B ≠ g) :
    Calls Try.prog 26 #[v, .func (.func 27) #[] #[.pointer (some ⟨k, 0, none⟩)]] w fun e w' => ∃ v', e = .returned v' ∧ Row w' base v' (L.filter fun u => !bad F u) ∧ Below base w w' := by
  obtain ⟨ao, c, rfl, hE⟩ := hR.evs hW
  by_cases hno : ∀ u ∈ L, bad F u = false
  · exact delf_none base L ao _ c k B F w hR hE hL hc hb hno
  · rcases row_head hR with ⟨-, rfl⟩ | ⟨g, cap, hv, hbg, hgw, hlc, ho⟩
    · exact absurd (fun u hu => by cases hu) hno
    · obtain ⟨rfl, rfl⟩ : ao = some ⟨g, 0, none⟩ ∧ c = cap := by simpa using hv
      exact delf_some base L g _ c k B F w hR hE hL hlc hc hbg hgw (hk g ho) hno
end Go.Proofs.Ytagjgamigldjnaa
