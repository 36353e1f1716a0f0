/-
  What sort.Search by parentOf's closure comes to, and parentOf.
-/
import Derived.Test.YtagjgamigldjnaaGk
import Derived.Test.YtagjgamigldjnaaLun
namespace Go.Proofs.Ytagjgamigldjnaa
set_option maxRecDepth 100000
open Go.Shelf Go.RowKit Go.Lib Go.Sort

theorem block_lt_of_cell {w : World} {ad : Addr} {v : Value} (h : w.cell? ad = some v) : ad.block < w.heap.size := World.block_lt_of_cell? w _ h
set_option maxHeartbeats 4000000 in
theorem isear_any (e : Ev) (he16 : e.deps.length = 16) (N : List Ev) (ao : Option Addr) (m c : Nat) (L : List Nat) (ap : Option Addr) (q cp ge gn gp i : Nat) (w : World) (hE1 : LiesE w ge e) (hcn : w.cell? ⟨gn, 0, none⟩ = some (.slice ao m c)) (hcp : w.cell? ⟨gp, 0, none⟩ = some (.slice ap q cp))
    (hE : Evs w ao m c N) (hL : IV w ap q cp L) (hi : i < q) (hlt : ∀ n ∈ L, n < m) :
    Calls Try.prog 41 #[.int .i64 (i : Int), .pointer (some ⟨ge, 0, none⟩), .pointer (some ⟨gn, 0, none⟩), .pointer (some ⟨gp, 0, none⟩)] w fun e' w' => e' = .returned (.bool (laterE e (atN N (L.getD i 0)))) ∧ Below w.heap.size w w' := by
  obtain ⟨b2, off2, n, rfl, hni, hcl, -⟩ := hL.at hi
  have hnm : n < m := hlt n (List.mem_of_getElem? hni)
  obtain ⟨b, off, u, rfl, hui, hu, hru, hbl⟩ := hE.at hnm
  have hans : Hid (laterE e (atN N (L.getD i 0)) = laterE e u) := by show _ = _; rw [List.getD_eq_getElem?_getD, hni, Option.getD_some, atN_get hui]
  clear hE hL hni hui hlt
  go_enter Try.func41, Try.ntmps41
  go_wp2_with fail
  refine region_vals [6, 7, 8, 9, 10, 11, 12, 13, 14, 5] [.agg (evc e), .slice (some ⟨b, off, none⟩) m c, .slice (some ⟨b2, off2, none⟩) q cp, .int .i64 (i : Int), .pointer (some ⟨b2, off2 + i, none⟩), .int .i64 (n : Int), .pointer (some ⟨b, off + n * 26, none⟩), .agg (evc u), .bool (laterE e u), .bool (laterE e u)] _ (by kernel_rfl) (by kernel_rfl) (by rfl) (by decide) (by kernel_rfl) (by simp only [lay, Act.put, List.setIfInBounds_toArray, List.set_cons_zero, List.set_cons_succ, List.getD_cons_zero, List.getD_cons_succ, Nat.reduceAdd]; rfl) ⟨?_, ?_, ?_, ?_, ?_, ?_, ?_, ?_, ?_, ?_, trivial⟩ ?_
  · exact .inl ⟨rfl, fun W hb => yields_load rfl rfl (load_ev_run (hE1.below hb hE1.lt) he16)⟩
  · exact .inl ⟨rfl, fun W hb => yields_load rfl rfl (load_sl ((hb.cell (block_lt_of_cell hcn)).trans hcn))⟩
  · exact .inl ⟨rfl, fun W hb => yields_load rfl rfl (load_sli ((hb.cell (block_lt_of_cell hcp)).trans hcp))⟩
  · exact .inl ⟨rfl, fun W hb => yields_move rfl rfl⟩
  · exact .inl ⟨rfl, fun W hb => yields_indexAddr rfl rfl rfl (index_i W hi)⟩
  · exact .inl ⟨rfl, fun W hb => yields_load rfl rfl (load_i ((hb.cell (block_lt_of_cell hcl)).trans hcl))⟩
  · exact .inl ⟨rfl, fun W hb => yields_indexAddr rfl rfl rfl (index_ev W hnm)⟩
  · exact .inl ⟨rfl, fun W hb => yields_load rfl rfl (load_part (range_below hru hb hbl) hu.1)⟩
  · exact .inl ⟨rfl, fun W hb => yields_call (xs := [.tmp 6, .tmp 13]) (vs := [.agg (evc e), .agg (evc u)]) rfl rfl (enters_later _ _) (later_any e u W)⟩
  · exact .inl ⟨rfl, fun W hb => yields_assign rfl rfl⟩
  intro W1 hb1
  have HB : Hid (Below w.heap.size w W1) := hb1
  clear hb1 hE1 hcn hcp hru hcl
  go_wp2
  go_ret
  exact ⟨by rw [hans.out]; rfl, HB.out⟩
theorem half_i (i j : Nat) : ((i : Int) + (j : Int)) / 2 = (((i + j) / 2 : Nat) : Int) := by omega
theorem isear_enters : ∀ args w, (callFunc 41 args).run Try.prog w = .ok (.enter 41 args) w := enters_of Try.func41 (by kernel_rfl) rfl
set_option maxHeartbeats 4000000 in
theorem search_any (n : Nat) (hn : n ≤ 1000) (c1 c2 c3 : Value) (p : Nat → Bool) (mono : ∀ i j, i ≤ j → j < n → p i = true → p j = true) (w : World)
    (hcl : ∀ i, i < n → ∀ W, Below w.heap.size w W → Calls Try.prog 41 #[.int .i64 (i : Int), c1, c2, c3] W fun e w' => e = .returned (.bool (p i)) ∧ Below W.heap.size W w') :
    Calls Try.prog 40 #[.int .i64 (n : Int), .func (.func 41) #[] #[c1, c2, c3]] w fun e w' => ∃ k : Nat, e = .returned (.int .i64 (k : Int)) ∧ k ≤ n ∧ (∀ j, j < k → p j = false) ∧ (k < n → p k = true) ∧ Below w.heap.size w w' := by
  have HC : Hid (∀ i, i < n → ∀ W, Below w.heap.size w W → Calls Try.prog 41 #[.int .i64 (i : Int), c1, c2, c3] W fun e w' => e = .returned (.bool (p i)) ∧ Below W.heap.size W w') := hcl
  have HM : Hid (∀ i j, i ≤ j → j < n → p i = true → p j = true) := mono
  clear hcl mono
  go_enter Try.func40, Try.ntmps40
  go_wp2
  go_loopg [5, 6] n (fun kx s5 s6 wr => ∃ i j : Nat, s5 = .int .i64 i ∧ s6 = .int .i64 j ∧ i ≤ j ∧ j ≤ n ∧ j - i ≤ kx ∧ Aside ((∀ t, t < i → p t = false) ∧ (j < n → p j = true) ∧ Below w.heap.size w wr))
  case atStart => exact ⟨0, n, rfl, rfl, Nat.zero_le _, Nat.le_refl _, by omega, (fun t ht => by omega), (fun h => by omega), Below.refl _ _⟩
  case round =>
    obtain ⟨i, j, rfl, rfl, hij, hjn, hkx, HS⟩ := hrel
    by_cases hlt : i < j
    · have hltz : (i : Int) < (j : Int) := by omega
      obtain ⟨h, hh⟩ : ∃ h, (i + j) / 2 = h := ⟨_, rfl⟩
      have ez : ((i : Int) + (j : Int)) / 2 = (h : Int) := by rw [half_i, hh]
      have h1 : i ≤ h := by omega
      have h2 : h < j := by omega
      clear hh
      have HC1 : Hid _ := HC.out h (by omega) wr HS.out.2.2
      cases hp : p h with
      | true =>
        rw [hp] at HC1
        go_wp2_with fail
        refine Calls.mono HC1.out ?_
        rintro e w1 ⟨rfl, hb1⟩
        have HS1 : Aside ((∀ t, t < i → p t = false) ∧ (h < n → p h = true) ∧ Below w.heap.size w w1) := ⟨HS.out.1, fun _ => hp, HS.out.2.2.trans (hb1.mono HS.out.2.2.size)⟩
        clear hb1 HS HC1
        go_wp2
        go_roundg (h - i)
        case measure => omega
        case rel => exact ⟨i, h, rfl, rfl, h1, by omega, Nat.le_refl _, HS1⟩
      | false =>
        rw [hp] at HC1
        go_wp2_with fail
        refine Calls.mono HC1.out ?_
        rintro e w1 ⟨rfl, hb1⟩
        have HS1 : Aside ((∀ t, t < h + 1 → p t = false) ∧ (j < n → p j = true) ∧ Below w.heap.size w w1) := ⟨fun t ht => (by
          cases ht2 : p t
          · rfl
          · rw [HM.out t h (by omega) (by omega) ht2] at hp; cases hp), HS.out.2.1, HS.out.2.2.trans (hb1.mono HS.out.2.2.size)⟩
        clear hb1 HS HC1
        go_wp2
        go_roundg (j - (h + 1))
        case measure => omega
        case rel => exact ⟨h + 1, j, by go_num, rfl, by omega, hjn, Nat.le_refl _, HS1⟩
    · obtain rfl : i = j := by omega
      have hltz : ¬ (i : Int) < (i : Int) := by omega
      go_wp2
      go_ret
      exact ⟨i, rfl, hjn, HS.out⟩
/-- The places of the nodes of a dot, as far as they can be a parent's. -/
structure Plc (N : List Ev) (k : Nat) (d : Dt) (L : List Nat) : Prop where
  lt : ∀ n ∈ L, n < k
  dot : ∀ n ∈ L, (atN N n).r = d.1 ∧ (atN N n).n = d.2
  fall : L.Pairwise (fun a b => a < b ∧ laterE (atN N a) (atN N b) = true)
  all : ∀ j, j < k → (atN N j).r = d.1 → (atN N j).n = d.2 → ∃ n ∈ L, n ≤ j ∧ laterE (atN N n) (atN N j) = false
def pz : Option Nat → Int
  | none => -1
  | some k => (k : Int)
theorem can_iff {e x : Ev} : canPar e x = true ↔ (x.r = e.rr ∧ x.n = e.rn) ∧ laterE e x = true := by
  unfold canPar
  rw [Bool.and_eq_true, decide_eq_true_eq]
theorem Plc.par {N : List Ev} {e : Ev} {L : List Nat} (h : Plc N N.length (e.rr, e.rn) L) (hr : noRef e = false) {k : Nat} (hk : k ≤ L.length) (h1 : ∀ j, j < k → laterE e (atN N (L.getD j 0)) = false) (h2 : k < L.length → laterE e (atN N (L.getD k 0)) = true) :
    parI N e = if k < L.length then some (L.getD k 0) else none := by
  have get : ∀ j (hj : j < L.length), L.getD j 0 = L[j] := fun j hj => by rw [List.getD_eq_getElem?_getD, List.getElem?_eq_getElem hj]; rfl
  have no : ∀ j, j < N.length → canPar e (atN N j) = true → ∃ t, ∃ ht : t < L.length, L[t] ≤ j ∧ laterE e (atN N L[t]) = true := fun j hj hc => by
    obtain ⟨⟨c1, c2⟩, c3⟩ := can_iff.1 hc
    obtain ⟨n, hn, hnj, hl⟩ := h.all j hj c1 c2
    obtain ⟨t, ht, rfl⟩ := List.mem_iff_getElem.1 hn
    exact ⟨t, ht, hnj, swo_lt_le (lt := fun a b => laterE a b) ⟨fun x => lat_self x, fun x y z => lat_tr, fun x y z => later_ntrans⟩ c3 hl⟩
  by_cases hkl : k < L.length
  · rw [if_pos hkl, get k hkl]
    have hm : L[k] ∈ L := List.getElem_mem hkl
    refine par_is hr (h.lt _ hm) (can_iff.2 ⟨h.dot _ hm, by have := h2 hkl; rwa [get k hkl] at this⟩) (fun j hj => ?_)
    cases hc : canPar e (atN N j)
    · rfl
    · obtain ⟨t, ht, htj, hl⟩ := no j (Nat.lt_trans hj (h.lt _ hm)) hc
      have htk : t < k := by
        rcases Nat.lt_or_ge t k with h5 | h5
        · exact h5
        · rcases Nat.eq_or_lt_of_le h5 with h6 | h6
          · subst h6; omega
          · have := (List.pairwise_iff_getElem.1 h.fall k t hkl ht h6).1
            omega
      have := h1 t htk
      rw [get t ht, hl] at this
      cases this
  · rw [if_neg hkl]
    refine par_no (.inr fun j hj => ?_)
    cases hc : canPar e (atN N j)
    · rfl
    · obtain ⟨t, ht, htj, hl⟩ := no j hj hc
      have := h1 t (by omega)
      rw [get t ht, hl] at this
      cases this
theorem wpl_exK {ops : Array Oper} {rest : List Oper} {o : Oper} {a : Act} {w : World} {Q : Exit → Act → World → Prop} {v : Value} (hw : Region.wanted o (yielded ops a.tmps) = true) (he : (execOp a.eval o).run Try.prog w = .ok (.value v) w)
    (h : wpList Try.prog ops Q rest (a.put o.dst v) w) : wpList Try.prog ops Q (o :: rest) a w :=
  wpList_step fun K hK => by
    rw [if_pos hw]
    unfold Oper.wp
    rw [he, Oper.upon_value]
    exact hK _ _ h
theorem isear_pred (e : Ev) (he16 : e.deps.length = 16) (N : List Ev) (ao : Option Addr) (m c : Nat) (L : List Nat) (ap : Option Addr) (q cp ge gn gp : Nat) (w : World) (hE1 : LiesE w ge e) (hcn : w.cell? ⟨gn, 0, none⟩ = some (.slice ao m c)) (hcp : w.cell? ⟨gp, 0, none⟩ = some (.slice ap q cp))
    (hE : Evs w ao m c N) (hL : IV w ap q cp L) (hlt : ∀ n ∈ L, n < m) (hf : L.Pairwise (fun a b => a < b ∧ laterE (atN N a) (atN N b) = true)) (hq : q ≤ 1000) :
    Calls Try.prog 40 #[.int .i64 (q : Int), .func (.func 41) #[] #[.pointer (some ⟨ge, 0, none⟩), .pointer (some ⟨gn, 0, none⟩), .pointer (some ⟨gp, 0, none⟩)]] w fun e' w' => ∃ k : Nat, e' = .returned (.int .i64 (k : Int)) ∧ k ≤ q ∧ (∀ j, j < k → laterE e (atN N (L.getD j 0)) = false) ∧ (k < q → laterE e (atN N (L.getD k 0)) = true) ∧ Below w.heap.size w w' := by
  have hl := hL.len
  refine search_any q hq _ _ _ (fun j => laterE e (atN N (L.getD j 0))) (fun i j hij hj hp => ?_) w (fun i hi W hb => isear_any e he16 N ao m c L ap q cp ge gn gp i W (hE1.below hb hE1.lt) ((hb.cell (block_lt_of_cell hcn)).trans hcn) ((hb.cell (block_lt_of_cell hcp)).trans hcp) (hE.below hb (Nat.le_refl _)) (hL.below hb (Nat.le_refl _)) hi hlt)
  rcases Nat.eq_or_lt_of_le hij with h1 | h1
  · rw [← h1]; exact hp
  · have hj' : j < L.length := by omega
    have hi' : i < L.length := by omega
    have := (List.pairwise_iff_getElem.1 hf i j hi' hj' h1).2
    simp only [List.getD_eq_getElem?_getD, List.getElem?_eq_getElem hi', List.getElem?_eq_getElem hj', Option.getD_some] at hp ⊢
    exact lat_tr hp this
set_option maxHeartbeats 4000000 in
theorem parentof_any (e : Ev) (he : Wide e) (N : List Ev) (ao : Option Addr) (m c : Nat) (L : List Nat) (ap : Option Addr) (q cp : Nat) (w : World) (hE : Evs w ao m c N) (hL : IV w ap q cp L) (hP : Plc N N.length (e.rr, e.rn) L) (hq : q ≤ 1000) :
    Calls Try.prog 31 #[.agg (evc e), .slice ao m c, .slice ap q cp] w fun e' w' => e' = .returned (.int .i64 (pz (parI N e))) ∧ Below w.heap.size w w' := by
  have he16 := he.1
  have hlen := hE.len
  have hql := hL.len
  obtain ⟨W, hW⟩ : ∃ W, ((w.alloc (.cells (evc e) 41)).alloc (.cells #[.slice ao m c] 22)).alloc (.cells #[.slice ap q cp] 50) = W := ⟨_, rfl⟩
  have hB : Below w.heap.size w W := by rw [← hW]; exact (((Below.refl _ _).alloc (Nat.le_refl _) _).alloc (by simp) _).alloc (by simp; omega) _
  have hE1 : LiesE W w.heap.size e := by rw [← hW]; exact ((liesE_new w e).alloc _).alloc _
  have hcn : W.cell? ⟨w.heap.size + 1, 0, none⟩ = some (.slice ao m c) := by
    have h1 := cell_of_one (heap_alloc_new (w.alloc (.cells (evc e) 41)) (.cells #[.slice ao m c] 22))
    have h2 := (((Below.refl _ _).alloc (Nat.le_refl _) (.cells #[.slice ap q cp] 50) : Below _ ((w.alloc (.cells (evc e) 41)).alloc (.cells #[.slice ao m c] 22)) _).cell (block_lt_of_cell h1)).trans h1
    rw [hW] at h2
    simpa using h2
  have hcp : W.cell? ⟨w.heap.size + 1 + 1, 0, none⟩ = some (.slice ap q cp) := by
    have := cell_of_one (heap_alloc_new ((w.alloc (.cells (evc e) 41)).alloc (.cells #[.slice ao m c] 22)) (.cells #[.slice ap q cp] 50))
    rw [hW] at this
    simpa using this
  have hrf := hE1.ref he16
  have HE : Aside (Evs W ao m c N) := hE.below hB (Nat.le_refl _)
  have HL : Aside (IV W ap q cp L) := hL.below hB (Nat.le_refl _)
  have HB : Hid (Below w.heap.size w W) := hB
  have HP : Hid (Plc N N.length (e.rr, e.rn) L) := hP
  clear hE hL hB hP
  by_cases hr : e.rr = 0 ∧ e.rn = 0
  · have HA : Hid (parI N e = none) := par_no (.inl (by unfold noRef; exact decide_eq_true hr))
    have hq2 : Hid (decide (e.rr = 0 ∧ e.rn = 0) = true) := decide_eq_true hr
    clear hr
    go_enter Try.func31, Try.ntmps31
    go_wp2_with (first | rw [hW] | refine load_dot_at rfl rfl rfl hrf ?_ | refine wpl_exK rfl (exec_bin rfl rfl rfl (eqGuard_dt W e.rr e.rn 0 0) (eql_dt W hq2.out)) ?_)
    go_ret
    exact ⟨by rw [HA.out]; rfl, HB.out⟩
  · have hq2 : decide (e.rr = 0 ∧ e.rn = 0) = false := decide_eq_false hr
    have HA : Hid (∀ k, k ≤ L.length → (∀ j, j < k → laterE e (atN N (L.getD j 0)) = false) → (k < L.length → laterE e (atN N (L.getD k 0)) = true) → parI N e = if k < L.length then some (L.getD k 0) else none) := fun k => HP.out.par (by unfold noRef; exact decide_eq_false hr)
    have HC : Hid _ := isear_pred e he16 N ao m c L ap q cp w.heap.size (w.heap.size + 1) (w.heap.size + 1 + 1) W hE1 hcn hcp HE.out HL.out (fun n hn => by have := HP.out.lt n hn; omega) HP.out.fall hq
    clear HE HP hr
    go_enter Try.func31, Try.ntmps31
    go_wp2_with (first | rw [hW] | refine load_dot_at rfl rfl rfl hrf ?_ | refine wpl_exK rfl (exec_bin rfl rfl rfl (eqGuard_dt W e.rr e.rn 0 0) (eql_dt W hq2)) ?_)
    refine Calls.mono HC.out ?_
    rintro e' w1 ⟨k, rfl, hk, h1, h2, hb1⟩
    have hp := HA.out k (by omega) h1 (fun h => h2 (by omega))
    have HP2 : Hid (parI N e = if k < L.length then some (L.getD k 0) else none) := hp
    have hcp1 : w1.cell? ⟨w.heap.size + 1 + 1, 0, none⟩ = some (.slice ap q cp) := (hb1.cell (block_lt_of_cell hcp)).trans hcp
    have HL1 : Aside (IV w1 ap q cp L) := HL.out.below hb1 (Nat.le_refl _)
    have HB1 : Hid (Below w.heap.size w w1) := HB.out.trans (hb1.mono HB.out.size)
    clear hp h1 h2 hb1 HL HC HA HB hcp hcn hrf hE1
    by_cases hkq : k = q
    · have hkz : (k : Int) = (q : Int) := by omega
      go_wp2
      go_ret
      exact ⟨by rw [HP2.out, if_neg (by omega)]; rfl, HB1.out⟩
    · have hkz : ¬ (k : Int) = (q : Int) := by omega
      have hkq2 : k < q := by omega
      obtain ⟨b2, off2, n, rfl, hni, hcl, -⟩ := HL1.out.at hkq2
      have hix := fun W : World => index_i W (b := b2) (off := off2) (k := k) (m := q) (c := cp) hkq2
      go_wp2
      go_ret
      exact ⟨by rw [HP2.out, if_pos (by omega), List.getD_eq_getElem?_getD, hni]; rfl, HB1.out⟩
end Go.Proofs.Ytagjgamigldjnaa
