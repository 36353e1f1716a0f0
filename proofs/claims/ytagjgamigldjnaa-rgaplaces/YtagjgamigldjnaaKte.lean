/-
  What the recursive closure of Order comes to, and Order.
-/
import Derived.Test.YtagjgamigldjnaaKhg
import Derived.Test.YtagjgamigldjnaaGd
namespace Go.Proofs.Ytagjgamigldjnaa
set_option maxRecDepth 100000
open Go.RowKit

theorem wp_exK {o : Oper} {a : Act} {w : World} {K : Act → World → Prop} {Q : Exit → Act → World → Prop} {v : Value} (he : (execOp a.eval o).run Try.prog w = .ok (.value v) w) (h : K (a.put o.dst v) w) : o.wp Try.prog a w K Q := by
  unfold Oper.wp
  rw [he, Oper.upon_value]
  exact h
theorem List.append_assoc_cons {α : Type} (A : List α) (x : α) (B : List α) : A ++ [x] ++ B = A ++ x :: B := by simp
theorem store_sl {w : World} {g : Nat} {v0 v : Value} {t : TypeId} (h : w.heap[g]? = some (.cells #[v0] t (0, 0))) (hv : ∃ ao m c, v = .slice ao m c) : (Instr.storeAt 22 (.pointer (some ⟨g, 0, none⟩)) v).run Try.prog w = .ok () (w.setCell ⟨g, 0, none⟩ v) := by
  obtain ⟨ao, m, c, rfl⟩ := hv
  have hc := cell_of_one h
  have hf := free_of_one h
  have ha := Try.isAgg22 w
  go_simp
/-- The world of the closure's: wA the world behind hangingOn's result was laid, then the list's cell, then the closure's. -/
structure Tel (wA : World) (tv : Value) (W : World) (E : List Ev) : Prop where
  low : Below wA.heap.size wA W
  tel : W.heap[wA.heap.size + 1]? = some (.cells #[tv] 49 (0, 0))
  size : wA.heap.size + 2 ≤ W.heap.size
  all : ∃ v, W.heap[wA.heap.size]? = some (.cells #[v] 22 (0, 0)) ∧ Row W (wA.heap.size + 2) v E
theorem len_flat (f : Nat → List Nat) : ∀ K : List Nat, K.length ≤ (K.flatMap fun i => i :: f i).length
  | [] => Nat.le_refl _
  | x :: K => by
    have := len_flat f K
    rw [List.flatMap_cons, List.length_append, List.length_cons, List.length_cons]
    omega
theorem Row.keptK {w w' : World} {base : Nat} {v : Value} {E : List Ev} (h : Row w base v E) (hk : ∀ k, v.ownBlock = some k → w'.heap[k]? = w.heap[k]?) : Row w' base v E := by
  refine ⟨h.1, ?_⟩
  rcases h.2 with hn | ⟨g, cap, cur, rfl, hbg, hg, rest⟩
  · exact .inl hn
  · exact .inr ⟨g, cap, cur, rfl, hbg, by rw [hk g rfl]; exact hg, rest⟩
theorem Row.shape {w : World} {base : Nat} {v : Value} {E : List Ev} (h : Row w base v E) : ∃ ao m c, v = .slice ao m c := by
  rcases h.2 with ⟨rfl, -⟩ | ⟨g, cap, cur, rfl, -⟩
  · exact ⟨_, _, _, rfl⟩
  · exact ⟨_, _, _, rfl⟩
set_option maxHeartbeats 8000000 in
theorem tell_step (N : List Ev) (ao : Option Addr) (m c gh gn B base : Nat) (f : Int → Option Value) (G : Int → List Nat) (wA : World) (hE : Evs wA ao m c N) (hcn : wA.cell? ⟨gn, 0, none⟩ = some (.slice ao m c)) (hch : wA.cell? ⟨gh, 0, none⟩ = some (.map (some B))) (hG : Gri iv wA B base f G) (hK : ∀ p, G (pz p) = kidsI N p)
    (tv : Value) (htv : tv = .func (.func 22) #[] #[.pointer (some ⟨gh, 0, none⟩), .pointer (some ⟨wA.heap.size, 0, none⟩), .pointer (some ⟨gn, 0, none⟩), .pointer (some ⟨wA.heap.size + 1, 0, none⟩)])
    (n : Nat) (p : Option Nat) (W : World) (E : List Ev) (hT : Tel wA tv W E) (hbn : E.length + (treeI N (n + 1) p).length ≤ 100000)
    (ih : ∀ i, i ∈ kidsI N p → ∀ W E, Tel wA tv W E → E.length + (treeI N n (some i)).length ≤ 100000 → Calls Try.prog 22 #[.int .i64 (i : Int), .pointer (some ⟨gh, 0, none⟩), .pointer (some ⟨wA.heap.size, 0, none⟩), .pointer (some ⟨gn, 0, none⟩), .pointer (some ⟨wA.heap.size + 1, 0, none⟩)] W fun e w' => e = .returned (.tuple #[]) ∧ Tel wA tv w' (E ++ (treeI N n (some i)).map (atN N))) :
    Calls Try.prog 22 #[.int .i64 (pz p), .pointer (some ⟨gh, 0, none⟩), .pointer (some ⟨wA.heap.size, 0, none⟩), .pointer (some ⟨gn, 0, none⟩), .pointer (some ⟨wA.heap.size + 1, 0, none⟩)] W fun e w' => e = .returned (.tuple #[]) ∧ Tel wA tv w' (E ++ (treeI N (n + 1) p).map (atN N)) := by
  have hlen := hE.len
  have hgnl : gn < wA.heap.size := block_lt_of_cell hcn
  have hchW : W.cell? ⟨gh, 0, none⟩ = some (.map (some B)) := (hT.low.cell (block_lt_of_cell hch)).trans hch
  have hlk := (hG.below hT.low (Nat.le_refl _)).look keyInt mapI (pz p)
  obtain ⟨a2, c2, hv0, hIV⟩ := (hG.rows (pz p)).iv
  rw [hv0] at hlk
  rw [hK p] at hIV hlk
  obtain ⟨q, hq⟩ : ∃ q, (kidsI N p).length = q := ⟨_, rfl⟩
  rw [hq] at hIV hlk
  have HQ : Hid ((kidsI N p).length = q) := hq
  have HIV : Aside (IV wA a2 q c2 (kidsI N p)) := hIV
  have HE : Aside (Evs wA ao m c N) := hE
  have IH : Hid (∀ i, i ∈ kidsI N p → ∀ W E, Tel wA tv W E → E.length + (treeI N n (some i)).length ≤ 100000 → Calls Try.prog 22 #[.int .i64 (i : Int), .pointer (some ⟨gh, 0, none⟩), .pointer (some ⟨wA.heap.size, 0, none⟩), .pointer (some ⟨gn, 0, none⟩), .pointer (some ⟨wA.heap.size + 1, 0, none⟩)] W fun e w' => e = .returned (.tuple #[]) ∧ Tel wA tv w' (E ++ (treeI N n (some i)).map (atN N))) := ih
  have H0 : Aside (Tel wA tv W (E ++ (treeTo N n (kidsI N p) 0).map (atN N))) := by rw [treeTo_zero, List.map_nil, List.append_nil]; exact hT
  have hqm : q ≤ 100000 := by
    have h2 : (kidsI N p).length ≤ (treeI N (n + 1) p).length := len_flat _ _
    omega
  have HBN : Hid (E.length + (treeI N (n + 1) p).length ≤ 100000) := hbn
  clear hT hIV hv0 hq ih hG hK hE hbn
  subst htv
  go_enter Try.func22, Try.ntmps22
  go_wp2_with (refine wpl_exK rfl (exec_lookupK rfl rfl rfl hlk) ?_)
  clear hlk hchW
  go_loopg [12] q (fun kx s12 wr => ∃ t : Nat, s12 = .int .i64 t ∧ t ≤ q ∧ q - t ≤ kx ∧ Aside (Tel wA (.func (.func 22) #[] #[.pointer (some ⟨gh, 0, none⟩), .pointer (some ⟨wA.heap.size, 0, none⟩), .pointer (some ⟨gn, 0, none⟩), .pointer (some ⟨wA.heap.size + 1, 0, none⟩)]) wr (E ++ (treeTo N n (kidsI N p) t).map (atN N))))
  case atStart => exact ⟨0, rfl, Nat.zero_le _, by omega, H0⟩
  case round =>
    clear H0
    obtain ⟨t, rfl, htq, hkx, HS⟩ := hrel
    by_cases hlt : t < q
    · have hltz : (t : Int) < (q : Int) := by omega
      obtain ⟨b2, off2, i, rfl, hni, hcl0, hb2⟩ := HIV.out.at hlt
      have HKi : Hid (i ∈ kidsI N p) := List.mem_of_getElem? hni
      have HKi2 : Hid ((kidsI N p)[t]? = some i) := hni
      have hcl := (HS.out.low.cell (block_lt_of_cell hcl0)).trans hcl0
      have hixi := fun W : World => index_i W (b := b2) (off := off2) (k := t) (m := q) (c := c2) hlt
      have him : i < m := by have := (mem_kids.1 HKi.out).1; omega
      obtain ⟨b, off, u, rfl, hui, hu, hru, hbl⟩ := HE.out.at him
      have hu16 := hu.1
      have HU : Hid (atN N i = u) := atN_get hui
      obtain ⟨v, hva, hrow⟩ := HS.out.all
      have hll := treeTo_le (N := N) (n := n) (p := p) (t + 1)
      rw [treeTo_succ hni, List.length_append, List.length_cons] at hll
      have hbn := HBN.out
      have hEl : (E ++ (treeTo N n (kidsI N p) t).map (atN N)).length = E.length + (treeTo N n (kidsI N p) t).length := by rw [List.length_append, List.length_map]
      have hszW := HS.out.size
      clear hni hcl0 hui
      go_upto_region 3 with (fail)
      have hS0 : Below wA.heap.size wA wr.drew := HS.out.low.drew
      have hva0 : wr.drew.heap[wA.heap.size]? = some (.cells #[v] 22 (0, 0)) := hva
      have hca : wr.drew.cell? ⟨wA.heap.size, 0, none⟩ = some v := cell_of_one hva0
      have hBA : Below wr.drew.heap.size wr.drew (wr.drew.alloc (.cells (evc u) 41)) := (Below.refl _ _).alloc (Nat.le_refl _) _
      have hS3 : Below wA.heap.size wA (wr.drew.alloc (.cells (evc u) 41)) := hS0.trans (hBA.mono hS0.size)
      have hca3 : (wr.drew.alloc (.cells (evc u) 41)).cell? ⟨wA.heap.size, 0, none⟩ = some v := (hBA.cell (block_lt_of_cell hca)).trans hca
      have hRow3 : Row (wr.drew.alloc (.cells (evc u) 41)) (wA.heap.size + 2) v (E ++ (treeTo N n (kidsI N p) t).map (atN N)) := Row.below (w := wr.drew) hrow hBA (Nat.le_refl _)
      have hF : Evs (wr.drew.alloc (.cells (evc u) 41)) (some ⟨wr.drew.heap.size, 0, none⟩) 1 1 [u] := evs_single _ _ u hu (liesE_new wr.drew u)
      obtain ⟨v4, w4, hr4, hR4, hg4, ho4⟩ := run_appE (w := wr.drew.alloc (.cells (evc u) 41)) 22 (wA.heap.size + 2) v _ hRow3 _ 1 1 [u] hF (by omega) (by simp; omega)
      have hlow : ∀ k, k < wA.heap.size + 2 → w4.heap[k]? = wr.heap[k]? := fun k hk => (hg4.block k (by simp; have : wr.heap.size = wr.drew.heap.size := rfl; omega) (fun e => by have := (hRow3.lt k e.symm).1; omega)).trans (hBA.block k (by have : wr.heap.size = wr.drew.heap.size := rfl; omega))
      have hS4 : Below wA.heap.size wA w4 := hS3.grown hg4 hS3.size (fun k hk => by have := (hRow3.lt k hk).1; omega)
      have hva4 : w4.heap[wA.heap.size]? = some (.cells #[v] 22 (0, 0)) := (hlow _ (by omega)).trans hva
      have hr5 := store_sl (v := v4) hva4 hR4.shape
      have hoth : ∀ k, k ≠ wA.heap.size → (w4.setCell ⟨wA.heap.size, 0, none⟩ v4).heap[k]? = w4.heap[k]? := fun k hk => heap_setCell_other w4 ⟨wA.heap.size, 0, none⟩ k _ hk
      have hS5 : Below wA.heap.size wA (w4.setCell ⟨wA.heap.size, 0, none⟩ v4) := ⟨hS4.os, hS4.tape, hS4.output, by rw [World.size_setCell]; exact hS4.size, fun k hk => (hoth k (by omega)).trans (hS4.block k hk)⟩
      have HS4 : Aside (Tel wA (.func (.func 22) #[] #[.pointer (some ⟨gh, 0, none⟩), .pointer (some ⟨wA.heap.size, 0, none⟩), .pointer (some ⟨gn, 0, none⟩), .pointer (some ⟨wA.heap.size + 1, 0, none⟩)]) (w4.setCell ⟨wA.heap.size, 0, none⟩ v4) (E ++ (treeTo N n (kidsI N p) t).map (atN N) ++ [u])) := by
        refine ⟨hS5, (hoth _ (by omega)).trans ((hlow _ (by omega)).trans HS.out.tel), ?_, v4, one_setCell hva4, ?_⟩
        · rw [World.size_setCell]
          have h1 := hg4.size
          simp at h1
          have : wr.heap.size = wr.drew.heap.size := rfl
          omega
        · exact Row.keptK hR4 (fun k hk => hoth k (by have := (hR4.lt k hk).1; omega))
      have HBN2 : Hid ((E ++ (treeTo N n (kidsI N p) t).map (atN N) ++ [u]).length + (treeI N n (some i)).length ≤ 100000) := by show _ ≤ _; rw [List.length_append, hEl]; simp; omega
      clear hRow3 hF hR4 hg4 ho4 hlow hva4 hva0 hva hrow hBA HS hoth hszW hll hbn hEl hixi hcl
      refine wp_region_noPanic ?_
      refine wp_region_held_drew (S := fun W' : World => Below wA.heap.size wA W') (by kernel_rfl) hS0 (fun hHeld => ?_)
      refine wpAnyH_take (i := 1) (oi := { dst := some 17, op := _, type := _, pos := _, after := _, guard := _ }) (v := .slice (some ⟨b, off, none⟩) m c) rfl (by kernel_rfl) (by kernel_rfl) (by kernel_rfl) (fun _ _ _ h => h) (Or.inl ⟨by rfl, ?_⟩) (by assumption) ?_
      · intro w9 hSw
        exact exec_load (ad := ⟨gn, 0, none⟩) rfl rfl (load_sl ((hSw.cell hgnl).trans hcn))
      simp only [Act.put, List.setIfInBounds_toArray, List.set_cons_zero, List.set_cons_succ]
      refine wpAnyH_take (i := 2) (oi := { dst := some 18, op := _, type := _, pos := _, after := _, guard := _ }) (v := .int .i64 (i : Int)) rfl (by kernel_rfl) (by kernel_rfl) (by kernel_rfl) (fun _ _ _ h => h) (Or.inl ⟨by rfl, ?_⟩) (by assumption) ?_
      · intro w9 hSw
        exact exec_move rfl rfl
      simp only [Act.put, List.setIfInBounds_toArray, List.set_cons_zero, List.set_cons_succ]
      refine wpAnyH_take (i := 3) (oi := { dst := some 19, op := _, type := _, pos := _, after := _, guard := _ }) (v := .pointer (some ⟨b, off + i * 26, none⟩)) rfl (by kernel_rfl) (by kernel_rfl) (by kernel_rfl) (fun _ _ _ h => h) (Or.inl ⟨by rfl, ?_⟩) (by assumption) ?_
      · intro w9 hSw
        exact exec_index rfl rfl rfl (index_ev _ him)
      simp only [Act.put, List.setIfInBounds_toArray, List.set_cons_zero, List.set_cons_succ]
      refine wpAnyH_take (i := 4) (oi := { dst := some 20, op := _, type := _, pos := _, after := _, guard := _ }) (v := .agg (evc u)) rfl (by kernel_rfl) (by kernel_rfl) (by kernel_rfl) (fun _ _ _ h => h) (Or.inl ⟨by rfl, ?_⟩) (by assumption) ?_
      · intro w9 hSw
        exact exec_load (ad := ⟨b, off + i * 26, none⟩) rfl rfl (load_part (range_below hru hSw hbl) hu16)
      simp only [Act.put, List.setIfInBounds_toArray, List.set_cons_zero, List.set_cons_succ]
      clear hHeld
      refine wpAnyH_ready (rs := [0, 5]) (by kernel_rfl) (by simp) ?_
      refine AllReadyH.cons (o := { dst := some 16, op := _, type := _, pos := _, after := _, guard := _ }) rfl (fun K hK => ?_) ?_
      · rw [if_pos (by rfl)]
        refine wp_exK (exec_load (ad := ⟨wA.heap.size, 0, none⟩) rfl rfl (load_sl hca)) ?_
        refine hK.out _ _ hS0 (fun hHeld => ?_)
        clear hK K
        simp only [Act.put, List.setIfInBounds_toArray, List.set_cons_zero, List.set_cons_succ]
        refine wpAnyH_ready (rs := [5]) (by kernel_rfl) (by simp) ?_
        refine AllReadyH.cons (o := { dst := some 21, op := _, type := _, pos := _, after := _, guard := _ }) rfl (fun K hK => ?_) AllReadyH.nil
        rw [if_pos (by rfl)]
        refine wp_buildK rfl rfl (run_build1 _ u hu16) ?_
        refine hK.out _ _ hS3 (fun hHeld => ?_)
        clear hK K
        simp only [Act.put, List.setIfInBounds_toArray, List.set_cons_zero, List.set_cons_succ]
        refine wpAnyH_ready (rs := [6]) (by kernel_rfl) (by simp) ?_
        refine AllReadyH.cons (o := { dst := some 22, op := _, type := _, pos := _, after := _, guard := _ }) rfl (fun K hK => ?_) AllReadyH.nil
        rw [if_pos (by rfl)]
        refine wp_appK rfl rfl rfl hr4 ?_
        refine hK.out _ _ hS4 (fun hHeld => ?_)
        clear hK K
        simp only [Act.put, List.setIfInBounds_toArray, List.set_cons_zero, List.set_cons_succ]
        refine wpAnyH_ready (rs := [7]) (by kernel_rfl) (by simp) ?_
        refine AllReadyH.cons (o := { dst := none, op := _, type := _, pos := _, after := _, guard := _ }) rfl (fun K hK => ?_) AllReadyH.nil
        rw [if_pos (by rfl)]
        refine wp_storeK rfl rfl rfl hr5 ?_
        refine hK.out _ _ hS5 (fun hHeld => ?_)
        clear hK K
        simp only [Act.put]
        refine wpAnyH_done (by kernel_rfl) ?_ _
        refine NoPanic.normal ?_
        clear hHeld
        clear hS0 hS3 hS4 hS5 hr4 hr5 hca hca3
        generalize w4.setCell ⟨wA.heap.size, 0, none⟩ v4 = W5 at HS4 ⊢
        have hct := cell_of_one HS4.out.tel
        go_wp2_with fail
        refine (IH.out i HKi.out W5 _ HS4.out HBN2.out).mono ?_
        rintro e w6 ⟨rfl, hT6⟩
        have HS6 : Aside (Tel wA (.func (.func 22) #[] #[.pointer (some ⟨gh, 0, none⟩), .pointer (some ⟨wA.heap.size, 0, none⟩), .pointer (some ⟨gn, 0, none⟩), .pointer (some ⟨wA.heap.size + 1, 0, none⟩)]) w6 (E ++ (treeTo N n (kidsI N p) (t + 1)).map (atN N))) := by
          rw [treeTo_succ HKi2.out, List.map_append, ← List.append_assoc, List.map_cons, HU.out, ← List.append_assoc_cons]
          exact hT6
        clear hT6 HS4 hct
        go_wp2
        go_roundg (q - (t + 1))
        case measure => omega
        case rel => exact ⟨t + 1, by go_num, by omega, Nat.le_refl _, HS6⟩
      refine AllReadyH.cons (o := { dst := some 21, op := _, type := _, pos := _, after := _, guard := _ }) rfl (fun K hK => ?_) AllReadyH.nil
      rw [if_pos (by rfl)]
      refine wp_buildK rfl rfl (run_build1 _ u hu16) ?_
      refine hK.out _ _ hS3 (fun hHeld => ?_)
      clear hK K
      simp only [Act.put, List.setIfInBounds_toArray, List.set_cons_zero, List.set_cons_succ]
      refine wpAnyH_ready (rs := [0]) (by kernel_rfl) (by simp) ?_
      refine AllReadyH.cons (o := { dst := some 16, op := _, type := _, pos := _, after := _, guard := _ }) rfl (fun K hK => ?_) AllReadyH.nil
      rw [if_pos (by rfl)]
      refine wp_exK (exec_load (ad := ⟨wA.heap.size, 0, none⟩) rfl rfl (load_sl hca3)) ?_
      refine hK.out _ _ hS3 (fun hHeld => ?_)
      clear hK K
      simp only [Act.put, List.setIfInBounds_toArray, List.set_cons_zero, List.set_cons_succ]
      refine wpAnyH_ready (rs := [6]) (by kernel_rfl) (by simp) ?_
      refine AllReadyH.cons (o := { dst := some 22, op := _, type := _, pos := _, after := _, guard := _ }) rfl (fun K hK => ?_) AllReadyH.nil
      rw [if_pos (by rfl)]
      refine wp_appK rfl rfl rfl hr4 ?_
      refine hK.out _ _ hS4 (fun hHeld => ?_)
      clear hK K
      simp only [Act.put, List.setIfInBounds_toArray, List.set_cons_zero, List.set_cons_succ]
      refine wpAnyH_ready (rs := [7]) (by kernel_rfl) (by simp) ?_
      refine AllReadyH.cons (o := { dst := none, op := _, type := _, pos := _, after := _, guard := _ }) rfl (fun K hK => ?_) AllReadyH.nil
      rw [if_pos (by rfl)]
      refine wp_storeK rfl rfl rfl hr5 ?_
      refine hK.out _ _ hS5 (fun hHeld => ?_)
      clear hK K
      simp only [Act.put]
      refine wpAnyH_done (by kernel_rfl) ?_ _
      refine NoPanic.normal ?_
      clear hHeld
      clear hS0 hS3 hS4 hS5 hr4 hr5 hca hca3
      generalize w4.setCell ⟨wA.heap.size, 0, none⟩ v4 = W5 at HS4 ⊢
      have hct := cell_of_one HS4.out.tel
      go_wp2_with fail
      refine (IH.out i HKi.out W5 _ HS4.out HBN2.out).mono ?_
      rintro e w6 ⟨rfl, hT6⟩
      have HS6 : Aside (Tel wA (.func (.func 22) #[] #[.pointer (some ⟨gh, 0, none⟩), .pointer (some ⟨wA.heap.size, 0, none⟩), .pointer (some ⟨gn, 0, none⟩), .pointer (some ⟨wA.heap.size + 1, 0, none⟩)]) w6 (E ++ (treeTo N n (kidsI N p) (t + 1)).map (atN N))) := by
        rw [treeTo_succ HKi2.out, List.map_append, ← List.append_assoc, List.map_cons, HU.out, ← List.append_assoc_cons]
        exact hT6
      clear hT6 HS4 hct
      go_wp2
      go_roundg (q - (t + 1))
      case measure => omega
      case rel => exact ⟨t + 1, by go_num, by omega, Nat.le_refl _, HS6⟩
    · obtain rfl : t = q := by omega
      have hltz : ¬ (t : Int) < (t : Int) := by omega
      have HF : Hid (Tel wA (.func (.func 22) #[] #[.pointer (some ⟨gh, 0, none⟩), .pointer (some ⟨wA.heap.size, 0, none⟩), .pointer (some ⟨gn, 0, none⟩), .pointer (some ⟨wA.heap.size + 1, 0, none⟩)]) wr (E ++ (treeI N (n + 1) p).map (atN N))) := by
        have := HS.out
        rw [treeTo_all (by rw [HQ.out]; exact Nat.le_refl _)] at this
        exact this
      clear HS
      go_wp2
      go_end0
      exact ⟨rfl, HF.out⟩
theorem tell_any (N : List Ev) (ao : Option Addr) (m c gh gn B base : Nat) (f : Int → Option Value) (G : Int → List Nat) (wA : World) (hE : Evs wA ao m c N) (hcn : wA.cell? ⟨gn, 0, none⟩ = some (.slice ao m c)) (hch : wA.cell? ⟨gh, 0, none⟩ = some (.map (some B))) (hG : Gri iv wA B base f G) (hK : ∀ p, G (pz p) = kidsI N p) (tv : Value) (htv : tv = .func (.func 22) #[] #[.pointer (some ⟨gh, 0, none⟩), .pointer (some ⟨wA.heap.size, 0, none⟩), .pointer (some ⟨gn, 0, none⟩), .pointer (some ⟨wA.heap.size + 1, 0, none⟩)]) :
    ∀ (n : Nat) (p : Option Nat), rk N p ≤ n → ∀ (W : World) (E : List Ev), Tel wA tv W E → E.length + (treeI N (n + 1) p).length ≤ 100000 →
    Calls Try.prog 22 #[.int .i64 (pz p), .pointer (some ⟨gh, 0, none⟩), .pointer (some ⟨wA.heap.size, 0, none⟩), .pointer (some ⟨gn, 0, none⟩), .pointer (some ⟨wA.heap.size + 1, 0, none⟩)] W fun e w' => e = .returned (.tuple #[]) ∧ Tel wA tv w' (E ++ (treeI N (n + 1) p).map (atN N))
  | 0, p, hr, W, E, hT, hb => tell_step N ao m c gh gn B base f G wA hE hcn hch hG hK tv htv 0 p W E hT hb (fun i hi => by
      have := rk_kids hi
      omega)
  | n + 1, p, hr, W, E, hT, hb => tell_step N ao m c gh gn B base f G wA hE hcn hch hG hK tv htv (n + 1) p W E hT hb (fun i hi W' E' hT' hb' =>
      tell_any N ao m c gh gn B base f G wA hE hcn hch hG hK tv htv n (some i) (by have := rk_kids hi; omega) W' E' hT' hb')
set_option maxHeartbeats 4000000 in
theorem order_any (ao : Option Addr) (m c : Nat) (E : List Ev) (key : List UInt8) (w : World) (hE : Evs w ao m c E) (hm : m ≤ 1000) :
    Calls Try.prog 14 #[.slice ao m c, .string (sb key)] w fun e w' => ∃ v, e = .returned v ∧ Row w' w.heap.size v (orderE key E) ∧ Below w.heap.size w w' := by
  have hlen := hE.len
  have hwide : Hid (∀ e ∈ nodesE key E, Wide e) := fun e he => hE.wide e (mem_nodes.1 he).1
  go_enter Try.func14, Try.ntmps14
  go_wp2_with fail
  refine (nodesof_any ao m c E key w hE hm).mono ?_
  rintro e w1 ⟨v1, rfl, hR1, hb1⟩
  obtain ⟨a1, c1, hv1, hE1⟩ := hR1.evs hwide.out
  subst hv1
  have hNl := nodes_len key E
  obtain ⟨N, hN⟩ : ∃ N, nodesE key E = N := ⟨_, rfl⟩
  rw [hN] at hE1 hNl
  have HN : Hid (nodesE key E = N) := hN
  have HB1 : Hid (Below w.heap.size w w1) := hb1
  rw [hN]
  clear hE hb1 hR1 hN hwide
  have hBn : Below w1.heap.size w1 (w1.alloc (.cells #[.slice a1 N.length c1] 22)) := (Below.refl _ _).alloc (Nat.le_refl _) _
  have hcn0 := cell_of_one (heap_alloc_new w1 (.cells #[.slice a1 N.length c1] 22))
  have HEn : Aside (Evs (w1.alloc (.cells #[.slice a1 N.length c1] 22)) a1 N.length c1 N) := hE1.below hBn (Nat.le_refl _)
  have HBn : Hid (Below w.heap.size w (w1.alloc (.cells #[.slice a1 N.length c1] 22))) := HB1.out.trans (hBn.mono HB1.out.size)
  clear hE1 hBn HB1
  go_wp2_with fail
  generalize w1.alloc (.cells #[.slice a1 N.length c1] 22) = Wn at hcn0 HEn HBn ⊢
  refine (hanging_any a1 N.length c1 N Wn HEn.out (by omega)).mono ?_
  rintro e w2 ⟨B, rfl, base, f, G, hG, hK, hb2⟩
  have hBA : Below w2.heap.size w2 (w2.alloc (.cells #[.map (some B)] 47)) := (Below.refl _ _).alloc (Nat.le_refl _) _
  have hch0 := cell_of_one (heap_alloc_new w2 (.cells #[.map (some B)] 47))
  have hcnA : (w2.alloc (.cells #[.map (some B)] 47)).cell? ⟨w1.heap.size, 0, none⟩ = some (.slice a1 N.length c1) := by
    have h1 := (hb2.cell (block_lt_of_cell hcn0)).trans hcn0
    exact (hBA.cell (block_lt_of_cell h1)).trans h1
  have HA : Aside (Evs (w2.alloc (.cells #[.map (some B)] 47)) a1 N.length c1 N ∧ Gri iv (w2.alloc (.cells #[.map (some B)] 47)) B base f G ∧ (∀ p, G (pz p) = kidsI N p) ∧ Below w.heap.size w (w2.alloc (.cells #[.map (some B)] 47))) := ⟨(HEn.out.below hb2 (Nat.le_refl _)).below hBA (Nat.le_refl _), hG.below hBA (Nat.le_refl _), hK, (HBn.out.trans (hb2.mono HBn.out.size)).trans (hBA.mono (Nat.le_trans HBn.out.size hb2.size))⟩
  clear hG hK hb2 hBA HEn HBn hcn0
  have hsA : (w2.alloc (.cells #[.map (some B)] 47)).heap.size = w2.heap.size + 1 := by simp
  obtain ⟨wA, hwA⟩ : ∃ wA, w2.alloc (.cells #[.map (some B)] 47) = wA := ⟨_, rfl⟩
  rw [hwA] at hch0 hcnA HA hsA
  obtain ⟨tv, htv⟩ : ∃ tv : Value, tv = .func (.func 22) #[] #[.pointer (some ⟨w2.heap.size, 0, none⟩), .pointer (some ⟨w2.heap.size + 1, 0, none⟩), .pointer (some ⟨w1.heap.size, 0, none⟩), .pointer (some ⟨w2.heap.size + 1 + 1, 0, none⟩)] := ⟨_, rfl⟩
  have h1 := heap_alloc_new (wA.alloc (.cells #[.slice none 0 0] 22)) (.cells #[.nilFunc] 49)
  have h2 : ((wA.alloc (.cells #[.slice none 0 0] 22)).alloc (.cells #[.nilFunc] 49)).heap[w2.heap.size + 1]? = some (.cells #[.slice none 0 0] 22 (0, 0)) := by
    have h3 := heap_alloc_new wA (.cells #[.slice none 0 0] 22)
    have h4 := ((Below.refl _ _).alloc (Nat.le_refl _) (.cells #[.nilFunc] 49) : Below _ (wA.alloc (.cells #[.slice none 0 0] 22)) _).block wA.heap.size (by simp)
    rw [← hsA]
    exact h4.trans h3
  rw [show (wA.alloc (.cells #[.slice none 0 0] 22)).heap.size = w2.heap.size + 1 + 1 by simp [hsA]] at h1
  have hst : (store ⟨w2.heap.size + 1 + 1, 0, none⟩ tv).run Try.prog ((wA.alloc (.cells #[.slice none 0 0] 22)).alloc (.cells #[.nilFunc] 49)) = .ok () (((wA.alloc (.cells #[.slice none 0 0] 22)).alloc (.cells #[.nilFunc] 49)).setCell ⟨w2.heap.size + 1 + 1, 0, none⟩ tv) := by
    rw [run_store _ _ _ _ _ (by rw [htv]; rfl), cell_of_one h1]
    simp [free_of_one h1]
  have hT : Tel wA tv ((wA.alloc (.cells #[.slice none 0 0] 22)).alloc (.cells #[tv] 49)) [] := by
    have hlow : Below wA.heap.size wA ((wA.alloc (.cells #[.slice none 0 0] 22)).alloc (.cells #[tv] 49)) := ((Below.refl _ _).alloc (Nat.le_refl _) _).alloc (by simp) _
    have h5 := heap_alloc_new (wA.alloc (.cells #[.slice none 0 0] 22)) (.cells #[tv] 49)
    have h6 := ((Below.refl _ _).alloc (Nat.le_refl _) (.cells #[tv] 49) : Below _ (wA.alloc (.cells #[.slice none 0 0] 22)) _).block wA.heap.size (by simp)
    refine ⟨hlow, ?_, by simp, _, h6.trans (heap_alloc_new wA (.cells #[.slice none 0 0] 22)), row_nil _ _⟩
    rw [show (wA.alloc (.cells #[.slice none 0 0] 22)).heap.size = wA.heap.size + 1 by simp] at h5
    exact h5
  have hcon := tell_any N a1 N.length c1 w2.heap.size w1.heap.size B base f G wA HA.out.1 hcnA hch0 HA.out.2.1 HA.out.2.2.1 tv (by rw [hsA]; exact htv) N.length none (Nat.le_refl _) _ [] hT (by show _ + (orderI N).length ≤ _; rw [order_len]; simp; omega)
  rw [hsA] at hcon
  have HC : Hid _ := hcon
  clear hcon hT h1 h2
  subst htv
  go_wp2_with (first | rw [hwA] | rw [hst])
  refine Calls.mono HC.out ?_
  rintro e w6 ⟨rfl, hT6⟩
  obtain ⟨v, hv, hrow⟩ := hT6.all
  have hcv := cell_of_one (hsA ▸ hv)
  have HF : Hid (Row w6 w.heap.size v (orderE key E) ∧ Below w.heap.size w w6) := by
    have hs1 := HA.out.2.2.2.size
    refine ⟨?_, HA.out.2.2.2.trans (hT6.low.mono hs1)⟩
    have h7 := Row.lower hrow (show w.heap.size ≤ wA.heap.size + 2 by omega)
    rw [List.nil_append] at h7
    show Row w6 w.heap.size v ((orderI (nodesE key E)).map (atN (nodesE key E)))
    rw [HN.out]
    exact h7
  clear hrow hv hT6 HC hst hcnA hch0 HA hwA
  go_wp2
  go_ret
  exact ⟨_, rfl, HF.out⟩
end Go.Proofs.Ytagjgamigldjnaa
