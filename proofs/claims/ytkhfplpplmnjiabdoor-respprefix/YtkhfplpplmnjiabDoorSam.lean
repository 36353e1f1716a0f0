/-
  What the reference's Same comes to, of any two lists of lists of texts.
-/
import Derived.Test.YtkhfplpplmnjiabDoorAll
namespace Go.Proofs.YtkhfplpplmnjiabDoor
set_option maxRecDepth 100000
open Go.RowKit

/-- A list of texts, read. -/
structure Txc (w : World) (ao : Option Addr) (S : List ByteArray) : Prop where
  none : ao = none → S = []
  cells : ∀ ad, ao = some ad → ∀ j s, S[j]? = some s → w.cell? (ad.add j) = some (.string s)
/-- A list of lists of texts, read. -/
structure Css (w : World) (ao : Option Addr) (L : List (List ByteArray)) : Prop where
  none : ao = none → L = []
  cells : ∀ ad, ao = some ad → ∀ j S, L[j]? = some S → ∃ ao' c', w.cell? (ad.add j) = some (.slice ao' S.length c') ∧ Txc w ao' S
theorem Txc.below {w w' : World} {ao : Option Addr} {S : List ByteArray} {B : Nat} (h : Txc w ao S) (hb : Below B w w') (hB : w.heap.size ≤ B) : Txc w' ao S :=
  ⟨h.none, fun ad had j s hj => by
    have hc := h.cells ad had j s hj
    rw [hb.cell (Nat.lt_of_lt_of_le (World.block_lt_of_cell? w _ hc) hB)]
    exact hc⟩
theorem Css.below {w w' : World} {ao : Option Addr} {L : List (List ByteArray)} {B : Nat} (h : Css w ao L) (hb : Below B w w') (hB : w.heap.size ≤ B) : Css w' ao L :=
  ⟨h.none, fun ad had j s hj => by
    obtain ⟨ao', c', hc, ht⟩ := h.cells ad had j s hj
    refine ⟨ao', c', ?_, ht.below hb hB⟩
    rw [hb.cell (Nat.lt_of_lt_of_le (World.block_lt_of_cell? w _ hc) hB)]
    exact hc⟩
theorem spot_none {w : World} {b off : Nat} {spot : Option Nat} {v : Value} (h : w.cell? ((⟨b, off, spot⟩ : Addr).add 0) = some v) : spot = none := by
  simpa [Addr.add] using World.cell?_spot h
theorem Txc.norm {w : World} {ao : Option Addr} {S : List ByteArray} (h : Txc w ao S) (h0 : 0 < S.length) : ∃ b off, ao = some ⟨b, off, .none⟩ ∧ ∀ j, j < S.length → w.cell? ⟨b, off + j, .none⟩ = some (.string (S.getD j ByteArray.empty)) := by
  cases ao with
  | none => rw [h.none rfl] at h0; simp at h0
  | some ad =>
    obtain ⟨b, off, spot⟩ := ad
    have hg : ∀ j, j < S.length → w.cell? ((⟨b, off, spot⟩ : Addr).add j) = some (.string (S.getD j ByteArray.empty)) := fun j hj => h.cells _ rfl j _ (by simp [List.getD, hj])
    have hs := spot_none (hg 0 h0)
    subst hs
    exact ⟨b, off, rfl, fun j hj => by have := hg j hj; rwa [Addr.add_lit] at this⟩
theorem Css.norm {w : World} {ao : Option Addr} {L : List (List ByteArray)} (h : Css w ao L) (h0 : 0 < L.length) : ∃ b off, ao = some ⟨b, off, .none⟩ ∧ ∀ j, j < L.length → ∃ ao' c', w.cell? ⟨b, off + j, .none⟩ = some (.slice ao' (L.getD j []).length c') ∧ Txc w ao' (L.getD j []) := by
  cases ao with
  | none => rw [h.none rfl] at h0; simp at h0
  | some ad =>
    obtain ⟨b, off, spot⟩ := ad
    have hg : ∀ j, j < L.length → ∃ ao' c', w.cell? ((⟨b, off, spot⟩ : Addr).add j) = some (.slice ao' (L.getD j []).length c') ∧ Txc w ao' (L.getD j []) := fun j hj => h.cells _ rfl j _ (by simp [List.getD, hj])
    obtain ⟨_, _, hc, -⟩ := hg 0 h0
    have hs := spot_none hc
    subst hs
    exact ⟨b, off, rfl, fun j hj => by have := hg j hj; rwa [Addr.add_lit] at this⟩
theorem OwnT.txc {w : World} {base : Nat} {v : Value} {S : List ByteArray} (h : OwnT w base v S) : ∃ ao c, v = .slice ao S.length c ∧ Txc w ao S := by
  rcases h.2 with ⟨rfl, h0⟩ | ⟨g, cap, cur, rfl, _⟩
  · have : S = [] := List.eq_nil_of_length_eq_zero h0
    subst this
    exact ⟨none, 0, rfl, fun _ => rfl, fun _ h => by cases h⟩
  · refine ⟨_, _, rfl, (fun h => by cases h), fun ad had j s hj => ?_⟩
    obtain rfl := Option.some.inj had
    exact World.ownsRow.cells h rfl j _ (by rw [List.getElem?_map, hj]; rfl)
theorem Cmds.css {w : World} {base : Nat} {v : Value} {L : List (List ByteArray)} (h : Cmds w base v L) : ∃ ao c, v = .slice ao L.length c ∧ c ≤ maxLen ∧ L.length ≤ c ∧ Css w ao L := by
  obtain ⟨xs, h1, h2⟩ := h
  rcases h1.2 with ⟨rfl, h0⟩ | ⟨g, cap, cur, hv, _, _, hnc, hcm, _⟩
  · have : L = [] := List.eq_nil_of_length_eq_zero h0
    subst this
    exact ⟨none, 0, rfl, Nat.zero_le _, Nat.le_refl _, fun _ => rfl, fun _ h => by cases h⟩
  · subst hv
    refine ⟨_, _, rfl, hcm, hnc, (fun h => by cases h), fun ad had j S hj => ?_⟩
    obtain rfl := Option.some.inj had
    obtain ⟨x, h3, h4⟩ := h2 j S hj
    obtain ⟨ao, c, rfl, h5⟩ := h4.txc
    exact ⟨ao, c, h1.cells rfl j _ h3, h5⟩
theorem Txts.txc {w : World} {ao : Option Addr} {m c : Nat} {S : List ByteArray} (h : Txts w ao m c S) : Txc w ao S :=
  ⟨fun hn => List.eq_nil_of_length_eq_zero (h.len.trans (h.none hn).1), h.cells⟩

theorem texts_differ {a b : ByteArray} (h : a ≠ b) : (a.toList == b.toList) = false := by
  rw [ByteArray.toList_eq, ByteArray.toList_eq, beq_eq_false_iff_ne]
  intro e
  exact h (by rw [← tx_data a, ← tx_data b, e])
theorem lists_differ {α : Type} {L M : List α} (i : Nat) (d : α) (h : L.getD i d ≠ M.getD i d) : L ≠ M := fun e => h (by rw [e])
theorem take_next {α : Type} (L M : List α) (i : Nat) (d : α) (h : L.take i = M.take i) (hi : i < L.length) (hl : L.length = M.length) (he : L.getD i d = M.getD i d) : L.take (i + 1) = M.take (i + 1) := by
  have hm : i < M.length := by omega
  rw [List.take_succ_eq_append_getElem hi, List.take_succ_eq_append_getElem hm, h]
  simp [List.getD, hi, hm] at he
  rw [he]
theorem take_all {α : Type} (L M : List α) (h : L.take L.length = M.take L.length) (hl : L.length = M.length) : L = M := by
  rw [List.take_length, hl, List.take_length] at h; exact h

set_option maxHeartbeats 4000000 in
theorem same_any (ao1 : Option Addr) (c1 : Nat) (L1 : List (List ByteArray)) (ao2 : Option Addr) (c2 : Nat) (L2 : List (List ByteArray)) (w : World) (h1 : Css w ao1 L1) (h2 : Css w ao2 L2) (hm1 : L1.length ≤ 1048576) (hm2 : L2.length ≤ 1048576) (hs1 : ∀ S ∈ L1, S.length ≤ 1048576) (hs2 : ∀ S ∈ L2, S.length ≤ 1048576) :
    Calls Tryd.prog 8 #[.slice ao1 L1.length c1, .slice ao2 L2.length c2] w fun e w' => e = .returned (.bool (decide (L1 = L2))) ∧ Below w.heap.size w w' := by
  obtain ⟨m1, e1⟩ : ∃ m1, m1 = L1.length := ⟨_, rfl⟩
  obtain ⟨m2, e2⟩ : ∃ m2, m2 = L2.length := ⟨_, rfl⟩
  rw [← e1] at hm1
  rw [← e2] at hm2
  have no : ∀ {L M : List (List ByteArray)}, L ≠ M → decide (L = M) = false := fun h => decide_eq_false h
  by_cases hne : L1.length = L2.length
  · have hmm : m1 = m2 := by omega
    subst hmm
    rw [← e1, ← hne, ← e1]
    have hmm' : ((m1 : Int) == (m1 : Int)) = true := by rw [beq_self_eq_true]
    have Em : Hid (m1 = L1.length ∧ m1 = L2.length) := ⟨e1, e2⟩
    clear e1 e2 hne hm2
    go_enter Tryd.func8, Tryd.ntmps8
    go_wp2_with fail
    go_loopw [14] (fun i wr => ∃ k : Nat, k ≤ m1 ∧ i = .int .i64 (k : Int) ∧ Hid (L1.take k = L2.take k) ∧ Below w.heap.size w wr) (fun i _ => m1 - (intOf i).toNat)
    case atStart => exact ⟨0, Nat.zero_le _, rfl, by rw [Hid, List.take_zero, List.take_zero], Below.refl _ _⟩
    case round =>
      obtain ⟨k, hk, rfl, HR, hbel⟩ := hrel
      by_cases hlt : k < m1
      · have k1 : k < L1.length := by have := Em.out.1; omega
        have k2 : k < L2.length := by have := Em.out.2; omega
        have h1r := h1.below hbel (Nat.le_refl _)
        have h2r := h2.below hbel (Nat.le_refl _)
        obtain ⟨b1, off1, rfl, hcs1⟩ := h1r.norm (by omega)
        obtain ⟨b2, off2, rfl, hcs2⟩ := h2r.norm (by omega)
        obtain ⟨ao3, c3, hc1, ht1⟩ := hcs1 k k1
        obtain ⟨ao4, c4, hc2, ht2⟩ := hcs2 k k2
        have hl1 : (L1.getD k []).length ≤ 1048576 := hs1 _ (by simp [List.getD, k1])
        have hl2 : (L2.getD k []).length ≤ 1048576 := hs2 _ (by simp [List.getD, k2])
        have HN : Hid (L1.getD k [] = L2.getD k [] → L1.take (k + 1) = L2.take (k + 1)) := fun he => take_next L1 L2 k [] HR.out k1 (Em.out.1.symm.trans Em.out.2) he
        have HD : Hid (L1.getD k [] ≠ L2.getD k [] → decide (L1 = L2) = false) := fun he => no (lists_differ k [] he)
        clear h1r h2r hcs1 hcs2 k1 k2 hs1 hs2 h1 h2
        generalize L1.getD k [] = S1 at *
        generalize L2.getD k [] = S2 at *
        obtain ⟨n1, en1⟩ : ∃ n1, n1 = S1.length := ⟨_, rfl⟩
        obtain ⟨n2, en2⟩ : ∃ n2, n2 = S2.length := ⟨_, rfl⟩
        rw [← en1] at hc1 hl1
        rw [← en2] at hc2 hl2
        by_cases hn : n1 = n2
        · subst hn
          have hnn : ((n1 : Int) == (n1 : Int)) = true := by rw [beq_self_eq_true]
          have En : Hid (n1 = S1.length ∧ n1 = S2.length) := ⟨en1, en2⟩
          clear en1 en2 hl2
          go_wp2_with fail
          go_quiet (fail)
          go_wp2_with fail
          have hbq := hbel.trans ((drawn wr nq).mono hbel.size)
          have ht1q := ht1.below (drawn wr nq) (Nat.le_refl _)
          have ht2q := ht2.below (drawn wr nq) (Nat.le_refl _)
          have c1q : ∀ w', Below (wr.drewN nq).heap.size (wr.drewN nq) w' → w'.cell? ⟨b1, off1 + k, none⟩ = some (.slice ao3 n1 c3) := fun w' hb' => by
            rw [hb'.cell (World.block_lt_of_cell? wr _ hc1)]; exact hc1
          have c2q : ∀ w', Below (wr.drewN nq).heap.size (wr.drewN nq) w' → w'.cell? ⟨b2, off2 + k, none⟩ = some (.slice ao4 n1 c4) := fun w' hb' => by
            rw [hb'.cell (World.block_lt_of_cell? wr _ hc2)]; exact hc2
          have c1q : Hid _ := c1q
          have c2q : Hid _ := c2q
          clear hc1 hc2 ht1 ht2
          generalize wr.drewN nq = wq at *
          go_loopw [33] (fun i wi => ∃ j : Nat, j ≤ n1 ∧ i = .int .i64 (j : Int) ∧ Hid (S1.take j = S2.take j) ∧ Below wq.heap.size wq wi) (fun i _ => n1 - (intOf i).toNat)
          case atStart => exact ⟨0, Nat.zero_le _, rfl, by rw [Hid, List.take_zero, List.take_zero], Below.refl _ _⟩
          case round =>
            obtain ⟨j, hj, rfl, HJ, hbj⟩ := hrel
            have hb0j := hbq.trans (hbj.mono hbq.size)
            by_cases hjl : j < n1
            · have j1 : j < S1.length := by have := En.out.1; omega
              have j2 : j < S2.length := by have := En.out.2; omega
              obtain ⟨b3, off3, rfl, hcs1⟩ := (ht1q.below hbj (Nat.le_refl _)).norm (by omega)
              obtain ⟨b4, off4, rfl, hcs2⟩ := (ht2q.below hbj (Nat.le_refl _)).norm (by omega)
              have hc1 := hcs1 j j1
              have hc2 := hcs2 j j2
              have hd1 := c1q.out _ hbj
              have hd2 := c2q.out _ hbj
              have HN2 : Hid (S1.getD j ByteArray.empty = S2.getD j ByteArray.empty → S1.take (j + 1) = S2.take (j + 1)) := fun he => take_next S1 S2 j ByteArray.empty HJ.out j1 (En.out.1.symm.trans En.out.2) he
              have HD2 : Hid (S1.getD j ByteArray.empty ≠ S2.getD j ByteArray.empty → decide (L1 = L2) = false) := fun he => HD.out (lists_differ j _ he)
              clear hcs1 hcs2 j1 j2 ht1q ht2q
              generalize S1.getD j ByteArray.empty = t1 at *
              generalize S2.getD j ByteArray.empty = t2 at *
              by_cases he : t1 = t2
              · subst he
                have HT := HN2.out rfl
                have HT : Hid _ := HT
                clear HN2 HD2
                go_wp2_with fail
                go_quiet (fail)
                go_wp2
                go_roundw
                case rel => exact ⟨j + 1, by omega, by go_num, HT.out, hbj.trans ((drawn _ _).mono hbj.size)⟩
                case measure => simp [intOf]; omega
              · have hx := texts_differ he
                go_wp2_with fail
                go_quiet (fail)
                go_wp2
                go_ret
                rw [HD2.out he]
                exact ⟨rfl, hb0j.trans ((drawn _ _).mono hb0j.size)⟩
            · have he : S1 = S2 := take_all S1 S2 (by rw [← En.out.1, ← (show j = n1 by omega)]; exact HJ.out) (En.out.1.symm.trans En.out.2)
              have HT := HN.out he
              clear ht1q ht2q
              go_wp2
              go_roundw
              case rel => exact ⟨k + 1, by omega, by go_num, HT, hb0j⟩
              case measure => simp [intOf]; omega
        · have hnn : ((n1 : Int) == (n2 : Int)) = false := by rw [beq_eq_false_iff_ne]; omega
          have hDd := HD.out (fun e => hn (by rw [en1, en2, e]))
          clear en1 en2 ht1 ht2
          go_wp2_with fail
          go_quiet (fail)
          go_wp2
          go_ret
          rw [hDd]
          exact ⟨rfl, hbel.trans ((drawn wr nq).mono hbel.size)⟩
      · have he : L1 = L2 := take_all L1 L2 (by rw [← Em.out.1, ← (show k = m1 by omega)]; exact HR.out) (Em.out.1.symm.trans Em.out.2)
        have hd : decide (L1 = L2) = true := decide_eq_true he
        have hd : Hid _ := hd
        clear h1 h2
        go_wp2
        go_ret
        rw [hd.out]
        exact ⟨rfl, hbel⟩
  · rw [no (fun e => hne (by rw [e])), ← e1, ← e2]
    have hmm' : ((m1 : Int) == (m2 : Int)) = false := by rw [beq_eq_false_iff_ne]; omega
    clear e1 e2 hne h1 h2
    go_enter Tryd.func8, Tryd.ntmps8
    go_wp2
    go_ret
    exact ⟨rfl, Below.refl _ _⟩
end Go.Proofs.YtkhfplpplmnjiabDoor
