/-
  RespBack: commands' bytes, one behind the other, are just these commands. For every input.
-/
import Derived.Test.YtkhfplpplmnjiaaDoorFdp
import Derived.Test.YtkhfplpplmnjiaaDoorOpx
namespace Go.Proofs.YtkhfplpplmnjiaaDoor
set_option maxRecDepth 100000
open Go.RowKit Go.Sort

def dL (L : List (List ByteArray)) : List (List (List UInt8)) := L.map dl
theorem cm_dL (L : List (List ByteArray)) : cm (dL L) = L := by
  have h : ∀ S : List ByteArray, (dl S).map tx = S := fun S => by
    rw [dl, List.map_map]
    conv => rhs; rw [← List.map_id S]
    apply List.map_congr_left
    intro s _
    exact tx_data s
  rw [cm, dL, List.map_map]
  conv => rhs; rw [← List.map_id L]
  apply List.map_congr_left
  intro S _
  exact h S
def Okt (S : List ByteArray) : Prop := 1 ≤ S.length ∧ S.length ≤ 8 ∧ ∀ s ∈ S, s.size ≤ 64
theorem okt_c {S : List ByteArray} (h : Okt S) : Rs.Okc (dl S) := ⟨by rw [dl_length]; exact h.1, by rw [dl_length]; exact h.2.1, fun s hs => by
  obtain ⟨x, hx, rfl⟩ := List.mem_map.1 hs
  rw [lsize]; exact h.2.2 x hx⟩
theorem okt_few {S : List ByteArray} (h : Okt S) : few3 S := ⟨by have := h.2.1; omega, fun s hs => by have := h.2.2 s hs; omega⟩
theorem many_len {S : List ByteArray} (h : Okt S) : (Rs.many (dl S)).length ≤ 1000 := by
  have h1 := h.2.1
  have h2 : ∀ T : List ByteArray, (∀ s ∈ T, s.size ≤ 64) → ((dl T).flatMap Rs.bulk).length ≤ 90 * T.length := by
    intro T
    induction T with
    | nil => intro _; simp [dl]
    | cons s T ih =>
      intro hs
      have a := ih (fun x hx => hs x (by simp [hx]))
      have b := bulk_len s.data.toList (by rw [lsize]; have := hs s (by simp); omega)
      rw [lsize] at b
      have c := hs s (by simp)
      rw [dl, List.map_cons, List.flatMap_cons, List.length_append, List.length_cons]
      rw [dl] at a
      omega
  have h3 := h2 S h.2.2
  have h4 := Lib.itoa_length_le ((dl S).length : Int) (by omega) (by rw [dl_length]; omega)
  rw [Rs.many, List.length_append, Rs.ln_len]
  simp only [List.length_cons, List.length_nil]
  omega
theorem take_many (L : List (List ByteArray)) (k : Nat) (hk : k < L.length) : (dL (L.take (k + 1))).flatMap Rs.many = (dL (L.take k)).flatMap Rs.many ++ Rs.many (dl (L.getD k [])) := by
  rw [List.take_succ_eq_append_getElem hk, dL, List.map_append, List.flatMap_append]
  simp [dL, List.getD, hk]

set_option maxHeartbeats 4000000 in
theorem back_walk (ao : Option Addr) (m c : Nat) (L : List (List ByteArray)) (w : World) (hT : Tss w ao m L) (hm : m ≤ maxLen) (ht : Tab w) :
    Calls Tryd.prog 6 #[.slice ao m c] w fun e w' => e = .returned (.bool true) ∧ Below w.heap.size w w' := by
  obtain ⟨i0, hi, hz0, hz1, hz2⟩ := info_parts info5
  have hlen := hT.len
  unfold maxLen at hm
  by_cases h40 : 40 < m
  · have h40' : (40 : Int) < (m : Int) := by omega
    go_enter Tryd.func6, Tryd.ntmps6
    go_wp2_with fail
    refine Calls.mono (awake_any w ht) ?_
    rintro e w1 ⟨rfl, hb1⟩
    go_wp2_with fail
    refine Calls.mono (awake_any w1 (ht.below hb1)) ?_
    rintro e w2 ⟨rfl, hb2⟩
    go_wp2
    go_ret
    exact ⟨rfl, hb1.trans (hb2.mono hb1.size)⟩
  have h40' : ¬ (40 : Int) < (m : Int) := by omega
  have Hl : Hid (L.length = m) := hlen
  clear hlen
  go_enter Tryd.func6, Tryd.ntmps6
  go_wp2_with fail
  refine Calls.mono (awake_any w ht) ?_
  rintro e w1 ⟨rfl, hb1⟩
  go_wp2_with fail
  go_loopw [3, 18] (fun v i wr => ∃ k N : Nat, k ≤ m ∧ i = .int .i64 (k : Int) ∧ N ≤ 1000 * k ∧ Hid (Made wr w.heap.size v ((dL (L.take k)).flatMap Rs.many) ∧ ((dL (L.take k)).flatMap Rs.many).length = N ∧ ∀ j, j < k → Okt (L.getD j [])) ∧ Below w.heap.size w wr) (fun _ i _ => m - (intOf i).toNat)
  case atStart => exact ⟨0, 0, Nat.zero_le _, rfl, Nat.zero_le _, ⟨by rw [List.take_zero]; exact World.ownsRow_nil w1 _ _ _, by rw [List.take_zero]; rfl, fun j hj => by omega⟩, hb1⟩
  case round =>
    obtain ⟨k, N, hk, rfl, hN, HM, hbel⟩ := hrel
    clear hb1
    by_cases hlt : k < m
    · have hkL : k < L.length := by have := Hl.out; omega
      obtain ⟨b, off, had, hc⟩ := (hT.css.below hbel (Nat.le_refl _)).norm (by omega)
      have hcells := hT.cells ⟨b, off, none⟩ had k (L.getD k []) (by simp [List.getD, hkL])
      obtain ⟨ao', c', h1, h2, h3⟩ := hcells
      rw [Addr.add_lit] at h1
      have h1r : wr.cell? ⟨b, off + k, none⟩ = some (.slice ao' (L.getD k []).length c') := by rw [hbel.cell (World.block_lt_of_cell? w _ h1)]; exact h1
      have HF : Hid _ := take_many L k hkL
      have HO : Hid (Okt (L.getD k []) → ∀ j, j < k + 1 → Okt (L.getD j [])) := fun h j hj => by
        by_cases e : j = k
        · rw [e]; exact h
        · exact HM.out.2.2 j (by omega)
      subst had
      clear hc hkL
      have HkL : Hid ((L.getD k []).length = (L.getD k []).length) := rfl
      generalize L.getD k [] = S at *
      obtain ⟨p, hp⟩ : ∃ p, p = S.length := ⟨_, rfl⟩
      rw [← hp] at h1 h2 h1r
      have Hp : Hid (p = S.length) := hp
      have hpm : p ≤ 9223372036854775807 := by have := h2.room; unfold maxLen at h3; omega
      clear hp HkL h1
      by_cases hp1 : p < 1
      · have hp1' : (p : Int) < 1 := by omega
        clear hT
        go_wp2
        go_ret
        exact ⟨rfl, hbel⟩
      have hp1' : ¬ (p : Int) < 1 := by omega
      by_cases hp8 : 8 < p
      · have hp8' : (8 : Int) < (p : Int) := by omega
        clear hT
        go_wp2
        go_ret
        exact ⟨rfl, hbel⟩
      have hp8' : ¬ (8 : Int) < (p : Int) := by omega
      go_wp2_with fail
      go_loopw [40] (fun i wi => ∃ j : Nat, j ≤ p ∧ i = .int .i64 (j : Int) ∧ Hid (∀ q, q < j → (S.getD q ByteArray.empty).size ≤ 64) ∧ wi = wr) (fun i _ => p - (intOf i).toNat)
      case atStart => exact ⟨0, Nat.zero_le _, rfl, fun q hq => by omega, rfl⟩
      case round =>
        obtain ⟨j, hj, rfl, HJ, rfl⟩ := hrel
        by_cases hjl : j < p
        · have h2r := h2.below hbel (Nat.le_refl _)
          rcases h2r.norm with ⟨h0, -⟩ | ⟨b2, off2, hao2, -, hcs⟩
          · omega
          subst hao2
          have hc2 := hcs j hjl
          have hjS : j < S.length := by have := Hp.out; omega
          have hsm := h2.small (S.getD j ByteArray.empty) (by simp [List.getD, hjS])
          unfold maxLen at hsm
          have HN : Hid ((S.getD j ByteArray.empty).size ≤ 64 → ∀ q, q < j + 1 → (S.getD q ByteArray.empty).size ≤ 64) := fun h q hq => by
            by_cases e : q = j
            · rw [e]; exact h
            · exact HJ.out q (by omega)
          clear hcs h2r hjS
          generalize S.getD j ByteArray.empty = s at *
          by_cases hs : 64 < s.size
          · have hs' : (64 : Int) < (s.size : Int) := by omega
            clear hT
            go_wp2
            go_ret
            exact ⟨rfl, hbel⟩
          · have hs' : ¬ (64 : Int) < (s.size : Int) := by omega
            have HT := HN.out (by omega)
            have HT : Hid _ := HT
            clear HN
            go_wp2
            go_roundw
            case rel => exact ⟨j + 1, by omega, by go_num, HT.out, trivial⟩
            case measure => simp [intOf]; omega
        · have hok : Okt S := ⟨by rw [← Hp.out]; omega, by rw [← Hp.out]; omega, fun s hs => by
            obtain ⟨q, hq⟩ := List.getElem?_of_mem hs
            have hq2 := (List.getElem?_eq_some_iff.1 hq).1
            have := HJ.out q (by have := Hp.out; omega)
            rw [List.getD, hq, Option.getD_some] at this
            exact this⟩
          have hml := many_len hok
          have HOk := HO.out hok
          have HOk : Hid _ := HOk
          have C : Hid _ := putcmd_any ao' p c' S _ (h2.below hbel (Nat.le_refl _)) (okt_few hok) (ht.below hbel)
          clear hok
          go_wp2_with fail
          refine Calls.mono C.out ?_
          rintro e w3 ⟨v3, rfl, hM3, hb3⟩
          have hbel3 := hbel.trans (hb3.mono hbel.size)
          have hM := HM.out.1
          have hMN := HM.out.2.1
          have hM0 : Made w3 w.heap.size _ _ := own_below hM hb3
          rw [Made, hMN] at hM0
          obtain ⟨ax, cx, rfl, hBx, -⟩ := hM3.bytes
          obtain ⟨q, hq⟩ : ∃ q, q = (Rs.many (dl S)).length := ⟨_, rfl⟩
          rw [← hq] at hml hBx ⊢
          have Hq : Hid (q = (Rs.many (dl S)).length) := hq
          have hbl : (bs (Rs.many (dl S))).length = q := by rw [bs_length, hq]
          have hone := bs_oneCell (Rs.many (dl S))
          have hMN : Hid _ := hMN
          clear hq hM hM3 hb3 C
          go_wp2_with (first
            | (at_builtin; refine wpList_app rfl (.tmp 53) (.tmp 58) 27 rfl w.heap.size 5 i0 (.int .u8 0) 1 Tryd.underlying27 hi hz0 hz1 hz2 rfl _ N _ rfl hM0 ax q cx (bs (Rs.many (dl S))) rfl hbl hBx.none (fun ad h => hBx.cells ad h) hone (by unfold maxLen; omega) (by omega) hbel3.size ?_))
          rintro v7 w7 hown7 hgr7
          have hb7 : Below w.heap.size w w7 := hbel3.grown hgr7 hbel3.size (fun k hk => (hM0.lt k hk).1)
          have HM7 : Hid (Made w7 w.heap.size v7 ((dL (L.take (k + 1))).flatMap Rs.many) ∧ ((dL (L.take (k + 1))).flatMap Rs.many).length = N + q) := by
            refine ⟨?_, ?_⟩
            · rw [HF.out, Made, List.length_append, hMN.out, ← Hq.out, bs_append]; exact hown7
            · rw [HF.out, List.length_append, hMN.out, ← Hq.out]
          obtain ⟨vo, vc, hv, -, -⟩ := Made.bytes HM7.out.1
          rw [HM7.out.2] at hv
          subst hv
          clear hown7 hgr7 hM0 hBx hbl hone
          go_wp2
          go_roundw
          case rel => exact ⟨k + 1, N + q, by omega, by go_num, by omega, ⟨HM7.out.1, HM7.out.2, HOk.out⟩, hb7⟩
          case measure => simp [intOf]; omega
    · obtain rfl : k = m := by omega
      have hall : L.take k = L := List.take_of_length_le (by rw [Hl.out]; exact Nat.le_refl _)
      have hM := HM.out
      rw [hall] at hM
      obtain ⟨hM1, hM2, hM3⟩ := hM
      have hLok : ∀ S ∈ L, Okt S := fun S hS => by
        obtain ⟨j, hj⟩ := List.getElem?_of_mem hS
        have hj2 := (List.getElem?_eq_some_iff.1 hj).1
        have := hM3 j (by have := Hl.out; omega)
        rw [List.getD, hj, Option.getD_some] at this
        exact this
      have hpm := Rs.parse_manys (dL L) (fun x hx => by
        obtain ⟨S, hS, rfl⟩ := List.mem_map.1 hx
        exact okt_c (hLok S hS))
      obtain ⟨va, vc, hv, hB, -⟩ := hM1.bytes
      rw [hM2] at hv hB
      subst hv
      have C := fun (W : World) (g : Nat) (hP : Pz W g (tx []) 0) (hB : Bytes W va N vc ((dL L).flatMap Rs.many)) => feed_good g [] va N vc _ W hP hB (by simp only [List.length_nil]; omega)
      rw [fdL0, fdF0, hpm] at C
      dsimp only at C
      rw [if_pos rfl, cm_dL] at C
      have C : Hid _ := C
      have HLok : Hid _ := hLok
      clear hM1 hM2 hM3 hpm hLok hall HM
      go_wp2_with fail
      refine Calls.mono (new_any _) ?_
      rintro e w4 ⟨rfl, hP4, hb4, -⟩
      have hB4 := hB.below hb4 (Nat.le_refl _)
      have hbel4 := hbel.trans (hb4.mono hbel.size)
      obtain ⟨g, hg⟩ : ∃ g, g = wr.heap.size := ⟨_, rfl⟩
      rw [← hg] at hP4 ⊢
      have hgw : w.heap.size ≤ g := by rw [hg]; exact hbel.size
      clear hB hb4 hg
      go_wp2_with fail
      refine Calls.mono (C.out w4 g hP4 hB4) ?_
      rintro e w5 ⟨v5, rfl, hcm, -, hgr⟩
      have hbel5 : Below w.heap.size w w5 := hbel4.grown hgr hbel4.size (fun j hj => by cases hj; exact hgw)
      obtain ⟨a5, c5, rfl, -, -, hcs5⟩ := hcm.css
      have hTc := hT.css.below hbel5 (Nat.le_refl _)
      have hL40 : L.length ≤ 40 := by have := Hl.out; omega
      have h8 : ∀ S ∈ L, S.length ≤ 1048576 := fun S hS => by have := (HLok.out S hS).2.1; omega
      have CS := same_any a5 c5 L ao c L w5 hcs5 hTc (by omega) (by omega) h8 h8
      rw [decide_eq_true rfl, Hl.out] at CS
      rw [Hl.out]
      have CS : Hid _ := CS
      clear hcm hgr hcs5 hTc hL40 h8 hB4 C hT
      go_wp2_with fail
      refine Calls.mono CS.out ?_
      rintro e w6 ⟨rfl, hb6⟩
      go_wp2
      go_ret
      exact ⟨rfl, hbel5.trans (hb6.mono hbel5.size)⟩
end Go.Proofs.YtkhfplpplmnjiaaDoor
