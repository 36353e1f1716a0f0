/-
  What read and Open come to.
-/
import Derived.Test.YthdhnilfkpbmpaaLop
namespace Go.Proofs.Ythdhnilfkpbmpaa
set_option maxRecDepth 100000
set_option linter.unusedVariables false
open Go.RowKit

section
variable {w w' : World} {base g k B : Nat} {p : Option Addr} {v v' vb : Value} {b : Bool} {s : List UInt8} {E : List Ev} {L : List (List UInt8)}
theorem own_log {t : TypeId} {n : Nat} {xs : List Value} (ho : w.ownsRow B t 1 vb n xs) (h : Lg w base g p v b s E k) (hs : Step g v v' w w') (h1 : t ≠ 59) (h2 : t ≠ 30) : w'.ownsRow B t 1 vb n xs :=
  own_same ho (fun j hj => by
    obtain ⟨cur, hc⟩ := own_blk ho hj
    refine hs.block j (ho.lt j hj).2 (blk_ne hc h.blk h1) (fun e => ?_)
    obtain ⟨cur', hc'⟩ := own_blk h.row e
    exact blk_ne hc hc' h2 rfl)
theorem Bodies.log (hB : Bodies w B vb L) (h : Lg w base g p v b s E k) (hs : Step g v v' w w') : Bodies w' B vb L := by
  obtain ⟨xs, h1, h2⟩ := hB
  refine ⟨xs, own_log h1 h hs (by decide) (by decide), fun i l hi => ?_⟩
  obtain ⟨gb, c, h3, h4⟩ := h2 i l hi
  exact ⟨gb, c, h3, own_log h4 h hs (by decide) (by decide)⟩
theorem Bodies.at (hB : Bodies w B vb L) {i : Nat} {l : List UInt8} (hi : L[i]? = some l) : ∃ gv cv gb c, vb = .slice (some ⟨gv, 0, none⟩) L.length cv ∧ w.cell? ⟨gv, i, none⟩ = some (.slice (some ⟨gb, 0, none⟩) l.length c) ∧ Bytes w (some ⟨gb, 0, none⟩) l.length c l ∧ c ≤ maxLen ∧ gb < w.heap.size := by
  obtain ⟨xs, h1, h2⟩ := hB
  obtain ⟨gb, c, h3, h4⟩ := h2 i l hi
  have hlt := (List.getElem?_eq_some_iff.1 hi).1
  rcases h1.2 with ⟨-, h0⟩ | ⟨gv, cv, cur, rfl, rest⟩
  · omega
  · have hc := h1.cells (g := gv) rfl i _ h3
    rw [Addr.add_lit, Nat.zero_add] at hc
    have hcm : c ≤ maxLen := by
      rcases h4.2 with ⟨h, _⟩ | ⟨g', cap, cur, h, _, _, _, hcm, _⟩
      · cases h
      · simp only [Value.slice.injEq] at h
        rw [h.2.2]; exact hcm
    exact ⟨gv, cv, gb, c, rfl, hc, Bytes.own h4, hcm, (h4.lt gb rfl).2⟩
theorem Bodies.val (hB : Bodies w B vb L) : ∃ av cv, vb = .slice av L.length cv := by
  obtain ⟨xs, h1, h2⟩ := hB
  rcases h1.2 with ⟨rfl, h0⟩ | ⟨gv, cv, cur, rfl, rest⟩
  · exact ⟨none, 0, by rw [h0]⟩
  · exact ⟨_, _, rfl⟩
end

section
variable {w : World} {base g k G cap : Nat} {p : Option Addr} {v : Value} {b : Bool} {s : List UInt8} {E : List Ev} {l : List UInt8}
theorem revent_none (hB : Bytes w (some ⟨G, 0, none⟩) l.length cap l) (hc : cap ≤ maxLen) (hG : G < w.heap.size) (he : evOf l = none) :
    Calls Try.prog 39 #[.pointer (some ⟨g, 0, none⟩), .slice (some ⟨G, 0, none⟩) l.length cap] w fun e w' => e = .returned (.bool false) ∧ Below w.heap.size w w' := by
  by_cases h0 : l.head? = some 0
  · refine revent_no hB hc hG h0 (fun hd => ?_)
    rw [evOf, if_pos ⟨h0, hd⟩] at he
    cases he
  · refine (revent_kind hB hc h0).mono ?_
    rintro e w' ⟨rfl, rfl⟩
    exact ⟨rfl, Below.refl _ _⟩
theorem revent_some (h : Lg w base g p v b s E k) (hbase : base ≤ w.heap.size) (hE : E.length < 65536) (hB : Bytes w (some ⟨G, 0, none⟩) l.length cap l) (hc : cap ≤ maxLen) (hG : G < w.heap.size) {x : Ev} (he : evOf l = some x) :
    Calls Try.prog 39 #[.pointer (some ⟨g, 0, none⟩), .slice (some ⟨G, 0, none⟩) l.length cap] w fun e w' => e = .returned (.bool true) ∧ ∃ v', Lg w' base g p v' b s (E ++ [x]) k ∧ Step g v v' w w' := by
  have hgd := (evOf_some he).1
  rw [evOf] at he
  split at he
  · rename_i hx
    obtain rfl := Option.some.inj he
    exact revent_yes h hbase hE hB hc hG hx.1 hx.2 hgd
  · cases he
end

theorem drop_cons {L : List (List UInt8)} {i : Nat} {c : List UInt8} (h : L[i]? = some c) : L.drop i = c :: L.drop (i + 1) := by
  have hlt := (List.getElem?_eq_some_iff.1 h).1
  rw [List.drop_eq_getElem_cons hlt]
  congr 1
  exact (List.getElem?_eq_some_iff.1 h).2
theorem take_len {L : List (List UInt8)} {i : Nat} {c : List UInt8} (h : L[i]? = some c) : (Fr.frames (L.take (i + 1))).length = (Fr.frames (L.take i)).length + (6 + c.length) := by
  rw [List.take_add_one, h, Fr.frames_append, List.length_append]
  simp [Fr.frames, Fr.frame_length]; omega

set_option maxHeartbeats 4000000 in
theorem lread_any {w : World} {base g : Nat} {p : Option Addr} (ao : Option Addr) (m c : Nat) (l : List UInt8) (h : Lg w base g p (.slice none 0 0) false [] [] 0) (hbase : base ≤ w.heap.size) (hB : Bytes w ao m c l) (hc : c ≤ maxLen) (hm : m ≤ 65536) :
    Calls Try.prog 33 #[.pointer (some ⟨g, 0, none⟩), .slice ao m c] w fun e w' => ∃ v', e = .returned (.int .i64 ((rd l).n : Int)) ∧ Lg w' base g p v' (rd l).b (rd l).s (rd l).E 0 ∧ Step g (.slice none 0 0) v' w w' := by
  obtain ⟨hs1, -⟩ := scan_bytes (l.length + 1) l (by omega)
  have hfl : (Fr.frames (Fr.scan l).1).length ≤ 65536 := by
    have := congrArg List.length hs1
    rw [List.length_append, hB.len] at this
    omega
  have HSC : Hid _ := scan_any ao m c l w hB hc (by omega)
  obtain ⟨R, hR⟩ : ∃ R, rd l = R := ⟨_, rfl⟩
  have hR' := hR
  unfold rd at hR'
  rw [hR]
  clear hs1 hB hc hR
  obtain ⟨L, hL⟩ : ∃ L, Hid ((Fr.scan l).1 = L) := ⟨_, rfl⟩
  rw [hL.out] at hfl hR'
  go_enter Try.func33, Try.ntmps33
  go_wp2_with fail
  refine Calls.mono HSC.out ?_
  rintro e w2 ⟨vb, a, rfl, -, -, hBd, hbl⟩
  rw [hL.out] at hBd
  have hLg := h.below hbl (Nat.le_refl _)
  have hS0 : Step g (.slice none 0 0) (.slice none 0 0) w w2 := Step.quiet _ _ hbl
  have hbs2 : base ≤ w2.heap.size := Nat.le_trans hbase hbl.size
  obtain ⟨av, cv, rfl⟩ := hBd.val
  clear HSC h hL hbl
  have hmany := frames_many L
  generalize hn : L.length = n at *
  generalize w.heap.size = B at *
  go_wp2_with fail
  go_loopw [8, 19] (fun x i wr => ∃ (k : Nat) (st : St) (vE : Value), k ≤ n ∧ i = .int .i64 (k : Int) ∧ x = .int .i64 (st.n : Int) ∧ rdX k (L.drop k) st = R ∧ st.n = (Fr.frames (L.take k)).length ∧ st.E.length ≤ k ∧ Lg wr base g p vE st.b st.s st.E 0 ∧ Bodies wr B (.slice av n cv) L ∧ Step g (.slice none 0 0) vE w wr ∧ base ≤ wr.heap.size) (fun _ i _ => n - (intOf i).toNat)
  case atStart => exact ⟨0, st0, _, Nat.zero_le _, rfl, rfl, hR', rfl, Nat.zero_le _, hLg, hBd, hS0, hbs2⟩
  case round =>
    obtain ⟨k, st, vE, hk, rfl, rfl, hrd, hstn, hsE, hLr, hBr, hSr, hbr⟩ := hrel
    clear hLg hS0 hbs2 hBd
    by_cases hkn : k < n
    · obtain ⟨cb, hcb⟩ : ∃ cb, L[k]? = some cb := ⟨_, List.getElem?_eq_getElem (by omega)⟩
      obtain ⟨gv, cv', gb, cc, hav, hcell, hby, hcc, hgb⟩ := hBr.at hcb
      rw [hn] at hav
      simp only [Value.slice.injEq, true_and] at hav
      obtain ⟨rfl, rfl⟩ := hav
      have htl := take_len hcb
      have hle : (Fr.frames (L.take (k + 1))).length ≤ 65536 := by
        have : (Fr.frames L).length = (Fr.frames (L.take (k + 1))).length + (Fr.frames (L.drop (k + 1))).length := by
          rw [← List.length_append, ← Fr.frames_append, List.take_append_drop]
        omega
      rw [drop_cons hcb, rdX] at hrd
      have hsb : st.n + (6 + cb.length) ≤ 65536 := by omega
      have Hst : Hid (st.n + (6 + cb.length) = (Fr.frames (L.take (k + 1))).length) := by show _ = _; omega
      clear htl hle hstn
      cases hev : evOf cb with
      | some x =>
        rw [hev] at hrd
        simp only [] at hrd
        have HE : Hid _ := revent_some hLr hbr (by omega) hby hcc hgb hev
        have Hrd : Hid _ := hrd
        have Hlog : Hid _ := hLr
        have HB : Hid (Bodies wr B _ L) := hBr
        clear hrd hLr hBr hev hR'
        have hcl : cb.length ≤ 65536 := by omega
        generalize hq : cb.length = q at *
        go_wp2_with fail
        refine Calls.mono HE.out ?_
        rintro e w4 ⟨rfl, v', hL4, hS4⟩
        have hB4 := HB.out.log Hlog.out hS4
        clear HE HB Hlog hcell hby
        go_wp2
        go_roundw
        case rel => exact ⟨k + 1, ⟨st.b, st.s, st.E ++ [x], st.n + (6 + q)⟩, v', by omega, by go_num, by show _ = Value.int .i64 (((st.n + (6 + q) : Nat)) : Int); go_num, Hrd.out, Hst.out, by show (st.E ++ [x]).length ≤ _; rw [List.length_append]; simp only [List.length_cons, List.length_nil]; omega, hL4, hB4, hSr.trans hS4, Nat.le_trans hbr hS4.size⟩
        case measure => simp [intOf]; omega
      | none =>
        rw [hev] at hrd
        simp only [] at hrd
        have HE : Hid _ := revent_none (g := g) hby hcc hgb hev
        by_cases hk0 : k = 0
        · subst hk0
          by_cases h1 : cb.head? = some 1
          · rw [if_pos ⟨rfl, h1⟩] at hrd
            have Hrd : Hid _ := hrd
            have hcl : cb.length ≤ 65536 := by omega
            clear hrd hev hR'
            go_wp2_with fail
            refine Calls.mono HE.out ?_
            rintro e w4 ⟨rfl, hb4⟩
            have hL4 := hLr.below hb4 (Nat.le_refl _)
            have hB4 := hBr.below hb4
            have hby4 := hby.below hb4 (Nat.le_refl _)
            have hS4 := Step.quiet g vE hb4
            have HY : Hid _ := rsnap_yes hL4 hby4 hcc h1
            clear HE hLr hBr hcell hby hby4
            go_wp2_with fail
            refine Calls.mono HY.out ?_
            rintro e w5 ⟨rfl, hL5, hS5⟩
            have hB5 := hB4.log hL4 hS5
            clear HY hL4 hB4
            generalize hq : cb.length = q at *
            go_wp2
            go_roundw
            case rel => exact ⟨0 + 1, ⟨true, cb.tail, st.E, st.n + (6 + q)⟩, vE, by omega, by go_num, by show _ = Value.int .i64 (((st.n + (6 + q) : Nat)) : Int); go_num, Hrd.out, Hst.out, by show st.E.length ≤ _; omega, hL5, hB5, (hSr.trans hS4).trans hS5, Nat.le_trans hbr (Nat.le_trans hS4.size hS5.size)⟩
            case measure => simp [intOf]; omega
          · rw [if_neg (fun h => h1 h.2)] at hrd
            clear hev hR'
            go_wp2_with fail
            refine Calls.mono HE.out ?_
            rintro e w4 ⟨rfl, hb4⟩
            have hL4 := hLr.below hb4 (Nat.le_refl _)
            have hby4 := hby.below hb4 (Nat.le_refl _)
            have hS4 := Step.quiet g vE hb4
            have HY : Hid _ := rsnap_no (g := g) hby4 hcc h1
            clear HE hLr hBr hcell hby hby4
            go_wp2_with fail
            refine Calls.mono HY.out ?_
            rintro e w5 ⟨rfl, rfl⟩
            clear HY
            go_wp2
            go_ret
            rw [← hrd]
            exact ⟨vE, rfl, hL4, hSr.trans hS4⟩
        · rw [if_neg (fun h => hk0 h.1)] at hrd
          have hk1 : ¬ (k : Int) = 0 := by omega
          have hk2 : ((k : Int) == 0) = false := by simpa using hk0
          clear hev hR'
          go_wp2_with fail
          refine Calls.mono HE.out ?_
          rintro e w4 ⟨rfl, hb4⟩
          have hL4 := hLr.below hb4 (Nat.le_refl _)
          have hS4 := Step.quiet g vE hb4
          clear HE hLr hBr hcell hby
          go_wp2
          go_ret
          rw [← hrd]
          exact ⟨vE, rfl, hL4, hSr.trans hS4⟩
    · obtain rfl : k = n := by omega
      rw [List.drop_of_length_le (by omega), rdX] at hrd
      clear hR'
      go_wp2
      go_ret
      rw [← hrd]
      exact ⟨vE, rfl, hLr, hSr⟩
end Go.Proofs.Ythdhnilfkpbmpaa
