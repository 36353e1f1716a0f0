/-
  RespPieces: fed in whatever pieces, the commands and the error are those of the whole. For every input.
-/
import Derived.Test.YtkhfplpplmnjiaaDoorFdp
import Derived.Lib.MinMax
namespace Go.Proofs.YtkhfplpplmnjiaaDoor
set_option maxRecDepth 100000
open Go.RowKit Go.Sort

theorem conv_piece (l : List UInt8) (W : World) (hs : l.length ≤ 1048576) : ∃ cap W', (convert 9 27 (.string (tx l))).run Tryd.prog W = .ok (.slice (some ⟨W.heap.size, 0, none⟩) l.length cap) W' ∧
    Bytes W' (some ⟨W.heap.size, 0, none⟩) l.length cap l ∧ Below W.heap.size W W' := by
  obtain ⟨cap, W', h1, h2, -, h4, -⟩ := conv_tail (tx l) W (by rw [tx_size]; unfold maxLen; omega)
  rw [tx_size] at h1
  have := h2.bytes
  rw [tx_list] at this
  exact ⟨cap, W', h1, this, h4⟩
/-- Commands in blocks below a border. -/
def CmB (w : World) (base top : Nat) (v : Value) (L : List (List ByteArray)) : Prop :=
  ∃ xs : List Value, w.ownsRow base 22 1 v L.length xs ∧ (∀ k, v.ownBlock = some k → k < top) ∧ ∀ (i : Nat) (S : List ByteArray), L[i]? = some S → ∃ x, xs[i]? = some x ∧ OwnT w base x S ∧ ∀ k, x.ownBlock = some k → k < top
theorem Cmds.top {w : World} {base : Nat} {v : Value} {L : List (List ByteArray)} (h : Cmds w base v L) : CmB w base w.heap.size v L := by
  obtain ⟨xs, h1, h2⟩ := h
  refine ⟨xs, h1, fun k hk => (h1.lt k hk).2, fun i S hi => ?_⟩
  obtain ⟨x, h3, h4⟩ := h2 i S hi
  exact ⟨x, h3, h4, fun k hk => (World.ownsRow.lt h4 k hk).2⟩
theorem CmB.cmds {w : World} {base top : Nat} {v : Value} {L : List (List ByteArray)} (h : CmB w base top v L) : Cmds w base v L := by
  obtain ⟨xs, h1, -, h2⟩ := h
  refine ⟨xs, h1, fun i S hi => ?_⟩
  obtain ⟨x, h3, h4, -⟩ := h2 i S hi
  exact ⟨x, h3, h4⟩
theorem CmB.kept {w w' : World} {base top : Nat} {v : Value} {L : List (List ByteArray)} {r : Option Nat} (h : CmB w base top v L) (hg : w.grownBy w' r) (hr : ∀ k, r = some k → k < base ∨ top ≤ k) : CmB w' base top v L := by
  obtain ⟨xs, h1, h2, h3⟩ := h
  have kp : ∀ {t u n ys}, w.ownsRow base t 1 u n ys → (∀ k, u.ownBlock = some k → k < top) → w'.ownsRow base t 1 u n ys := fun {t u n ys} a b => by
    refine World.ownsRow.kept a hg ?_
    cases hu : u.ownBlock with
    | none => exact .inl rfl
    | some k =>
      refine .inr (fun e => ?_)
      have h5 := (World.ownsRow.lt a k hu).1
      have h6 := b k hu
      rcases hr k e.symm with h7 | h7 <;> omega
  refine ⟨xs, kp h1 h2, h2, fun i S hi => ?_⟩
  obtain ⟨x, h4, h5, h6⟩ := h3 i S hi
  exact ⟨x, h4, kp h5 h6, h6⟩
/-- Fed so far: what was told, what is left, the fault. -/
def Sofar (w : World) (base g : Nat) (v : Value) (d : List UInt8) : Prop := Pz w g (tx (fdS [] 0 d)) (fdF [] 0 d) ∧ Cmds w base v (cm (fdL [] 0 d))

set_option maxHeartbeats 400000 in
theorem pieces_walk (s : ByteArray) (ao : Option Addr) (m c : Nat) (lc : List UInt8) (zero : Bool) (w : World) (hs : s.size ≤ maxLen) (hb : Bytes w ao m c lc) (ht : Tab w) :
    Calls Tryd.prog 5 #[.string s, .slice ao m c, .bool zero] w fun e w' => e = .returned (.bool true) ∧ Below w.heap.size w w' := by
  have hroom := hb.room
  have hlen := hb.len
  unfold maxLen at hs
  obtain ⟨i0, hi, hz0, hz1, hz2⟩ := info_parts infoC
  by_cases h3000 : 3000 < s.size
  · have h3' : (3000 : Int) < (s.size : Int) := by omega
    go_enter Tryd.func5, Tryd.ntmps5
    go_wp2_with fail
    refine Calls.mono (awake_any w ht) ?_
    rintro e w1 ⟨rfl, hb1⟩
    go_wp2_with fail
    refine Calls.mono (awake_any w1 (ht.below hb1)) ?_
    rintro e w2 ⟨rfl, hb2⟩
    go_wp2
    go_ret
    exact ⟨rfl, hb1.trans (hb2.mono hb1.size)⟩
  have h3' : ¬ (3000 : Int) < (s.size : Int) := by omega
  by_cases h300 : 300 < m
  · have h4' : (300 : Int) < (m : Int) := by omega
    go_enter Tryd.func5, Tryd.ntmps5
    go_wp2_with fail
    refine Calls.mono (awake_any w ht) ?_
    rintro e w1 ⟨rfl, hb1⟩
    go_wp2_with fail
    refine Calls.mono (awake_any w1 (ht.below hb1)) ?_
    rintro e w2 ⟨rfl, hb2⟩
    go_wp2
    go_ret
    exact ⟨rfl, hb1.trans (hb2.mono hb1.size)⟩
  have h4' : ¬ (300 : Int) < (m : Int) := by omega
  have hls := lsize s
  obtain ⟨l, hl⟩ : ∃ l, l = s.data.toList := ⟨_, rfl⟩
  rw [← hl] at hls
  have hsl : s = tx l := by rw [hl, tx_data]
  obtain ⟨n, hn⟩ : ∃ n, n = l.length := ⟨_, rfl⟩
  have hz : (tx l).size = n := by rw [tx_size, hn]
  have hn3 : n ≤ 3000 := by omega
  have h3' : ¬ (3000 : Int) < (n : Int) := by omega
  subst hsl
  have Hn : Hid (n = l.length) := hn
  clear hl h3000 h300 hls hs hn
  cases zero
  · go_enter Tryd.func5, Tryd.ntmps5
    go_wp2_with fail
    refine Calls.mono (awake_any w ht) ?_
    rintro e w1 ⟨rfl, hb1⟩
    go_wp2_with fail
    refine Calls.mono (new_any w1) ?_
    rintro e wA ⟨rfl, hP, hbA, -⟩
    obtain ⟨g, hg⟩ : ∃ g, g = w1.heap.size := ⟨_, rfl⟩
    rw [← hg] at hP ⊢
    have hwg : w.heap.size ≤ g := by rw [hg]; exact hb1.size
    have hwA := hb1.trans (hbA.mono hb1.size)
    clear hg hbA hb1
    have hgA := hP.lt
    go_wp2_with fail
    refine Calls.mono (new_any wA) ?_
    rintro e w2 ⟨rfl, hP2, hb2, -⟩
    obtain ⟨cap, w3, hcv, hB3, hb3⟩ := conv_piece l w2 (by have := Hn.out; omega)
    rw [← Hn.out] at hcv hB3
    have hA3 := hb2.trans (hb3.mono hb2.size)
    have C := feed_any wA.heap.size 0 [] _ n cap l w3 (hP2.below hb3) hB3 (by simp only [List.length_nil]; omega)
    have C : Hid _ := C
    clear hB3
    go_wp2_with fail
    refine Calls.mono C.out ?_
    rintro e w4 ⟨vw, rfl, hcw, -, hgr4⟩
    have hA4 : Below wA.heap.size wA w4 := hA3.grown hgr4 hA3.size (fun k hk => by cases hk; exact Nat.le_refl _)
    have hw4 := hwA.trans (hA4.mono hwA.size)
    have hCW : Hid (CmB w4 wA.heap.size w4.heap.size vw (cm (fdL [] 0 l))) := (hcw.rebase hA3.size).top
    have hfl := fdF_le [] 0 l (by decide)
    have hg4 : g < w4.heap.size := Nat.lt_of_lt_of_le hgA hA4.size
    have HP4 : Hid (Pz w4 g (tx (fdS [] 0 [])) (fdF [] 0 [])) := by rw [Hid, fd_nil.2.1, fd_nil.2.2]; exact hP.below hA4
    clear hcw hgr4 hA3 hb3 hb2 hcv hP2 C hP
    obtain ⟨Fw, hFw⟩ : ∃ Fw, Fw = fdF [] 0 l := ⟨_, rfl⟩
    have hFw : Hid _ := hFw
    rw [← hFw.out] at hfl ⊢
    have hw4s : w.heap.size ≤ w4.heap.size := hw4.size
    go_wp2_with fail
    go_loopw [10, 12, 43] (fun v t i wr => ∃ k a : Nat, k ≤ m ∧ a ≤ n ∧ t = .int .i64 (a : Int) ∧ i = .int .i64 (k : Int) ∧ Hid (Sofar wr w4.heap.size g v (l.take a)) ∧ Hid (CmB wr wA.heap.size w4.heap.size vw (cm (fdL [] 0 l))) ∧ Below w.heap.size w wr ∧ w4.heap.size ≤ wr.heap.size) (fun _ _ i _ => m - (intOf i).toNat)
    case atStart => exact ⟨0, 0, Nat.zero_le _, Nat.zero_le _, rfl, rfl, by rw [Hid, List.take_zero]; exact ⟨HP4.out, by rw [fd_nil.1]; exact Cmds.nil _ _⟩, hCW.out, hw4, Nat.le_refl _⟩
    case round =>
      obtain ⟨k, a, hk, ha, rfl, rfl, HS, HW, hbel, hsz⟩ := hrel
      clear hCW HP4 hw4 hA4
      by_cases hlt : k < m
      · rcases (hb.below hbel (Nat.le_refl _)).norm with ⟨h0, -⟩ | ⟨b, off, hao, -, hcell⟩
        · omega
        subst hao
        have hc := hcell k hlt
        have hx8 := (lc.getD k 0).toNat_lt
        generalize (lc.getD k 0).toNat = x at *
        obtain ⟨q, hq⟩ : ∃ q, q = min (a + x) n := ⟨_, rfl⟩
        have hmin : min ((a : Int) + (x : Int)) (n : Int) = (q : Int) := by omega
        have haq : a ≤ q := by omega
        have hqn : q ≤ n := by omega
        clear hq hcell
        have hsl : ∀ W, (Instr.slice 9 (.string (tx l)) (some (.int .i64 (a : Int))) (some (.int .i64 (q : Int))) none).run Tryd.prog W = .ok (.string (tx ((l.drop a).take (q - a)))) W := fun W => by
          have := slice_tx (tx l) a q (a : Int) (q : Int) rfl rfl haq (by rw [hz]; exact hqn) W
          rwa [tx_list] at this
        have hpl : ((l.drop a).take (q - a)).length = q - a := by rw [List.length_take, List.length_drop, ← Hn.out]; omega
        obtain ⟨P, hP⟩ : ∃ P, P = (l.drop a).take (q - a) := ⟨_, rfl⟩
        have HQ : Hid (l.take q = l.take a ++ P) := by
          rw [Hid, hP, show q = a + (q - a) by omega, List.take_add, show a + (q - a) - a = q - a by omega]
        rw [← hP] at hsl hpl
        obtain ⟨cap, w5, hcv, hB5, hb5⟩ := conv_piece P wr (by omega)
        rw [hpl] at hcv hB5
        have hd1 := fdS_len (l.take a)
        rw [List.length_take] at hd1
        have hP5 := HS.out.1.below hb5
        have hC5 := HS.out.2.below hb5
        have hW5 := CmB.kept HW.out (grown_of_below hb5 none) (fun k hk => by cases hk)
        have happ := fd_app (l.take a) P
        rw [← HQ.out] at happ
        have C := feed_any g _ _ _ _ _ P w5 hP5 hB5 (by omega)
        rw [← happ.2.1, ← happ.2.2] at C
        have C : Hid _ := C
        have hL1 := fdL_len [] 0 (l.take a)
        have hL2 := fdL_len (fdS [] 0 (l.take a)) (fdF [] 0 (l.take a)) P
        rw [List.length_take, List.length_nil] at hL1
        have HL1 : Hid ((cm (fdL [] 0 (l.take a))).length ≤ 3000) := by rw [Hid, cm_length]; omega
        have HL2 : Hid ((cm (fdL (fdS [] 0 (l.take a)) (fdF [] 0 (l.take a)) P)).length ≤ 7000) := by rw [Hid, cm_length]; omega
        have HA : Hid (cm (fdL [] 0 (l.take q)) = cm (fdL [] 0 (l.take a)) ++ cm (fdL (fdS [] 0 (l.take a)) (fdF [] 0 (l.take a)) P)) := by rw [Hid, happ.1, cm_app]
        have hb5w := hbel.trans (hb5.mono hbel.size)
        have hsz5 : w4.heap.size ≤ w5.heap.size := Nat.le_trans hsz hb5.size
        have HC5 : Hid _ := hC5
        have HW5 : Hid _ := hW5
        clear happ hP5 hC5 hW5 hB5 HS HW hL1 hL2 hd1 hpl hP HQ hb5 hsz
        generalize cm (fdL (fdS [] 0 (l.take a)) (fdF [] 0 (l.take a)) P) = N at *
        generalize cm (fdL [] 0 (l.take a)) = L at *
        obtain ⟨Fq, hFq⟩ : ∃ Fq, Fq = fdF [] 0 (l.take q) := ⟨_, rfl⟩
        have hFq : Hid _ := hFq
        rw [← hFq.out] at C
        generalize q - a = qa at *
        go_wp2_with fail
        refine Calls.mono C.out ?_
        rintro e w6 ⟨vm, rfl, hcm, hP6, hgr⟩
        have hb6w : Below w.heap.size w w6 := hb5w.grown hgr hb5w.size (fun j hj => by cases hj; exact hwg)
        have hsz6 : w4.heap.size ≤ w6.heap.size := Nat.le_trans hsz5 hgr.size
        have hC6 := Cmds.kept HC5.out hgr hg4
        have HW6 : Hid _ := CmB.kept HW5.out hgr (fun k hk => by cases hk; exact .inl hgA)
        have hcm := hcm.rebase hsz5
        obtain ⟨ax, cx, xs, rfl, hxl, hxn, hxc, hx1, hx0, hx2⟩ := hcm.cells
        obtain ⟨ay, cy, ys, rfl, hyl, hyn, hyc, hy1, hy0, hy2⟩ := hC6.cells
        have hl1 := HL1.out
        have hl2 := HL2.out
        obtain ⟨nN, hnN⟩ : ∃ nN, nN = N.length := ⟨_, rfl⟩
        obtain ⟨nL, hnL⟩ : ∃ nL, nL = L.length := ⟨_, rfl⟩
        have HN : Hid (nN = N.length ∧ nL = L.length) := ⟨hnN, hnL⟩
        rw [← hnN] at hl2 hxl hxn hx0 ⊢
        rw [← hnL] at hl1 hyl hyn hy0 ⊢
        have Hx2 : Hid _ := hx2
        have Hy2 : Hid _ := hy2
        clear hcm hC6 HC5 HW5 hb5w hsz5 hx2 hy2 hnN hnL C
        go_wp2_with (first
          | (at_builtin; refine wpList_app rfl (.tmp 66) (.tmp 67) 36 rfl w4.heap.size 22 i0 (.slice none 0 0) 24 Tryd.underlying36 hi hz0 hz1 hz2 rfl (.slice ay nL cy) nL ys rfl hy0 ax nN cx xs rfl hxl hxn hxc hx1 (by unfold maxLen; omega) (by omega) hsz6 ?_))
        rintro v7 w7 hown7 hgr7
        have hC7 : Cmds w7 w4.heap.size v7 (L ++ N) :=
          Cmds.more (w := w6) (v := .slice ay nL cy) (xs := ys) (ys := xs) (by rw [← HN.out.2]; exact hy0) Hy2.out Hx2.out (by rw [← HN.out.1, ← HN.out.2]; exact hown7) hgr7
        have hP7 : Pz w7 g (tx (fdS [] 0 (l.take q))) Fq := hP6.same (hgr7.block g hP6.lt (fun e => by have := (hy0.lt g (by first | exact e | exact e.symm)).1; omega))
        have HS7 : Hid (Sofar w7 w4.heap.size g v7 (l.take q)) := by
          refine ⟨by rw [← hFq.out]; exact hP7, ?_⟩
          rw [HA.out]; exact hC7
        have HW7 : Hid (CmB w7 wA.heap.size w4.heap.size vw (cm (fdL [] 0 l))) := CmB.kept HW6.out hgr7 (fun k hk => .inr (hy0.lt k hk).1)
        have hb7w : Below w.heap.size w w7 := hb6w.grown hgr7 hb6w.size (fun k hk => Nat.le_trans hw4s (hy0.lt k hk).1)
        have hsz7 : w4.heap.size ≤ w7.heap.size := Nat.le_trans hsz6 hgr7.size
        obtain ⟨vo, vn, vc, rfl⟩ : ∃ vo vn vc, v7 = .slice vo vn vc := by
          obtain ⟨a1, a2, a3, -⟩ := hC7.val
          exact ⟨_, _, _, a3⟩
        clear hC7 hP7 hown7 hgr7 HW6 hP6 hy0 hx0 Hx2 Hy2 hyc hxc hxn hyn hx1 hy1 hcv hsl hgr
        go_wp2
        go_roundw
        case rel => exact ⟨k + 1, q, by omega, hqn, rfl, by go_num, HS7.out, HW7.out, hb7w, hsz7⟩
        case measure => simp [intOf]; omega
      · obtain rfl : k = m := by omega
        clear hb
        have hsl : ∀ W, (Instr.slice 9 (.string (tx l)) (some (.int .i64 (a : Int))) none none).run Tryd.prog W = .ok (.string (tx (l.drop a))) W := fun W => by
          rw [run_slice_string_l W 9 (tx l) Tryd.underlying9 .i64 (a : Int) (by omega) (by rw [hz]; omega), Int.toNat_natCast, ext_tx, tx_list, hz, List.take_of_length_le (by rw [List.length_drop, ← Hn.out]; omega)]
        have hpl : (l.drop a).length = n - a := by rw [List.length_drop, ← Hn.out]
        obtain ⟨P, hP⟩ : ∃ P, P = l.drop a := ⟨_, rfl⟩
        have HQ : Hid (l = l.take a ++ P) := by rw [Hid, hP, List.take_append_drop]
        rw [← hP] at hsl hpl
        obtain ⟨cap, w5, hcv, hB5, hb5⟩ := conv_piece P wr (by omega)
        rw [hpl] at hcv hB5
        have hd1 := fdS_len (l.take a)
        rw [List.length_take] at hd1
        have hP5 := HS.out.1.below hb5
        have hC5 := HS.out.2.below hb5
        have hW5 := CmB.kept HW.out (grown_of_below hb5 none) (fun k hk => by cases hk)
        have happ := fd_app (l.take a) P
        rw [← HQ.out] at happ
        have C := feed_any g _ _ _ _ _ P w5 hP5 hB5 (by omega)
        rw [← happ.2.1, ← hFw.out] at C
        have C : Hid _ := C
        have hL1 := fdL_len [] 0 (l.take a)
        have hL2 := fdL_len (fdS [] 0 (l.take a)) (fdF [] 0 (l.take a)) P
        have hL8 := (fdL_len [] 0 l).2
        rw [List.length_take, List.length_nil] at hL1
        have HL1 : Hid ((cm (fdL [] 0 (l.take a))).length ≤ 3000) := by rw [Hid, cm_length]; omega
        have HL2 : Hid ((cm (fdL (fdS [] 0 (l.take a)) (fdF [] 0 (l.take a)) P)).length ≤ 7000) := by rw [Hid, cm_length]; omega
        have HA : Hid (cm (fdL [] 0 l) = cm (fdL [] 0 (l.take a)) ++ cm (fdL (fdS [] 0 (l.take a)) (fdF [] 0 (l.take a)) P)) := by rw [Hid, happ.1, cm_app]
        have H8 : Hid (∀ S ∈ cm (fdL [] 0 l), S.length ≤ 1048576) := fun S hS => by
          obtain ⟨x, hx, rfl⟩ := List.mem_map.1 hS
          have := hL8 x hx
          rw [List.length_map]; omega
        have hb5w := hbel.trans (hb5.mono hbel.size)
        have hsz5 : w4.heap.size ≤ w5.heap.size := Nat.le_trans hsz hb5.size
        have HC5 : Hid _ := hC5
        have HW5 : Hid _ := hW5
        clear happ hP5 hC5 hW5 hB5 HS HW hL1 hL2 hd1 hpl hP HQ hb5 hsz hL8
        generalize cm (fdL (fdS [] 0 (l.take a)) (fdF [] 0 (l.take a)) P) = N at *
        generalize cm (fdL [] 0 (l.take a)) = L at *
        generalize cm (fdL [] 0 l) = A at *
        generalize n - a = qa at *
        go_wp2_with fail
        refine Calls.mono C.out ?_
        rintro e w6 ⟨vm, rfl, hcm, hP6, hgr⟩
        have hb6w : Below w.heap.size w w6 := hb5w.grown hgr hb5w.size (fun j hj => by cases hj; exact hwg)
        have hsz6 : w4.heap.size ≤ w6.heap.size := Nat.le_trans hsz5 hgr.size
        have hC6 := Cmds.kept HC5.out hgr hg4
        have HW6 : Hid _ := CmB.kept HW5.out hgr (fun k hk => by cases hk; exact .inl hgA)
        have hcm := hcm.rebase hsz5
        obtain ⟨ax, cx, xs, rfl, hxl, hxn, hxc, hx1, hx0, hx2⟩ := hcm.cells
        obtain ⟨ay, cy, ys, rfl, hyl, hyn, hyc, hy1, hy0, hy2⟩ := hC6.cells
        have hl1 := HL1.out
        have hl2 := HL2.out
        obtain ⟨nN, hnN⟩ : ∃ nN, nN = N.length := ⟨_, rfl⟩
        obtain ⟨nL, hnL⟩ : ∃ nL, nL = L.length := ⟨_, rfl⟩
        have HN : Hid (nN = N.length ∧ nL = L.length) := ⟨hnN, hnL⟩
        rw [← hnN] at hl2 hxl hxn hx0 ⊢
        rw [← hnL] at hl1 hyl hyn hy0 ⊢
        have Hx2 : Hid _ := hx2
        have Hy2 : Hid _ := hy2
        clear hcm hC6 HC5 HW5 hb5w hsz5 hx2 hy2 hnN hnL C hP6
        obtain ⟨aw, cw, hvw⟩ : ∃ aw cw, vw = .slice aw A.length cw := by
          obtain ⟨a1, a2, a3, -⟩ := (CmB.cmds HW6.out).css
          exact ⟨_, _, a3⟩
        obtain ⟨nA, hnA⟩ : ∃ nA, nA = A.length := ⟨_, rfl⟩
        rw [← hnA] at hvw
        have HnA : Hid (nA = A.length) := hnA
        clear hnA
        subst hvw
        go_wp2_with (first
          | (at_builtin; refine wpList_app rfl (.tmp 80) (.tmp 81) 36 rfl w4.heap.size 22 i0 (.slice none 0 0) 24 Tryd.underlying36 hi hz0 hz1 hz2 rfl (.slice ay nL cy) nL ys rfl hy0 ax nN cx xs rfl hxl hxn hxc hx1 (by unfold maxLen; omega) (by omega) hsz6 ?_))
        rintro v7 w7 hown7 hgr7
        have hC7 : Cmds w7 w4.heap.size v7 A := by
          rw [HA.out]
          exact Cmds.more (w := w6) (v := .slice ay nL cy) (xs := ys) (ys := xs) (by rw [← HN.out.2]; exact hy0) Hy2.out Hx2.out (by rw [← HN.out.1, ← HN.out.2]; exact hown7) hgr7
        have HW7 := CmB.cmds (CmB.kept HW6.out hgr7 (fun k hk => .inr (hy0.lt k hk).1))
        have hb7w : Below w.heap.size w w7 := hb6w.grown hgr7 hb6w.size (fun k hk => Nat.le_trans hw4s (hy0.lt k hk).1)
        obtain ⟨a1, c1, rfl, -, -, hs1⟩ := hC7.css
        obtain ⟨a2, c2, hv2, -, -, hs2⟩ := HW7.css
        simp only [Value.slice.injEq] at hv2
        obtain ⟨rfl, -, rfl⟩ := hv2
        have hAl : A.length ≤ 1048576 := by rw [HA.out, List.length_append, ← HN.out.1, ← HN.out.2]; omega
        have CS := same_any a1 c1 A aw cw A w7 hs1 hs2 hAl hAl H8.out H8.out
        rw [decide_eq_true rfl, ← HnA.out] at CS
        rw [← HnA.out]
        have CS : Hid _ := CS
        clear hC7 HW7 hs1 hs2 hAl hown7 hgr7 HW6 hy0 hx0 Hx2 Hy2 hyc hxc hxn hyn hx1 hy1 hcv hsl hgr
        have hFF : ((Fw : Int) == (Fw : Int)) = true := by rw [beq_self_eq_true]
        go_wp2_with fail
        refine Calls.mono CS.out ?_
        rintro e w8 ⟨rfl, hb8⟩
        go_wp2
        go_ret
        exact ⟨rfl, hb7w.trans (hb8.mono hb7w.size)⟩
  · go_enter Tryd.func5, Tryd.ntmps5
    go_wp2_with fail
    refine Calls.mono (awake_any w ht) ?_
    rintro e w1 ⟨rfl, hb1⟩
    go_wp2_with fail
    refine Calls.mono (new_any w1) ?_
    rintro e wB ⟨rfl, -, hbB, -⟩
    obtain ⟨g, hg⟩ : ∃ g, g = wB.heap.size := ⟨_, rfl⟩
    obtain ⟨wA, hwA0⟩ : ∃ wA, wA = wB.alloc (Obj.cells #[.string ByteArray.empty, .int .i64 0] 45) := ⟨_, rfl⟩
    have hP : Pz wA g (tx []) 0 := by rw [hg, hwA0]; exact pz_new wB
    have hwB := hb1.trans (hbB.mono hb1.size)
    have hwg : w.heap.size ≤ g := by rw [hg]; exact hwB.size
    have hwA : Below w.heap.size w wA := by rw [hwA0]; exact hwB.alloc hwB.size _
    have hgA := hP.lt
    have hwA1 : wB.alloc (Obj.cells #[.string ⟨#[]⟩, .int .i64 0] 45) = wA := hwA0.symm
    have hg1 : wB.heap.size = g := hg.symm
    clear hg hbB hb1 hwA0 hwB
    go_wp2_with fail
    refine Calls.mono (new_any wA) ?_
    rintro e w2 ⟨rfl, hP2, hb2, -⟩
    obtain ⟨cap, w3, hcv, hB3, hb3⟩ := conv_piece l w2 (by have := Hn.out; omega)
    rw [← Hn.out] at hcv hB3
    have hA3 := hb2.trans (hb3.mono hb2.size)
    have C := feed_any wA.heap.size 0 [] _ n cap l w3 (hP2.below hb3) hB3 (by simp only [List.length_nil]; omega)
    have C : Hid _ := C
    clear hB3
    go_wp2_with fail
    refine Calls.mono C.out ?_
    rintro e w4 ⟨vw, rfl, hcw, -, hgr4⟩
    have hA4 : Below wA.heap.size wA w4 := hA3.grown hgr4 hA3.size (fun k hk => by cases hk; exact Nat.le_refl _)
    have hw4 := hwA.trans (hA4.mono hwA.size)
    have hCW : Hid (CmB w4 wA.heap.size w4.heap.size vw (cm (fdL [] 0 l))) := (hcw.rebase hA3.size).top
    have hfl := fdF_le [] 0 l (by decide)
    have hg4 : g < w4.heap.size := Nat.lt_of_lt_of_le hgA hA4.size
    have HP4 : Hid (Pz w4 g (tx (fdS [] 0 [])) (fdF [] 0 [])) := by rw [Hid, fd_nil.2.1, fd_nil.2.2]; exact hP.below hA4
    clear hcw hgr4 hA3 hb3 hb2 hcv hP2 C hP
    obtain ⟨Fw, hFw⟩ : ∃ Fw, Fw = fdF [] 0 l := ⟨_, rfl⟩
    have hFw : Hid _ := hFw
    rw [← hFw.out] at hfl ⊢
    have hw4s : w.heap.size ≤ w4.heap.size := hw4.size
    go_wp2_with fail
    go_loopw [10, 12, 43] (fun v t i wr => ∃ k a : Nat, k ≤ m ∧ a ≤ n ∧ t = .int .i64 (a : Int) ∧ i = .int .i64 (k : Int) ∧ Hid (Sofar wr w4.heap.size g v (l.take a)) ∧ Hid (CmB wr wA.heap.size w4.heap.size vw (cm (fdL [] 0 l))) ∧ Below w.heap.size w wr ∧ w4.heap.size ≤ wr.heap.size) (fun _ _ i _ => m - (intOf i).toNat)
    case atStart => exact ⟨0, 0, Nat.zero_le _, Nat.zero_le _, rfl, rfl, by rw [Hid, List.take_zero]; exact ⟨HP4.out, by rw [fd_nil.1]; exact Cmds.nil _ _⟩, hCW.out, hw4, Nat.le_refl _⟩
    case round =>
      obtain ⟨k, a, hk, ha, rfl, rfl, HS, HW, hbel, hsz⟩ := hrel
      clear hCW HP4 hw4 hA4
      by_cases hlt : k < m
      · rcases (hb.below hbel (Nat.le_refl _)).norm with ⟨h0, -⟩ | ⟨b, off, hao, -, hcell⟩
        · omega
        subst hao
        have hc := hcell k hlt
        have hx8 := (lc.getD k 0).toNat_lt
        generalize (lc.getD k 0).toNat = x at *
        obtain ⟨q, hq⟩ : ∃ q, q = min (a + x) n := ⟨_, rfl⟩
        have hmin : min ((a : Int) + (x : Int)) (n : Int) = (q : Int) := by omega
        have haq : a ≤ q := by omega
        have hqn : q ≤ n := by omega
        clear hq hcell
        have hsl : ∀ W, (Instr.slice 9 (.string (tx l)) (some (.int .i64 (a : Int))) (some (.int .i64 (q : Int))) none).run Tryd.prog W = .ok (.string (tx ((l.drop a).take (q - a)))) W := fun W => by
          have := slice_tx (tx l) a q (a : Int) (q : Int) rfl rfl haq (by rw [hz]; exact hqn) W
          rwa [tx_list] at this
        have hpl : ((l.drop a).take (q - a)).length = q - a := by rw [List.length_take, List.length_drop, ← Hn.out]; omega
        obtain ⟨P, hP⟩ : ∃ P, P = (l.drop a).take (q - a) := ⟨_, rfl⟩
        have HQ : Hid (l.take q = l.take a ++ P) := by
          rw [Hid, hP, show q = a + (q - a) by omega, List.take_add, show a + (q - a) - a = q - a by omega]
        rw [← hP] at hsl hpl
        obtain ⟨cap, w5, hcv, hB5, hb5⟩ := conv_piece P wr (by omega)
        rw [hpl] at hcv hB5
        have hd1 := fdS_len (l.take a)
        rw [List.length_take] at hd1
        have hP5 := HS.out.1.below hb5
        have hC5 := HS.out.2.below hb5
        have hW5 := CmB.kept HW.out (grown_of_below hb5 none) (fun k hk => by cases hk)
        have happ := fd_app (l.take a) P
        rw [← HQ.out] at happ
        have C := feed_any g _ _ _ _ _ P w5 hP5 hB5 (by omega)
        rw [← happ.2.1, ← happ.2.2] at C
        have C : Hid _ := C
        have hL1 := fdL_len [] 0 (l.take a)
        have hL2 := fdL_len (fdS [] 0 (l.take a)) (fdF [] 0 (l.take a)) P
        rw [List.length_take, List.length_nil] at hL1
        have HL1 : Hid ((cm (fdL [] 0 (l.take a))).length ≤ 3000) := by rw [Hid, cm_length]; omega
        have HL2 : Hid ((cm (fdL (fdS [] 0 (l.take a)) (fdF [] 0 (l.take a)) P)).length ≤ 7000) := by rw [Hid, cm_length]; omega
        have HA : Hid (cm (fdL [] 0 (l.take q)) = cm (fdL [] 0 (l.take a)) ++ cm (fdL (fdS [] 0 (l.take a)) (fdF [] 0 (l.take a)) P)) := by rw [Hid, happ.1, cm_app]
        have hb5w := hbel.trans (hb5.mono hbel.size)
        have hsz5 : w4.heap.size ≤ w5.heap.size := Nat.le_trans hsz hb5.size
        have HC5 : Hid _ := hC5
        have HW5 : Hid _ := hW5
        clear happ hP5 hC5 hW5 hB5 HS HW hL1 hL2 hd1 hpl hP HQ hb5 hsz
        generalize cm (fdL (fdS [] 0 (l.take a)) (fdF [] 0 (l.take a)) P) = N at *
        generalize cm (fdL [] 0 (l.take a)) = L at *
        obtain ⟨Fq, hFq⟩ : ∃ Fq, Fq = fdF [] 0 (l.take q) := ⟨_, rfl⟩
        have hFq : Hid _ := hFq
        rw [← hFq.out] at C
        generalize q - a = qa at *
        go_wp2_with fail
        refine Calls.mono C.out ?_
        rintro e w6 ⟨vm, rfl, hcm, hP6, hgr⟩
        have hb6w : Below w.heap.size w w6 := hb5w.grown hgr hb5w.size (fun j hj => by cases hj; exact hwg)
        have hsz6 : w4.heap.size ≤ w6.heap.size := Nat.le_trans hsz5 hgr.size
        have hC6 := Cmds.kept HC5.out hgr hg4
        have HW6 : Hid _ := CmB.kept HW5.out hgr (fun k hk => by cases hk; exact .inl hgA)
        have hcm := hcm.rebase hsz5
        obtain ⟨ax, cx, xs, rfl, hxl, hxn, hxc, hx1, hx0, hx2⟩ := hcm.cells
        obtain ⟨ay, cy, ys, rfl, hyl, hyn, hyc, hy1, hy0, hy2⟩ := hC6.cells
        have hl1 := HL1.out
        have hl2 := HL2.out
        obtain ⟨nN, hnN⟩ : ∃ nN, nN = N.length := ⟨_, rfl⟩
        obtain ⟨nL, hnL⟩ : ∃ nL, nL = L.length := ⟨_, rfl⟩
        have HN : Hid (nN = N.length ∧ nL = L.length) := ⟨hnN, hnL⟩
        rw [← hnN] at hl2 hxl hxn hx0 ⊢
        rw [← hnL] at hl1 hyl hyn hy0 ⊢
        have Hx2 : Hid _ := hx2
        have Hy2 : Hid _ := hy2
        clear hcm hC6 HC5 HW5 hb5w hsz5 hx2 hy2 hnN hnL C
        go_wp2_with (first
          | (at_builtin; refine wpList_app rfl (.tmp 66) (.tmp 67) 36 rfl w4.heap.size 22 i0 (.slice none 0 0) 24 Tryd.underlying36 hi hz0 hz1 hz2 rfl (.slice ay nL cy) nL ys rfl hy0 ax nN cx xs rfl hxl hxn hxc hx1 (by unfold maxLen; omega) (by omega) hsz6 ?_))
        rintro v7 w7 hown7 hgr7
        have hC7 : Cmds w7 w4.heap.size v7 (L ++ N) :=
          Cmds.more (w := w6) (v := .slice ay nL cy) (xs := ys) (ys := xs) (by rw [← HN.out.2]; exact hy0) Hy2.out Hx2.out (by rw [← HN.out.1, ← HN.out.2]; exact hown7) hgr7
        have hP7 : Pz w7 g (tx (fdS [] 0 (l.take q))) Fq := hP6.same (hgr7.block g hP6.lt (fun e => by have := (hy0.lt g (by first | exact e | exact e.symm)).1; omega))
        have HS7 : Hid (Sofar w7 w4.heap.size g v7 (l.take q)) := by
          refine ⟨by rw [← hFq.out]; exact hP7, ?_⟩
          rw [HA.out]; exact hC7
        have HW7 : Hid (CmB w7 wA.heap.size w4.heap.size vw (cm (fdL [] 0 l))) := CmB.kept HW6.out hgr7 (fun k hk => .inr (hy0.lt k hk).1)
        have hb7w : Below w.heap.size w w7 := hb6w.grown hgr7 hb6w.size (fun k hk => Nat.le_trans hw4s (hy0.lt k hk).1)
        have hsz7 : w4.heap.size ≤ w7.heap.size := Nat.le_trans hsz6 hgr7.size
        obtain ⟨vo, vn, vc, rfl⟩ : ∃ vo vn vc, v7 = .slice vo vn vc := by
          obtain ⟨a1, a2, a3, -⟩ := hC7.val
          exact ⟨_, _, _, a3⟩
        clear hC7 hP7 hown7 hgr7 HW6 hP6 hy0 hx0 Hx2 Hy2 hyc hxc hxn hyn hx1 hy1 hcv hsl hgr
        go_wp2
        go_roundw
        case rel => exact ⟨k + 1, q, by omega, hqn, rfl, by go_num, HS7.out, HW7.out, hb7w, hsz7⟩
        case measure => simp [intOf]; omega
      · obtain rfl : k = m := by omega
        clear hb
        have hsl : ∀ W, (Instr.slice 9 (.string (tx l)) (some (.int .i64 (a : Int))) none none).run Tryd.prog W = .ok (.string (tx (l.drop a))) W := fun W => by
          rw [run_slice_string_l W 9 (tx l) Tryd.underlying9 .i64 (a : Int) (by omega) (by rw [hz]; omega), Int.toNat_natCast, ext_tx, tx_list, hz, List.take_of_length_le (by rw [List.length_drop, ← Hn.out]; omega)]
        have hpl : (l.drop a).length = n - a := by rw [List.length_drop, ← Hn.out]
        obtain ⟨P, hP⟩ : ∃ P, P = l.drop a := ⟨_, rfl⟩
        have HQ : Hid (l = l.take a ++ P) := by rw [Hid, hP, List.take_append_drop]
        rw [← hP] at hsl hpl
        obtain ⟨cap, w5, hcv, hB5, hb5⟩ := conv_piece P wr (by omega)
        rw [hpl] at hcv hB5
        have hd1 := fdS_len (l.take a)
        rw [List.length_take] at hd1
        have hP5 := HS.out.1.below hb5
        have hC5 := HS.out.2.below hb5
        have hW5 := CmB.kept HW.out (grown_of_below hb5 none) (fun k hk => by cases hk)
        have happ := fd_app (l.take a) P
        rw [← HQ.out] at happ
        have C := feed_any g _ _ _ _ _ P w5 hP5 hB5 (by omega)
        rw [← happ.2.1, ← hFw.out] at C
        have C : Hid _ := C
        have hL1 := fdL_len [] 0 (l.take a)
        have hL2 := fdL_len (fdS [] 0 (l.take a)) (fdF [] 0 (l.take a)) P
        have hL8 := (fdL_len [] 0 l).2
        rw [List.length_take, List.length_nil] at hL1
        have HL1 : Hid ((cm (fdL [] 0 (l.take a))).length ≤ 3000) := by rw [Hid, cm_length]; omega
        have HL2 : Hid ((cm (fdL (fdS [] 0 (l.take a)) (fdF [] 0 (l.take a)) P)).length ≤ 7000) := by rw [Hid, cm_length]; omega
        have HA : Hid (cm (fdL [] 0 l) = cm (fdL [] 0 (l.take a)) ++ cm (fdL (fdS [] 0 (l.take a)) (fdF [] 0 (l.take a)) P)) := by rw [Hid, happ.1, cm_app]
        have H8 : Hid (∀ S ∈ cm (fdL [] 0 l), S.length ≤ 1048576) := fun S hS => by
          obtain ⟨x, hx, rfl⟩ := List.mem_map.1 hS
          have := hL8 x hx
          rw [List.length_map]; omega
        have hb5w := hbel.trans (hb5.mono hbel.size)
        have hsz5 : w4.heap.size ≤ w5.heap.size := Nat.le_trans hsz hb5.size
        have HC5 : Hid _ := hC5
        have HW5 : Hid _ := hW5
        clear happ hP5 hC5 hW5 hB5 HS HW hL1 hL2 hd1 hpl hP HQ hb5 hsz hL8
        generalize cm (fdL (fdS [] 0 (l.take a)) (fdF [] 0 (l.take a)) P) = N at *
        generalize cm (fdL [] 0 (l.take a)) = L at *
        generalize cm (fdL [] 0 l) = A at *
        generalize n - a = qa at *
        go_wp2_with fail
        refine Calls.mono C.out ?_
        rintro e w6 ⟨vm, rfl, hcm, hP6, hgr⟩
        have hb6w : Below w.heap.size w w6 := hb5w.grown hgr hb5w.size (fun j hj => by cases hj; exact hwg)
        have hsz6 : w4.heap.size ≤ w6.heap.size := Nat.le_trans hsz5 hgr.size
        have hC6 := Cmds.kept HC5.out hgr hg4
        have HW6 : Hid _ := CmB.kept HW5.out hgr (fun k hk => by cases hk; exact .inl hgA)
        have hcm := hcm.rebase hsz5
        obtain ⟨ax, cx, xs, rfl, hxl, hxn, hxc, hx1, hx0, hx2⟩ := hcm.cells
        obtain ⟨ay, cy, ys, rfl, hyl, hyn, hyc, hy1, hy0, hy2⟩ := hC6.cells
        have hl1 := HL1.out
        have hl2 := HL2.out
        obtain ⟨nN, hnN⟩ : ∃ nN, nN = N.length := ⟨_, rfl⟩
        obtain ⟨nL, hnL⟩ : ∃ nL, nL = L.length := ⟨_, rfl⟩
        have HN : Hid (nN = N.length ∧ nL = L.length) := ⟨hnN, hnL⟩
        rw [← hnN] at hl2 hxl hxn hx0 ⊢
        rw [← hnL] at hl1 hyl hyn hy0 ⊢
        have Hx2 : Hid _ := hx2
        have Hy2 : Hid _ := hy2
        clear hcm hC6 HC5 HW5 hb5w hsz5 hx2 hy2 hnN hnL C hP6
        obtain ⟨aw, cw, hvw⟩ : ∃ aw cw, vw = .slice aw A.length cw := by
          obtain ⟨a1, a2, a3, -⟩ := (CmB.cmds HW6.out).css
          exact ⟨_, _, a3⟩
        obtain ⟨nA, hnA⟩ : ∃ nA, nA = A.length := ⟨_, rfl⟩
        rw [← hnA] at hvw
        have HnA : Hid (nA = A.length) := hnA
        clear hnA
        subst hvw
        go_wp2_with (first
          | (at_builtin; refine wpList_app rfl (.tmp 80) (.tmp 81) 36 rfl w4.heap.size 22 i0 (.slice none 0 0) 24 Tryd.underlying36 hi hz0 hz1 hz2 rfl (.slice ay nL cy) nL ys rfl hy0 ax nN cx xs rfl hxl hxn hxc hx1 (by unfold maxLen; omega) (by omega) hsz6 ?_))
        rintro v7 w7 hown7 hgr7
        have hC7 : Cmds w7 w4.heap.size v7 A := by
          rw [HA.out]
          exact Cmds.more (w := w6) (v := .slice ay nL cy) (xs := ys) (ys := xs) (by rw [← HN.out.2]; exact hy0) Hy2.out Hx2.out (by rw [← HN.out.1, ← HN.out.2]; exact hown7) hgr7
        have HW7 := CmB.cmds (CmB.kept HW6.out hgr7 (fun k hk => .inr (hy0.lt k hk).1))
        have hb7w : Below w.heap.size w w7 := hb6w.grown hgr7 hb6w.size (fun k hk => Nat.le_trans hw4s (hy0.lt k hk).1)
        obtain ⟨a1, c1, rfl, -, -, hs1⟩ := hC7.css
        obtain ⟨a2, c2, hv2, -, -, hs2⟩ := HW7.css
        simp only [Value.slice.injEq] at hv2
        obtain ⟨rfl, -, rfl⟩ := hv2
        have hAl : A.length ≤ 1048576 := by rw [HA.out, List.length_append, ← HN.out.1, ← HN.out.2]; omega
        have CS := same_any a1 c1 A aw cw A w7 hs1 hs2 hAl hAl H8.out H8.out
        rw [decide_eq_true rfl, ← HnA.out] at CS
        rw [← HnA.out]
        have CS : Hid _ := CS
        clear hC7 HW7 hs1 hs2 hAl hown7 hgr7 HW6 hy0 hx0 Hx2 Hy2 hyc hxc hxn hyn hx1 hy1 hcv hsl hgr
        have hFF : ((Fw : Int) == (Fw : Int)) = true := by rw [beq_self_eq_true]
        go_wp2_with fail
        refine Calls.mono CS.out ?_
        rintro e w8 ⟨rfl, hb8⟩
        go_wp2
        go_ret
        exact ⟨rfl, hb7w.trans (hb8.mono hb7w.size)⟩
end Go.Proofs.YtkhfplpplmnjiaaDoor
