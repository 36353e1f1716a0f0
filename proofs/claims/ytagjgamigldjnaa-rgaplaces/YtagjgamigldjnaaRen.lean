/-
  What the reference's Type and Ends come to.
-/
import Derived.Test.YtagjgamigldjnaaGj
import Derived.Test.YtagjgamigldjnaaLun
import Derived.Test.YtagjgamigldjnaaPwl
namespace Go.Proofs.Ytagjgamigldjnaa
set_option maxRecDepth 100000
open Go.RowKit

def kindAt (i : Nat) : Int := [1, 2, 3, 5, 7, 9].getD i 0
set_option maxHeartbeats 1000000 in
theorem rtype_any (k : Int) (w : World) : Calls Try.prog 36 #[.int .i64 k] w fun e w' => e = .returned (.int .i64 (typE k)) ∧ Below w.heap.size w w' := by
  obtain ⟨W, hW⟩ : ∃ W, w.alloc (.cells #[.int .i64 1, .int .i64 2, .int .i64 3, .int .i64 5, .int .i64 7, .int .i64 9] 3) = W := ⟨_, rfl⟩
  have hg : W.heap[w.heap.size]? = some (.cells #[.int .i64 1, .int .i64 2, .int .i64 3, .int .i64 5, .int .i64 7, .int .i64 9] 3 (0, 0)) := by rw [← hW]; exact heap_alloc_new w _
  have HB : Hid (Below w.heap.size w W) := by show Below _ _ _; rw [← hW]; exact (Below.refl _ _).alloc (Nat.le_refl _) _
  have HC : Hid (∀ i, i < 6 → W.cell? ⟨w.heap.size, i, none⟩ = some (.int .i64 (kindAt i))) := by
    show ∀ i, i < 6 → _
    intro i hi
    rw [cell_of_row W _ i _ _ _ hg]
    match i, hi with
    | 0, _ => rfl
    | 1, _ => rfl
    | 2, _ => rfl
    | 3, _ => rfl
    | 4, _ => rfl
    | 5, _ => rfl
  have HW : Hid (w.alloc (.cells #[.int .i64 1, .int .i64 2, .int .i64 3, .int .i64 5, .int .i64 7, .int .i64 9] 3) = W) := hW
  clear hg hW
  go_enter Try.func36, Try.ntmps36
  go_wp2
  go_loopg [8] 6 (fun kx s8 wr => ∃ i : Nat, s8 = .int .i64 i ∧ i ≤ 6 ∧ 6 - i ≤ kx ∧ wr = W ∧ Hid (∀ q, q < i → kindAt q ≠ k))
  case atStart => exact ⟨0, rfl, by omega, by omega, HW.out, fun q h => by omega⟩
  case round =>
    obtain ⟨i, rfl, hi6, hkx, rfl, HN⟩ := hrel
    by_cases hlt : i < 6
    · have hltz : (i : Int) < 6 := by omega
      have ci := HC.out i hlt
      by_cases hk : kindAt i = k
      · have HT : Hid ((i : Int) + 1 = typE k) := by
          show _ = _
          rw [← hk]
          match i, hlt with
          | 0, _ => rfl
          | 1, _ => rfl
          | 2, _ => rfl
          | 3, _ => rfl
          | 4, _ => rfl
          | 5, _ => rfl
        have hkb : (kindAt i == k) = true := by simpa using hk
        go_wp2
        go_ret
        exact ⟨by rw [← HT.out]; rfl, HB.out⟩
      · have hkb : (kindAt i == k) = false := by simpa using hk
        have HN2 : Hid (∀ q, q < i + 1 → kindAt q ≠ k) := fun q hq => by
          by_cases h : q < i
          · exact HN.out q h
          · obtain rfl : q = i := by omega
            exact hk
        clear HN
        go_wp2
        go_roundg (6 - (i + 1))
        case measure => omega
        case rel => exact ⟨i + 1, by go_num, by omega, Nat.le_refl _, rfl, HN2⟩
    · obtain rfl : i = 6 := by omega
      have HT : Hid (typE k = 0) := by
        show _ = _
        have h0 := HN.out 0 (by omega)
        have h1 := HN.out 1 (by omega)
        have h2 := HN.out 2 (by omega)
        have h3 := HN.out 3 (by omega)
        have h4 := HN.out 4 (by omega)
        have h5 := HN.out 5 (by omega)
        simp only [kindAt, List.getD_cons_zero, List.getD_cons_succ, ne_eq] at h0 h1 h2 h3 h4 h5
        unfold typE
        rw [if_neg (fun e => h0 e.symm), if_neg (fun e => h1 e.symm), if_neg (fun e => h2 e.symm), if_neg (fun e => h3 e.symm), if_neg (fun e => h4 e.symm), if_neg (fun e => h5 e.symm)]
      clear HN
      go_wp2
      go_ret
      exact ⟨by rw [HT.out]; rfl, HB.out⟩

theorem load_dotm {w : World} {g k : Nat} {r n : Int} (h : w.rangeAt g k (dotc r n).toList) : (loadVar 26 ⟨g, k, none⟩).run Try.prog w = .ok (.agg (dotc r n)) w :=
  run_loadVar_mid (P := Try.prog) w g k 26 _ _ h Try.underlying26 rfl (by kernel_rfl)
theorem LiesE.rf {w : World} {g : Nat} {e : Ev} (h : LiesE w g e) (hl : e.deps.length = 16) : w.rangeAt g (19 + 5) (dotc e.rr e.rn).toList := h.ref hl
set_option maxHeartbeats 4000000 in
theorem rends_any (b a : Ev) (hb16 : b.deps.length = 16) (ha16 : a.deps.length = 16) (w : World) : Calls Try.prog 28 #[.agg (evc b), .agg (evc a)] w fun e w' => e = .returned (.bool (endsE b a)) ∧ Below w.heap.size w w' := by
  obtain ⟨hb, ha, hB⟩ := boxedEE w b a
  have HB : Hid (Below w.heap.size w ((w.alloc (.cells (evc b) 41)).alloc (.cells (evc a) 41))) := hB
  clear hB
  go_enter Try.func28, Try.ntmps28
  go_wp2_with (first | refine load_ev rfl rfl rfl hb hb16 ?_ | refine load_ev rfl rfl rfl ha ha16 ?_)
  refine (rcovers_any b a hb16 _).mono ?_
  rintro e w1 ⟨rfl, hb1⟩
  have hb' := hb.below hb1 hb.lt
  have ha' := ha.below hb1 ha.lt
  have HB1 : Hid (Below w.heap.size w w1) := HB.out.trans (hb1.mono HB.out.size)
  clear hb ha hb1 HB
  rcases Bool.eq_false_or_eq_true (coversE b a) with hc | hc
  · have ca := ha'.c19 ha16
    rw [hc]
    go_wp2_with fail
    refine (rtype_any a.kind w1).mono ?_
    rintro e w2 ⟨rfl, hb2⟩
    have hb := hb'.below hb2 hb'.lt
    have ha := ha'.below hb2 ha'.lt
    have HB2 : Hid (Below w.heap.size w w2) := HB1.out.trans (hb2.mono HB1.out.size)
    clear hb' ha' hb2 HB1 ca
    by_cases ht : typE a.kind = 0
    · have HR : Hid (endsE b a = false) := by show _ = _; unfold endsE; rw [(typ_adds a.kind).1 ht]; simp
      have htb : (typE a.kind == 0) = true := by simpa using ht
      clear hb ha
      go_wp2
      go_ret
      exact ⟨by rw [HR.out]; rfl, HB2.out⟩
    · have htb : (typE a.kind == 0) = false := by simpa using ht
      have hadd : addsE a.kind = true := by
        cases h : addsE a.kind
        · exact absurd ((typ_adds a.kind).2 h) ht
        · rfl
      have kb := hb.c20 hb16
      have ka := ha.c20 ha16
      have hkb := sb_beq b.key a.key
      by_cases hk : b.key = a.key
      · have HR : Hid (endsE b a = hits b a) := by show _ = _; unfold endsE; rw [hc, hadd, decide_eq_true hk]; simp
        have fb := hb.c21 hb16
        have fa := ha.c21 ha16
        have cb := hb.c19 hb16
        have ca := ha.c19 ha16
        have rb := hb.rf hb16
        have da := ha.dot
        have hfe := sb_beq b.field a.field
        rw [decide_eq_true hk] at hkb
        clear hb ha hk ht
        go_upto_region 4 with (fail)
        go_quiet (fail)
        have HB3 : Hid (Below w.heap.size w (w2.drewN nq)) := Below.drewN HB2.out nq
        have rb' : (w2.drewN nq).rangeAt w.heap.size (19 + 5) (dotc b.rr b.rn).toList := rb
        have da' : (w2.drewN nq).rangeAt (w.heap.size + 1) 0 (dotc a.r a.n).toList := da
        clear rb da kb ka fb fa cb ca HB2 hkb htb
        generalize w2.drewN nq = w3 at HB3 rb' da' ⊢
        generalize hqf : decide (b.field = a.field) = qf at hfe
        obtain ⟨qd, hqd⟩ : ∃ qd, decide (b.rr = a.r ∧ b.rn = a.n) = qd := ⟨_, rfl⟩
        have HQF : Hid (decide (b.field = a.field) = qf) := hqf
        have HQD : Hid (decide (b.rr = a.r ∧ b.rn = a.n) = qd) := hqd
        clear hqf hqd
        rename_i hGo
        refine hGo _ _ ?_
        apply wp_seq_k
        intro Kr hRest
        apply wp_region_lit
        by_cases b11 : b.kind = 11
        · have x11 : (b.kind == 11) = true := by simpa using b11
          refine wpl_out (n := 112) ([(2, .pointer (some ⟨w.heap.size, 0, none⟩)), (3, .pointer (some ⟨w.heap.size + 1, 0, none⟩)), (5, .bool qf), (6, .int .i64 b.kind), (7, .int .i64 a.kind)]) [.b true] [4] [.bool true] [.eq b.kind 11 true] rfl (Knows.cons (Knows.cons (Knows.cons (Knows.cons (Knows.cons (Knows.nil _) rfl) rfl) rfl) rfl) rfl) (by kernel_rfl) ⟨x11, trivial⟩ (fun A hA hd hv => ?_)
          have h4 := hv 0 4 _ rfl rfl
          refine hRest _ _ ?_
          apply wp_ret
          refine bodyPost_ret (results_tmp rfl _ _ _) hd ⟨?_, HB3.out⟩
          rw [Array.getD_eq_getD_getElem?, h4, HR.out]
          exact congrArg (fun q => Ending.returned (.bool q)) (by unfold hits; simp [b11])
        have x11 : (b.kind == 11) = false := by simpa using b11
        by_cases b4 : b.kind = 4
        · have x4 : (b.kind == 4) = true := by simpa using b4
          have x3 : (b.kind == 3) = false := by rw [b4]; rfl
          have x6 : (b.kind == 6) = false := by rw [b4]; rfl
          have x5 : (b.kind == 5) = false := by rw [b4]; rfl
          have x8 : (b.kind == 8) = false := by rw [b4]; rfl
          have x7 : (b.kind == 7) = false := by rw [b4]; rfl
          have x1 : (b.kind == 1) = false := by rw [b4]; rfl
          have x10 : (b.kind == 10) = false := by rw [b4]; rfl
          by_cases ak : a.kind = 3
          · have y3 : (a.kind == 3) = true := by simpa using ak
            cases qf with
            | true =>
              have hx := of_decide_eq_true HQF.out
              refine wpl_out (n := 112) ([(2, .pointer (some ⟨w.heap.size, 0, none⟩)), (3, .pointer (some ⟨w.heap.size + 1, 0, none⟩)), (5, .bool true), (6, .int .i64 b.kind), (7, .int .i64 a.kind)]) [.b false, .b true, .b true] [4] [.bool true] [.eq b.kind 11 false, .eq b.kind 4 true, .eq a.kind 3 true] rfl (Knows.cons (Knows.cons (Knows.cons (Knows.cons (Knows.cons (Knows.nil _) rfl) rfl) rfl) rfl) rfl) (by kernel_rfl) ⟨x11, x4, y3, trivial⟩ (fun A hA hd hv => ?_)
              have h4 := hv 0 4 _ rfl rfl
              refine hRest _ _ ?_
              apply wp_ret
              refine bodyPost_ret (results_tmp rfl _ _ _) hd ⟨?_, HB3.out⟩
              rw [Array.getD_eq_getD_getElem?, h4, HR.out]
              exact congrArg (fun q => Ending.returned (.bool q)) (by unfold hits; simp [b4, ak, hx])
            | false =>
              have hx := of_decide_eq_false HQF.out
              refine wpl_out (n := 112) ([(2, .pointer (some ⟨w.heap.size, 0, none⟩)), (3, .pointer (some ⟨w.heap.size + 1, 0, none⟩)), (5, .bool false), (6, .int .i64 b.kind), (7, .int .i64 a.kind)]) [.b false, .b true, .b true, .b false, .b false, .b false, .b false, .b false, .b false] [4] [.bool false] [.eq b.kind 11 false, .eq b.kind 4 true, .eq a.kind 3 true, .eq b.kind 6 false, .eq b.kind 5 false, .eq b.kind 8 false, .eq b.kind 7 false, .eq b.kind 1 false, .eq b.kind 10 false] rfl (Knows.cons (Knows.cons (Knows.cons (Knows.cons (Knows.cons (Knows.nil _) rfl) rfl) rfl) rfl) rfl) (by kernel_rfl) ⟨x11, x4, y3, x6, x5, x8, x7, x1, x10, trivial⟩ (fun A hA hd hv => ?_)
              have h4 := hv 0 4 _ rfl rfl
              refine hRest _ _ ?_
              apply wp_ret
              refine bodyPost_ret (results_tmp rfl _ _ _) hd ⟨?_, HB3.out⟩
              rw [Array.getD_eq_getD_getElem?, h4, HR.out]
              exact congrArg (fun q => Ending.returned (.bool q)) (by unfold hits; simp [b4, ak, hx])
          · have y3 : (a.kind == 3) = false := by simpa using ak
            refine wpl_out (n := 112) ([(2, .pointer (some ⟨w.heap.size, 0, none⟩)), (3, .pointer (some ⟨w.heap.size + 1, 0, none⟩)), (5, .bool qf), (6, .int .i64 b.kind), (7, .int .i64 a.kind)]) [.b false, .b true, .b false, .b false, .b false, .b false, .b false, .b false, .b false] [4] [.bool false] [.eq b.kind 11 false, .eq b.kind 4 true, .eq a.kind 3 false, .eq b.kind 6 false, .eq b.kind 5 false, .eq b.kind 8 false, .eq b.kind 7 false, .eq b.kind 1 false, .eq b.kind 10 false] rfl (Knows.cons (Knows.cons (Knows.cons (Knows.cons (Knows.cons (Knows.nil _) rfl) rfl) rfl) rfl) rfl) (by kernel_rfl) ⟨x11, x4, y3, x6, x5, x8, x7, x1, x10, trivial⟩ (fun A hA hd hv => ?_)
            have h4 := hv 0 4 _ rfl rfl
            refine hRest _ _ ?_
            apply wp_ret
            refine bodyPost_ret (results_tmp rfl _ _ _) hd ⟨?_, HB3.out⟩
            rw [Array.getD_eq_getD_getElem?, h4, HR.out]
            exact congrArg (fun q => Ending.returned (.bool q)) (by unfold hits; simp [b4, ak])
        have x4 : (b.kind == 4) = false := by simpa using b4
        by_cases b3 : b.kind = 3
        · have x3 : (b.kind == 3) = true := by simpa using b3
          have x4 : (b.kind == 4) = false := by rw [b3]; rfl
          have x6 : (b.kind == 6) = false := by rw [b3]; rfl
          have x5 : (b.kind == 5) = false := by rw [b3]; rfl
          have x8 : (b.kind == 8) = false := by rw [b3]; rfl
          have x7 : (b.kind == 7) = false := by rw [b3]; rfl
          have x1 : (b.kind == 1) = false := by rw [b3]; rfl
          have x10 : (b.kind == 10) = false := by rw [b3]; rfl
          by_cases ak : a.kind = 3
          · have y3 : (a.kind == 3) = true := by simpa using ak
            cases qf with
            | true =>
              have hx := of_decide_eq_true HQF.out
              refine wpl_out (n := 112) ([(2, .pointer (some ⟨w.heap.size, 0, none⟩)), (3, .pointer (some ⟨w.heap.size + 1, 0, none⟩)), (5, .bool true), (6, .int .i64 b.kind), (7, .int .i64 a.kind)]) [.b false, .b false, .b true, .b true] [4] [.bool true] [.eq b.kind 11 false, .eq b.kind 4 false, .eq b.kind 3 true, .eq a.kind 3 true] rfl (Knows.cons (Knows.cons (Knows.cons (Knows.cons (Knows.cons (Knows.nil _) rfl) rfl) rfl) rfl) rfl) (by kernel_rfl) ⟨x11, x4, x3, y3, trivial⟩ (fun A hA hd hv => ?_)
              have h4 := hv 0 4 _ rfl rfl
              refine hRest _ _ ?_
              apply wp_ret
              refine bodyPost_ret (results_tmp rfl _ _ _) hd ⟨?_, HB3.out⟩
              rw [Array.getD_eq_getD_getElem?, h4, HR.out]
              exact congrArg (fun q => Ending.returned (.bool q)) (by unfold hits; simp [b3, ak, hx])
            | false =>
              have hx := of_decide_eq_false HQF.out
              refine wpl_out (n := 112) ([(2, .pointer (some ⟨w.heap.size, 0, none⟩)), (3, .pointer (some ⟨w.heap.size + 1, 0, none⟩)), (5, .bool false), (6, .int .i64 b.kind), (7, .int .i64 a.kind)]) [.b false, .b false, .b true, .b true, .b false, .b false, .b false, .b false, .b false, .b false] [4] [.bool false] [.eq b.kind 11 false, .eq b.kind 4 false, .eq b.kind 3 true, .eq a.kind 3 true, .eq b.kind 6 false, .eq b.kind 5 false, .eq b.kind 8 false, .eq b.kind 7 false, .eq b.kind 1 false, .eq b.kind 10 false] rfl (Knows.cons (Knows.cons (Knows.cons (Knows.cons (Knows.cons (Knows.nil _) rfl) rfl) rfl) rfl) rfl) (by kernel_rfl) ⟨x11, x4, x3, y3, x6, x5, x8, x7, x1, x10, trivial⟩ (fun A hA hd hv => ?_)
              have h4 := hv 0 4 _ rfl rfl
              refine hRest _ _ ?_
              apply wp_ret
              refine bodyPost_ret (results_tmp rfl _ _ _) hd ⟨?_, HB3.out⟩
              rw [Array.getD_eq_getD_getElem?, h4, HR.out]
              exact congrArg (fun q => Ending.returned (.bool q)) (by unfold hits; simp [b3, ak, hx])
          · have y3 : (a.kind == 3) = false := by simpa using ak
            refine wpl_out (n := 112) ([(2, .pointer (some ⟨w.heap.size, 0, none⟩)), (3, .pointer (some ⟨w.heap.size + 1, 0, none⟩)), (5, .bool qf), (6, .int .i64 b.kind), (7, .int .i64 a.kind)]) [.b false, .b false, .b true, .b false, .b false, .b false, .b false, .b false, .b false, .b false] [4] [.bool false] [.eq b.kind 11 false, .eq b.kind 4 false, .eq b.kind 3 true, .eq a.kind 3 false, .eq b.kind 6 false, .eq b.kind 5 false, .eq b.kind 8 false, .eq b.kind 7 false, .eq b.kind 1 false, .eq b.kind 10 false] rfl (Knows.cons (Knows.cons (Knows.cons (Knows.cons (Knows.cons (Knows.nil _) rfl) rfl) rfl) rfl) rfl) (by kernel_rfl) ⟨x11, x4, x3, y3, x6, x5, x8, x7, x1, x10, trivial⟩ (fun A hA hd hv => ?_)
            have h4 := hv 0 4 _ rfl rfl
            refine hRest _ _ ?_
            apply wp_ret
            refine bodyPost_ret (results_tmp rfl _ _ _) hd ⟨?_, HB3.out⟩
            rw [Array.getD_eq_getD_getElem?, h4, HR.out]
            exact congrArg (fun q => Ending.returned (.bool q)) (by unfold hits; simp [b3, ak])
        have x3 : (b.kind == 3) = false := by simpa using b3
        by_cases b6 : b.kind = 6
        · have x6 : (b.kind == 6) = true := by simpa using b6
          have x4 : (b.kind == 4) = false := by rw [b6]; rfl
          have x3 : (b.kind == 3) = false := by rw [b6]; rfl
          have x5 : (b.kind == 5) = false := by rw [b6]; rfl
          have x8 : (b.kind == 8) = false := by rw [b6]; rfl
          have x7 : (b.kind == 7) = false := by rw [b6]; rfl
          have x1 : (b.kind == 1) = false := by rw [b6]; rfl
          have x10 : (b.kind == 10) = false := by rw [b6]; rfl
          by_cases ak : a.kind = 5
          · have y5 : (a.kind == 5) = true := by simpa using ak
            cases qf with
            | true =>
              have hx := of_decide_eq_true HQF.out
              refine wpl_out (n := 112) ([(2, .pointer (some ⟨w.heap.size, 0, none⟩)), (3, .pointer (some ⟨w.heap.size + 1, 0, none⟩)), (5, .bool true), (6, .int .i64 b.kind), (7, .int .i64 a.kind)]) [.b false, .b false, .b false, .b true, .b true] [4] [.bool true] [.eq b.kind 11 false, .eq b.kind 4 false, .eq b.kind 3 false, .eq b.kind 6 true, .eq a.kind 5 true] rfl (Knows.cons (Knows.cons (Knows.cons (Knows.cons (Knows.cons (Knows.nil _) rfl) rfl) rfl) rfl) rfl) (by kernel_rfl) ⟨x11, x4, x3, x6, y5, trivial⟩ (fun A hA hd hv => ?_)
              have h4 := hv 0 4 _ rfl rfl
              refine hRest _ _ ?_
              apply wp_ret
              refine bodyPost_ret (results_tmp rfl _ _ _) hd ⟨?_, HB3.out⟩
              rw [Array.getD_eq_getD_getElem?, h4, HR.out]
              exact congrArg (fun q => Ending.returned (.bool q)) (by unfold hits; simp [b6, ak, hx])
            | false =>
              have hx := of_decide_eq_false HQF.out
              refine wpl_out (n := 112) ([(2, .pointer (some ⟨w.heap.size, 0, none⟩)), (3, .pointer (some ⟨w.heap.size + 1, 0, none⟩)), (5, .bool false), (6, .int .i64 b.kind), (7, .int .i64 a.kind)]) [.b false, .b false, .b false, .b true, .b true, .b false, .b false, .b false, .b false] [4] [.bool false] [.eq b.kind 11 false, .eq b.kind 4 false, .eq b.kind 3 false, .eq b.kind 6 true, .eq a.kind 5 true, .eq b.kind 8 false, .eq b.kind 7 false, .eq b.kind 1 false, .eq b.kind 10 false] rfl (Knows.cons (Knows.cons (Knows.cons (Knows.cons (Knows.cons (Knows.nil _) rfl) rfl) rfl) rfl) rfl) (by kernel_rfl) ⟨x11, x4, x3, x6, y5, x8, x7, x1, x10, trivial⟩ (fun A hA hd hv => ?_)
              have h4 := hv 0 4 _ rfl rfl
              refine hRest _ _ ?_
              apply wp_ret
              refine bodyPost_ret (results_tmp rfl _ _ _) hd ⟨?_, HB3.out⟩
              rw [Array.getD_eq_getD_getElem?, h4, HR.out]
              exact congrArg (fun q => Ending.returned (.bool q)) (by unfold hits; simp [b6, ak, hx])
          · have y5 : (a.kind == 5) = false := by simpa using ak
            refine wpl_out (n := 112) ([(2, .pointer (some ⟨w.heap.size, 0, none⟩)), (3, .pointer (some ⟨w.heap.size + 1, 0, none⟩)), (5, .bool qf), (6, .int .i64 b.kind), (7, .int .i64 a.kind)]) [.b false, .b false, .b false, .b true, .b false, .b false, .b false, .b false, .b false] [4] [.bool false] [.eq b.kind 11 false, .eq b.kind 4 false, .eq b.kind 3 false, .eq b.kind 6 true, .eq a.kind 5 false, .eq b.kind 8 false, .eq b.kind 7 false, .eq b.kind 1 false, .eq b.kind 10 false] rfl (Knows.cons (Knows.cons (Knows.cons (Knows.cons (Knows.cons (Knows.nil _) rfl) rfl) rfl) rfl) rfl) (by kernel_rfl) ⟨x11, x4, x3, x6, y5, x8, x7, x1, x10, trivial⟩ (fun A hA hd hv => ?_)
            have h4 := hv 0 4 _ rfl rfl
            refine hRest _ _ ?_
            apply wp_ret
            refine bodyPost_ret (results_tmp rfl _ _ _) hd ⟨?_, HB3.out⟩
            rw [Array.getD_eq_getD_getElem?, h4, HR.out]
            exact congrArg (fun q => Ending.returned (.bool q)) (by unfold hits; simp [b6, ak])
        have x6 : (b.kind == 6) = false := by simpa using b6
        by_cases b5 : b.kind = 5
        · have x5 : (b.kind == 5) = true := by simpa using b5
          have x4 : (b.kind == 4) = false := by rw [b5]; rfl
          have x3 : (b.kind == 3) = false := by rw [b5]; rfl
          have x6 : (b.kind == 6) = false := by rw [b5]; rfl
          have x8 : (b.kind == 8) = false := by rw [b5]; rfl
          have x7 : (b.kind == 7) = false := by rw [b5]; rfl
          have x1 : (b.kind == 1) = false := by rw [b5]; rfl
          have x10 : (b.kind == 10) = false := by rw [b5]; rfl
          by_cases ak : a.kind = 5
          · have y5 : (a.kind == 5) = true := by simpa using ak
            cases qf with
            | true =>
              have hx := of_decide_eq_true HQF.out
              refine wpl_out (n := 112) ([(2, .pointer (some ⟨w.heap.size, 0, none⟩)), (3, .pointer (some ⟨w.heap.size + 1, 0, none⟩)), (5, .bool true), (6, .int .i64 b.kind), (7, .int .i64 a.kind)]) [.b false, .b false, .b false, .b false, .b true, .b true] [4] [.bool true] [.eq b.kind 11 false, .eq b.kind 4 false, .eq b.kind 3 false, .eq b.kind 6 false, .eq b.kind 5 true, .eq a.kind 5 true] rfl (Knows.cons (Knows.cons (Knows.cons (Knows.cons (Knows.cons (Knows.nil _) rfl) rfl) rfl) rfl) rfl) (by kernel_rfl) ⟨x11, x4, x3, x6, x5, y5, trivial⟩ (fun A hA hd hv => ?_)
              have h4 := hv 0 4 _ rfl rfl
              refine hRest _ _ ?_
              apply wp_ret
              refine bodyPost_ret (results_tmp rfl _ _ _) hd ⟨?_, HB3.out⟩
              rw [Array.getD_eq_getD_getElem?, h4, HR.out]
              exact congrArg (fun q => Ending.returned (.bool q)) (by unfold hits; simp [b5, ak, hx])
            | false =>
              have hx := of_decide_eq_false HQF.out
              refine wpl_out (n := 112) ([(2, .pointer (some ⟨w.heap.size, 0, none⟩)), (3, .pointer (some ⟨w.heap.size + 1, 0, none⟩)), (5, .bool false), (6, .int .i64 b.kind), (7, .int .i64 a.kind)]) [.b false, .b false, .b false, .b false, .b true, .b true, .b false, .b false, .b false, .b false] [4] [.bool false] [.eq b.kind 11 false, .eq b.kind 4 false, .eq b.kind 3 false, .eq b.kind 6 false, .eq b.kind 5 true, .eq a.kind 5 true, .eq b.kind 8 false, .eq b.kind 7 false, .eq b.kind 1 false, .eq b.kind 10 false] rfl (Knows.cons (Knows.cons (Knows.cons (Knows.cons (Knows.cons (Knows.nil _) rfl) rfl) rfl) rfl) rfl) (by kernel_rfl) ⟨x11, x4, x3, x6, x5, y5, x8, x7, x1, x10, trivial⟩ (fun A hA hd hv => ?_)
              have h4 := hv 0 4 _ rfl rfl
              refine hRest _ _ ?_
              apply wp_ret
              refine bodyPost_ret (results_tmp rfl _ _ _) hd ⟨?_, HB3.out⟩
              rw [Array.getD_eq_getD_getElem?, h4, HR.out]
              exact congrArg (fun q => Ending.returned (.bool q)) (by unfold hits; simp [b5, ak, hx])
          · have y5 : (a.kind == 5) = false := by simpa using ak
            refine wpl_out (n := 112) ([(2, .pointer (some ⟨w.heap.size, 0, none⟩)), (3, .pointer (some ⟨w.heap.size + 1, 0, none⟩)), (5, .bool qf), (6, .int .i64 b.kind), (7, .int .i64 a.kind)]) [.b false, .b false, .b false, .b false, .b true, .b false, .b false, .b false, .b false, .b false] [4] [.bool false] [.eq b.kind 11 false, .eq b.kind 4 false, .eq b.kind 3 false, .eq b.kind 6 false, .eq b.kind 5 true, .eq a.kind 5 false, .eq b.kind 8 false, .eq b.kind 7 false, .eq b.kind 1 false, .eq b.kind 10 false] rfl (Knows.cons (Knows.cons (Knows.cons (Knows.cons (Knows.cons (Knows.nil _) rfl) rfl) rfl) rfl) rfl) (by kernel_rfl) ⟨x11, x4, x3, x6, x5, y5, x8, x7, x1, x10, trivial⟩ (fun A hA hd hv => ?_)
            have h4 := hv 0 4 _ rfl rfl
            refine hRest _ _ ?_
            apply wp_ret
            refine bodyPost_ret (results_tmp rfl _ _ _) hd ⟨?_, HB3.out⟩
            rw [Array.getD_eq_getD_getElem?, h4, HR.out]
            exact congrArg (fun q => Ending.returned (.bool q)) (by unfold hits; simp [b5, ak])
        have x5 : (b.kind == 5) = false := by simpa using b5
        by_cases b8 : b.kind = 8
        · have x8 : (b.kind == 8) = true := by simpa using b8
          have x4 : (b.kind == 4) = false := by rw [b8]; rfl
          have x3 : (b.kind == 3) = false := by rw [b8]; rfl
          have x6 : (b.kind == 6) = false := by rw [b8]; rfl
          have x5 : (b.kind == 5) = false := by rw [b8]; rfl
          have x7 : (b.kind == 7) = false := by rw [b8]; rfl
          have x1 : (b.kind == 1) = false := by rw [b8]; rfl
          have x10 : (b.kind == 10) = false := by rw [b8]; rfl
          by_cases ak : a.kind = 7
          · have y7 : (a.kind == 7) = true := by simpa using ak
            cases qf with
            | true =>
              have hx := of_decide_eq_true HQF.out
              refine wpl_out (n := 112) ([(2, .pointer (some ⟨w.heap.size, 0, none⟩)), (3, .pointer (some ⟨w.heap.size + 1, 0, none⟩)), (5, .bool true), (6, .int .i64 b.kind), (7, .int .i64 a.kind)]) [.b false, .b false, .b false, .b false, .b false, .b true, .b true] [4] [.bool true] [.eq b.kind 11 false, .eq b.kind 4 false, .eq b.kind 3 false, .eq b.kind 6 false, .eq b.kind 5 false, .eq b.kind 8 true, .eq a.kind 7 true] rfl (Knows.cons (Knows.cons (Knows.cons (Knows.cons (Knows.cons (Knows.nil _) rfl) rfl) rfl) rfl) rfl) (by kernel_rfl) ⟨x11, x4, x3, x6, x5, x8, y7, trivial⟩ (fun A hA hd hv => ?_)
              have h4 := hv 0 4 _ rfl rfl
              refine hRest _ _ ?_
              apply wp_ret
              refine bodyPost_ret (results_tmp rfl _ _ _) hd ⟨?_, HB3.out⟩
              rw [Array.getD_eq_getD_getElem?, h4, HR.out]
              exact congrArg (fun q => Ending.returned (.bool q)) (by unfold hits; simp [b8, ak, hx])
            | false =>
              have hx := of_decide_eq_false HQF.out
              refine wpl_out (n := 112) ([(2, .pointer (some ⟨w.heap.size, 0, none⟩)), (3, .pointer (some ⟨w.heap.size + 1, 0, none⟩)), (5, .bool false), (6, .int .i64 b.kind), (7, .int .i64 a.kind)]) [.b false, .b false, .b false, .b false, .b false, .b true, .b true, .b false, .b false] [4] [.bool false] [.eq b.kind 11 false, .eq b.kind 4 false, .eq b.kind 3 false, .eq b.kind 6 false, .eq b.kind 5 false, .eq b.kind 8 true, .eq a.kind 7 true, .eq b.kind 1 false, .eq b.kind 10 false] rfl (Knows.cons (Knows.cons (Knows.cons (Knows.cons (Knows.cons (Knows.nil _) rfl) rfl) rfl) rfl) rfl) (by kernel_rfl) ⟨x11, x4, x3, x6, x5, x8, y7, x1, x10, trivial⟩ (fun A hA hd hv => ?_)
              have h4 := hv 0 4 _ rfl rfl
              refine hRest _ _ ?_
              apply wp_ret
              refine bodyPost_ret (results_tmp rfl _ _ _) hd ⟨?_, HB3.out⟩
              rw [Array.getD_eq_getD_getElem?, h4, HR.out]
              exact congrArg (fun q => Ending.returned (.bool q)) (by unfold hits; simp [b8, ak, hx])
          · have y7 : (a.kind == 7) = false := by simpa using ak
            refine wpl_out (n := 112) ([(2, .pointer (some ⟨w.heap.size, 0, none⟩)), (3, .pointer (some ⟨w.heap.size + 1, 0, none⟩)), (5, .bool qf), (6, .int .i64 b.kind), (7, .int .i64 a.kind)]) [.b false, .b false, .b false, .b false, .b false, .b true, .b false, .b false, .b false] [4] [.bool false] [.eq b.kind 11 false, .eq b.kind 4 false, .eq b.kind 3 false, .eq b.kind 6 false, .eq b.kind 5 false, .eq b.kind 8 true, .eq a.kind 7 false, .eq b.kind 1 false, .eq b.kind 10 false] rfl (Knows.cons (Knows.cons (Knows.cons (Knows.cons (Knows.cons (Knows.nil _) rfl) rfl) rfl) rfl) rfl) (by kernel_rfl) ⟨x11, x4, x3, x6, x5, x8, y7, x1, x10, trivial⟩ (fun A hA hd hv => ?_)
            have h4 := hv 0 4 _ rfl rfl
            refine hRest _ _ ?_
            apply wp_ret
            refine bodyPost_ret (results_tmp rfl _ _ _) hd ⟨?_, HB3.out⟩
            rw [Array.getD_eq_getD_getElem?, h4, HR.out]
            exact congrArg (fun q => Ending.returned (.bool q)) (by unfold hits; simp [b8, ak])
        have x8 : (b.kind == 8) = false := by simpa using b8
        by_cases b7 : b.kind = 7
        · have x7 : (b.kind == 7) = true := by simpa using b7
          have x4 : (b.kind == 4) = false := by rw [b7]; rfl
          have x3 : (b.kind == 3) = false := by rw [b7]; rfl
          have x6 : (b.kind == 6) = false := by rw [b7]; rfl
          have x5 : (b.kind == 5) = false := by rw [b7]; rfl
          have x8 : (b.kind == 8) = false := by rw [b7]; rfl
          have x1 : (b.kind == 1) = false := by rw [b7]; rfl
          have x10 : (b.kind == 10) = false := by rw [b7]; rfl
          by_cases ak : a.kind = 7
          · have y7 : (a.kind == 7) = true := by simpa using ak
            cases qf with
            | true =>
              have hx := of_decide_eq_true HQF.out
              refine wpl_out (n := 112) ([(2, .pointer (some ⟨w.heap.size, 0, none⟩)), (3, .pointer (some ⟨w.heap.size + 1, 0, none⟩)), (5, .bool true), (6, .int .i64 b.kind), (7, .int .i64 a.kind)]) [.b false, .b false, .b false, .b false, .b false, .b false, .b true, .b true] [4] [.bool true] [.eq b.kind 11 false, .eq b.kind 4 false, .eq b.kind 3 false, .eq b.kind 6 false, .eq b.kind 5 false, .eq b.kind 8 false, .eq b.kind 7 true, .eq a.kind 7 true] rfl (Knows.cons (Knows.cons (Knows.cons (Knows.cons (Knows.cons (Knows.nil _) rfl) rfl) rfl) rfl) rfl) (by kernel_rfl) ⟨x11, x4, x3, x6, x5, x8, x7, y7, trivial⟩ (fun A hA hd hv => ?_)
              have h4 := hv 0 4 _ rfl rfl
              refine hRest _ _ ?_
              apply wp_ret
              refine bodyPost_ret (results_tmp rfl _ _ _) hd ⟨?_, HB3.out⟩
              rw [Array.getD_eq_getD_getElem?, h4, HR.out]
              exact congrArg (fun q => Ending.returned (.bool q)) (by unfold hits; simp [b7, ak, hx])
            | false =>
              have hx := of_decide_eq_false HQF.out
              refine wpl_out (n := 112) ([(2, .pointer (some ⟨w.heap.size, 0, none⟩)), (3, .pointer (some ⟨w.heap.size + 1, 0, none⟩)), (5, .bool false), (6, .int .i64 b.kind), (7, .int .i64 a.kind)]) [.b false, .b false, .b false, .b false, .b false, .b false, .b true, .b true, .b false, .b false] [4] [.bool false] [.eq b.kind 11 false, .eq b.kind 4 false, .eq b.kind 3 false, .eq b.kind 6 false, .eq b.kind 5 false, .eq b.kind 8 false, .eq b.kind 7 true, .eq a.kind 7 true, .eq b.kind 1 false, .eq b.kind 10 false] rfl (Knows.cons (Knows.cons (Knows.cons (Knows.cons (Knows.cons (Knows.nil _) rfl) rfl) rfl) rfl) rfl) (by kernel_rfl) ⟨x11, x4, x3, x6, x5, x8, x7, y7, x1, x10, trivial⟩ (fun A hA hd hv => ?_)
              have h4 := hv 0 4 _ rfl rfl
              refine hRest _ _ ?_
              apply wp_ret
              refine bodyPost_ret (results_tmp rfl _ _ _) hd ⟨?_, HB3.out⟩
              rw [Array.getD_eq_getD_getElem?, h4, HR.out]
              exact congrArg (fun q => Ending.returned (.bool q)) (by unfold hits; simp [b7, ak, hx])
          · have y7 : (a.kind == 7) = false := by simpa using ak
            refine wpl_out (n := 112) ([(2, .pointer (some ⟨w.heap.size, 0, none⟩)), (3, .pointer (some ⟨w.heap.size + 1, 0, none⟩)), (5, .bool qf), (6, .int .i64 b.kind), (7, .int .i64 a.kind)]) [.b false, .b false, .b false, .b false, .b false, .b false, .b true, .b false, .b false, .b false] [4] [.bool false] [.eq b.kind 11 false, .eq b.kind 4 false, .eq b.kind 3 false, .eq b.kind 6 false, .eq b.kind 5 false, .eq b.kind 8 false, .eq b.kind 7 true, .eq a.kind 7 false, .eq b.kind 1 false, .eq b.kind 10 false] rfl (Knows.cons (Knows.cons (Knows.cons (Knows.cons (Knows.cons (Knows.nil _) rfl) rfl) rfl) rfl) rfl) (by kernel_rfl) ⟨x11, x4, x3, x6, x5, x8, x7, y7, x1, x10, trivial⟩ (fun A hA hd hv => ?_)
            have h4 := hv 0 4 _ rfl rfl
            refine hRest _ _ ?_
            apply wp_ret
            refine bodyPost_ret (results_tmp rfl _ _ _) hd ⟨?_, HB3.out⟩
            rw [Array.getD_eq_getD_getElem?, h4, HR.out]
            exact congrArg (fun q => Ending.returned (.bool q)) (by unfold hits; simp [b7, ak])
        have x7 : (b.kind == 7) = false := by simpa using b7
        by_cases b1 : b.kind = 1
        · have x1 : (b.kind == 1) = true := by simpa using b1
          have x4 : (b.kind == 4) = false := by rw [b1]; rfl
          have x3 : (b.kind == 3) = false := by rw [b1]; rfl
          have x6 : (b.kind == 6) = false := by rw [b1]; rfl
          have x5 : (b.kind == 5) = false := by rw [b1]; rfl
          have x8 : (b.kind == 8) = false := by rw [b1]; rfl
          have x7 : (b.kind == 7) = false := by rw [b1]; rfl
          have x10 : (b.kind == 10) = false := by rw [b1]; rfl
          by_cases ak : a.kind = 1
          · have y1 : (a.kind == 1) = true := by simpa using ak
            refine wpl_out (n := 112) ([(2, .pointer (some ⟨w.heap.size, 0, none⟩)), (3, .pointer (some ⟨w.heap.size + 1, 0, none⟩)), (5, .bool qf), (6, .int .i64 b.kind), (7, .int .i64 a.kind)]) [.b false, .b false, .b false, .b false, .b false, .b false, .b false, .b true, .b true] [4] [.bool true] [.eq b.kind 11 false, .eq b.kind 4 false, .eq b.kind 3 false, .eq b.kind 6 false, .eq b.kind 5 false, .eq b.kind 8 false, .eq b.kind 7 false, .eq b.kind 1 true, .eq a.kind 1 true] rfl (Knows.cons (Knows.cons (Knows.cons (Knows.cons (Knows.cons (Knows.nil _) rfl) rfl) rfl) rfl) rfl) (by kernel_rfl) ⟨x11, x4, x3, x6, x5, x8, x7, x1, y1, trivial⟩ (fun A hA hd hv => ?_)
            have h4 := hv 0 4 _ rfl rfl
            refine hRest _ _ ?_
            apply wp_ret
            refine bodyPost_ret (results_tmp rfl _ _ _) hd ⟨?_, HB3.out⟩
            rw [Array.getD_eq_getD_getElem?, h4, HR.out]
            exact congrArg (fun q => Ending.returned (.bool q)) (by unfold hits; simp [b1, ak])
          · have y1 : (a.kind == 1) = false := by simpa using ak
            refine wpl_out (n := 112) ([(2, .pointer (some ⟨w.heap.size, 0, none⟩)), (3, .pointer (some ⟨w.heap.size + 1, 0, none⟩)), (5, .bool qf), (6, .int .i64 b.kind), (7, .int .i64 a.kind)]) [.b false, .b false, .b false, .b false, .b false, .b false, .b false, .b true, .b false, .b false] [4] [.bool false] [.eq b.kind 11 false, .eq b.kind 4 false, .eq b.kind 3 false, .eq b.kind 6 false, .eq b.kind 5 false, .eq b.kind 8 false, .eq b.kind 7 false, .eq b.kind 1 true, .eq a.kind 1 false, .eq b.kind 10 false] rfl (Knows.cons (Knows.cons (Knows.cons (Knows.cons (Knows.cons (Knows.nil _) rfl) rfl) rfl) rfl) rfl) (by kernel_rfl) ⟨x11, x4, x3, x6, x5, x8, x7, x1, y1, x10, trivial⟩ (fun A hA hd hv => ?_)
            have h4 := hv 0 4 _ rfl rfl
            refine hRest _ _ ?_
            apply wp_ret
            refine bodyPost_ret (results_tmp rfl _ _ _) hd ⟨?_, HB3.out⟩
            rw [Array.getD_eq_getD_getElem?, h4, HR.out]
            exact congrArg (fun q => Ending.returned (.bool q)) (by unfold hits; simp [b1, ak])
        have x1 : (b.kind == 1) = false := by simpa using b1
        by_cases b10 : b.kind = 10
        · have x10 : (b.kind == 10) = true := by simpa using b10
          have x4 : (b.kind == 4) = false := by rw [b10]; rfl
          have x3 : (b.kind == 3) = false := by rw [b10]; rfl
          have x6 : (b.kind == 6) = false := by rw [b10]; rfl
          have x5 : (b.kind == 5) = false := by rw [b10]; rfl
          have x8 : (b.kind == 8) = false := by rw [b10]; rfl
          have x7 : (b.kind == 7) = false := by rw [b10]; rfl
          have x1 : (b.kind == 1) = false := by rw [b10]; rfl
          by_cases ak : a.kind = 9
          · have y9 : (a.kind == 9) = true := by simpa using ak
            cases qd with
            | true =>
              have hx := of_decide_eq_true HQD.out
              refine wpl_out (n := 112) ([(2, .pointer (some ⟨w.heap.size, 0, none⟩)), (3, .pointer (some ⟨w.heap.size + 1, 0, none⟩)), (5, .bool qf), (6, .int .i64 b.kind), (7, .int .i64 a.kind)]) [.b false, .b false, .b false, .b false, .b false, .b false, .b false, .b false, .b true, .b true, .v (.pointer (some ⟨w.heap.size, 19, none⟩)), .v (.pointer (some ⟨w.heap.size, 24, none⟩)), .v (.agg (dotc b.rr b.rn)), .v (.pointer (some ⟨w.heap.size + 1, 0, none⟩)), .v (.agg (dotc a.r a.n)), .v (.bool true)] [4] [.bool true] [.eq b.kind 11 false, .eq b.kind 4 false, .eq b.kind 3 false, .eq b.kind 6 false, .eq b.kind 5 false, .eq b.kind 8 false, .eq b.kind 7 false, .eq b.kind 1 false, .eq b.kind 10 true, .eq a.kind 9 true, .fa 41 (.pointer (some ⟨w.heap.size, 0, none⟩)) 3 (.pointer (some ⟨w.heap.size, 19, none⟩)), .fa 39 (.pointer (some ⟨w.heap.size, 19, none⟩)) 5 (.pointer (some ⟨w.heap.size, 24, none⟩)), .ld 26 ⟨w.heap.size, 24, none⟩ (.agg (dotc b.rr b.rn)), .fa 41 (.pointer (some ⟨w.heap.size + 1, 0, none⟩)) 0 (.pointer (some ⟨w.heap.size + 1, 0, none⟩)), .ld 26 ⟨w.heap.size + 1, 0, none⟩ (.agg (dotc a.r a.n)), .bi .eql 26 (.tmp 106) (.tmp 108) (.agg (dotc b.rr b.rn)) (.agg (dotc a.r a.n)) (.bool true)] rfl (Knows.cons (Knows.cons (Knows.cons (Knows.cons (Knows.cons (Knows.nil _) rfl) rfl) rfl) rfl) rfl) (by kernel_rfl) ⟨x11, x4, x3, x6, x5, x8, x7, x1, x10, y9, rfl, rfl, (load_dotm (k := 24) rb'), rfl, (load_dotm da'), ⟨eqGuard_dt _ _ _ _ _, eql_dt _ HQD.out⟩, trivial⟩ (fun A hA hd hv => ?_)
              have h4 := hv 0 4 _ rfl rfl
              refine hRest _ _ ?_
              apply wp_ret
              refine bodyPost_ret (results_tmp rfl _ _ _) hd ⟨?_, HB3.out⟩
              rw [Array.getD_eq_getD_getElem?, h4, HR.out]
              exact congrArg (fun q => Ending.returned (.bool q)) (by unfold hits; simp [b10, ak, hx])
            | false =>
              have hx := of_decide_eq_false HQD.out
              refine wpl_out (n := 112) ([(2, .pointer (some ⟨w.heap.size, 0, none⟩)), (3, .pointer (some ⟨w.heap.size + 1, 0, none⟩)), (5, .bool qf), (6, .int .i64 b.kind), (7, .int .i64 a.kind)]) [.b false, .b false, .b false, .b false, .b false, .b false, .b false, .b false, .b true, .b true, .v (.pointer (some ⟨w.heap.size, 19, none⟩)), .v (.pointer (some ⟨w.heap.size, 24, none⟩)), .v (.agg (dotc b.rr b.rn)), .v (.pointer (some ⟨w.heap.size + 1, 0, none⟩)), .v (.agg (dotc a.r a.n)), .v (.bool false)] [4] [.bool false] [.eq b.kind 11 false, .eq b.kind 4 false, .eq b.kind 3 false, .eq b.kind 6 false, .eq b.kind 5 false, .eq b.kind 8 false, .eq b.kind 7 false, .eq b.kind 1 false, .eq b.kind 10 true, .eq a.kind 9 true, .fa 41 (.pointer (some ⟨w.heap.size, 0, none⟩)) 3 (.pointer (some ⟨w.heap.size, 19, none⟩)), .fa 39 (.pointer (some ⟨w.heap.size, 19, none⟩)) 5 (.pointer (some ⟨w.heap.size, 24, none⟩)), .ld 26 ⟨w.heap.size, 24, none⟩ (.agg (dotc b.rr b.rn)), .fa 41 (.pointer (some ⟨w.heap.size + 1, 0, none⟩)) 0 (.pointer (some ⟨w.heap.size + 1, 0, none⟩)), .ld 26 ⟨w.heap.size + 1, 0, none⟩ (.agg (dotc a.r a.n)), .bi .eql 26 (.tmp 106) (.tmp 108) (.agg (dotc b.rr b.rn)) (.agg (dotc a.r a.n)) (.bool false)] rfl (Knows.cons (Knows.cons (Knows.cons (Knows.cons (Knows.cons (Knows.nil _) rfl) rfl) rfl) rfl) rfl) (by kernel_rfl) ⟨x11, x4, x3, x6, x5, x8, x7, x1, x10, y9, rfl, rfl, (load_dotm (k := 24) rb'), rfl, (load_dotm da'), ⟨eqGuard_dt _ _ _ _ _, eql_dt _ HQD.out⟩, trivial⟩ (fun A hA hd hv => ?_)
              have h4 := hv 0 4 _ rfl rfl
              refine hRest _ _ ?_
              apply wp_ret
              refine bodyPost_ret (results_tmp rfl _ _ _) hd ⟨?_, HB3.out⟩
              rw [Array.getD_eq_getD_getElem?, h4, HR.out]
              exact congrArg (fun q => Ending.returned (.bool q)) (by unfold hits; simp [b10, ak, hx])
          · have y9 : (a.kind == 9) = false := by simpa using ak
            refine wpl_out (n := 112) ([(2, .pointer (some ⟨w.heap.size, 0, none⟩)), (3, .pointer (some ⟨w.heap.size + 1, 0, none⟩)), (5, .bool qf), (6, .int .i64 b.kind), (7, .int .i64 a.kind)]) [.b false, .b false, .b false, .b false, .b false, .b false, .b false, .b false, .b true, .b false] [4] [.bool false] [.eq b.kind 11 false, .eq b.kind 4 false, .eq b.kind 3 false, .eq b.kind 6 false, .eq b.kind 5 false, .eq b.kind 8 false, .eq b.kind 7 false, .eq b.kind 1 false, .eq b.kind 10 true, .eq a.kind 9 false] rfl (Knows.cons (Knows.cons (Knows.cons (Knows.cons (Knows.cons (Knows.nil _) rfl) rfl) rfl) rfl) rfl) (by kernel_rfl) ⟨x11, x4, x3, x6, x5, x8, x7, x1, x10, y9, trivial⟩ (fun A hA hd hv => ?_)
            have h4 := hv 0 4 _ rfl rfl
            refine hRest _ _ ?_
            apply wp_ret
            refine bodyPost_ret (results_tmp rfl _ _ _) hd ⟨?_, HB3.out⟩
            rw [Array.getD_eq_getD_getElem?, h4, HR.out]
            exact congrArg (fun q => Ending.returned (.bool q)) (by unfold hits; simp [b10, ak])
        have x10 : (b.kind == 10) = false := by simpa using b10
        refine wpl_out (n := 112) ([(2, .pointer (some ⟨w.heap.size, 0, none⟩)), (3, .pointer (some ⟨w.heap.size + 1, 0, none⟩)), (5, .bool qf), (6, .int .i64 b.kind), (7, .int .i64 a.kind)]) [.b false, .b false, .b false, .b false, .b false, .b false, .b false, .b false, .b false] [4] [.bool false] [.eq b.kind 11 false, .eq b.kind 4 false, .eq b.kind 3 false, .eq b.kind 6 false, .eq b.kind 5 false, .eq b.kind 8 false, .eq b.kind 7 false, .eq b.kind 1 false, .eq b.kind 10 false] rfl (Knows.cons (Knows.cons (Knows.cons (Knows.cons (Knows.cons (Knows.nil _) rfl) rfl) rfl) rfl) rfl) (by kernel_rfl) ⟨x11, x4, x3, x6, x5, x8, x7, x1, x10, trivial⟩ (fun A hA hd hv => ?_)
        have h4 := hv 0 4 _ rfl rfl
        refine hRest _ _ ?_
        apply wp_ret
        refine bodyPost_ret (results_tmp rfl _ _ _) hd ⟨?_, HB3.out⟩
        rw [Array.getD_eq_getD_getElem?, h4, HR.out]
        exact congrArg (fun q => Ending.returned (.bool q)) (by unfold hits; simp [b11, b4, b3, b6, b5, b8, b7, b1, b10])
      · have HR : Hid (endsE b a = false) := by show _ = _; unfold endsE; rw [decide_eq_false hk]; simp
        rw [decide_eq_false hk] at hkb
        clear hb ha ht hk
        go_wp2
        go_ret
        exact ⟨by rw [HR.out]; rfl, HB2.out⟩
  · have HR : Hid (endsE b a = false) := by show _ = _; unfold endsE; rw [hc]; rfl
    rw [hc]
    clear hb' ha'
    go_wp2
    go_ret
    exact ⟨by rw [HR.out]; rfl, HB1.out⟩
end Go.Proofs.Ytagjgamigldjnaa
