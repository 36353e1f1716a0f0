/-
  FrameJoins: frames behind frames are scanned to the bodies of both. For every input.
-/
import Derived.Test.YtfnaldiacncjfabAwf
import Derived.Test.YtfnaldiacncjfabTex
import Derived.Test.YtfnaldiacncjfabFrc
import Derived.Laws.AppendOwnNone
namespace Go.Proofs.Ytfnaldiacncjfab
open Go.RowKit

theorem Made.bytes {w : World} {base : Nat} {v : Value} {l : List UInt8} (h : Made w base v l) : ∃ ao cap, v = .slice ao l.length cap ∧ Bytes w ao l.length cap l ∧ cap ≤ maxLen := by
  rcases h.2 with ⟨rfl, h0⟩ | ⟨g, cap, cur, rfl, hb, hg, hnc, hcm, hcs, htake⟩
  · have h1 : l = [] := List.eq_nil_of_length_eq_zero h0
    subst h1
    exact ⟨none, 0, rfl, Bytes.nil w, Nat.zero_le _⟩
  · exact ⟨some ⟨g, 0, none⟩, cap, rfl, Bytes.own h, hcm⟩
theorem Fr.drop_inj {l : List UInt8} {a b : Nat} (ha : a ≤ l.length) (hb : b ≤ l.length) (h : l.drop a = l.drop b) : a = b := by
  have := congrArg List.length h
  rw [List.length_drop, List.length_drop] at this
  omega
theorem dl_small (S : List ByteArray) (hS : ∀ s ∈ S, s.size ≤ 1000) : ∀ b ∈ dl S, b.length ≤ 65529 := by
  intro b hb
  obtain ⟨s, hs, rfl⟩ := List.mem_map.1 hb
  have := hS s hs
  rw [Array.length_toList]
  have : s.data.size = s.size := rfl
  omega

/-- 'append' to a row of the call's own, of whatever came in, asked for or not (a guard that holds). -/
theorem wpList_app {ops : Array Oper} {rest : List Oper} {o : Oper} {a : Act} {w : World} {Q : Exit → Act → World → Prop} (hw : Region.wanted o (yielded ops a.tmps) = true) (s x : Operand) (t : TypeId)
    (ho : o.op = .call { callee := .builtin .append, args := #[s, x], argTypes := #[t, t] })
    (base : Nat) (e : TypeId) (i : TypeInfo) (z : Value) (bytes : Nat) (ht : Try.prog.underlying t = some (.slice e)) (hi : Try.prog.info? e = some i) (hz : i.zero = some z)
    (hsize : i.size = 1) (hby : i.bytes = bytes) (hzs : z.cells.size = 1)
    (v : Value) (n : Nat) (xs : List Value) (hs : a.eval s = v) (hown : w.ownsRow base e 1 v n xs)
    (ao : Option Addr) (m c : Nat) (news : List Value) (hx : a.eval x = .slice ao m c) (hl : news.length = m) (hnone : ao = none → m = 0 ∧ c = 0)
    (hnews : ∀ ad, ao = some ad → ∀ j u, news[j]? = some u → w.cell? (ad.add j) = some u) (h1 : ∀ u ∈ news, u.oneCell' = true)
    (h63 : n + m ≤ maxLen) (hbytes : (n + m) * bytes ≤ 140737488355328) (hbase : base ≤ w.heap.size)
    (h : ∀ v' w', w'.ownsRow base e 1 v' (n + m) (xs ++ news) → w.grownBy w' v.ownBlock → wpList Try.prog ops Q rest (a.put o.dst v') w') : wpList Try.prog ops Q (o :: rest) a w := by
  refine wpList_step fun K hK => ?_
  rw [if_pos hw]
  cases ao with
  | some ad => exact wp_append_own w s x t ho base e i z 1 bytes ht hi hz hsize hby hzs (by omega) v n xs hs hown ad m c news hx (by omega) (hnews ad rfl) h1 h63 hbytes hbase fun v' w' h2 h3 _ => hK _ _ (h v' w' h2 h3)
  | none =>
    obtain ⟨rfl, rfl⟩ := hnone rfl
    have hn : news = [] := List.eq_nil_of_length_eq_zero hl
    subst hn
    have hrun := run_append_owned_none (P := Try.prog) (w := w) base t o.type e i 1 ht hi v n xs hown
    unfold Oper.wp
    simp [execOp, ho, resolve, invoke, builtin, hs, hx, hrun, Result.andThen]
    exact hK _ _ (h v w (by simpa using hown) (World.grownBy.refl _ _))

/-- A new list of no things. -/
theorem own_empty (w : World) (base : Nat) (hb : base ≤ w.heap.size) (t : TypeId) : (w.alloc (Obj.cells #[] t)).ownsRow base t 1 (.slice (some ⟨w.heap.size, 0, none⟩) 0 0) 0 [] :=
  World.ownsRow_made w #[] 0 hb (Nat.zero_le _) rfl

theorem infoT : (Try.prog.info? 9).map (fun i => (i.zero, i.size, i.bytes)) = some (some (.string ByteArray.empty), 1, 16) := by kernel_rfl

theorem str_cells {w : World} {ao : Option Addr} {m c : Nat} {S : List ByteArray} (h : Txts w ao m c S) : ∀ ad, ao = some ad → ∀ j u, (S.map Value.string)[j]? = some u → w.cell? (ad.add j) = some u := by
  intro ad had j u hu
  rw [List.getElem?_map, Option.map_eq_some_iff] at hu
  obtain ⟨s, hs, rfl⟩ := hu
  exact h.cells ad had j s hs
theorem str_one (S : List ByteArray) : ∀ u ∈ S.map Value.string, u.oneCell' = true := by
  intro u hu
  obtain ⟨_, _, rfl⟩ := List.mem_map.1 hu
  rfl
theorem own_txts {w : World} {base : Nat} {v : Value} {S : List ByteArray} (h1 : w.ownsRow base 9 1 v S.length (S.map Value.string)) (hs : ∀ s ∈ S, s.size ≤ maxLen) : ∃ ao c, v = .slice ao S.length c ∧ Txts w ao S.length c S ∧ c ≤ maxLen := by
  rcases h1.2 with ⟨rfl, h0⟩ | ⟨g, cap, cur, rfl, _, _, hnc, hcm, _⟩
  · have : S = [] := List.eq_nil_of_length_eq_zero h0
    subst this
    exact ⟨none, 0, rfl, ⟨rfl, Nat.le_refl _, fun _ => ⟨rfl, rfl⟩, (fun _ h => by cases h), hs⟩, Nat.zero_le _⟩
  · refine ⟨_, _, rfl, ⟨rfl, hnc, (fun h => by cases h), ?_, hs⟩, hcm⟩
    intro ad had j s hj
    obtain rfl := Option.some.inj had
    exact h1.cells rfl j _ (by rw [List.getElem?_map, hj]; rfl)

set_option maxHeartbeats 4000000 in
theorem joins_walk (ao1 : Option Addr) (m1 c1 : Nat) (S1 : List ByteArray) (ao2 : Option Addr) (m2 c2 : Nat) (S2 : List ByteArray) (w : World) (hT1 : Txts w ao1 m1 c1 S1) (hm1 : c1 ≤ maxLen) (hT2 : Txts w ao2 m2 c2 S2) (hm2 : c2 ≤ maxLen) :
    Calls Try.prog 3 #[.slice ao1 m1 c1, .slice ao2 m2 c2] w fun e w' => e = .returned (.bool true) ∧ Below w.heap.size w w' := by
  have hroom1 := hT1.room
  have hroom2 := hT2.room
  by_cases hf1 : fits S1
  · by_cases hf2 : fits S2
    · obtain ⟨i0, hi, hz0, hz1, hz2⟩ := info_parts info5
      obtain ⟨j0, hj, hy0, hy1, hy2⟩ := info_parts infoT
      have hF1 := Fr.frames_le S1 hf1.2
      have hF2 := Fr.frames_le S2 hf2.2
      have hS1 := hf1.1
      have hS2 := hf2.1
      have hl1 := hT1.len
      have hl2 := hT2.len
      have hscan := Fr.scan_all (dl (S1 ++ S2)) (dl_small _ (fun s hs => by
        rcases List.mem_append.1 hs with h | h
        · exact hf1.2 s h
        · exact hf2.2 s h))
      have hsm : ∀ s ∈ S1 ++ S2, s.size ≤ maxLen := fun s hs => by
        rcases List.mem_append.1 hs with h | h
        · exact hT1.small s h
        · exact hT2.small s h
      have eF : Fr.frames (dl (S1 ++ S2)) = Fr.frames (dl S1) ++ Fr.frames (dl S2) := by
        rw [dl, List.map_append, Fr.frames_append]; rfl
      rw [eF] at hscan
      go_enter Try.func3, Try.ntmps3
      go_wp2_with fail
      refine (awake_any _).mono ?_
      rintro e w1 ⟨rfl, hb1⟩
      go_wp2_with fail
      refine (laid_ok _ _ _ _ _ (hT1.below hb1 (Nat.le_refl _)) hf1).mono ?_
      rintro e w2 ⟨v1, rfl, hM1, hb2⟩
      have s2 := hb1.trans (hb2.mono hb1.size)
      go_wp2_with fail
      refine (laid_ok _ _ _ _ _ (hT2.below s2 (Nat.le_refl _)) hf2).mono ?_
      rintro e w3 ⟨v2, rfl, hM2, hb3⟩
      have s3 := s2.trans (hb3.mono s2.size)
      obtain ⟨a1, k1, rfl, hB1', hk1⟩ := hM1.bytes
      obtain ⟨a2, k2, rfl, hB2, hk2⟩ := hM2.bytes
      have hB1 := hB1'.below hb3 (Nat.le_refl _)
      generalize Fr.frames (dl S1) = F1 at *
      generalize Fr.frames (dl S2) = F2 at *
      clear hM1 hM2 hB1' hb1 hb2 hb3 s2 eF
      have hown0 := own_empty w3 w3.heap.size (Nat.le_refl _) 5
      have hbel0 := (Below.refl w3.heap.size w3).alloc (Nat.le_refl _) (Obj.cells #[] 5)
      have hB1' := hB1.below hbel0 (Nat.le_refl _)
      have hB2' := hB2.below hbel0 (Nat.le_refl _)
      have hb1l := bs_length F1
      have hb2l := bs_length F2
      have hn1 : F1.length ≤ 100600 := by omega
      have hn2 : F2.length ≤ 100600 := by omega
      go_wp2_with (first
        | (at_builtin; refine wpList_app (by rfl) (.tmp 31) (.tmp 32) 24 rfl w3.heap.size 5 i0 (.int .u8 0) 1 Try.underlying24 hi hz0 hz1 hz2 rfl _ 0 [] rfl hown0 a1 F1.length k1 (bs F1) rfl hb1l hB1'.none hB1'.cells (bs_oneCell _) (by unfold maxLen; omega) (by omega) hbel0.size ?_))
      rintro v5 w5 hown5 hgrow5
      have hbel5 := hbel0.grown hgrow5 hbel0.size (fun k hk => (hown0.lt k hk).1)
      have hB2'' := hB2.below hbel5 (Nat.le_refl _)
      clear hown0 hgrow5 hB1' hB2' hbel0
      go_wp2_with (first
        | (at_builtin; refine wpList_app (by rfl) (.tmp 33) (.tmp 34) 24 rfl w3.heap.size 5 i0 (.int .u8 0) 1 Try.underlying24 hi hz0 hz1 hz2 rfl v5 F1.length (bs F1) rfl hown5 a2 F2.length k2 (bs F2) rfl hb2l hB2''.none hB2''.cells (bs_oneCell _) (by unfold maxLen; omega) (by omega) hbel5.size ?_))
      rintro v6 w6 hown6 hgrow6
      have hbel6 := hbel5.grown hgrow6 hbel5.size (fun k hk => (hown5.lt k hk).1)
      have hM6 : Made w6 w3.heap.size v6 (F1 ++ F2) := by rw [Made, List.length_append, bs_append]; exact hown6
      have HFl : Hid ((F1 ++ F2).length = F1.length + F2.length) := List.length_append
      generalize F1 ++ F2 = F at hM6 hscan HFl
      obtain ⟨a6, k6, rfl, hB6, hk6⟩ := hM6.bytes
      have s6 := s3.trans (hbel6.mono s3.size)
      have hF3 : F.length ≤ 1048576 := by have := HFl.out; omega
      clear hown5 hgrow6 hown6 hB2'' hbel5 hbel6 hM6
      go_wp2_with fail
      refine (scan_any _ _ _ _ _ hB6 hk6 hF3).mono ?_
      rintro e w7 ⟨v7, A, rfl, hA1, hA2, hB7, hb7⟩
      rw [hscan] at hA2 hB7
      have hA : A = F.length := Fr.drop_inj hA1 (Nat.le_refl _) (hA2.symm.trans (by rw [List.drop_length]))
      have hdA : decide (A = F.length) = true := by rw [decide_eq_true_eq]; exact hA
      rw [hdA]
      have s7 := s6.trans (hb7.mono s6.size)
      have hAi : (A : Int) = (F1.length : Int) + (F2.length : Int) := by have := HFl.out; omega
      clear hB6 hA1 hA2 hb7 s6 hA hdA HFl hscan
      generalize F1.length = n1 at *
      generalize F2.length = n2 at *
      have hT17 := hT1.below s7 (Nat.le_refl _)
      have hT27 := hT2.below s7 (Nat.le_refl _)
      have hown8 := own_empty w7 w7.heap.size (Nat.le_refl _) 9
      have hbel8 := (Below.refl w7.heap.size w7).alloc (Nat.le_refl _) (Obj.cells #[] 9)
      have hT18 := hT17.below hbel8 (Nat.le_refl _)
      have hm1l : (S1.map Value.string).length = m1 := by rw [List.length_map, hl1]
      have hm2l : (S2.map Value.string).length = m2 := by rw [List.length_map, hl2]
      go_wp2_with (first
        | (at_builtin; refine wpList_app (by rfl) (.tmp 52) (.tmp 53) 22 rfl w7.heap.size 9 j0 (.string ByteArray.empty) 16 Try.underlying22 hj hy0 hy1 hy2 rfl _ 0 [] rfl hown8 ao1 m1 c1 (S1.map Value.string) rfl hm1l hT18.none (str_cells hT18) (str_one _) (by unfold maxLen; omega) (by omega) hbel8.size ?_))
      rintro v9 w9 hown9 hgrow9
      have hbel9 := hbel8.grown hgrow9 hbel8.size (fun k hk => (hown8.lt k hk).1)
      have hT29 := hT27.below hbel9 (Nat.le_refl _)
      clear hown8 hgrow9 hT18 hbel8 hT27
      go_wp2_with (first
        | (at_builtin; refine wpList_app (by rfl) (.tmp 54) (.tmp 55) 22 rfl w7.heap.size 9 j0 (.string ByteArray.empty) 16 Try.underlying22 hj hy0 hy1 hy2 rfl v9 m1 (S1.map Value.string) rfl hown9 ao2 m2 c2 (S2.map Value.string) rfl hm2l hT29.none (str_cells hT29) (str_one _) (by unfold maxLen; omega) (by omega) hbel9.size ?_))
      rintro v10 w10 hown10 hgrow10
      have hbel10 := hbel9.grown hgrow10 hbel9.size (fun k hk => (hown9.lt k hk).1)
      have hl3 : (S1 ++ S2).length = m1 + m2 := by rw [List.length_append, hl1, hl2]
      rw [← hl3, ← List.map_append] at hown10
      obtain ⟨a10, c10, rfl, hT10, hc10⟩ := own_txts hown10 hsm
      have hB10 := hB7.below hbel10
      have s10 := s7.trans (hbel10.mono s7.size)
      have hSm : (S1 ++ S2).length ≤ maxLen := by unfold maxLen; omega
      generalize S1 ++ S2 = S at *
      clear hown9 hgrow10 hown10 hT29 hbel9 hbel10 hB7 hT17 hl3
      go_wp2_with fail
      refine (texts_same _ _ _ _ _ _ _ hB10 hT10 hSm).mono ?_
      rintro e w11 ⟨rfl, hb11⟩
      have s11 := s10.trans (hb11.mono s10.size)
      go_wp2
      go_ret
      exact ⟨rfl, s11⟩
    · go_enter Try.func3, Try.ntmps3
      go_wp2_with fail
      refine (awake_any _).mono ?_
      rintro e w1 ⟨rfl, hb1⟩
      go_wp2_with fail
      refine (laid_ok _ _ _ _ _ (hT1.below hb1 (Nat.le_refl _)) hf1).mono ?_
      rintro e w2 ⟨v, rfl, hM, hb2⟩
      have s2 := hb1.trans (hb2.mono hb1.size)
      go_wp2_with fail
      refine (laid_no _ _ _ _ _ (hT2.below s2 (Nat.le_refl _)) (by omega) hf2).mono ?_
      rintro e w3 ⟨rfl, hb3⟩
      have s3 := s2.trans (hb3.mono s2.size)
      go_wp2
      go_ret
      exact ⟨rfl, s3⟩
  · by_cases hf2 : fits S2
    · go_enter Try.func3, Try.ntmps3
      go_wp2_with fail
      refine (awake_any _).mono ?_
      rintro e w1 ⟨rfl, hb1⟩
      go_wp2_with fail
      refine (laid_no _ _ _ _ _ (hT1.below hb1 (Nat.le_refl _)) (by omega) hf1).mono ?_
      rintro e w2 ⟨rfl, hb2⟩
      have s2 := hb1.trans (hb2.mono hb1.size)
      go_wp2_with fail
      refine (laid_ok _ _ _ _ _ (hT2.below s2 (Nat.le_refl _)) hf2).mono ?_
      rintro e w3 ⟨v, rfl, hM, hb3⟩
      have s3 := s2.trans (hb3.mono s2.size)
      go_wp2
      go_ret
      exact ⟨rfl, s3⟩
    · go_enter Try.func3, Try.ntmps3
      go_wp2_with fail
      refine (awake_any _).mono ?_
      rintro e w1 ⟨rfl, hb1⟩
      go_wp2_with fail
      refine (laid_no _ _ _ _ _ (hT1.below hb1 (Nat.le_refl _)) (by omega) hf1).mono ?_
      rintro e w2 ⟨rfl, hb2⟩
      have s2 := hb1.trans (hb2.mono hb1.size)
      go_wp2_with fail
      refine (laid_no _ _ _ _ _ (hT2.below s2 (Nat.le_refl _)) (by omega) hf2).mono ?_
      rintro e w3 ⟨rfl, hb3⟩
      have s3 := s2.trans (hb3.mono s2.size)
      go_wp2
      go_ret
      exact ⟨rfl, s3⟩
end Go.Proofs.Ytfnaldiacncjfab
