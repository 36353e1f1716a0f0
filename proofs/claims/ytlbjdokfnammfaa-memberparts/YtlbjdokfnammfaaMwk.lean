/-
  What the laws' dots, few and awake come to.
-/
import Derived.Test.YtlbjdokfnammfaaMrf
import Derived.Test.YtlbjdokfnammfaaTba
namespace Go.Proofs.Ytlbjdokfnammfaa
set_option maxRecDepth 100000
open Go.RowKit Go.Sort

set_option maxHeartbeats 1000000 in
theorem ldots_yes (a1 a2 : Option Addr) (c1 c2 : Nat) (S : List Dt) (w : World) (h1 : DL w a1 S) (h2 : DL w a2 S) (hm : S.length ≤ 1048576) :
    Calls Try.prog 10 #[.slice a1 S.length c1, .slice a2 S.length c2] w fun e w' => e = .returned (.bool true) ∧ Below w.heap.size w w' := by
  have H1 : Aside (DL w a1 S ∧ DL w a2 S) := ⟨h1, h2⟩
  clear h1 h2
  obtain ⟨m, hmS⟩ : ∃ m, m = S.length := ⟨_, rfl⟩
  have HM : Hid (m = S.length) := hmS
  rw [← hmS] at hm ⊢
  clear hmS
  go_enter Try.func10, Try.ntmps10
  go_wp2_with fail
  go_loopg [13] m (fun kx s13 wr => ∃ k : Nat, s13 = .int .i64 (k : Int) ∧ k ≤ m ∧ m - k ≤ kx ∧ Aside (Below w.heap.size w wr))
  case atStart => exact ⟨0, rfl, Nat.zero_le _, by omega, Below.refl _ _⟩
  case round =>
    obtain ⟨k, rfl, hk, hkx, HB⟩ := hrel
    by_cases hkm : k < m
    · have hkz : (k : Int) < (m : Int) := by omega
      obtain ⟨d, hd⟩ : ∃ d, S[k]? = some d := ⟨_, List.getElem?_eq_getElem (by have := HM.out; omega)⟩
      obtain ⟨g1, rfl, x0, x1⟩ := (H1.out.1.below HB.out (Nat.le_refl _)) k d hd
      obtain ⟨g2, rfl, y0, y1⟩ := (H1.out.2.below HB.out (Nat.le_refl _)) k d hd
      have hix := fun W : World => index_dt W (b := g1) (off := 0) (k := k) (m := m) (c := c1) hkm
      have hiy := fun W : World => index_dt W (b := g2) (off := 0) (k := k) (m := m) (c := c2) hkm
      simp only [Nat.zero_add] at hix hiy
      have hpl := plain_dot
      have heq : ∀ W, (Op.equalIn 10000 34 (.agg #[.int .i64 d.1, .int .i64 d.2]) (.agg #[.int .i64 d.1, .int .i64 d.2])).run Try.prog W = .ok true W := fun W => by
        have := run_equalIn_dot W 9998 d.1 d.2 d.1 d.2
        rw [decide_eq_true ⟨rfl, rfl⟩] at this
        exact this
      have HB2 : Aside (Below w.heap.size w wr.drew) := HB.out.drew
      clear HB hd
      go_wp2_with fail
      go_region
      go_wp2
      go_roundg (m - (k + 1))
      case measure => omega
      case rel => exact ⟨k + 1, by go_num, by omega, Nat.le_refl _, HB2⟩
    · obtain rfl : k = m := by omega
      go_wp2
      go_ret
      exact ⟨rfl, HB.out⟩

set_option maxHeartbeats 1000000 in
theorem few_any (ao : Option Addr) (m c : Nat) (E : List Ev) (w : World) (hE : Evs w ao m c E) :
    Calls Try.prog 6 #[.slice ao m c] w fun e w' => ∃ t : Bool, e = .returned (.bool t) ∧ (t = true → m ≤ 300 ∧ ∀ e ∈ E, e.field.length ≤ 1000) ∧ Below w.heap.size w w' := by
  have hlen := hE.len
  have HE : Aside (Evs w ao m c E) := hE
  clear hE
  by_cases hbig : 300 < m
  · have hz : (300 : Int) < (m : Int) := by omega
    go_enter Try.func6, Try.ntmps6
    go_wp2
    go_ret
    exact ⟨_, rfl, by simp, Below.refl _ _⟩
  · have hz : ¬ (300 : Int) < (m : Int) := by omega
    have H0 : Hid (∀ e ∈ E.take 0, e.field.length ≤ 1000) := fun e he => by simp at he
    go_enter Try.func6, Try.ntmps6
    go_wp2
    go_loopg [9] m (fun kx s9 wr => ∃ i : Nat, s9 = .int .i64 i ∧ i ≤ m ∧ m - i ≤ kx ∧ Hid (∀ e ∈ E.take i, e.field.length ≤ 1000) ∧ Hid (Below w.heap.size w wr))
    case atStart => exact ⟨0, rfl, Nat.zero_le _, by omega, H0, Below.refl _ _⟩
    case round =>
      clear H0
      obtain ⟨i, rfl, him, hkx, HF, HB⟩ := hrel
      by_cases hlt : i < m
      · have hltz : (i : Int) < (m : Int) := by omega
        obtain ⟨b, off, u, rfl, hui, hu, hr, hbl⟩ := (HE.out.below HB.out (Nat.le_refl _)).at hlt
        have hix := fun W : World => index_ev W (b := b) (off := off) (k := i) (m := m) (c := c) hlt
        have cf := range_field hr hu.1
        have HT : Hid (E.take (i + 1) = E.take i ++ [u]) := take_snoc hui
        clear hr
        have HZ : Hid ((sb u.field).size = u.field.length) := sb_size _
        by_cases hg : 1000 < (sb u.field).size
        · have hgb : (1000 : Int) < ((sb u.field).size : Int) := by omega
          go_wp2
          go_ret
          exact ⟨_, rfl, by simp, HB.out⟩
        · have hgb : ¬ (1000 : Int) < ((sb u.field).size : Int) := by omega
          have HF2 : Hid (∀ e ∈ E.take (i + 1), e.field.length ≤ 1000) := by
            intro e he
            rw [HT.out] at he
            rcases List.mem_append.1 he with he | he
            · exact HF.out e he
            · rw [List.mem_singleton.1 he, ← HZ.out]
              omega
          clear HF HT HZ hg
          go_wp2
          go_roundg (m - (i + 1))
          case measure => omega
          case rel => exact ⟨i + 1, by go_num, by omega, Nat.le_refl _, HF2, HB⟩
      · have hltz : ¬ (i : Int) < (m : Int) := by omega
        have HF2 : Hid (∀ e ∈ E, e.field.length ≤ 1000) := by
          have := HF.out
          rw [List.take_of_length_le (by omega)] at this
          exact this
        clear HF
        go_wp2
        go_ret
        exact .inr ⟨rfl, ⟨by omega, HF2.out⟩, HB.out⟩

/-- The event that adds a member. -/
def sadE (s : List UInt8) : Ev := ⟨0, 0, 0, zeros, 3, [], s, [], 0, 0, 0⟩
theorem sadE_wide (s : List UInt8) (h : s.length ≤ 1000) : Wide (sadE s) := ⟨rfl, ⟨by simp [sadE], by unfold sadE; show s.length ≤ _; omega, by simp [sadE]⟩⟩
theorem aw_fld : fldE [sadE [98], sadE [97]] = [[98], [97]] := by decide +kernel
theorem aw_has : hasE [sadE [98], sadE [97]] [97] = true := by decide +kernel
theorem aw_str : ([[97], [98]] : List (List UInt8)).Pairwise (· < ·) := by
  refine List.pairwise_cons.2 ⟨fun b hb => ?_, by simp⟩
  rw [List.mem_singleton.1 hb]
  decide
set_option maxHeartbeats 1000000 in
theorem awake_any (w : World) : Calls Try.prog 5 #[] w fun e w' => e = .returned (.bool true) ∧ Below w.heap.size w w' := by
  have hE0 := evs_double w (sadE [98]) (sadE [97]) (sadE_wide _ (by simp)) (sadE_wide _ (by simp))
  have HE0 : Aside (Evs (w.alloc (.cells (evc (sadE [98]) ++ evc (sadE [97])) 40)) (some ⟨w.heap.size, 0, none⟩) 2 2 [sadE [98], sadE [97]]) := hE0
  go_enter Try.func5, Try.ntmps5
  go_wp2_with (refine build_ev2 (u := sadE [98]) (v := sadE [97]) rfl rfl rfl rfl rfl rfl ?_)
  refine (mall_any (some ⟨w.heap.size, 0, none⟩) 2 2 [sadE [98], sadE [97]] _ hE0 (by omega) (fun e he => by
    rcases List.mem_cons.1 he with rfl | he
    · simp [sadE]
    · rw [List.mem_singleton.1 he]; simp [sadE])).mono ?_
  rintro e w1 ⟨v1, R1, rfl, hR1, hs1, hm1, -, hb1⟩
  have hR : R1 = [[97], [98]] := strict_one _ _ hs1 aw_str (fun z => by rw [hm1, aw_fld]; simp [or_comm])
  subst hR
  have HE1 : Aside (Evs w1 (some ⟨w.heap.size, 0, none⟩) 2 2 [sadE [98], sadE [97]] ∧ Below w.heap.size w w1) := ⟨HE0.out.below hb1 (Nat.le_refl _), ((Below.refl _ w).alloc (Nat.le_refl _) (.cells (evc (sadE [98]) ++ evc (sadE [97])) 40)).trans (hb1.mono (by simp))⟩
  obtain ⟨a1, c1, rfl, hT1⟩ := hR1.tl
  have hb2 : Below w1.heap.size w1 (w1.alloc (.cells #[.string (sb [97]), .string (sb [98])] 9)) := (Below.refl _ _).alloc (Nat.le_refl _) _
  have hT2 : TL (w1.alloc (.cells #[.string (sb [97]), .string (sb [98])] 9)) (some ⟨w1.heap.size, 0, none⟩) [[97], [98]] := fun j t ht => ⟨_, rfl, by
    rw [cell_of_row _ w1.heap.size j _ _ _ (heap_alloc_new w1 _)]
    match j, ht with
    | 0, ht => obtain rfl := Option.some.inj ht; rfl
    | 1, ht => obtain rfl := Option.some.inj ht; rfl⟩
  have hT3 := hT1.below hb2 (Nat.le_refl _)
  have HE2 : Aside (Evs (w1.alloc (.cells #[.string (sb [97]), .string (sb [98])] 9)) (some ⟨w.heap.size, 0, none⟩) 2 2 [sadE [98], sadE [97]] ∧ Below w.heap.size w (w1.alloc (.cells #[.string (sb [97]), .string (sb [98])] 9))) := ⟨HE1.out.1.below hb2 (Nat.le_refl _), HE1.out.2.trans (hb2.mono HE1.out.2.size)⟩
  have HTY : Hid _ := texts_yes a1 (some ⟨w1.heap.size, 0, none⟩) c1 2 [[97], [98]] _ hT3 hT2 (by simp)
  clear hb1 hR1 hs1 hm1 hT1 hT2 hT3 hb2 hE0 HE0 HE1
  go_wp2_with fail
  refine Calls.mono HTY.out ?_
  rintro e w2 ⟨rfl, hb3⟩
  have HE3 : Aside (Evs w2 (some ⟨w.heap.size, 0, none⟩) 2 2 [sadE [98], sadE [97]] ∧ Below w.heap.size w w2) := ⟨HE2.out.1.below hb3 (Nat.le_refl _), HE2.out.2.trans (hb3.mono HE2.out.2.size)⟩
  clear HE2 hb3 HTY
  go_wp2_with fail
  refine (mhas_any (some ⟨w.heap.size, 0, none⟩) 2 2 [sadE [98], sadE [97]] [97] w2 HE3.out.1 (by omega)).mono ?_
  rintro e w3 ⟨rfl, hb4⟩
  have HB : Hid (Below w.heap.size w w3) := HE3.out.2.trans (hb4.mono HE3.out.2.size)
  rw [aw_has]
  clear hb4 HE3
  go_wp2
  go_ret
  exact ⟨rfl, HB.out⟩
end Go.Proofs.Ytlbjdokfnammfaa
