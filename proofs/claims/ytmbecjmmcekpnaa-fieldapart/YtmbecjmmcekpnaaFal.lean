/-
  What field's All comes to.
-/
import Derived.Test.YtmbecjmmcekpnaaFby
import Derived.Test.YtmbecjmmcekpnaaFna
namespace Go.Proofs.Ytmbecjmmcekpnaa
set_option maxRecDepth 100000
open Go.RowKit Go.Maps Go.WideMaps Go.Sort

theorem fldF_room {E : List Ev} (h : ∀ e ∈ E, Wide e) {s : List UInt8} (hs : s ∈ fldF E) : s.length ≤ 9223372036854775807 := by
  obtain ⟨e, he, hh⟩ := fldF_mem.1 hs
  have : e.field = s := by
    unfold selE at hh
    rw [Bool.and_eq_true, decide_eq_true_eq] at hh
    exact hh.2
  rw [← this]
  exact (h e he).2.f
theorem pairs_take {R : List (List UInt8)} {E : List Ev} {k : Nat} {x : List UInt8} (h : R[k]? = some x) : (R.take (k + 1)).map (pairF E) = (R.take k).map (pairF E) ++ [pairF E x] := by
  rw [take_snocT h, List.map_append]
  rfl
set_option maxHeartbeats 4000000 in
theorem fall_any (ao : Option Addr) (m c : Nat) (E : List Ev) (w : World) (hE : Evs w ao m c E) (hm : m ≤ 1000) :
    Calls Try.prog 11 #[.slice ao m c] w fun e w' => ∃ (v : Value) (R : List (List UInt8)), e = .returned v ∧ PRow w' w.heap.size v (R.map (pairF E)) ∧ R.Pairwise (· < ·) ∧ (∀ z, z ∈ R ↔ z ∈ fldF E) ∧ R.length ≤ m ∧ Below w.heap.size w w' := by
  have hwd : Hid (∀ e ∈ E, Wide e) := hE.wide
  have hlen := hE.len
  go_enter Try.func11, Try.ntmps11
  go_wp2_with fail
  refine (fby_any ao m c E w hE hm).mono ?_
  rintro e w1 ⟨rfl, ⟨D, f, hG⟩, hb1⟩
  have HG1 : Aside (Grp w1 w.heap.size (w.heap.size + 1) m D (fldF E) f (ofF E) ∧ Below w.heap.size w w1) := ⟨hG, hb1⟩
  clear hG hb1 hE
  go_wp2_with fail
  refine (fna_any w.heap.size m D (fldF E) f w1 HG1.out.1.map HG1.out.1.tells hm).mono ?_
  rintro e w2 ⟨v2, R, rfl, hR2, hst, hmem, hRl, hb2⟩
  obtain ⟨a2, c2, rfl, hTL⟩ := hR2.tl
  have HG2 : Aside (Grp w2 w.heap.size (w.heap.size + 1) m D (fldF E) f (ofF E) ∧ Below w.heap.size w w2 ∧ TL w2 a2 R) := ⟨HG1.out.1.below hb2 (Nat.le_refl _), HG1.out.2.trans (hb2.mono HG1.out.2.size), hTL⟩
  have HM : Hid (R.Pairwise (· < ·) ∧ ∀ z, z ∈ R ↔ z ∈ fldF E) := ⟨hst, hmem⟩
  clear HG1 hR2 hTL hb2 hst hmem
  obtain ⟨n, hn⟩ : ∃ n, n = R.length := ⟨_, rfl⟩
  have HN : Hid (n = R.length) := hn
  rw [← hn] at hRl ⊢
  clear hn
  have H0 : Aside (PRow w2 w2.heap.size (.slice none 0 0) ((R.take 0).map (pairF E)) ∧ Below w2.heap.size w2 w2) := ⟨Prow_nil _ _, Below.refl _ _⟩
  go_wp2
  go_loopg [4, 14] n (fun kx s4 s14 wr => ∃ k : Nat, s14 = .int .i64 k ∧ k ≤ n ∧ n - k ≤ kx ∧ Aside (PRow wr w2.heap.size s4 ((R.take k).map (pairF E)) ∧ Below w2.heap.size w2 wr))
  case atStart => exact ⟨0, rfl, Nat.zero_le _, by omega, H0⟩
  case round =>
    clear H0
    obtain ⟨k, rfl, hkn, hkx, HS⟩ := hrel
    by_cases hlt : k < n
    · have hltz : (k : Int) < (n : Int) := by omega
      obtain ⟨x, hx⟩ : ∃ x, R[k]? = some x := ⟨_, List.getElem?_eq_getElem (by have := HN.out; omega)⟩
      obtain ⟨g, rfl, dx⟩ := (HG2.out.2.2.below HS.out.2 (Nat.le_refl _)) k x hx
      have hGr := HG2.out.1.below HS.out.2 (Nat.le_refl _)
      have hxl : x.length ≤ 9223372036854775807 := fldF_room hwd.out ((HM.out.2 x).1 (List.mem_of_getElem? hx))
      have hlk := hGr.look hxl
      obtain ⟨ax, cx, hfx, hEx⟩ := (hGr.rows x).evs (ofF_wide hwd.out x)
      rw [hfx] at hlk
      have hlF : (ofF E x).length ≤ 1000 := Nat.le_trans (ofF_len _ _) (by omega)
      have HK : Hid ((R.take (k + 1)).map (pairF E) = (R.take k).map (pairF E) ++ [(x, (orz (latL anyE (ofF E x))).value)]) := pairs_take hx
      have hll : ((R.take k).map (pairF E)).length ≤ k := by rw [List.length_map, List.length_take]; omega
      clear hGr hfx hx hxl
      generalize ofF E x = F at *
      generalize (R.take k).map (pairF E) = Z at *
      go_wp2_with fail
      refine (flatest_any ax F.length cx F wr hEx hlF).mono ?_
      rintro e w3 ⟨rfl, hb3⟩
      have HS3 : Aside (PRow w3 w2.heap.size u4 Z ∧ Below w2.heap.size w2 w3) := ⟨HS.out.1.below hb3 (Nat.le_refl _), HS.out.2.trans (hb3.mono HS.out.2.size)⟩
      clear hb3 HS hlk hEx dx
      generalize (orz (latL anyE F)).value = y at *
      generalize (latL anyE F).isSome = t at *
      have hRow : PRow (w3.alloc (.cells (prc (x, y)) 42)) w2.heap.size u4 Z := HS3.out.1.below ((Below.refl _ _).alloc (Nat.le_refl _) _) (Nat.le_refl _)
      have hle : w2.heap.size ≤ w3.heap.size := HS3.out.2.size
      have HB3 : Hid (Below w2.heap.size w2 (w3.alloc (.cells (prc (x, y)) 42))) := HS3.out.2.alloc hle _
      clear HS3
      go_wp2_with (first | refine build_P1 (d := (x, y)) rfl rfl rfl ?_ | refine wpList_appP (x, y) rfl _ _ rfl w2.heap.size _ Z rfl hRow rfl (by omega) hle ?_)
      intro v4 w4 hR4 hg4
      have HS4 : Aside (PRow w4 w2.heap.size v4 ((R.take (k + 1)).map (pairF E)) ∧ Below w2.heap.size w2 w4) := ⟨by rw [HK.out]; exact hR4, HB3.out.grown hg4 (by simp; omega) hRow.own⟩
      clear hR4 hg4 hRow HB3 HK hle
      go_wp2
      go_roundg (n - (k + 1))
      case measure => omega
      case rel => exact ⟨k + 1, by go_num, by omega, Nat.le_refl _, HS4⟩
    · obtain rfl : n = k := by omega
      have HF : Hid (PRow wr w.heap.size u4 (R.map (pairF E)) ∧ R.length ≤ m ∧ Below w.heap.size w wr) := by
        have h1 := HS.out
        rw [List.take_of_length_le (by have := HN.out; omega)] at h1
        exact ⟨h1.1.lower HG2.out.2.1.size, by have := HN.out; omega, HG2.out.2.1.trans (h1.2.mono HG2.out.2.1.size)⟩
      clear HS HG2
      go_wp2
      go_ret
      exact ⟨_, R, rfl, HF.out.1, HM.out.1, HM.out.2, HF.out.2.1, HF.out.2.2⟩
end Go.Proofs.Ytmbecjmmcekpnaa
