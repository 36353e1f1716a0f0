/-
  What the reference's All and Dots come to.
-/
import Derived.Test.YtlbjdokfnammfaaMal
import Derived.Test.YtlbjdokfnammfaaMit
namespace Go.Proofs.Ytlbjdokfnammfaa
set_option maxRecDepth 100000
open Go.RowKit Go.Sort

set_option maxHeartbeats 1000000 in
theorem rmall_any (ao : Option Addr) (m c : Nat) (E : List Ev) (w : World) (hE : Evs w ao m c E) (hm : m ≤ 900) :
    Calls Try.prog 7 #[.slice ao m c] w fun e w' => ∃ v R, e = .returned v ∧ TRow w' w.heap.size v R ∧ R.Pairwise (· < ·) ∧ (∀ z, z ∈ R ↔ z ∈ fldE E) ∧ R.length ≤ m ∧ Below w.heap.size w w' := by
  have hlen := hE.len
  have HE : Aside (Evs w ao m c E) := hE
  clear hE
  have H0 : Aside (TRow w w.heap.size (.slice none 0 0) [] ∧ ([] : List (List UInt8)).Pairwise (· < ·) ∧ (∀ z, z ∈ ([] : List (List UInt8)) ↔ z ∈ fldE (E.take 0)) ∧ Below w.heap.size w w) := ⟨World.ownsRow_nil _ _ _ _, List.Pairwise.nil, by simp [fldE], Below.refl _ _⟩
  go_enter Try.func7, Try.ntmps7
  go_wp2
  go_loopg [3, 7] m (fun kx s3 s7 wr => ∃ (i : Nat) (R : List (List UInt8)), s7 = .int .i64 i ∧ i ≤ m ∧ m - i ≤ kx ∧ R.length ≤ i ∧ Aside (TRow wr w.heap.size s3 R ∧ R.Pairwise (· < ·) ∧ (∀ z, z ∈ R ↔ z ∈ fldE (E.take i)) ∧ Below w.heap.size w wr))
  case atStart => exact ⟨0, [], rfl, Nat.zero_le _, by omega, Nat.le_refl _, H0⟩
  case round =>
    clear H0
    obtain ⟨i, R, rfl, him, hkx, hRl, HS⟩ := hrel
    by_cases hlt : i < m
    · have hltz : (i : Int) < (m : Int) := by omega
      obtain ⟨b, off, u, rfl, hui, hu, hr, hbl⟩ := (HE.out.below HS.out.2.2.2 (Nat.le_refl _)).at hlt
      have hu16 := hu.1
      have hix := fun W : World => index_ev W (b := b) (off := off) (k := i) (m := m) (c := c) hlt
      have c19 := range_kind hr hu16
      have c21 := range_field hr hu16
      have HK : Hid (fldE (E.take (i + 1)) = if isAddE u then fldE (E.take i) ++ [u.field] else fldE (E.take i)) := fldE_take hui
      clear hr
      by_cases hk : u.kind = 3
      · have HK2 : Hid (fldE (E.take (i + 1)) = fldE (E.take i) ++ [u.field]) := by show _ = _; rw [HK.out, if_pos (by unfold isAddE; exact decide_eq_true hk)]
        rw [hk] at c19
        clear hk HK
        go_wp2_with fail
        refine (rwith_any w.heap.size u3 R u.field wr HS.out.1 HS.out.2.2.2.size (by omega) HS.out.2.1).mono ?_
        rintro e w2 ⟨v2, R2, rfl, h1, h2, h3, h4, h5⟩
        have HS2 : Aside (TRow w2 w.heap.size v2 R2 ∧ R2.Pairwise (· < ·) ∧ (∀ z, z ∈ R2 ↔ z ∈ fldE (E.take (i + 1))) ∧ Below w.heap.size w w2) := by
          refine ⟨h1, h2, fun z => ?_, HS.out.2.2.2.trans (h5.mono HS.out.2.2.2.size)⟩
          rw [h3, HK2.out, List.mem_append, HS.out.2.2.1, List.mem_singleton]
        have hRl2 : R2.length ≤ i + 1 := by omega
        clear HS h1 h2 h3 h4 h5 c19 c21 hix HK2
        go_wp2
        go_roundg (m - (i + 1))
        case measure => omega
        case rel => exact ⟨i + 1, R2, by go_num, by omega, Nat.le_refl _, hRl2, HS2⟩
      · have hkb : (u.kind == 3) = false := by simpa using hk
        have HS2 : Aside (TRow wr w.heap.size u3 R ∧ R.Pairwise (· < ·) ∧ (∀ z, z ∈ R ↔ z ∈ fldE (E.take (i + 1))) ∧ Below w.heap.size w wr) := by
          rw [HK.out, if_neg (by unfold isAddE; rw [decide_eq_false hk]; simp)]
          exact HS.out
        clear HS HK hk
        go_wp2
        go_roundg (m - (i + 1))
        case measure => omega
        case rel => exact ⟨i + 1, R, by go_num, by omega, Nat.le_refl _, by omega, HS2⟩
    · obtain rfl : m = i := by omega
      have HR : Hid (TRow wr w.heap.size u3 R ∧ R.Pairwise (· < ·) ∧ (∀ z, z ∈ R ↔ z ∈ fldE E) ∧ R.length ≤ m ∧ Below w.heap.size w wr) := by
        obtain ⟨h1, h2, h3, h4⟩ := HS.out
        rw [List.take_of_length_le (by omega)] at h3
        exact ⟨h1, h2, h3, hRl, h4⟩
      clear HS
      go_wp2
      go_ret
      exact ⟨_, R, rfl, HR.out⟩

/-! Dots. -/
def itE (E : List Ev) (s : List UInt8) : List (It Int) := (E.filter (addE s)).map fun e => ⟨e.r, e.n, 0⟩
theorem itE_take {E : List Ev} {i : Nat} {u : Ev} {s : List UInt8} (h : E[i]? = some u) : puts (itE (E.take (i + 1)) s) = if addE s u then put (puts (itE (E.take i) s)) ⟨u.r, u.n, 0⟩ else puts (itE (E.take i) s) := by
  unfold itE
  rw [take_snoc h, List.filter_append, List.map_append]
  by_cases hu : addE s u = true
  · simp only [List.filter_cons, hu, if_true, List.filter_nil, List.map_cons, List.map_nil]
    exact puts_snoc _ _
  · simp [hu]
theorem itE_len (E : List Ev) (s : List UInt8) : (puts (itE E s)).length ≤ E.length := by
  refine Nat.le_trans (puts_length _) ?_
  unfold itE
  rw [List.length_map]
  exact List.length_filter_le _ _
def dtI (S : List (It Int)) : List Dt := S.map fun i => (i.r, i.n)
theorem dtI_str {S : List (It Int)} (h : Srt S) : StrD (dtI S) := List.pairwise_map.2 h
theorem dtI_take {S : List (It Int)} {k : Nat} {i : It Int} (h : S[k]? = some i) : dtI (S.take (k + 1)) = dtI (S.take k) ++ [(i.r, i.n)] := by
  unfold dtI
  rw [List.take_add_one, h]
  simp
theorem dtI_mem (E : List Ev) (s : List UInt8) (z : Dt) : z ∈ dtI (puts (itE E s)) ↔ z ∈ dtE E s := by
  have h1 : z ∈ dtI (puts (itE E s)) ↔ hasD (puts (itE E s)) z.1 z.2 = true := by
    rw [hasD_iff, dtI, List.mem_map]
    exact ⟨fun ⟨i, hi, e⟩ => ⟨i, hi, by rw [← e], by rw [← e]⟩, fun ⟨i, hi, e1, e2⟩ => ⟨i, hi, Prod.ext e1 e2⟩⟩
  rw [h1, hasD_puts, hasD_iff]
  unfold itE dtE
  simp only [List.mem_map]
  constructor
  · rintro ⟨i, ⟨e, he, rfl⟩, h1, h2⟩
    exact ⟨e, he, Prod.ext h1 h2⟩
  · rintro ⟨e, he, rfl⟩
    exact ⟨_, ⟨e, he, rfl⟩, rfl, rfl⟩
theorem Rb.range {w : World} {B G : Nat} {S : List (It Int)} {g n cap k : Nat} {i : It Int} (h : Rb w B G (.slice (some ⟨g, 0, none⟩) n cap) S) (hi : S[k]? = some i) : w.rangeAt g (k * 3) (dtl (i.r, i.n)) := fun j v hv => by
  have hj : j < 2 := (List.getElem?_eq_some_iff.1 hv).1
  have hv2 : (itl i)[j]? = some v := by
    match j, hv with
    | 0, hv => exact hv
    | 1, hv => exact hv
  have h1 := h.row.cells (g := g) rfl _ _ (its_at k i hi j v hv2)
  rw [Addr.add_mid, Nat.zero_add] at h1
  exact h1
theorem index_it (w : World) {b off k m c : Nat} (hk : k < m) : (Instr.indexAt 51 (.slice (some ⟨b, off, none⟩) m c) (.int .i64 (k : Int))).run Try.prog w = .ok (.pointer (some ⟨b, off + k * 3, none⟩)) w := by
  have hk' : (k : Int) < (m : Int) := by omega
  have hs : (Try.prog.info? 56).map (·.size) = some 3 := by kernel_rfl
  have ht : Try.prog.underlying 51 = some (.slice 56) := Try.underlying51
  go_simp
set_option maxHeartbeats 2000000 in
theorem rmdots_any (ao : Option Addr) (m c : Nat) (E : List Ev) (s : List UInt8) (w : World) (hE : Evs w ao m c E) (hm : m ≤ 1000) :
    Calls Try.prog 12 #[.slice ao m c, .string (sb s)] w fun e w' => ∃ v R, e = .returned v ∧ DRow w' w.heap.size v R ∧ StrD R ∧ (∀ z, z ∈ R ↔ z ∈ dtE E s) ∧ R.length ≤ m ∧ Below w.heap.size w w' := by
  have hlen := hE.len
  have HE : Aside (Evs w ao m c E) := hE
  have H0 : Aside ((∃ B v, Rb (w.alloc (.cells #[.slice none 0 0] 53)) B w.heap.size v (puts (itE (E.take 0) s))) ∧ Below w.heap.size w (w.alloc (.cells #[.slice none 0 0] 53))) := ⟨⟨0, .slice none 0 0, heap_alloc_new w _, rw_nil _ _ _⟩, (Below.refl _ _).alloc (Nat.le_refl _) _⟩
  clear hE
  go_enter Try.func12, Try.ntmps12
  go_wp2
  go_loopg [13] m (fun kx s13 wr => ∃ i : Nat, s13 = .int .i64 i ∧ i ≤ m ∧ m - i ≤ kx ∧ Aside ((∃ B v, Rb wr B w.heap.size v (puts (itE (E.take i) s))) ∧ Below w.heap.size w wr))
  case atStart => exact ⟨0, rfl, Nat.zero_le _, by omega, H0⟩
  case round =>
    clear H0
    obtain ⟨i, rfl, him, hkx, HS⟩ := hrel
    by_cases hlt : i < m
    · have hltz : (i : Int) < (m : Int) := by omega
      obtain ⟨b, off, u, rfl, hui, hu, hr, hbl⟩ := (HE.out.below HS.out.2 (Nat.le_refl _)).at hlt
      have hu16 := hu.1
      have hix := fun W : World => index_ev W (b := b) (off := off) (k := i) (m := m) (c := c) hlt
      have c19 := range_kind hr hu16
      have c21 := range_field hr hu16
      have hd : wr.rangeAt b (off + i * 26) (dtl (u.r, u.n)) := fun j v hv => by
        match j, hv with
        | 0, hv => exact hr 0 v hv
        | 1, hv => exact hr 1 v hv
      have hkb := sb_beq u.field s
      have HK : Hid (puts (itE (E.take (i + 1)) s) = if addE s u then put (puts (itE (E.take i) s)) ⟨u.r, u.n, 0⟩ else puts (itE (E.take i) s)) := itE_take hui
      have hll : (puts (itE (E.take i) s)).length ≤ i := Nat.le_trans (itE_len _ _) (by rw [List.length_take]; omega)
      have HSr : Hid (Srt (puts (itE (E.take i) s))) := Srt.puts _
      clear hr hui
      generalize puts (itE (E.take i) s) = T at *
      by_cases hk : u.kind = 3
      · by_cases hf : u.field = s
        · have HK2 : Hid (puts (itE (E.take (i + 1)) s) = put T ⟨u.r, u.n, 0⟩) := by show _ = _; rw [HK.out, if_pos (by unfold addE; rw [decide_eq_true hk, decide_eq_true hf]; rfl)]
          rw [hk] at c19
          rw [decide_eq_true hf] at hkb
          obtain ⟨B, v, hRb⟩ := HS.out.1
          clear hk hf HK
          go_wp2_with (refine load_dt_mid rfl rfl rfl hd ?_)
          refine (rput_any B w.heap.size v T HSr.out ⟨u.r, u.n, 0⟩ wr hRb (by omega)).mono ?_
          rintro e w2 ⟨rfl, v2, h1, h2⟩
          have HS2 : Aside ((∃ B v, Rb w2 B w.heap.size v (puts (itE (E.take (i + 1)) s))) ∧ Below w.heap.size w w2) := ⟨⟨_, _, by rw [HK2.out]; exact h1⟩, HS.out.2.trans (h2.below HS.out.2.size (Nat.le_refl _) (fun k e => by cases e))⟩
          clear HS h1 h2 hRb HK2 c19 c21 hd hix hkb
          go_wp2
          go_roundg (m - (i + 1))
          case measure => omega
          case rel => exact ⟨i + 1, by go_num, by omega, Nat.le_refl _, HS2⟩
        · have HS2 : Aside ((∃ B v, Rb wr B w.heap.size v (puts (itE (E.take (i + 1)) s))) ∧ Below w.heap.size w wr) := by
            rw [HK.out, if_neg (by unfold addE; rw [decide_eq_false hf]; simp)]
            exact HS.out
          rw [hk] at c19
          rw [decide_eq_false hf] at hkb
          clear HS HK hk hf hd
          go_wp2
          go_roundg (m - (i + 1))
          case measure => omega
          case rel => exact ⟨i + 1, by go_num, by omega, Nat.le_refl _, HS2⟩
      · have hk3 : (u.kind == 3) = false := by simpa using hk
        have HS2 : Aside ((∃ B v, Rb wr B w.heap.size v (puts (itE (E.take (i + 1)) s))) ∧ Below w.heap.size w wr) := by
          rw [HK.out, if_neg (by unfold addE; rw [decide_eq_false hk]; simp)]
          exact HS.out
        clear HS HK hk hd
        go_wp2
        go_roundg (m - (i + 1))
        case measure => omega
        case rel => exact ⟨i + 1, by go_num, by omega, Nat.le_refl _, HS2⟩
    · obtain rfl : m = i := by omega
      obtain ⟨B, v, hRb⟩ := HS.out.1
      rw [List.take_of_length_le (by omega)] at hRb
      have HM : Hid (∀ z, z ∈ dtI (puts (itE E s)) ↔ z ∈ dtE E s) := dtI_mem E s
      have hll : (puts (itE E s)).length ≤ m := Nat.le_trans (itE_len _ _) (by omega)
      have HSr : Hid (Srt (puts (itE E s))) := Srt.puts _
      have HB : Hid (Below w.heap.size w wr) := HS.out.2
      clear HS HE
      generalize puts (itE E s) = T at *
      obtain ⟨la, lc, rfl, -, -⟩ := hRb.row.val
      obtain ⟨n, hn⟩ : ∃ n, n = T.length := ⟨_, rfl⟩
      have HN : Hid (n = T.length) := hn
      rw [← hn] at hRb hll
      clear hn
      have HR : Aside (Rb wr B w.heap.size (.slice la n lc) T) := hRb
      have c0 := hRb.c0
      have H1 : Aside (DRow wr wr.heap.size (.slice none 0 0) (dtI (T.take 0)) ∧ Below wr.heap.size wr wr) := ⟨drow_nil _ _, Below.refl _ _⟩
      clear hRb
      go_wp2
      clear c0
      obtain ⟨w1, hw1⟩ : ∃ w1, w1 = wr := ⟨_, rfl⟩
      subst hw1
      go_loopg [7, 46] n (fun kx s7 s46 wr => ∃ k : Nat, s46 = .int .i64 k ∧ k ≤ n ∧ n - k ≤ kx ∧ Aside (DRow wr w1.heap.size s7 (dtI (T.take k)) ∧ Below w1.heap.size w1 wr))
      case atStart => exact ⟨0, rfl, Nat.zero_le _, by omega, H1⟩
      case round =>
        clear H1
        obtain ⟨k, rfl, hkn, hkx2, HS⟩ := hrel
        by_cases hlt2 : k < n
        · have hltz2 : (k : Int) < (n : Int) := by omega
          obtain ⟨it, hit⟩ : ∃ it, T[k]? = some it := ⟨_, List.getElem?_eq_getElem (by have := HN.out; omega)⟩
          have hRb := HR.out.below HS.out.2 (Nat.le_refl _)
          obtain ⟨g, _, _, e1, -, -, -, -, -, -, -, -⟩ := hRb.row.at3 (k := k) (by have := HN.out; omega)
          obtain ⟨rfl, -, -⟩ : la = some ⟨g, 0, none⟩ ∧ _ ∧ _ := by simpa using e1
          have c0 := hRb.c0
          have hri := hRb.range hit
          have hix := fun W : World => index_it W (b := g) (off := 0) (k := k) (m := n) (c := lc) hlt2
          simp only [Nat.zero_add] at hix
          have HK : Hid (dtI (T.take (k + 1)) = dtI (T.take k) ++ [(it.r, it.n)]) := dtI_take hit
          have hdl : (dtI (T.take k)).length ≤ k := by unfold dtI; rw [List.length_map, List.length_take]; omega
          have hRow : DRow (wr.alloc (.cells (dotc (it.r, it.n).1 (it.r, it.n).2) 34)) w1.heap.size u7 (dtI (T.take k)) := HS.out.1.below ((Below.refl _ _).alloc (Nat.le_refl _) _) (Nat.le_refl _)
          have hle : w1.heap.size ≤ wr.heap.size := HS.out.2.size
          have HB3 : Hid (Below w1.heap.size w1 (wr.alloc (.cells (dotc (it.r, it.n).1 (it.r, it.n).2) 34))) := HS.out.2.alloc hle _
          clear HS hRb e1 hit
          generalize dtI (T.take k) = Z at *
          go_wp2_with (first | refine load_dt_mid rfl rfl rfl hri ?_ | refine build_dt1 (d := (it.r, it.n)) rfl rfl rfl ?_ | refine wpList_appD (it.r, it.n) rfl _ _ rfl w1.heap.size _ Z rfl hRow rfl (by omega) hle ?_)
          intro v4 w4 hR4 hg4
          have HS4 : Aside (DRow w4 w1.heap.size v4 (dtI (T.take (k + 1))) ∧ Below w1.heap.size w1 w4) := ⟨by rw [HK.out]; exact hR4, HB3.out.grown hg4 (by simp; omega) hRow.own⟩
          clear hR4 hg4 hRow HB3 HK hle hri c0 hix
          go_wp2
          go_roundg (n - (k + 1))
          case measure => omega
          case rel => exact ⟨k + 1, by go_num, by omega, Nat.le_refl _, HS4⟩
        · obtain rfl : n = k := by omega
          have HF : Hid (DRow wr w.heap.size u7 (dtI T) ∧ StrD (dtI T) ∧ (dtI T).length ≤ m ∧ Below w.heap.size w wr) := by
            have h1 := HS.out
            rw [List.take_of_length_le (by have := HN.out; omega)] at h1
            refine ⟨h1.1.lower HB.out.size, dtI_str HSr.out, ?_, HB.out.trans (h1.2.mono HB.out.size)⟩
            unfold dtI
            rw [List.length_map, ← HN.out]
            exact hll
          clear HS
          go_wp2
          go_ret
          exact ⟨_, _, rfl, HF.out.1, HF.out.2.1, HM.out, HF.out.2.2.1, HF.out.2.2.2⟩
end Go.Proofs.Ytlbjdokfnammfaa
