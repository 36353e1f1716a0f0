/-
  CrcLinear: the check of bytes that are xored is xored of checks. For every input.
-/
import Derived.Test.YtcgnfmfnngbpcaaBck
import Derived.Test.YtcgnfmfnngbpcaaPrt
namespace Go.Proofs.Ytcgnfmfnngbpcaa
open Go.RowKit

/-- What the loop has laid behind k rounds. -/
def part (z : List UInt8) (n k : Nat) : List UInt8 := z.take k ++ List.replicate (n - k) 0

theorem part_zero (z : List UInt8) (n : Nat) : bs (part z n 0) = List.replicate n (.int .u8 0) := by simp [part, bs]

theorem part_length (z : List UInt8) (n k : Nat) (hz : z.length = n) (hk : k ≤ n) : (part z n k).length = n := by
  rw [part, List.length_append, List.length_take, List.length_replicate]; omega
theorem part_end (z : List UInt8) (n : Nat) (hz : z.length = n) : part z n n = z := by
  rw [part, Nat.sub_self, List.replicate_zero, List.append_nil, List.take_of_length_le (by omega)]
theorem get_list (a : ByteArray) (k : Nat) (h : k < a.size) : a.data.toList[k]? = some a[k] := by
  rw [Array.getElem?_toList]; exact Array.getElem?_eq_getElem h
theorem part_step (a b : ByteArray) (n k : Nat) (hk : k < n) (hz : (List.zipWith (· ^^^ ·) a.data.toList b.data.toList).length = n) (ha : k < a.size) (hb : k < b.size) :
    bs (part (List.zipWith (· ^^^ ·) a.data.toList b.data.toList) n (k + 1)) = (bs (part (List.zipWith (· ^^^ ·) a.data.toList b.data.toList) n k)).set k (.int .u8 (bits .xor .u8 (a[k].toNat : Int) (b[k].toNat : Int))) := by
  have hg : (List.zipWith (· ^^^ ·) a.data.toList b.data.toList)[k]? = some (a[k] ^^^ b[k]) := by
    rw [List.getElem?_zipWith, get_list a k ha, get_list b k hb]
  generalize List.zipWith (· ^^^ ·) a.data.toList b.data.toList = z at *
  have hkz : k < z.length := by omega
  rw [u8_xor_nat _ _ a[k].toNat_lt b[k].toNat_lt, ← UInt8.toNat_xor]
  have hl : (bs (z.take k)).length = k := by rw [bs_length, List.length_take]; omega
  obtain ⟨m, hm⟩ : ∃ m, n - k = m + 1 := ⟨n - k - 1, by omega⟩
  have hm' : n - (k + 1) = m := by omega
  rw [part, part, bs_append, bs_append, List.set_append_right _ _ (by omega), hl, Nat.sub_self, List.take_add_one, hg, hm, hm', List.replicate_succ]
  simp [bs]
theorem byte_at {wr : World} {base g n q : Nat} {l : List UInt8} (h : wr.ownsRow base 5 1 (.slice (some ⟨g, 0, none⟩) n n) n (bs l)) (hl : l.length = n) (hq : q < n) : wr.cell? ⟨g, q, none⟩ = some (.int .u8 ((l.getD q 0).toNat : Int)) := by
  have := (Bytes.own h).cells _ rfl q (.int .u8 ((l.getD q 0).toNat : Int)) (by simp [bs, List.getD, show q < l.length by omega])
  rwa [Addr.add_lit, Nat.zero_add] at this

/-- A text turned into bytes, in every world. -/
theorem conv_all (s : ByteArray) (hs : s.size ≤ maxLen) : ∃ (cap : World → Nat) (next : World → World), ∀ W, (convert 9 23 (.string s)).run Try.prog W = .ok (.slice (some ⟨W.heap.size, 0, none⟩) s.size (cap W)) (next W) ∧
    Bytes (next W) (some ⟨W.heap.size, 0, none⟩) s.size (cap W) s.data.toList ∧ Below W.heap.size W (next W) := by
  have h : ∀ W : World, ∃ (cap : Nat) (W' : World), (convert 9 23 (.string s)).run Try.prog W = .ok (.slice (some ⟨W.heap.size, 0, none⟩) s.size cap) W' ∧
      Bytes W' (some ⟨W.heap.size, 0, none⟩) s.size cap s.data.toList ∧ Below W.heap.size W W' := fun W => by
    obtain ⟨cap, W', h1, h2, _, h3, _⟩ := conv_bytes s W hs
    exact ⟨cap, W', h1, h2, h3⟩
  obtain ⟨cap, h⟩ := Classical.axiomOfChoice h
  obtain ⟨next, h⟩ := Classical.axiomOfChoice h
  exact ⟨cap, next, h⟩
theorem linear_bits (a b : ByteArray) (k : Nat) (ha : k ≤ a.size) (hb : k ≤ b.size) (hz : (List.zipWith (· ^^^ ·) a.data.toList b.data.toList).length = k) :
    bits .xor .u16 (bits .xor .u16 ((Ck.crc (a.extract 0 k).data.toList).toNat : Int) ((Ck.crc (b.extract 0 k).data.toList).toNat : Int)) ((Ck.crc (List.replicate k 0)).toNat : Int) = ((Ck.crc (List.zipWith (· ^^^ ·) a.data.toList b.data.toList)).toNat : Int) := by
  have e : ∀ x : ByteArray, (x.extract 0 k).data.toList = x.data.toList.take k := fun x => by simp
  have la : (a.data.toList.take k).length = k := by rw [List.length_take, Array.length_toList]; exact Nat.min_eq_left ha
  have lb : (b.data.toList.take k).length = k := by rw [List.length_take, Array.length_toList]; exact Nat.min_eq_left hb
  have ez : List.zipWith (· ^^^ ·) a.data.toList b.data.toList = List.zipWith (· ^^^ ·) (a.data.toList.take k) (b.data.toList.take k) := by
    rw [← List.take_zipWith, List.take_of_length_le (by omega)]
  have h := Ck.linear (a.data.toList.take k) (b.data.toList.take k) (by rw [la, lb])
  rw [la] at h
  rw [ez, h, e, e, u16_xor_nat _ _ (BitVec.isLt _) (BitVec.isLt _), ← BitVec.toNat_xor, u16_xor_nat _ _ (BitVec.isLt _) (BitVec.isLt _), ← BitVec.toNat_xor]

/-- A row of zeros made, in every world. -/
theorem make_all (k : Nat) (hk : k ≤ 5000) : ∃ next : World → World, ∀ W, (Instr.makeSlice 23 (.int .i64 (k : Int)) (.int .i64 (k : Int))).run Try.prog W = .ok (.slice (some ⟨W.heap.size, 0, none⟩) k k) (next W) ∧
    Bytes (next W) (some ⟨W.heap.size, 0, none⟩) k k (List.replicate k 0) ∧ Below W.heap.size W (next W) := by
  have h : ∀ W : World, ∃ W' : World, (Instr.makeSlice 23 (.int .i64 (k : Int)) (.int .i64 (k : Int))).run Try.prog W = .ok (.slice (some ⟨W.heap.size, 0, none⟩) k k) W' ∧
      Bytes W' (some ⟨W.heap.size, 0, none⟩) k k (List.replicate k 0) ∧ Below W.heap.size W W' := fun W => by
    obtain ⟨i0, hi, hz0, hz1, hz2⟩ := info_parts info5
    obtain ⟨W', h1, h2, h3⟩ := run_make_full (P := Try.prog) W 0 23 5 i0 (.int .u8 0) 1 Try.underlying23 hi hz0 hz1 .i64 .i64 k (by rw [hz2]; omega) (by unfold maxLen; omega) (Nat.zero_le _)
    refine ⟨W', h1, Bytes.own (base := 0) ?_, (Below.refl _ _).grown h3 (Nat.le_refl _) (fun k h => by cases h)⟩
    have e : bs (List.replicate k 0) = (madeCells (Value.int .u8 0).cells (k * 1)).toList := by
      rw [Nat.mul_one]
      exact (by simp [bs] : bs (List.replicate k 0) = List.replicate k (.int .u8 0)).trans (toList_madeCells_one _ k).symm
    rw [e]; exact h2
  obtain ⟨next, h⟩ := Classical.axiomOfChoice h
  exact ⟨next, h⟩
theorem Below.next {w W : World} {f : World → World} (hf : ∀ W, Below W.heap.size W (f W)) (h : Below w.heap.size w W) : Below w.heap.size w (f W) := h.trans ((hf W).mono h.size)
theorem Bytes.next {W : World} {f : World → World} (hf : ∀ W, Below W.heap.size W (f W)) {ao : Option Addr} {m c : Nat} {l : List UInt8} (h : Bytes W ao m c l) : Bytes (f W) ao m c l := h.below (hf W) (Nat.le_refl _)

/-- What an operation leaves: just a value; or a list where bytes lie. -/
def Kd : Type := Value ⊕ (Nat × List UInt8)
def Kd.val (v : Value) : Kd := Sum.inl v
def Kd.row (k : Nat) (l : List UInt8) : Kd := Sum.inr (k, l)
def Kd.holds (d : Kd) (v : Value) (w : World) : Prop :=
  match d with
  | Sum.inl c => v = c
  | Sum.inr (k, l) => ∃ ao c, v = .slice ao k c ∧ Bytes w ao k c l
def Kd.at (ks : List Kd) (i : Nat) : Kd := ks.getD i (.val undef)
theorem Kd.stable {d : Kd} {v : Value} {w w' : World} (hb : Below w.heap.size w w') (h : d.holds v w) : d.holds v w' := by
  rcases d with c | ⟨k, l⟩
  · exact h
  · obtain ⟨ao, c, h1, h2⟩ := h
    exact ⟨ao, c, h1, h2.below hb (Nat.le_refl _)⟩

set_option maxHeartbeats 1000000 in
theorem linear_walk (a b : ByteArray) (ha : a.size ≤ maxLen) (hb : b.size ≤ maxLen) (w : World) :
    Calls Try.prog 6 #[.string a, .string b] w fun e w' => e = .returned (.bool true) ∧ Below w.heap.size w w' := by
  obtain ⟨i0, hi, hz0, hz1, hz2⟩ := info_parts info5
  have ham := ha
  have hbm := hb
  unfold maxLen at ham hbm
  by_cases h1 : a.size ≤ 5000
  · by_cases h2 : b.size ≤ 5000
    · go_enter Try.func6, Try.ntmps6
      go_wp2_with fail
      refine (awake_any _).mono ?_
      rintro e w1 ⟨rfl, hb1⟩
      have hs1 := hb1.size
      have hmin : min (a.size : Int) (b.size : Int) = ((min a.size b.size : Nat) : Int) := by omega
      have hn1 : min a.size b.size ≤ a.size := Nat.min_le_left _ _
      have hn2 : min a.size b.size ≤ b.size := Nat.min_le_right _ _
      have hzl : (List.zipWith (· ^^^ ·) a.data.toList b.data.toList).length = min a.size b.size := by rw [List.length_zipWith]; rfl
      generalize min a.size b.size = n at *
      go_wp2_with (first
        | (at_make; refine wpList_make_full _ rfl _ _ 23 rfl w.heap.size 5 i0 (.int .u8 0) 1 Try.underlying23 hi hz0 hz1 _ _ _ _ n rfl rfl (by omega) (by omega) ?b2 ?b3 hs1 ?_))
      case b2 => rw [hz2]; omega
      case b3 => unfold maxLen; omega
      intro w2 hown2 hgrow2
      have hbel2 : Below w.heap.size w w2 := hb1.grown hgrow2 hs1 (fun k h => by cases h)
      go_wp2
      go_loopw [30] (fun iv wr => ∃ k : Nat, k ≤ n ∧ iv = .int .i64 (k : Int) ∧
        wr.ownsRow w.heap.size 5 1 (.slice (some ⟨w1.heap.size, 0, none⟩) n n) n (bs (part (List.zipWith (· ^^^ ·) a.data.toList b.data.toList) n k)) ∧ Below w.heap.size w wr) (fun iv _ => n - (intOf iv).toNat)
      case atStart =>
        refine ⟨0, by omega, rfl, ?_, hbel2⟩
        rw [part_zero, ← toList_madeCells_one]
        exact hown2
      case round =>
        obtain ⟨k, hk, rfl, hown, hbel⟩ := hrel
        have hka : k ≤ a.size := by omega
        have hkb : k ≤ b.size := by omega
        by_cases hlt : k < n
        · have hka : k < a.size := by omega
          have hkb : k < b.size := by omega
          have hc := byte_at hown (part_length _ _ _ hzl hk) hlt
          generalize ((part (List.zipWith (· ^^^ ·) a.data.toList b.data.toList) n k).getD k 0).toNat = x at hc
          have hf := hown.frozenAt k
          go_wp2_with fail
          have Hst : Hid ((wr.drew.setCell ⟨w1.heap.size, k, none⟩ (.int .u8 (bits .xor .u8 (a[k].toNat : Int) (b[k].toNat : Int)))).ownsRow w.heap.size 5 1 (.slice (some ⟨w1.heap.size, 0, none⟩) n n) n (bs (part (List.zipWith (· ^^^ ·) a.data.toList b.data.toList) n (k + 1)))) := by
            show World.ownsRow _ _ _ _ _ _ _
            rw [part_step _ _ _ _ hlt hzl hka hkb]
            exact ((own_below hown (drawn wr 1)).stored _ _).1
          go_region
          go_wp2
          go_roundw
          case rel => exact ⟨k + 1, by omega, by go_num, Hst.out, hbel.drew.setCell hs1 _⟩
          case measure => simp [intOf]; omega
        · obtain rfl : k = n := by omega
          rw [part_end _ _ hzl] at hown
          have hBx := Bytes.own hown
          have hla : (a.extract 0 k).size = k := by rw [ByteArray.size_extract]; omega
          have hlb : (b.extract 0 k).size = k := by rw [ByteArray.size_extract]; omega
          obtain ⟨capA, wA, hA⟩ := conv_all (a.extract 0 k) (by rw [hla]; unfold maxLen; omega)
          obtain ⟨capB, wB, hB⟩ := conv_all (b.extract 0 k) (by rw [hlb]; unfold maxLen; omega)
          rw [hla] at hA
          rw [hlb] at hB
          obtain ⟨wZ, hZ⟩ := make_all k (by omega)
          have cA := fun W => (hA W).1
          have cB := fun W => (hB W).1
          have cZ := fun W => (hZ W).1
          have bA := fun W => (hA W).2.1
          have bB := fun W => (hB W).2.1
          have bZ := fun W => (hZ W).2.1
          have nA := fun W => (hA W).2.2
          have nB := fun W => (hB W).2.2
          have nZ := fun W => (hZ W).2.2
          clear hA hB hZ
          have hlin := linear_bits a b k hka hkb hzl
          have hzl' := hzl
          clear hown hzl hzl'
          generalize List.zipWith (· ^^^ ·) a.data.toList b.data.toList = z at *
          generalize (a.extract 0 k).data.toList = la at *
          generalize (b.extract 0 k).data.toList = lb at *
          have mx : k ≤ maxLen := by unfold maxLen; omega
          obtain ⟨X, eX⟩ : ∃ X, Hid (X = (Ck.crc z).toNat) := ⟨_, rfl⟩
          obtain ⟨A, eA⟩ : ∃ X, Hid (X = (Ck.crc la).toNat) := ⟨_, rfl⟩
          obtain ⟨B, eB⟩ : ∃ X, Hid (X = (Ck.crc lb).toNat) := ⟨_, rfl⟩
          obtain ⟨Z, eZ⟩ : ∃ X, Hid (X = (Ck.crc (List.replicate k 0)).toNat) := ⟨_, rfl⟩
          rw [← eX.out, ← eA.out, ← eB.out, ← eZ.out] at hlin
          go_wp2_with fail
          refine region_parts [44, 45, 46, 47, 48, 49, 50, 51, 52, 53, 54, 55, 56, 57, 58, 59, 60, 61, 4] (fun i => (Kd.at [.val (.slice (some ⟨w1.heap.size, 0, none⟩) k k), .val (.int .u16 (X : Int)), .val (.string a), .val (.int .i64 (k : Int)), .val (.string (a.extract 0 k)), .row k la, .val (.int .u16 (A : Int)), .val (.string b), .val (.int .i64 (k : Int)), .val (.string (b.extract 0 k)), .row k lb, .val (.int .u16 (B : Int)), .val (.int .u16 (bits .xor .u16 (A : Int) (B : Int))), .val (.int .i64 (k : Int)), .row k (List.replicate k 0), .val (.int .u16 (Z : Int)), .val (.int .u16 (X : Int)), .val (.bool true), .val (.bool true)] i).holds) (by kernel_rfl) (by kernel_rfl) (by rfl) (by decide) (fun i v w w' hb h => Kd.stable hb h) ?_ ?_
          · refine ⟨?_, ?_, ?_, ?_, ?_, ?_, ?_, ?_, ?_, ?_, ?_, ?_, ?_, ?_, ?_, ?_, ?_, ?_, ?_, trivial⟩
            · intro u W hb hd K hK
              simp only [lay, Act.put, List.setIfInBounds_toArray, List.set_cons_zero, List.set_cons_succ, Nat.reduceAdd] at hK ⊢
              go_simp
              exact hK.out _ _ rfl (Below.refl _ _)
            · intro u W hb hd K hK
              have h0 : u 0 = (.slice (some ⟨w1.heap.size, 0, none⟩) k k) := hd 0 (by kernel_rfl)
              simp only [lay, Act.put, List.setIfInBounds_toArray, List.set_cons_zero, List.set_cons_succ, Nat.reduceAdd, h0] at hK ⊢
              clear h0
              have hB := hBx.below hb (Nat.le_refl _)
              go_simp
              refine (of_any _ _ _ z _ hB mx).mono ?_
              rintro e w' ⟨rfl, hw⟩
              obtain rfl := hw.symm
              exact hK.out _ _ (by rw [← eX.out]; rfl) (Below.refl _ _)
            · intro u W hb hd K hK
              simp only [lay, Act.put, List.setIfInBounds_toArray, List.set_cons_zero, List.set_cons_succ, Nat.reduceAdd] at hK ⊢
              go_simp
              exact hK.out _ _ rfl (Below.refl _ _)
            · intro u W hb hd K hK
              simp only [lay, Act.put, List.setIfInBounds_toArray, List.set_cons_zero, List.set_cons_succ, Nat.reduceAdd] at hK ⊢
              go_simp
              exact hK.out _ _ rfl (Below.refl _ _)
            · intro u W hb hd K hK
              have h2 : u 2 = (.string a) := hd 2 (by kernel_rfl)
              have h3 : u 3 = (.int .i64 (k : Int)) := hd 3 (by kernel_rfl)
              simp only [lay, Act.put, List.setIfInBounds_toArray, List.set_cons_zero, List.set_cons_succ, Nat.reduceAdd, h2, h3] at hK ⊢
              clear h2
              clear h3
              go_simp
              exact hK.out _ _ rfl (Below.refl _ _)
            · intro u W hb hd K hK
              have h4 : u 4 = (.string (a.extract 0 k)) := hd 4 (by kernel_rfl)
              simp only [lay, Act.put, List.setIfInBounds_toArray, List.set_cons_zero, List.set_cons_succ, Nat.reduceAdd, h4] at hK ⊢
              clear h4
              have hc := cA W
              go_simp
              exact hK.out _ _ ⟨_, _, rfl, bA W⟩ (nA W)
            · intro u W hb hd K hK
              obtain ⟨ao, c, h5, hB⟩ : ∃ ao c, u 5 = .slice ao k c ∧ Bytes W ao k c la := hd 5 (by kernel_rfl)
              simp only [lay, Act.put, List.setIfInBounds_toArray, List.set_cons_zero, List.set_cons_succ, Nat.reduceAdd, h5] at hK ⊢
              clear h5
              go_simp
              refine (of_any _ _ _ la _ hB mx).mono ?_
              rintro e w' ⟨rfl, hw⟩
              obtain rfl := hw.symm
              exact hK.out _ _ (by rw [← eA.out]; rfl) (Below.refl _ _)
            · intro u W hb hd K hK
              simp only [lay, Act.put, List.setIfInBounds_toArray, List.set_cons_zero, List.set_cons_succ, Nat.reduceAdd] at hK ⊢
              go_simp
              exact hK.out _ _ rfl (Below.refl _ _)
            · intro u W hb hd K hK
              simp only [lay, Act.put, List.setIfInBounds_toArray, List.set_cons_zero, List.set_cons_succ, Nat.reduceAdd] at hK ⊢
              go_simp
              exact hK.out _ _ rfl (Below.refl _ _)
            · intro u W hb hd K hK
              have h7 : u 7 = (.string b) := hd 7 (by kernel_rfl)
              have h8 : u 8 = (.int .i64 (k : Int)) := hd 8 (by kernel_rfl)
              simp only [lay, Act.put, List.setIfInBounds_toArray, List.set_cons_zero, List.set_cons_succ, Nat.reduceAdd, h7, h8] at hK ⊢
              clear h7
              clear h8
              go_simp
              exact hK.out _ _ rfl (Below.refl _ _)
            · intro u W hb hd K hK
              have h9 : u 9 = (.string (b.extract 0 k)) := hd 9 (by kernel_rfl)
              simp only [lay, Act.put, List.setIfInBounds_toArray, List.set_cons_zero, List.set_cons_succ, Nat.reduceAdd, h9] at hK ⊢
              clear h9
              have hc := cB W
              go_simp
              exact hK.out _ _ ⟨_, _, rfl, bB W⟩ (nB W)
            · intro u W hb hd K hK
              obtain ⟨ao, c, h10, hB⟩ : ∃ ao c, u 10 = .slice ao k c ∧ Bytes W ao k c lb := hd 10 (by kernel_rfl)
              simp only [lay, Act.put, List.setIfInBounds_toArray, List.set_cons_zero, List.set_cons_succ, Nat.reduceAdd, h10] at hK ⊢
              clear h10
              go_simp
              refine (of_any _ _ _ lb _ hB mx).mono ?_
              rintro e w' ⟨rfl, hw⟩
              obtain rfl := hw.symm
              exact hK.out _ _ (by rw [← eB.out]; rfl) (Below.refl _ _)
            · intro u W hb hd K hK
              have h6 : u 6 = (.int .u16 (A : Int)) := hd 6 (by kernel_rfl)
              have h11 : u 11 = (.int .u16 (B : Int)) := hd 11 (by kernel_rfl)
              simp only [lay, Act.put, List.setIfInBounds_toArray, List.set_cons_zero, List.set_cons_succ, Nat.reduceAdd, h6, h11] at hK ⊢
              clear h6
              clear h11
              go_simp
              exact hK.out _ _ rfl (Below.refl _ _)
            · intro u W hb hd K hK
              simp only [lay, Act.put, List.setIfInBounds_toArray, List.set_cons_zero, List.set_cons_succ, Nat.reduceAdd] at hK ⊢
              go_simp
              exact hK.out _ _ rfl (Below.refl _ _)
            · intro u W hb hd K hK
              have h13 : u 13 = (.int .i64 (k : Int)) := hd 13 (by kernel_rfl)
              simp only [lay, Act.put, List.setIfInBounds_toArray, List.set_cons_zero, List.set_cons_succ, Nat.reduceAdd, h13] at hK ⊢
              clear h13
              have hc := cZ W
              go_simp
              exact hK.out _ _ ⟨_, _, rfl, bZ W⟩ (nZ W)
            · intro u W hb hd K hK
              obtain ⟨ao, c, h14, hB⟩ : ∃ ao c, u 14 = .slice ao k c ∧ Bytes W ao k c (List.replicate k 0) := hd 14 (by kernel_rfl)
              simp only [lay, Act.put, List.setIfInBounds_toArray, List.set_cons_zero, List.set_cons_succ, Nat.reduceAdd, h14] at hK ⊢
              clear h14
              go_simp
              refine (of_any _ _ _ (List.replicate k 0) _ hB mx).mono ?_
              rintro e w' ⟨rfl, hw⟩
              obtain rfl := hw.symm
              exact hK.out _ _ (by rw [← eZ.out]; rfl) (Below.refl _ _)
            · intro u W hb hd K hK
              have h12 : u 12 = (.int .u16 (bits .xor .u16 (A : Int) (B : Int))) := hd 12 (by kernel_rfl)
              have h15 : u 15 = (.int .u16 (Z : Int)) := hd 15 (by kernel_rfl)
              simp only [lay, Act.put, List.setIfInBounds_toArray, List.set_cons_zero, List.set_cons_succ, Nat.reduceAdd, h12, h15] at hK ⊢
              clear h12
              clear h15
              go_simp
              exact hK.out _ _ rfl (Below.refl _ _)
            · intro u W hb hd K hK
              have h1 : u 1 = (.int .u16 (X : Int)) := hd 1 (by kernel_rfl)
              have h16 : u 16 = (.int .u16 (X : Int)) := hd 16 (by kernel_rfl)
              simp only [lay, Act.put, List.setIfInBounds_toArray, List.set_cons_zero, List.set_cons_succ, Nat.reduceAdd, h1, h16] at hK ⊢
              clear h1
              clear h16
              go_simp
              exact hK.out _ _ rfl (Below.refl _ _)
            · intro u W hb hd K hK
              have h17 : u 17 = (.bool true) := hd 17 (by kernel_rfl)
              simp only [lay, Act.put, List.setIfInBounds_toArray, List.set_cons_zero, List.set_cons_succ, Nat.reduceAdd, h17] at hK ⊢
              clear h17
              go_simp
              exact hK.out _ _ rfl (Below.refl _ _)
          · intro u W hb hv
            have h18 : u 18 = .bool true := hv 18 (by decide)
            simp only [lay, Act.put, List.setIfInBounds_toArray, List.set_cons_zero, List.set_cons_succ, Nat.reduceAdd, h18]
            clear hv h18
            go_wp2
            go_ret
            exact ⟨rfl, hbel.trans (hb.mono hbel.size)⟩
    · have g1 : ¬ (5000 : Int) < (a.size : Int) := by omega
      have g2 : (5000 : Int) < (b.size : Int) := by omega
      go_enter Try.func6, Try.ntmps6
      go_wp2_with fail
      refine (awake_any _).mono ?_
      rintro e w1 ⟨rfl, hb1⟩
      go_wp2_with fail
      refine (awake_any _).mono ?_
      rintro e w2 ⟨rfl, hb2⟩
      go_wp2
      go_ret
      exact ⟨rfl, hb1.trans (hb2.mono hb1.size)⟩
  · have g1 : (5000 : Int) < (a.size : Int) := by omega
    go_enter Try.func6, Try.ntmps6
    go_wp2_with fail
    refine (awake_any _).mono ?_
    rintro e w1 ⟨rfl, hb1⟩
    go_wp2_with fail
    refine (awake_any _).mono ?_
    rintro e w2 ⟨rfl, hb2⟩
    go_wp2
    go_ret
    exact ⟨rfl, hb1.trans (hb2.mono hb1.size)⟩
end Go.Proofs.Ytcgnfmfnngbpcaa
