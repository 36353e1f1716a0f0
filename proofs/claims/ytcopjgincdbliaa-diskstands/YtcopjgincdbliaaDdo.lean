/-
  What one call of the script does to a disk (does), and to the reference's; which scripts are tried (few).
-/
import Derived.Test.YtcopjgincdbliaaDop
import Derived.Test.YtcopjgincdbliaaDrc
namespace Go.Proofs.Ytcopjgincdbliaa
open Go.RowKit

/-- A call's error, the bytes behind it, and how many are fast. -/
def stE (o : Cl) (l : List UInt8) (r : Nat) : Int :=
  if o.kind = 1 then (if l.length + o.b.size ≤ r then 0 else 9) else if o.kind = 3 then (if o.b.size ≤ r then 0 else 9) else if o.kind = 4 then (if 0 ≤ o.n ∧ o.n ≤ (l.length : Int) then 0 else 1) else 0
def stL (o : Cl) (l : List UInt8) (f r : Nat) : List UInt8 :=
  if o.kind = 1 then (if l.length + o.b.size ≤ r then l ++ o.b.data.toList else l) else if o.kind = 3 then (if o.b.size ≤ r then o.b.data.toList else l) else if o.kind = 4 then (if 0 ≤ o.n ∧ o.n ≤ (l.length : Int) then l.take o.n.toNat else l) else
  if o.kind = 5 then Dk.crash l f o.n o.at0 o.turn else l
def stF (o : Cl) (l : List UInt8) (f r : Nat) : Nat :=
  if o.kind = 2 then l.length else if o.kind = 3 then (if o.b.size ≤ r then o.b.size else f) else if o.kind = 4 then (if 0 ≤ o.n ∧ o.n ≤ (l.length : Int) then o.n.toNat else f) else
  if o.kind = 5 then (Dk.crash l f o.n o.at0 o.turn).length else f
theorem stF_le (o : Cl) (l : List UInt8) (f r : Nat) (hf : f ≤ l.length) : stF o l f r ≤ (stL o l f r).length := by
  unfold stF stL
  by_cases h2 : o.kind = 2
  · simp [h2]
  by_cases h3 : o.kind = 3
  · simp only [h3]
    by_cases hr : o.b.size ≤ r
    · simp [hr]
    · simp [hr, hf]
  by_cases h4 : o.kind = 4
  · simp only [h4]
    by_cases hr : 0 ≤ o.n ∧ o.n ≤ (l.length : Int)
    · simp [hr]
    · simp [hr, hf]
  by_cases h5 : o.kind = 5
  · simp [h5]
  by_cases h1 : o.kind = 1
  · simp only [h1]
    by_cases hr : l.length + o.b.size ≤ r
    · simp [hr]; omega
    · simp [hr, hf]
  · simp [h1, h2, h3, h4, h5, hf]

section
variable {o : Cl} (l : List UInt8) (f r : Nat)
theorem st_1 (hk : o.kind = 1) : stE o l r = (if l.length + o.b.size ≤ r then 0 else 9) ∧ stL o l f r = (if l.length + o.b.size ≤ r then l ++ o.b.data.toList else l) ∧ stF o l f r = f := by simp [stE, stL, stF, hk]
theorem st_2 (hk : o.kind = 2) : stE o l r = 0 ∧ stL o l f r = l ∧ stF o l f r = l.length := by simp [stE, stL, stF, hk]
theorem st_3 (hk : o.kind = 3) : stE o l r = (if o.b.size ≤ r then 0 else 9) ∧ stL o l f r = (if o.b.size ≤ r then o.b.data.toList else l) ∧ stF o l f r = (if o.b.size ≤ r then o.b.size else f) := by simp [stE, stL, stF, hk]
theorem st_4 (hk : o.kind = 4) : stE o l r = (if 0 ≤ o.n ∧ o.n ≤ (l.length : Int) then 0 else 1) ∧ stL o l f r = (if 0 ≤ o.n ∧ o.n ≤ (l.length : Int) then l.take o.n.toNat else l) ∧ stF o l f r = (if 0 ≤ o.n ∧ o.n ≤ (l.length : Int) then o.n.toNat else f) := by simp [stE, stL, stF, hk]
theorem st_5 (hk : o.kind = 5) : stE o l r = 0 ∧ stL o l f r = Dk.crash l f o.n o.at0 o.turn ∧ stF o l f r = (Dk.crash l f o.n o.at0 o.turn).length := by simp [stE, stL, stF, hk]
theorem st_0 (h1 : o.kind ≠ 1) (h2 : o.kind ≠ 2) (h3 : o.kind ≠ 3) (h4 : o.kind ≠ 4) (h5 : o.kind ≠ 5) : stE o l r = 0 ∧ stL o l f r = l ∧ stF o l f r = f := by simp [stE, stL, stF, h1, h2, h3, h4, h5]
end

theorem call_cells (w : World) (o : Cl) : (∀ (j : Nat) (u : Value), (opl o)[j]? = some u → (w.alloc (.cells (opc o) 33)).cell? ⟨w.heap.size, j, none⟩ = some u) := by
  intro j u hu
  rw [World.cell?_alloc_mark, ← hu]
  simp [opc, opl]

section
variable (n a t : Int) (b : ByteArray) (base g : Nat) (v : Value) (l : List UInt8) (f r : Nat) (w : World) 

set_option maxHeartbeats 2000000 in
theorem does_1ok (h : Dsk w base g v l f r) (hbase : base ≤ w.heap.size) (hb : b.size ≤ 70000) (hfit : l.length + b.size ≤ r) : Calls Try.prog 14 #[.pointer (some ⟨g, 0, none⟩), .agg (opc ⟨1, n, a, t, b⟩)] w fun e w' => e = .returned (.int .i64 0) ∧ ∃ v', Dsk w' base g v' (l ++ b.data.toList) (f) r ∧ Step g v v' w w' := by
  have c0 := call_cells w ⟨1, n, a, t, b⟩ 0 _ rfl
  have c1 := call_cells w ⟨1, n, a, t, b⟩ 1 _ rfl
  have c2 := call_cells w ⟨1, n, a, t, b⟩ 2 _ rfl
  have c3 := call_cells w ⟨1, n, a, t, b⟩ 3 _ rfl
  have c4 := call_cells w ⟨1, n, a, t, b⟩ 4 _ rfl
  have b0 := (Below.refl _ w).alloc (Nat.le_refl _) (.cells (opc ⟨1, n, a, t, b⟩) 33)
  have hsz : (w.alloc (.cells (opc ⟨1, n, a, t, b⟩) 33)).heap.size = w.heap.size + 1 := by simp
  have hD := h.below b0 (Nat.le_refl _)
  have HS : Hid _ := Step.quiet g v b0
  obtain ⟨cap, w1, hcv, hB, hcm, b1, -⟩ := conv_bytes b (w.alloc (.cells (opc ⟨1, n, a, t, b⟩) 33)) (by unfold maxLen; omega)
  have hD1 := hD.below b1 (Nat.le_refl _)
  have HS1 : Hid _ := HS.out.trans (Step.quiet g v b1)
  have hbase1 : base ≤ w1.heap.size := Nat.le_trans hbase (Nat.le_trans b0.size b1.size)
  rw [hsz] at hcv hB
  have Hc : Hid _ := append_ok _ _ _ _ _ _ _ _ _ _ _ _ _ (orz_some _ _) hD1 hB hfit hbase1
  clear hD hD1 hB b0 b1 HS h hsz
  rw [opc] at *
  simp only at c0 c1 c2 c3 c4
  go_enter Try.func14, Try.ntmps14
  go_wp2_with fail
  refine Calls.mono Hc.out ?_
  rintro e w2 ⟨rfl, v2, hD2, s2⟩
  clear hcv c0 c1 c2 c3 c4
  go_wp2
  go_ret
  exact ⟨rfl, v2, hD2, HS1.out.trans s2⟩

set_option maxHeartbeats 2000000 in
theorem does_1no (h : Dsk w base g v l f r) (hb : b.size ≤ 70000) (hfit : r < l.length + b.size) : Calls Try.prog 14 #[.pointer (some ⟨g, 0, none⟩), .agg (opc ⟨1, n, a, t, b⟩)] w fun e w' => e = .returned (.int .i64 9) ∧ ∃ v', Dsk w' base g v' (l) (f) r ∧ Step g v v' w w' := by
  have c0 := call_cells w ⟨1, n, a, t, b⟩ 0 _ rfl
  have c1 := call_cells w ⟨1, n, a, t, b⟩ 1 _ rfl
  have c2 := call_cells w ⟨1, n, a, t, b⟩ 2 _ rfl
  have c3 := call_cells w ⟨1, n, a, t, b⟩ 3 _ rfl
  have c4 := call_cells w ⟨1, n, a, t, b⟩ 4 _ rfl
  have b0 := (Below.refl _ w).alloc (Nat.le_refl _) (.cells (opc ⟨1, n, a, t, b⟩) 33)
  have hsz : (w.alloc (.cells (opc ⟨1, n, a, t, b⟩) 33)).heap.size = w.heap.size + 1 := by simp
  have hD := h.below b0 (Nat.le_refl _)
  have HS : Hid _ := Step.quiet g v b0
  obtain ⟨cap, w1, hcv, hB, hcm, b1, -⟩ := conv_bytes b (w.alloc (.cells (opc ⟨1, n, a, t, b⟩) 33)) (by unfold maxLen; omega)
  have hD1 := hD.below b1 (Nat.le_refl _)
  have HS1 : Hid _ := HS.out.trans (Step.quiet g v b1)
  rw [hsz] at hcv hB
  have Hc : Hid _ := append_full _ (some ⟨w.heap.size + 1, 0, none⟩) b.size cap _ _ _ _ _ _ _ _ (orz_some _ _) hD1 hfit (by unfold maxLen; omega)
  clear hD hD1 hB b0 b1 HS h hsz
  rw [opc] at *
  simp only at c0 c1 c2 c3 c4
  go_enter Try.func14, Try.ntmps14
  go_wp2_with fail
  refine Calls.mono Hc.out ?_
  rintro e w2 ⟨rfl, hD2, s2⟩
  clear hcv c0 c1 c2 c3 c4
  go_wp2
  go_ret
  exact ⟨rfl, _, hD2, HS1.out.trans s2⟩

set_option maxHeartbeats 2000000 in
theorem does_3ok (h : Dsk w base g v l f r) (hbase : base ≤ w.heap.size) (hb : b.size ≤ 70000) (hfit : b.size ≤ r) : Calls Try.prog 14 #[.pointer (some ⟨g, 0, none⟩), .agg (opc ⟨3, n, a, t, b⟩)] w fun e w' => e = .returned (.int .i64 0) ∧ ∃ v', Dsk w' base g v' (b.data.toList) (b.size) r ∧ Step g v v' w w' := by
  have c0 := call_cells w ⟨3, n, a, t, b⟩ 0 _ rfl
  have c1 := call_cells w ⟨3, n, a, t, b⟩ 1 _ rfl
  have c2 := call_cells w ⟨3, n, a, t, b⟩ 2 _ rfl
  have c3 := call_cells w ⟨3, n, a, t, b⟩ 3 _ rfl
  have c4 := call_cells w ⟨3, n, a, t, b⟩ 4 _ rfl
  have b0 := (Below.refl _ w).alloc (Nat.le_refl _) (.cells (opc ⟨3, n, a, t, b⟩) 33)
  have hsz : (w.alloc (.cells (opc ⟨3, n, a, t, b⟩) 33)).heap.size = w.heap.size + 1 := by simp
  have hD := h.below b0 (Nat.le_refl _)
  have HS : Hid _ := Step.quiet g v b0
  obtain ⟨cap, w1, hcv, hB, hcm, b1, -⟩ := conv_bytes b (w.alloc (.cells (opc ⟨3, n, a, t, b⟩) 33)) (by unfold maxLen; omega)
  have hD1 := hD.below b1 (Nat.le_refl _)
  have HS1 : Hid _ := HS.out.trans (Step.quiet g v b1)
  have hbase1 : base ≤ w1.heap.size := Nat.le_trans hbase (Nat.le_trans b0.size b1.size)
  rw [hsz] at hcv hB
  have Hc : Hid _ := replace_ok _ _ _ _ _ _ _ _ _ _ _ _ _ (orz_some _ _) hD1 hB hfit hbase1
  rw [size_list] at Hc
  clear hD hD1 hB b0 b1 HS h hsz
  rw [opc] at *
  simp only at c0 c1 c2 c3 c4
  go_enter Try.func14, Try.ntmps14
  go_wp2_with fail
  refine Calls.mono Hc.out ?_
  rintro e w2 ⟨rfl, v2, hD2, s2⟩
  clear hcv c0 c1 c2 c3 c4
  go_wp2
  go_ret
  exact ⟨rfl, v2, hD2, HS1.out.trans s2⟩

set_option maxHeartbeats 2000000 in
theorem does_3no (h : Dsk w base g v l f r) (hb : b.size ≤ 70000) (hfit : r < b.size) : Calls Try.prog 14 #[.pointer (some ⟨g, 0, none⟩), .agg (opc ⟨3, n, a, t, b⟩)] w fun e w' => e = .returned (.int .i64 9) ∧ ∃ v', Dsk w' base g v' (l) (f) r ∧ Step g v v' w w' := by
  have c0 := call_cells w ⟨3, n, a, t, b⟩ 0 _ rfl
  have c1 := call_cells w ⟨3, n, a, t, b⟩ 1 _ rfl
  have c2 := call_cells w ⟨3, n, a, t, b⟩ 2 _ rfl
  have c3 := call_cells w ⟨3, n, a, t, b⟩ 3 _ rfl
  have c4 := call_cells w ⟨3, n, a, t, b⟩ 4 _ rfl
  have b0 := (Below.refl _ w).alloc (Nat.le_refl _) (.cells (opc ⟨3, n, a, t, b⟩) 33)
  have hsz : (w.alloc (.cells (opc ⟨3, n, a, t, b⟩) 33)).heap.size = w.heap.size + 1 := by simp
  have hD := h.below b0 (Nat.le_refl _)
  have HS : Hid _ := Step.quiet g v b0
  obtain ⟨cap, w1, hcv, hB, hcm, b1, -⟩ := conv_bytes b (w.alloc (.cells (opc ⟨3, n, a, t, b⟩) 33)) (by unfold maxLen; omega)
  have hD1 := hD.below b1 (Nat.le_refl _)
  have HS1 : Hid _ := HS.out.trans (Step.quiet g v b1)
  rw [hsz] at hcv hB
  have Hc : Hid _ := replace_full _ (some ⟨w.heap.size + 1, 0, none⟩) b.size cap _ _ _ _ _ _ _ _ (orz_some _ _) hD1 hfit
  have HD : Hid _ := hD1
  clear hD hD1 hB b0 b1 HS h hsz
  rw [opc] at *
  simp only at c0 c1 c2 c3 c4
  go_enter Try.func14, Try.ntmps14
  go_wp2_with fail
  refine Calls.mono Hc.out ?_
  rintro e w2 ⟨rfl, hw⟩
  obtain rfl := hw
  clear hcv c0 c1 c2 c3 c4
  go_wp2
  go_ret
  exact ⟨rfl, _, HD.out, HS1.out⟩

set_option maxHeartbeats 2000000 in
theorem does_2 (h : Dsk w base g v l f r) : Calls Try.prog 14 #[.pointer (some ⟨g, 0, none⟩), .agg (opc ⟨2, n, a, t, b⟩)] w fun e w' => e = .returned (.int .i64 0) ∧ ∃ v', Dsk w' base g v' (l) (l.length) r ∧ Step g v v' w w' := by
  have c0 := call_cells w ⟨2, n, a, t, b⟩ 0 _ rfl
  have c1 := call_cells w ⟨2, n, a, t, b⟩ 1 _ rfl
  have c2 := call_cells w ⟨2, n, a, t, b⟩ 2 _ rfl
  have c3 := call_cells w ⟨2, n, a, t, b⟩ 3 _ rfl
  have c4 := call_cells w ⟨2, n, a, t, b⟩ 4 _ rfl
  have b0 := (Below.refl _ w).alloc (Nat.le_refl _) (.cells (opc ⟨2, n, a, t, b⟩) 33)
  have hsz : (w.alloc (.cells (opc ⟨2, n, a, t, b⟩) 33)).heap.size = w.heap.size + 1 := by simp
  have hD := h.below b0 (Nat.le_refl _)
  have HS : Hid _ := Step.quiet g v b0
  have Hc : Hid _ := sync_any _ _ _ _ _ _ _ _ _ (orz_some _ _) hD
  clear hD b0 h hsz
  rw [opc] at *
  simp only at c0 c1 c2 c3 c4
  go_enter Try.func14, Try.ntmps14
  go_wp2_with fail
  refine Calls.mono Hc.out ?_
  rintro e w2 ⟨rfl, hD2, s2⟩
  clear c0 c1 c2 c3 c4
  go_wp2
  go_ret
  exact ⟨rfl, _, hD2, HS.out.trans s2⟩

set_option maxHeartbeats 2000000 in
theorem does_5 (h : Dsk w base g v l f r) (hf : f ≤ l.length) : Calls Try.prog 14 #[.pointer (some ⟨g, 0, none⟩), .agg (opc ⟨5, n, a, t, b⟩)] w fun e w' => e = .returned (.int .i64 0) ∧ ∃ v', Dsk w' base g v' (Dk.crash l f n a t) ((Dk.crash l f n a t).length) r ∧ Step g v v' w w' := by
  have c0 := call_cells w ⟨5, n, a, t, b⟩ 0 _ rfl
  have c1 := call_cells w ⟨5, n, a, t, b⟩ 1 _ rfl
  have c2 := call_cells w ⟨5, n, a, t, b⟩ 2 _ rfl
  have c3 := call_cells w ⟨5, n, a, t, b⟩ 3 _ rfl
  have c4 := call_cells w ⟨5, n, a, t, b⟩ 4 _ rfl
  have b0 := (Below.refl _ w).alloc (Nat.le_refl _) (.cells (opc ⟨5, n, a, t, b⟩) 33)
  have hsz : (w.alloc (.cells (opc ⟨5, n, a, t, b⟩) 33)).heap.size = w.heap.size + 1 := by simp
  have hD := h.below b0 (Nat.le_refl _)
  have HS : Hid _ := Step.quiet g v b0
  have Hc : Hid _ := crash_any _ n a t _ _ _ _ _ _ _ _ (orz_some _ _) hD hf
  clear hD b0 h hsz
  rw [opc] at *
  simp only at c0 c1 c2 c3 c4
  go_enter Try.func14, Try.ntmps14
  go_wp2_with fail
  refine Calls.mono Hc.out ?_
  rintro e w2 ⟨rfl, v2, hD2, s2⟩
  clear c0 c1 c2 c3 c4
  go_wp2
  go_ret
  exact ⟨rfl, v2, hD2, HS.out.trans s2⟩

set_option maxHeartbeats 2000000 in
theorem does_4ok (h : Dsk w base g v l f r) (hx : 0 ≤ n ∧ n ≤ (l.length : Int)) : Calls Try.prog 14 #[.pointer (some ⟨g, 0, none⟩), .agg (opc ⟨4, n, a, t, b⟩)] w fun e w' => e = .returned (.int .i64 0) ∧ ∃ v', Dsk w' base g v' (l.take n.toNat) (n.toNat) r ∧ Step g v v' w w' := by
  have c0 := call_cells w ⟨4, n, a, t, b⟩ 0 _ rfl
  have c1 := call_cells w ⟨4, n, a, t, b⟩ 1 _ rfl
  have c2 := call_cells w ⟨4, n, a, t, b⟩ 2 _ rfl
  have c3 := call_cells w ⟨4, n, a, t, b⟩ 3 _ rfl
  have c4 := call_cells w ⟨4, n, a, t, b⟩ 4 _ rfl
  have b0 := (Below.refl _ w).alloc (Nat.le_refl _) (.cells (opc ⟨4, n, a, t, b⟩) 33)
  have hsz : (w.alloc (.cells (opc ⟨4, n, a, t, b⟩) 33)).heap.size = w.heap.size + 1 := by simp
  have hD := h.below b0 (Nat.le_refl _)
  have HS : Hid _ := Step.quiet g v b0
  have Hc : Hid _ := cut_ok _ n.toNat _ _ _ _ _ _ _ _ (orz_some _ _) hD (by omega)
  rw [Int.toNat_of_nonneg hx.1] at Hc
  clear hD b0 h hsz
  rw [opc] at *
  simp only at c0 c1 c2 c3 c4
  go_enter Try.func14, Try.ntmps14
  go_wp2_with fail
  refine Calls.mono Hc.out ?_
  rintro e w2 ⟨rfl, v2, hD2, s2⟩
  clear c0 c1 c2 c3 c4
  go_wp2
  go_ret
  exact ⟨rfl, v2, hD2, HS.out.trans s2⟩

set_option maxHeartbeats 2000000 in
theorem does_4no (h : Dsk w base g v l f r) (hx : ¬ (0 ≤ n ∧ n ≤ (l.length : Int))) : Calls Try.prog 14 #[.pointer (some ⟨g, 0, none⟩), .agg (opc ⟨4, n, a, t, b⟩)] w fun e w' => e = .returned (.int .i64 1) ∧ ∃ v', Dsk w' base g v' (l) (f) r ∧ Step g v v' w w' := by
  have c0 := call_cells w ⟨4, n, a, t, b⟩ 0 _ rfl
  have c1 := call_cells w ⟨4, n, a, t, b⟩ 1 _ rfl
  have c2 := call_cells w ⟨4, n, a, t, b⟩ 2 _ rfl
  have c3 := call_cells w ⟨4, n, a, t, b⟩ 3 _ rfl
  have c4 := call_cells w ⟨4, n, a, t, b⟩ 4 _ rfl
  have b0 := (Below.refl _ w).alloc (Nat.le_refl _) (.cells (opc ⟨4, n, a, t, b⟩) 33)
  have hsz : (w.alloc (.cells (opc ⟨4, n, a, t, b⟩) 33)).heap.size = w.heap.size + 1 := by simp
  have hD := h.below b0 (Nat.le_refl _)
  have HS : Hid _ := Step.quiet g v b0
  have Hc : Hid _ := cut_arg _ n _ _ _ _ _ _ _ _ (orz_some _ _) hD (by omega)
  have HD : Hid _ := hD
  clear hD b0 h hsz
  rw [opc] at *
  simp only at c0 c1 c2 c3 c4
  go_enter Try.func14, Try.ntmps14
  go_wp2_with fail
  refine Calls.mono Hc.out ?_
  rintro e w2 ⟨rfl, hw⟩
  obtain rfl := hw
  clear c0 c1 c2 c3 c4
  go_wp2
  go_ret
  exact ⟨rfl, _, HD.out, HS.out⟩

set_option maxHeartbeats 2000000 in
theorem does_0 (k : Int) (h : Dsk w base g v l f r) (h1 : k ≠ 1) (h2 : k ≠ 2) (h3 : k ≠ 3) (h4 : k ≠ 4) (h5 : k ≠ 5) : Calls Try.prog 14 #[.pointer (some ⟨g, 0, none⟩), .agg (opc ⟨k, n, a, t, b⟩)] w fun e w' => e = .returned (.int .i64 0) ∧ ∃ v', Dsk w' base g v' l f r ∧ Step g v v' w w' := by
  have c0 := call_cells w ⟨k, n, a, t, b⟩ 0 _ rfl
  have b0 := (Below.refl _ w).alloc (Nat.le_refl _) (.cells (opc ⟨k, n, a, t, b⟩) 33)
  have HD : Hid _ := h.below b0 (Nat.le_refl _)
  have HS : Hid _ := Step.quiet g v b0
  clear b0 h
  rw [opc] at *
  simp only at c0
  go_enter Try.func14, Try.ntmps14
  go_wp2
  go_ret
  exact ⟨rfl, _, HD.out, HS.out⟩
end

theorem does_any (o : Cl) (base g : Nat) (v : Value) (l : List UInt8) (f r : Nat) (w : World) (h : Dsk w base g v l f r) (hf : f ≤ l.length) (hb : o.b.size ≤ 70000) (hbase : base ≤ w.heap.size) :
    Calls Try.prog 14 #[.pointer (some ⟨g, 0, none⟩), .agg (opc o)] w fun e w' => e = .returned (.int .i64 (stE o l r)) ∧ ∃ v', Dsk w' base g v' (stL o l f r) (stF o l f r) r ∧ Step g v v' w w' := by
  obtain ⟨k, n, a, t, b⟩ := o
  simp only at hb
  unfold stE stL stF
  simp only
  by_cases h1 : k = 1
  · subst h1
    by_cases hfit : l.length + b.size ≤ r
    · simpa [hfit] using does_1ok n a t b base g v l f r w h hbase hb hfit
    · simpa [hfit] using does_1no n a t b base g v l f r w h hb (by omega)
  by_cases h2 : k = 2
  · subst h2
    simpa using does_2 n a t b base g v l f r w h
  by_cases h3 : k = 3
  · subst h3
    by_cases hfit : b.size ≤ r
    · simpa [hfit] using does_3ok n a t b base g v l f r w h hbase hb hfit
    · simpa [hfit] using does_3no n a t b base g v l f r w h hb (by omega)
  by_cases h4 : k = 4
  · subst h4
    by_cases hx : 0 ≤ n ∧ n ≤ (l.length : Int)
    · simpa [hx] using does_4ok n a t b base g v l f r w h hx
    · simpa [hx] using does_4no n a t b base g v l f r w h hx
  by_cases h5 : k = 5
  · subst h5
    simpa using does_5 n a t b base g v l f r w h hf
  · simpa [h1, h2, h3, h4, h5] using does_0 n a t b base g v l f r w k h h1 h2 h3 h4 h5
end Go.Proofs.Ytcopjgincdbliaa
