/-
  What Crash comes to.
-/
import Derived.Test.YthdhnilfkpbmpaaDcr
import Derived.Deep.RegionWith
import Derived.Deep.RegionHeld3
namespace Go.Proofs.Ythdhnilfkpbmpaa
set_option maxRecDepth 100000

open Go.RowKit

set_option maxHeartbeats 2000000 in
theorem crash_few (p : Option Addr) (x at0 t : Int) (base g : Nat) (v : Value) (l : List UInt8) (f r : Nat) (w w1 : World) (hz : Orz w p g w1) (h : Dsk w1 base g v l f r) (hf : f ≤ l.length) (hk : Dk.kept l f x < 2) :
    Calls Try.prog 17 #[.pointer p, .int .i64 x, .int .i64 at0, .int .i64 t] w fun e w' => e = .returned (.tuple #[]) ∧ ∃ v', Dsk w' base g v' (Dk.crash l f x at0 t) (Dk.crash l f x at0 t).length r ∧ Step g v v' w1 w' := by
  have hc0 := h.c0
  have hc1 := h.c1
  have hf0 := h.fz 0
  have hl := h.len
  have ht := h.top
  have hkl := Dk.kept_le l f x
  obtain ⟨a1, cap, rfl, hB, hcap⟩ := h.val
  have hroom := hB.room
  clear hB
  have hcr : Dk.crash l f x at0 t = l.take (f + Dk.kept l f x) := by
    rw [Dk.crash, Dk.left, if_neg (by omega), List.take_add]
  rw [hcr]
  clear hcr
  have hki : (Dk.kept l f x : Int) = min (max x 0) ((l.length : Int) - (f : Int)) := by unfold Dk.kept; omega
  have H : Hid _ := h
  clear h
  unfold maxLen at hcap
  generalize hn : l.length = n at *
  generalize Dk.kept l f x = k at *
  have hmin : min (max x 0) ((n : Int) - (f : Int)) = (k : Int) := by omega
  clear hki
  go_enter Try.func17, Try.ntmps17
  go_wp2_with fail
  refine Calls.mono hz ?_
  rintro e w2 ⟨rfl, rfl⟩
  go_wp2_with fail
  go_quiet (fail)

  clear hmin
  generalize max x 0 = y at *
  have hd := drawn w2 nq
  have hD := H.out.below hd (Nat.le_refl _)
  have hS : Step g (.slice a1 n cap) (.slice a1 n cap) w2 (w2.drewN nq) := Step.quiet _ _ hd
  clear H hd
  generalize w2.drewN nq = w3 at *
  have hD2 := (hD.cut hn (f + k) (by omega)).below (Below.refl _ _).drew (Nat.le_refl _)
  have d0 := hD.c0
  have d1 := hD.c1
  have d2 := hD.fz 0
  have HS : Hid _ := (hS.trans (Step.cut (k := f + k))).trans (Step.quiet _ _ (Below.refl _ _).drew)
  clear hc0 hc1 hf0 hD hS
  have hk0 : (0 : Int) ≤ (k : Int) := by omega
  go_wp2_with fail
  go_region
  go_wp2_with fail
  refine (sync_any _ _ _ _ _ _ _ _ _ (orz_some g _) hD2).mono ?_
  rintro e w4 ⟨rfl, h3, h4⟩
  clear hD2 d0 d1 d2
  go_wp2
  go_end0
  exact ⟨rfl, _, h3, HS.out.trans h4⟩

/-- Worlds that are alike but for the draws. -/
def Alike (w w' : World) : Prop := w'.heap = w.heap ∧ w'.os = w.os ∧ w'.tape = w.tape ∧ w'.output = w.output
theorem Alike.grown {w w' : World} (h : Alike w w') (row : Option Nat) : w.grownBy w' row := ⟨h.2.1, h.2.2.1, h.2.2.2, by rw [h.1]; exact Nat.le_refl _, fun k _ _ => by rw [h.1]⟩
theorem Alike.own {w w' : World} (h : Alike w w') {base : Nat} {v : Value} {n : Nat} {xs : List Value} (ho : w.ownsRow base 5 1 v n xs) : w'.ownsRow base 5 1 v n xs := by
  refine ho.kept (h.grown none) ?_
  cases v.ownBlock <;> simp
/-- The file's bytes turned, its row as it was. -/
theorem Dsk.turned {w w' : World} {base g f r G n cap : Nat} {l l' : List UInt8} (h : Dsk w base g (.slice (some ⟨G, 0, none⟩) n cap) l f r) (hg : w.grownBy w' (some G)) (ho : w'.ownsRow base 5 1 (.slice (some ⟨G, 0, none⟩) n cap) l'.length (bs l')) (hl : l'.length = l.length) : Dsk w' base g (.slice (some ⟨G, 0, none⟩) n cap) l' f r :=
  ⟨by rw [hg.block g h.lt (fun e => h.notown e.symm)]; exact h.blk, ho, h.low, by rw [hl]; exact h.len, h.top⟩
theorem slice_from (G n cap f : Nat) (h1 : f ≤ n) (h2 : f < cap) (w : World) : (Instr.sliceAt 54 (.slice (some ⟨G, 0, none⟩) n cap) (some (.int .i64 (f : Int))) none none).run Try.prog w = .ok (.slice (some ⟨G, f, none⟩) (n - f) (cap - f)) w := by
  have he : Try.prog.elem 54 = 5 := by kernel_rfl
  have hu : Try.prog.underlying 54 = some (.slice (Try.prog.elem 54)) := by rw [he]; exact Try.underlying54
  obtain ⟨i0, hi, _, hz1, _⟩ := info_parts info5
  rw [run_sliceAt_slice _ _ _ _ _ _ hu, run_slice_l _ _ _ _ _ hu .i64 f (by omega) (by omega), he]
  simp [sizeOf, typeInfo, hi, sliced, hz1, Result.andThen, show ¬ cap = f by omega, Addr.add_lit]
theorem Step.turned {w w' : World} {g G n cap : Nat} (hg : w.grownBy w' (some G)) : Step g (.slice (some ⟨G, 0, none⟩) n cap) (.slice (some ⟨G, 0, none⟩) n cap) w w' :=
  ⟨hg.os, hg.tape, hg.output, hg.size, fun k hk _ hv => hg.block k hk (fun e => hv e.symm), fun _ h => .inl h⟩

set_option maxHeartbeats 4000000 in
theorem crash_many (p : Option Addr) (x at0 t : Int) (base g : Nat) (v : Value) (l : List UInt8) (f r : Nat) (w w1 : World) (hz : Orz w p g w1) (h : Dsk w1 base g v l f r) (hf : f ≤ l.length) (hk : 2 ≤ Dk.kept l f x) :
    Calls Try.prog 17 #[.pointer p, .int .i64 x, .int .i64 at0, .int .i64 t] w fun e w' => e = .returned (.tuple #[]) ∧ ∃ v', Dsk w' base g v' (Dk.crash l f x at0 t) (Dk.crash l f x at0 t).length r ∧ Step g v v' w1 w' := by
  have hc0 := h.c0
  have hc1 := h.c1
  have hf0 := h.fz 0
  have hl := h.len
  have ht := h.top
  have hkl := Dk.kept_le l f x
  obtain ⟨a1, cap, rfl, hB, hcap⟩ := h.val
  have hroom := hB.room
  rcases h.row.2 with ⟨-, h0⟩ | ⟨G, cap', cur, hv, -, -, -⟩
  · omega
  simp only [Value.slice.injEq, true_and] at hv
  obtain ⟨rfl, rfl⟩ := hv
  clear hB
  obtain ⟨A, hA⟩ : ∃ A : Nat, at0 % ((8 * Dk.kept l f x - 15 : Nat) : Int) = (A : Int) := ⟨_, (Int.toNat_of_nonneg (Int.emod_nonneg _ (by omega))).symm⟩
  obtain ⟨T, hT⟩ : ∃ T : Nat, t % ((65536 : Nat) : Int) = (T : Int) := ⟨_, (Int.toNat_of_nonneg (Int.emod_nonneg _ (by omega))).symm⟩
  have hA2 : A < 8 * Dk.kept l f x - 15 := by
    have := Int.emod_lt_of_pos at0 (show (0 : Int) < ((8 * Dk.kept l f x - 15 : Nat) : Int) by omega)
    omega
  have hcr : Dk.crash l f x at0 t = Dk.turn (l.take (f + Dk.kept l f x)) (8 * f + A) T 16 := by
    rw [Dk.crash, Dk.left, if_pos hk, List.take_add, show (8 * (Dk.kept l f x : Int) - 15) = ((8 * Dk.kept l f x - 15 : Nat) : Int) by omega, hA, show (t % 65536).toNat = T by
      have : t % 65536 = (T : Int) := hT
      omega, Int.toNat_natCast]
    have := Dk.turn_app (l.take f) ((l.drop f).take (Dk.kept l f x)) A T 16
    rw [List.length_take, Nat.min_eq_left hf] at this
    rw [this]
  rw [hcr]
  clear hcr
  have hki : (Dk.kept l f x : Int) = min (max x 0) ((l.length : Int) - (f : Int)) := by unfold Dk.kept; omega
  have H : Hid _ := h
  clear h
  unfold maxLen at hcap
  generalize hn : l.length = n at *
  generalize Dk.kept l f x = k at *
  have hx : ¬ x < 0 := by omega
  have hmin : min (max x 0) ((n : Int) - (f : Int)) = (k : Int) := by omega
  clear hki
  have HR1 : Hid (∀ W, Calls Try.prog 32 #[.int .i64 at0, .int .i64 (8 * (k : Int) - 16 + 1)] W fun e w' => e = .returned (.int .i64 (A : Int)) ∧ w' = W) := fun W => by
    have := remainder_any at0 (8 * k - 15) (by omega) (by omega) W
    rw [hA] at this
    rwa [show 8 * (k : Int) - 16 + 1 = ((8 * k - 15 : Nat) : Int) by omega]
  have HR2 : Hid (∀ W, Calls Try.prog 32 #[.int .i64 t, .int .i64 65536] W fun e w' => e = .returned (.int .i64 (T : Int)) ∧ w' = W) := fun W => by
    have := remainder_any t 65536 (by omega) (by omega) W
    rw [hT] at this
    exact this
  clear hA hT
  go_enter Try.func17, Try.ntmps17
  go_wp2_with fail
  refine Calls.mono hz ?_
  rintro e w2 ⟨rfl, rfl⟩
  go_wp2_with fail
  go_quiet (fail)
  clear hmin hx
  have hd := drawn w2 nq
  have hD := H.out.below hd (Nat.le_refl _)
  have hS : Step g (.slice (some ⟨G, 0, none⟩) n cap) (.slice (some ⟨G, 0, none⟩) n cap) w2 (w2.drewN nq) := Step.quiet _ _ hd
  clear H hd
  generalize w2.drewN nq = w3 at *
  have hD2 := (hD.cut hn (f + k) (by omega)).below (Below.refl _ _).drew (Nat.le_refl _)
  have d0 := hD.c0
  have d1 := hD.c1
  have d2 := hD.fz 0
  have HS : Hid _ := (hS.trans (Step.cut (k := f + k))).trans (Step.quiet _ _ (Below.refl _ _).drew)
  clear hc0 hc1 hf0 hD hS
  have hk0 : (0 : Int) ≤ (k : Int) := by omega
  have hk2 : (2 : Int) ≤ (k : Int) := by omega
  go_wp2_with fail
  go_region
  clear d0 d1 d2
  generalize (w3.setCell { block := g, off := 0 } (Value.slice (some { block := G, off := 0 }) (f + k) cap)).drew = W at *
  have d0 := hD2.c0
  have d1 := hD2.c1
  have hlk : (l.take (f + k)).length = f + k := by rw [List.length_take]; omega
  have HT : Hid (∀ W', Alike W W' → Calls Try.prog 31 #[.slice (some ⟨G, f, none⟩) k (cap - f), .int .i64 (A : Int), .int .i64 (T : Int)] W' fun e w' => e = .returned (.tuple #[]) ∧ w'.ownsRow base 5 1 (.slice (some ⟨G, 0, none⟩) (f + k) cap) (f + k) (bs (Dk.turn (l.take (f + k)) (8 * f + A) T 16)) ∧ W.grownBy w' (some G)) := by
    intro W' hW'
    have hr := hD2.row
    rw [hlk] at hr
    refine (turnbits_any base G (f + k) cap f k (cap - f) A T (l.take (f + k)) W' (hW'.own hr) rfl (by omega) (by omega)).mono ?_
    rintro e w' ⟨he, h1, h2⟩
    exact ⟨he, h1, grown_trans (hW'.grown _) h2⟩
  have hsl := fun w : World => slice_from G (f + k) cap f (by omega) (by omega) w
  rw [show f + k - f = k by omega] at hsl
  have hw1 : IntKind.i64.wrap (8 * (k : Int)) = 8 * (k : Int) := by rw [IntKind.wrap_i64]; omega
  have hw2 : IntKind.i64.wrap (8 * (k : Int) - 16) = 8 * (k : Int) - 16 := by rw [IntKind.wrap_i64]; omega
  have hw3 : IntKind.i64.wrap (8 * (k : Int) - 16 + 1) = 8 * (k : Int) - 16 + 1 := by rw [IntKind.wrap_i64]; omega
  have hgG : some g ≠ some G := fun e => hD2.notown e.symm
  have e0 : ∀ w', W.grownBy w' (some G) → w'.cell? ⟨g, 0, none⟩ = some (.slice (some ⟨G, 0, none⟩) (f + k) cap) := fun w' h => h.cell d0 hgG
  have e1 : ∀ w', W.grownBy w' (some G) → w'.cell? ⟨g, 1, none⟩ = some (.int .i64 (f : Int)) := fun w' h => h.cell d1 hgG
  go_wp2_with fail
  go_region_held3 (fun w' => w'.cell? ⟨g, 0, none⟩ = some (.slice (some ⟨G, 0, none⟩) (f + k) cap) ∧ w'.cell? ⟨g, 1, none⟩ = some (.int .i64 (f : Int)))
    (first | exact ⟨e0 _ g6, e1 _ g6⟩ | exact ⟨d0, d1⟩ | assumption)
    (first
    | (go_at_call_of 32 (Value.int IntKind.i64 at0); refine Calls.mono (HR1.out _) ?_; rintro e wx ⟨rfl, rfl⟩)
    | (go_at_call_of 32 (Value.int IntKind.i64 t); refine Calls.mono (HR2.out _) ?_; rintro e wx ⟨rfl, rfl⟩)
    | (go_at_call 31; refine Calls.mono (HT.out _ ?_) ?_; exact ⟨rfl, rfl, rfl, rfl⟩; rintro e w6 ⟨rfl, h6, g6⟩))
  all_goals
    have htl := Dk.turn_length (l.take (f + k)) (8 * f + A) T 16
    have hD3 := hD2.turned g6 (by rw [htl, hlk]; exact h6) htl
    clear hsl hw1 hw2 hw3 e0 e1 HT HR1 HR2 d0 d1
    go_wp2_with fail
    refine (sync_any _ _ _ _ _ _ _ _ _ (orz_some g _) hD3).mono ?_
    rintro e w7 ⟨rfl, h3, h4⟩
    go_wp2
    go_end0
    exact ⟨rfl, _, h3, (HS.out.trans (Step.turned g6)).trans h4⟩

theorem crash_any (p : Option Addr) (x at0 t : Int) (base g : Nat) (v : Value) (l : List UInt8) (f r : Nat) (w w1 : World) (hz : Orz w p g w1) (h : Dsk w1 base g v l f r) (hf : f ≤ l.length) :
    Calls Try.prog 17 #[.pointer p, .int .i64 x, .int .i64 at0, .int .i64 t] w fun e w' => e = .returned (.tuple #[]) ∧ ∃ v', Dsk w' base g v' (Dk.crash l f x at0 t) (Dk.crash l f x at0 t).length r ∧ Step g v v' w1 w' := by
  by_cases hk : 2 ≤ Dk.kept l f x
  · exact crash_many p x at0 t base g v l f r w w1 hz h hf hk
  · exact crash_few p x at0 t base g v l f r w w1 hz h hf (by omega)
end Go.Proofs.Ythdhnilfkpbmpaa
