/-
  A bag of numbers beside a bag of texts: under the same dots, each text as long as the number says.
-/
import Derived.Test.YteihijejohgfpaaBop
namespace Go.Proofs.Yteihijejohgfpaa
set_option maxRecDepth 100000
open Go.RowKit

/-- A text of that many zero bytes. -/
def txt (n : Int) : ByteArray := ⟨(List.replicate n.toNat (0 : UInt8)).toArray⟩
theorem txt_size (n : Int) : (txt n).size = n.toNat := by simp [txt, ByteArray.size]
def tx (i : It Int) : It ByteArray := ⟨i.r, i.n, txt i.x⟩
theorem bef_tx (a b : It Int) : bef (tx a) (tx b) = bef a b := rfl
theorem isAt_tx (r n : Int) (i : It Int) : isAt r n (tx i) = isAt r n i := rfl
theorem put_tx (S : List (It Int)) (d : It Int) : put (S.map tx) (tx d) = (put S d).map tx := by
  unfold put
  rw [List.filter_map, List.filter_map, List.map_append, List.map_cons]; rfl
theorem del_tx (S : List (It Int)) (r n : Int) : del (S.map tx) r n = (del S r n).map tx := by
  unfold del
  rw [List.filter_map]; rfl
theorem hasD_tx (S : List (It Int)) (r n : Int) : hasD (S.map tx) r n = hasD S r n := by
  unfold hasD
  rw [List.any_map]; rfl
theorem gone_tx (v : List Int) (L : List (It Int)) : ((L.map tx).filter (S.gone v (fun _ => true))).length = (L.filter (gone v all)).length ∧ ((L.map tx).filter fun i => !S.gone v (fun _ => true) i) = (L.filter fun i => !gone v all i).map tx := by
  constructor
  · rw [List.filter_map, List.length_map]; rfl
  · rw [List.filter_map]; rfl
theorem mem_put_le {S : List (It Int)} {d i : It Int} (h : i ∈ put S d) : i = d ∨ i ∈ S := by
  rcases mem_put.1 h with h | h
  · exact .inl h
  · exact .inr h.1

theorem turnS {g : Nat} {m m' : Option Nat} {w w' : World} (t : S.Turn g m m' w w') : Turn g m m' w w' := ⟨t.os, t.tape, t.output, t.size, t.block, t.own⟩
theorem turnI {g : Nat} {m m' : Option Nat} {w w' : World} (t : Turn g m m' w w') : S.Turn g m m' w w' := ⟨t.os, t.tape, t.output, t.size, t.block, t.own⟩
/-- Two bags of the call's own that share nothing. -/
structure Mix (B : Nat) (w : World) (g : Nat) (m : Option Nat) (L : List (It Int)) (g2 : Nat) (m2 : Option Nat) (L2 : List (It ByteArray)) : Prop where
  a : Obg B w g m L
  b : S.Obg B w g2 m2 L2
  ne : g ≠ g2
  ap : ∀ k, m = some k → m2 ≠ some k
  c : m2 ≠ some g
  d : m ≠ some g2
theorem Mix.left {B : Nat} {w w' : World} {g g2 : Nat} {m m' m2 : Option Nat} {L L' : List (It Int)} {L2 : List (It ByteArray)} (h : Mix B w g m L g2 m2 L2) (hB : B ≤ w.heap.size) (h' : Bg w' g m' L') (t : Turn g m m' w w') : Mix B w' g m' L' g2 m2 L2 ∧ Below B w w' := by
  obtain ⟨h1, h2⟩ := h.a.turn hB h' t
  refine ⟨⟨h1, ⟨h.b.bg.turn (turnI t) h.ne.symm h.d h.c (fun k hk e => h.ap k e hk), h.b.low, h.b.own⟩, h.ne, fun k hk e => ?_, h.c, fun e => ?_⟩, h2⟩
  · rcases t.own k hk with h3 | h3
    · exact h.ap k h3 e
    · have := (h.b.bg.own k e).1; omega
  · rcases t.own _ e with h3 | h3
    · exact h.d h3
    · have := h.b.bg.lt; omega
theorem Mix.right {B : Nat} {w w' : World} {g g2 : Nat} {m m2 m2' : Option Nat} {L : List (It Int)} {L2 L2' : List (It ByteArray)} (h : Mix B w g m L g2 m2 L2) (hB : B ≤ w.heap.size) (h' : S.Bg w' g2 m2' L2') (t : S.Turn g2 m2 m2' w w') : Mix B w' g m L g2 m2' L2' ∧ Below B w w' := by
  obtain ⟨h1, h2⟩ := h.b.turn hB h' t
  refine ⟨⟨⟨h.a.bg.turn (turnS t) h.ne h.c h.d (fun k hk e => h.ap k hk e), h.a.low, h.a.own⟩, h1, h.ne, fun k hk e => ?_, fun e => ?_, h.d⟩, h2⟩
  · rcases t.own k e with h3 | h3
    · exact h.ap k hk h3
    · have := (h.a.bg.own k hk).1; omega
  · rcases t.own _ e with h3 | h3
    · exact h.c h3
    · have := h.a.bg.lt; omega
theorem Mix.below {B C : Nat} {w w' : World} {g g2 : Nat} {m m2 : Option Nat} {L : List (It Int)} {L2 : List (It ByteArray)} (h : Mix B w g m L g2 m2 L2) (hb : Below C w w') (hC : w.heap.size ≤ C) : Mix B w' g m L g2 m2 L2 :=
  ⟨h.a.below hb hC, h.b.below hb hC, h.ne, h.ap, h.c, h.d⟩
theorem Mix.drew {B : Nat} {w : World} {g g2 : Nat} {m m2 : Option Nat} {L : List (It Int)} {L2 : List (It ByteArray)} (h : Mix B w g m L g2 m2 L2) : Mix B w.drew g m L g2 m2 L2 := ⟨h.a.drew, h.b.drew, h.ne, h.ap, h.c, h.d⟩
theorem mix_new (w : World) : Mix w.heap.size ((w.alloc (.cells #[.map none] 32)).alloc (.cells #[.map none] 79)) w.heap.size none [] (w.heap.size + 1) none [] := by
  have h1 := obg_new w w.heap.size (Nat.le_refl _)
  have h2 := S.obg_new (w.alloc (.cells #[.map none] 32)) w.heap.size (by simp)
  rw [World.size_alloc] at h2
  exact ⟨h1.below ((Below.refl _ _).alloc (Nat.le_refl _) _) (Nat.le_refl _), h2, by omega, by simp, by simp, by simp⟩

/-- The number's lowest six bits. -/
theorem and63 (x : Int) : 0 ≤ bits .and .i64 x 63 ∧ bits .and .i64 x 63 ≤ 63 := by
  have h : (BitVec.ofInt 64 x &&& BitVec.ofInt 64 63).toNat ≤ 63 := by
    rw [BitVec.toNat_and]
    exact Nat.le_trans Nat.and_le_right (by decide)
  unfold bits
  simp only [IntKind.wrap_i64]
  have e : (BitVec.ofInt IntKind.i64.bits x &&& BitVec.ofInt IntKind.i64.bits 63).toNat = (BitVec.ofInt 64 x &&& BitVec.ofInt 64 63).toNat := rfl
  rw [e]
  omega
/-- A text made of fresh bytes. -/
theorem run_make0 (w : World) (n : Nat) (hn : n ≤ 63) : (Instr.makeSlice 54 (.int .i64 (n : Int)) (.int .i64 (n : Int))).run Try.prog w = .ok (.slice (some ⟨w.heap.size, 0, none⟩) n n) (w.alloc (.cells (Array.replicate n (.int .u8 0)) 5)) := by
  obtain ⟨i, hi, hz, hs, hb⟩ : ∃ i, Try.prog.info? 5 = some i ∧ i.zero = some (.int .u8 0) ∧ i.size = 1 ∧ i.bytes = 1 := by
    cases h : Try.prog.info? 5 with
    | none => exact absurd h (by decide +kernel)
    | some i =>
      have h2 : (Try.prog.info? 5).map (fun i => (i.zero, i.size, i.bytes)) = some (some (.int .u8 0), 1, 1) := by kernel_rfl
      rw [h] at h2
      simp only [Option.map_some, Option.some.injEq, Prod.mk.injEq] at h2
      exact ⟨i, rfl, h2.1, h2.2.1, h2.2.2⟩
  have h := run_makeSlice (P := Try.prog) w 54 5 i _ Try.underlying54 hi hz .i64 .i64 (n : Int) (n : Int) (by omega) (by omega) (by rw [hs]; simp; omega) (by rw [hb]; omega) (by omega)
  rw [h, hs, Int.toNat_natCast, Nat.mul_one]
  congr 3
  simp only [madeCells, Value.cells]
  apply Array.ext
  · simp
  · intro j h1 h2
    simp [Nat.mod_one]
theorem run_conv0 (w : World) (g n : Nat) (h : w.heap[g]? = some (.cells (Array.replicate n (.int .u8 0)) 5 (0, 0))) : (convert 54 9 (.slice (some ⟨g, 0, none⟩) n n)).run Try.prog w = .ok (.string (txt (n : Int))) w := by
  have h2 := run_convert_bytes_back (P := Try.prog) w 54 9 5 ⟨g, 0, none⟩ n (List.replicate n 0) Try.underlying54 Try.underlying5 Try.underlying9 (fun j hj => by
    rw [Addr.add_mid, Nat.zero_add, cell_of_row w g j _ _ _ h]
    simp at hj
    simp [hj])
  rw [List.length_replicate] at h2
  rw [h2]
  simp [txt]
end Go.Proofs.Yteihijejohgfpaa
