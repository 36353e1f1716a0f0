/-
  What Atoi comes to, of any text; the library's variables that it reads.
-/
import Derived.Test.YtmlfekbmbnfkjabGreatDoorQ32
import Derived.Test.YtmlfekbmbnfkjabGreatDoorQ18
namespace Go.Proofs.YtmlfekbmbnfkjabGreatDoor
set_option maxRecDepth 100000
open Go.Shelf Go.RowKit

theorem var_below {nm : String} {cs : Array Value} {w w' : World} (h : w.var? Tryz.prog nm = some cs) (hb : Below w.heap.size w w') : w'.var? Tryz.prog nm = some cs := by
  unfold World.var? at h ⊢
  cases hg : Tryz.prog.globalNamed nm with
  | none => rw [hg] at h; cases h
  | some g =>
    rw [hg, Option.bind_some] at h
    rw [Option.bind_some, hb.block g ?_]
    · exact h
    · rcases Nat.lt_or_ge g w.heap.size with h1 | h1
      · exact h1
      · rw [Array.getElem?_eq_none h1] at h; cases h
/-- The library's variables that a walk may read. -/
structure Tb (w : World) : Prop where
  tab : Tab w
  syn : ∃ tp p, w.var? Tryz.prog "strconv.ErrSyntax" = some #[.iface tp p]
  rng : ∃ tp p, w.var? Tryz.prog "strconv.ErrRange" = some #[.iface tp p]
theorem Tb.below {w w' : World} (h : Tb w) (hb : Below w.heap.size w w') : Tb w' :=
  ⟨h.tab.below hb, by obtain ⟨tp, p, h1⟩ := h.syn; exact ⟨tp, p, var_below h1 hb⟩, by obtain ⟨tp, p, h1⟩ := h.rng; exact ⟨tp, p, var_below h1 hb⟩⟩
theorem data_sb' (l : List UInt8) : (sb l).data.toList = l := by simp [sb]
theorem size_sb' (l : List UInt8) : (sb l).size = l.length := by simp [sb, ByteArray.size]
theorem atoi_ok (l : List UInt8) (n : Int) (h : Lib.atoiAll l = .ok n) (hl : l.length ≤ 1000000) (w : World) :
    Calls Tryz.prog 86 #[.string (sb l)] w fun e w' => e = .returned (.tuple #[.int .i64 n, .nilIface]) ∧ Below w.heap.size w w' :=
  (Any.strconv_Atoi_ok atoiLaid (sb l) (by rw [size_sb']; omega) n (by rw [data_sb']; exact h) w).mono fun e w' ⟨he, hw⟩ => ⟨he, by
    rcases hw with rfl | ⟨t, rfl⟩
    · exact Below.refl _ _
    · exact Lib.bytesWorld_below _ _ _⟩
theorem atoi_bad (l : List UInt8) (h : ∀ n, Lib.atoiAll l ≠ .ok n) (hl : l.length ≤ 1000000) (w : World) (ht : Tb w) :
    Calls Tryz.prog 86 #[.string (sb l)] w fun e w' => (∃ n t N, e = .returned (.tuple #[.int .i64 n, .iface t (.pointer (some ⟨N, 0, none⟩))])) ∧ Below w.heap.size w w' := by
  cases hh : Lib.atoiAll l with
  | ok n => exact absurd hh (h n)
  | «syntax» =>
    obtain ⟨tp, p, hv⟩ := ht.syn
    exact (Any.strconv_Atoi_syntax_var atoiLaid (sb l) (by rw [size_sb']; omega) (by rw [data_sb']; exact hh) tp p w hv).mono fun e w' ⟨N, he, _, _, hb⟩ => ⟨⟨_, _, N, he⟩, hb⟩
  | range =>
    obtain ⟨tp, p, hv⟩ := ht.rng
    exact (Any.strconv_Atoi_range_var atoiLaid (sb l) (by rw [size_sb']; omega) (by rw [data_sb']; exact hh) tp p w hv).mono fun e w' ⟨N, he, _, _, hb⟩ => ⟨⟨_, _, N, he⟩, hb⟩
end Go.Proofs.YtmlfekbmbnfkjabGreatDoor

