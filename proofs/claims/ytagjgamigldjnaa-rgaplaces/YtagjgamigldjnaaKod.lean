/-
  A dot that comes in by value.
-/
import Derived.Test.YtagjgamigldjnaaOpe
namespace Go.Proofs.Ytagjgamigldjnaa
set_option maxRecDepth 100000

theorem open_dotK {H : Type} {enc : TypeId × Value → H} {w : World} {base : Nat} {spare : Nat → Bool} {held : Bool} {r : Reach} {b0 : Nat} {v : Value} {d : DataW H} {ps : List MemPlace} (hval : Value.okWide Try.prog w r b0 26 v) (hd : DataW.Trod enc Try.prog w base spare held 26 v d ps) :
    ∃ r n : Int, v = .agg (dotc r n) := by
  have c2 : Try.prog.cellsOf 26 = 2 := by kernel_rfl
  obtain ⟨cs, rfl, hsz, -⟩ : ∃ cs, v = .agg cs ∧ cs.size = Try.prog.cellsOf 26 ∧ Row.okWide Try.prog w r b0 26 cs := by
    simpa [Value.okWide, Try.underlying26] using hval
  rw [c2] at hsz
  obtain ⟨fuel, hf⟩ := hd
  obtain ⟨a, b, h0, h1⟩ := dot_in hf
  obtain ⟨l⟩ := cs
  match l, hsz with
  | [x, y], _ =>
    have e0 : x = .int .i64 a := by simpa [Value.cells] using h0
    have e1 : y = .int .i64 b := by simpa [Value.cells] using h1
    exact ⟨a, b, by rw [e0, e1]; rfl⟩
end Go.Proofs.Ytagjgamigldjnaa
