/-
  RespBack: commands' bytes, one behind the other, are just these commands. For every input.
-/
import Derived.Test.YtkhfplpplmnjiabDoorFdp
import Derived.Test.YtkhfplpplmnjiabDoorOpx
namespace Go.Proofs.YtkhfplpplmnjiabDoor
set_option maxRecDepth 100000
open Go.RowKit Go.Sort

def dL (L : List (List ByteArray)) : List (List (List UInt8)) := L.map dl
theorem cm_dL (L : List (List ByteArray)) : cm (dL L) = L := by
  have h : ∀ S : List ByteArray, (dl S).map tx = S := fun S => by
    rw [dl, List.map_map]
    conv => rhs; rw [← List.map_id S]
    apply List.map_congr_left
    intro s _
    exact tx_data s
  rw [cm, dL, List.map_map]
  conv => rhs; rw [← List.map_id L]
  apply List.map_congr_left
  intro S _
  exact h S
def Okt (S : List ByteArray) : Prop := 1 ≤ S.length ∧ S.length ≤ 8 ∧ ∀ s ∈ S, s.size ≤ 64
theorem okt_c {S : List ByteArray} (h : Okt S) : Rs.Okc (dl S) := ⟨by rw [dl_length]; exact h.1, by rw [dl_length]; exact h.2.1, fun s hs => by
  obtain ⟨x, hx, rfl⟩ := List.mem_map.1 hs
  rw [lsize]; exact h.2.2 x hx⟩
theorem okt_few {S : List ByteArray} (h : Okt S) : few3 S := ⟨by have := h.2.1; omega, fun s hs => by have := h.2.2 s hs; omega⟩
theorem many_len {S : List ByteArray} (h : Okt S) : (Rs.many (dl S)).length ≤ 1000 := by
  have h1 := h.2.1
  have h2 : ∀ T : List ByteArray, (∀ s ∈ T, s.size ≤ 64) → ((dl T).flatMap Rs.bulk).length ≤ 90 * T.length := by
    intro T
    induction T with
    | nil => intro _; simp [dl]
    | cons s T ih =>
      intro hs
      have a := ih (fun x hx => hs x (by simp [hx]))
      have b := bulk_len s.data.toList (by rw [lsize]; have := hs s (by simp); omega)
      rw [lsize] at b
      have c := hs s (by simp)
      rw [dl, List.map_cons, List.flatMap_cons, List.length_append, List.length_cons]
      rw [dl] at a
      omega
  have h3 := h2 S h.2.2
  have h4 := Lib.itoa_length_le ((dl S).length : Int) (by omega) (by rw [dl_length]; omega)
  rw [Rs.many, List.length_append, Rs.ln_len]
  simp only [List.length_cons, List.length_nil]
  omega
theorem take_many (L : List (List ByteArray)) (k : Nat) (hk : k < L.length) : (dL (L.take (k + 1))).flatMap Rs.many = (dL (L.take k)).flatMap Rs.many ++ Rs.many (dl (L.getD k [])) := by
  rw [List.take_succ_eq_append_getElem hk, dL, List.map_append, List.flatMap_append]
  simp [dL, List.getD, hk]

end Go.Proofs.YtkhfplpplmnjiabDoor
