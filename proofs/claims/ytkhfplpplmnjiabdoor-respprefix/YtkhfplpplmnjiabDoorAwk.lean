/-
  What resp.New, and the statements' awake and few come to.
-/
import Derived.Test.YtkhfplpplmnjiabDoorFee
import Derived.Test.YtkhfplpplmnjiabDoorSam
import Derived.Test.YtkhfplpplmnjiabDoorRec
import Derived.Lib.SlBytesConst
namespace Go.Proofs.YtkhfplpplmnjiabDoor
set_option maxRecDepth 100000
open Go.RowKit Go.Sort

theorem new_any (w : World) : Calls Tryd.prog 6 #[] w fun e w' => e = .returned (.pointer (some ⟨w.heap.size, 0, none⟩)) ∧ Pz w' w.heap.size (tx []) 0 ∧ Below w.heap.size w w' ∧ w'.heap.size = w.heap.size + 1 := by
  go_enter Tryd.func6, Tryd.ntmps6
  go_wp2
  go_ret
  exact ⟨rfl, pz_new w, (Below.refl _ _).alloc (Nat.le_refl _) _, by simp⟩

def lit : List UInt8 := [42, 50, 13, 10, 36, 51, 13, 10, 71, 69, 84, 13, 10, 36, 49, 13, 10, 107, 13, 10]
theorem parse_lit : Rs.parse lit = ([[[71, 69, 84], [107]]], 20, 2) := by decide +kernel
theorem fd_lit : fdL [] 0 lit = [[[71, 69, 84], [107]]] ∧ fdF [] 0 lit = 0 := by
  have h := parse_lit
  constructor
  · rw [fdL, if_neg (by decide), List.nil_append, h]
  · rw [fdF, if_neg (by decide), List.nil_append, h]; rfl
theorem enc_lit : enc 3 [] (-3) [] = [58, 45, 51, 13, 10] := by
  have : Lib.itoa (-3) = [45, 51] := by
    unfold Lib.itoa
    rw [if_pos (by decide), show (-3 : Int).natAbs = 3 by decide, Lib.decDigits_one (by decide)]
    rfl
  rw [enc, if_neg (by decide), if_neg (by decide), if_pos rfl, this]; rfl

set_option maxHeartbeats 2000000 in
theorem awake_any (w : World) (ht : Tab w) : Calls Tryd.prog 4 #[] w fun e w' => e = .returned (.bool true) ∧ Below w.heap.size w w' := by
  go_enter Tryd.func4, Tryd.ntmps4
  go_wp2_with fail
  refine Calls.mono (new_any w) ?_
  rintro e w1 ⟨rfl, hP, hb1, -⟩
  have hlt := hP.lt
  have hcc := Lib.run_convert_bytes_const (P := Tryd.prog) w1 25 5 #[.int .u8 42, .int .u8 50, .int .u8 13, .int .u8 10, .int .u8 36, .int .u8 51, .int .u8 13, .int .u8 10, .int .u8 71, .int .u8 69, .int .u8 84, .int .u8 13, .int .u8 10, .int .u8 36, .int .u8 49, .int .u8 13, .int .u8 10, .int .u8 107, .int .u8 13, .int .u8 10] 20 20 Tryd.underlying25 Tryd.underlying5
  obtain ⟨W1, hW1⟩ : ∃ W1, W1 = w1.alloc (Obj.cells #[.int .u8 42, .int .u8 50, .int .u8 13, .int .u8 10, .int .u8 36, .int .u8 51, .int .u8 13, .int .u8 10, .int .u8 71, .int .u8 69, .int .u8 84, .int .u8 13, .int .u8 10, .int .u8 36, .int .u8 49, .int .u8 13, .int .u8 10, .int .u8 107, .int .u8 13, .int .u8 10] 5 (20, 21)) := ⟨_, rfl⟩
  rw [show (w1.alloc (.cells #[.int .u8 42, .int .u8 50, .int .u8 13, .int .u8 10, .int .u8 36, .int .u8 51, .int .u8 13, .int .u8 10, .int .u8 71, .int .u8 69, .int .u8 84, .int .u8 13, .int .u8 10, .int .u8 36, .int .u8 49, .int .u8 13, .int .u8 10, .int .u8 107, .int .u8 13, .int .u8 10] 5 ((#[.int .u8 42, .int .u8 50, .int .u8 13, .int .u8 10, .int .u8 36, .int .u8 51, .int .u8 13, .int .u8 10, .int .u8 71, .int .u8 69, .int .u8 84, .int .u8 13, .int .u8 10, .int .u8 36, .int .u8 49, .int .u8 13, .int .u8 10, .int .u8 107, .int .u8 13, .int .u8 10] : Array Value).size, (#[.int .u8 42, .int .u8 50, .int .u8 13, .int .u8 10, .int .u8 36, .int .u8 51, .int .u8 13, .int .u8 10, .int .u8 71, .int .u8 69, .int .u8 84, .int .u8 13, .int .u8 10, .int .u8 36, .int .u8 49, .int .u8 13, .int .u8 10, .int .u8 107, .int .u8 13, .int .u8 10] : Array Value).size + 1))) = W1 from hW1.symm] at hcc
  have hb2 : Below w1.heap.size w1 W1 := by rw [hW1]; exact (Below.refl _ _).alloc (Nat.le_refl _) _
  have hB : Bytes W1 (some ⟨w1.heap.size, 0, none⟩) 20 20 lit := by
    refine ⟨rfl, Nat.le_refl _, (fun h => by cases h), fun ad had j u hu => ?_⟩
    obtain rfl := Option.some.inj had
    rw [hW1, Addr.add_lit, Nat.zero_add, World.cell?_alloc_mark, ← hu, ← Array.getElem?_toList]
    rfl
  have hP1 := hP.below hb2
  have C := feed_good w.heap.size [] (some ⟨w1.heap.size, 0, none⟩) 20 20 lit W1 hP1 hB (by decide)
  rw [fd_lit.1, fd_lit.2] at C
  have C : Hid _ := C
  have h12 := hb1.trans (hb2.mono hb1.size)
  clear hW1 hB hP1 hP hb2
  go_wp2_with fail
  refine Calls.mono C.out ?_
  rintro e W2 ⟨v, rfl, hcm, -, hgr⟩
  have h2 : Below w.heap.size w W2 := h12.grown hgr h12.size (fun k hk => by cases hk; exact Nat.le_refl _)
  have hcm : Cmds W2 W1.heap.size v [[tx [71, 69, 84], tx [107]]] := hcm
  obtain ⟨ao, c, rfl, -, -, hcs⟩ := hcm.css
  obtain ⟨W3, hW3⟩ : ∃ W3, W3 = (W2.alloc (.cells #[.string ⟨#[71, 69, 84]⟩, .string ⟨#[107]⟩] 9)).alloc (.cells #[.slice (some ⟨W2.heap.size, 0, none⟩) 2 2] 22) := ⟨_, rfl⟩
  have h3 : Below W2.heap.size W2 W3 := by rw [hW3]; exact ((Below.refl _ _).alloc (Nat.le_refl _) _).alloc (by simp) _
  have hx : Css W3 (some ⟨W2.heap.size + 1, 0, none⟩) [[tx [71, 69, 84], tx [107]]] := by
    refine ⟨(fun h => by cases h), fun ad had j S hj => ?_⟩
    obtain rfl := Option.some.inj had
    have hj0 : j = 0 := by have := (List.getElem?_eq_some_iff.1 hj).1; simpa using this
    subst hj0
    obtain rfl := Option.some.inj hj
    refine ⟨some ⟨W2.heap.size, 0, none⟩, 2, ?_, (fun h => by cases h), fun ad' had' j' s hs => ?_⟩
    · rw [hW3, Addr.add_lit]
      have := World.cell?_alloc_mark (W2.alloc (.cells #[.string ⟨#[71, 69, 84]⟩, .string ⟨#[107]⟩] 9)) #[.slice (some ⟨W2.heap.size, 0, none⟩) 2 2] 22 (0, 0) 0
      have e : (W2.alloc (.cells #[.string ⟨#[71, 69, 84]⟩, .string ⟨#[107]⟩] 9)).heap.size = W2.heap.size + 1 := by simp
      rw [e] at this
      exact this
    · obtain rfl := Option.some.inj had'
      have hb : Below (W2.alloc (.cells #[.string ⟨#[71, 69, 84]⟩, .string ⟨#[107]⟩] 9)).heap.size (W2.alloc (.cells #[.string ⟨#[71, 69, 84]⟩, .string ⟨#[107]⟩] 9)) W3 := by rw [hW3]; exact (Below.refl _ _).alloc (Nat.le_refl _) _
      rw [Addr.add_lit, Nat.zero_add, hb.cell (by simp), World.cell?_alloc_mark]
      match j', hs with
      | 0, hs => cases hs; rfl
      | 1, hs => cases hs; rfl
  have CS := same_any ao c [[tx [71, 69, 84], tx [107]]] (some ⟨W2.heap.size + 1, 0, none⟩) 1 [[tx [71, 69, 84], tx [107]]] W3 (hcs.below h3 (Nat.le_refl _)) hx (by decide) (by decide) (by simp) (by simp)
  rw [decide_eq_true rfl] at CS
  have h23 := h2.trans (h3.mono h2.size)
  have ht3 := ht.below h23
  subst hW3
  have CS : Hid _ := CS
  clear hcs hx hcm hgr h12 h2 h3
  go_wp2_with fail
  refine Calls.mono CS.out ?_
  rintro e W4 ⟨rfl, h4⟩
  have h24 := h23.trans (h4.mono h23.size)
  have CE : Hid (Calls Tryd.prog 9 #[.agg #[.int .i64 3, .string ⟨#[]⟩, .int .i64 (-3), .slice none 0 0]] W4 _) := encode_any 3 ⟨#[]⟩ (-3) none 0 0 [] W4 (by decide) (by decide) (by decide) ⟨rfl, Nat.le_refl _, fun _ => ⟨rfl, rfl⟩, (fun _ h => by cases h), (fun _ h => by cases h)⟩ ⟨by decide, (fun _ h => by cases h)⟩ (ht.below h24)
  clear h4 h23 ht3
  go_wp2_with fail
  refine Calls.mono CE.out ?_
  rintro e W5 ⟨v5, rfl, hM, h5⟩
  have h25 := h24.trans (h5.mono h24.size)
  have hel : enc 3 (⟨#[]⟩ : ByteArray).data.toList (-3) (dl []) = [58, 45, 51, 13, 10] := enc_lit
  rw [hel] at hM
  obtain ⟨ao5, c5, rfl, hB5, -⟩ := hM.bytes
  have hcv : (convert 25 9 (.slice ao5 5 c5)).run Tryd.prog W5 = .ok (.string ⟨#[58, 45, 51, 13, 10]⟩) W5 := conv_tx hB5
  have h5l : ([58, 45, 51, 13, 10] : List UInt8).length = 5 := rfl
  rw [h5l]
  clear hB5 hM hel h5 h24
  go_wp2
  go_ret
  exact ⟨rfl, h25⟩
end Go.Proofs.YtkhfplpplmnjiabDoor
