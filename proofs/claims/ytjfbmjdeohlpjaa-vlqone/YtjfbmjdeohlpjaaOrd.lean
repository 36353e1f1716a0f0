/-
  VlqOrders: of two numbers the greater one takes no fewer bytes; and if both take as many, its bytes stand behind the other one's. For every input.
-/
import Derived.Test.YtjfbmjdeohlpjaaAwk
import Derived.Test.YtjfbmjdeohlpjaaCnv
import Derived.Deep.RegionWith
namespace Go.Proofs.Ytjfbmjdeohlpjaa
open Go.RowKit

theorem txt_list (n : Nat) : (txt n).toList = Vq.num n := ByteArray.toList_mk _
theorem less_eq : ∀ (x y : List UInt8), Op.bytesLess x y = decide (x < y)
  | [], [] => by simp [Op.bytesLess]
  | [], b :: y => by simp [Op.bytesLess]
  | a :: x, [] => by simp [Op.bytesLess]
  | a :: x, b :: y => by
    rw [Op.bytesLess, less_eq x y, Bool.eq_iff_iff]
    simp [List.cons_lt_cons_iff]
theorem txt_less (u v : Nat) (hu : u < 18446744073709551616) (hv : v < 18446744073709551616) (h : Vq.wd u = Vq.wd v) : Op.bytesLess (txt u).toList (txt v).toList = decide (u < v) := by
  rw [less_eq, txt_list, txt_list, decide_eq_decide]
  exact Vq.num_orders u v hu hv h
theorem txt_eq (u v : Nat) (hu : u < 18446744073709551616) (hv : v < 18446744073709551616) : ((txt u).toList == (txt v).toList) = ((u : Int) == (v : Int)) := by
  rw [txt_list, txt_list, Bool.eq_iff_iff, beq_iff_eq, beq_iff_eq, Vq.num_inj u v hu hv]
  omega
theorem wd_less (u v : Nat) (hu : u < 18446744073709551616) (hv : v < 18446744073709551616) (h : ¬ Vq.wd u = Vq.wd v) : decide (Vq.wd u < Vq.wd v) = decide (u < v) := by
  rw [decide_eq_decide]
  constructor
  · exact Vq.wd_mono u v hu
  · intro hlt
    apply Classical.byContradiction
    intro hn
    have := Vq.wd_mono v u hv (by omega)
    omega

set_option maxHeartbeats 400000 in
theorem orders_walk (u v : Nat) (hu : u < 18446744073709551616) (hv : v < 18446744073709551616) (w : World) :
    Calls Try.prog 8 #[.int .u64 (u : Int), .int .u64 (v : Int)] w fun e w' => e = .returned (.bool true) ∧ Below w.heap.size w w' := by
  have su := txt_size u
  have sv := txt_size v
  have pu := Vq.wd_le u
  have pv := Vq.wd_le v
  go_enter Try.func8, Try.ntmps8
  go_wp2_with fail
  refine (awake_any _).mono ?_
  rintro e w1 ⟨rfl, hb1⟩
  go_wp2_with fail
  go_region_with (first
    | (go_at_call_of 10 (Value.int IntKind.u64 (u : Int)); refine (put_nil u _ hu).mono ?_; rintro e wU ⟨gU, rfl, hownU, hbelU⟩; have hcU := conv_txt hownU; first | (have hcV' := conv_txt (own_below hownV hbelU)) | skip)
    | (go_at_call_of 10 (Value.int IntKind.u64 (v : Int)); refine (put_nil v _ hv).mono ?_; rintro e wV ⟨gV, rfl, hownV, hbelV⟩; have hcV := conv_txt hownV; first | (have hcU' := conv_txt (own_below hownU hbelV)) | skip))
  all_goals
    have hb1' : Below w.heap.size w w1.drew := hb1.drew
    have hs1 : w.heap.size ≤ w1.drew.heap.size := hb1'.size
    by_cases hw : Vq.wd u = Vq.wd v
    · have hne : ((Vq.wd u : Int) != (Vq.wd v : Int)) = false := by simp [hw]
      have hlt := txt_less u v hu hv hw
      have heq := txt_eq u v hu hv
      have Hw : Hid (Vq.wd u = Vq.wd v) := hw
      clear hw
      go_wp2
      go_ret
      first
        | exact ⟨by simp, (hb1'.trans (hbelU.mono hs1)).trans (hbelV.mono (Nat.le_trans hs1 hbelU.size))⟩
        | exact ⟨by simp, (hb1'.trans (hbelV.mono hs1)).trans (hbelU.mono (Nat.le_trans hs1 hbelV.size))⟩
    · have hne : ((Vq.wd u : Int) != (Vq.wd v : Int)) = true := by rw [bne_iff_ne]; omega
      have hlt := wd_less u v hu hv hw
      go_wp2
      go_ret
      first
        | exact ⟨by simp, (hb1'.trans (hbelU.mono hs1)).trans (hbelV.mono (Nat.le_trans hs1 hbelU.size))⟩
        | exact ⟨by simp, (hb1'.trans (hbelV.mono hs1)).trans (hbelU.mono (Nat.le_trans hs1 hbelV.size))⟩
end Go.Proofs.Ytjfbmjdeohlpjaa
