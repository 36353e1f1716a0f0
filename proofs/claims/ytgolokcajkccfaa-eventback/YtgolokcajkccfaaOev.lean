/-
  EventOne: bytes that are decoded are just that event's bytes, and it can be.
-/
import Derived.Test.YtgolokcajkccfaaDec
import Derived.Test.YtgolokcajkccfaaAwe
namespace Go.Proofs.Ytgolokcajkccfaa
open Go.RowKit

theorem sizeL (s : ByteArray) : s.size = s.data.toList.length := by
  show s.data.size = s.data.toList.length
  simp
theorem run_zero_ev (w : World) : (Op.equalIn 10000 29 (.agg (evc zv)) (.agg #[.int .i64 0, .int .i64 0, .int .i64 0, .int .i64 0, .int .i64 0, .int .i64 0, .int .i64 0, .int .i64 0, .int .i64 0, .int .i64 0, .int .i64 0, .int .i64 0, .int .i64 0, .int .i64 0, .int .i64 0, .int .i64 0, .int .i64 0, .int .i64 0, .int .i64 0, .int .i64 0, .string ⟨#[]⟩, .string ⟨#[]⟩, .string ⟨#[]⟩, .int .i64 0, .int .i64 0, .int .i64 0])).run Try.prog w = .ok true w := by
  have h := run_equalIn_ev w 9996 zv zv rfl rfl
  rw [(sameE_iff zv zv).2 rfl] at h
  exact h

set_option maxHeartbeats 1000000 in
theorem one_not (s : ByteArray) (hs : s.size ≤ maxLen) (h : dcE okev s.data.toList ≠ 0) (w : World) :
    Calls Try.prog 7 #[.string s] w fun e w' => e = .returned (.bool true) ∧ Below w.heap.size w w' := by
  have hv : dcV s.data.toList = zv := by rw [dcV, if_neg h]
  have he := run_zero_ev
  have hp := plain_ev
  have HL : Hid (s.size = s.data.toList.length) := sizeL s
  go_enter Try.func7, Try.ntmps7
  go_wp2_with fail
  refine (awake_any _).mono ?_
  rintro e w1 ⟨rfl, hb1⟩
  obtain ⟨cap, w2, hcv, hby, hcap, hbel, hsz⟩ := conv_bytes s w1 hs
  have H2 : Hid (Below w.heap.size w w2) := hb1.trans (hbel.mono hb1.size)
  have HD : Hid (Calls Try.prog 20 #[.slice (some ⟨w1.heap.size, 0, none⟩) s.size cap] w2 fun e w' => e = .returned (.tuple #[.agg (evc zv), .int .i64 (dcE okev s.data.toList)]) ∧ Below w2.heap.size w2 w') := by
    have hD := decode_any (some ⟨w1.heap.size, 0, none⟩) cap s.data.toList w2 (by rw [← HL.out]; exact hby) hcap (fun ad had => by obtain rfl := Option.some.inj had; show w1.heap.size < _; omega)
    rw [hv, ← HL.out] at hD
    exact hD
  have HN : Hid _ := h
  clear hby hcap hbel hb1 h hv hsz
  generalize dcE okev s.data.toList = E at *
  go_wp2_with fail
  refine Calls.mono HD.out ?_
  rintro e w3 ⟨rfl, hb3⟩
  have hn := liesE_new w3 zv
  have H3 : Hid (Below w.heap.size w ((w3.alloc (.cells (evc zv) 29)).setRow w3.heap.size (evc zv))) := by
    have b := H2.out.trans (hb3.mono H2.out.size)
    exact below_setRow (b.alloc b.size _) b.size _
  have E3 : LiesE ((w3.alloc (.cells (evc zv) 29)).setRow w3.heap.size (evc zv)) w3.heap.size zv := hn.row zv
  have hE : (E == 0) = false := by simpa using HN.out
  clear hb3 H2 HD hcv
  go_upto_region 4 with (refine store_ev (e := zv) rfl rfl rfl rfl hn rfl rfl ?_)
  clear hn
  go_wp2_with (refine load_ev rfl rfl rfl E3 rfl ?_)
  go_ret
  exact ⟨rfl, H3.out⟩

set_option maxHeartbeats 1000000 in
theorem one_ok (s : ByteArray) (hs : s.size ≤ maxLen) (h : dcE okev s.data.toList = 0) (w : World) :
    Calls Try.prog 7 #[.string s] w fun e w' => e = .returned (.bool true) ∧ Below w.heap.size w w' := by
  obtain ⟨h1, h2⟩ := dc_ok h
  have hv : dcV s.data.toList = evr s.data.toList := by rw [dcV, if_pos h]
  have hl : (evr s.data.toList).deps.length = 16 := by rw [← hv]; exact dcV_len _
  have HL : Hid (s.size = s.data.toList.length) := sizeL s
  have HR : Hid (Room (evr s.data.toList)) := fits_room (okev_fits hl h2)
  have HK : Hid _ := h2
  have HV : Hid _ := hv
  have HH : Hid _ := h
  have HS : Hid (sb (evb (evr s.data.toList)) = s) := by
    show _ = _
    rw [← h1]; rfl
  clear h1 h2 h hv
  go_enter Try.func7, Try.ntmps7
  go_wp2_with fail
  refine (awake_any _).mono ?_
  rintro e w1 ⟨rfl, hb1⟩
  obtain ⟨cap, w2, hcv, hby, hcap, hbel, hsz⟩ := conv_bytes s w1 hs
  have H2 : Hid (Below w.heap.size w w2) := hb1.trans (hbel.mono hb1.size)
  have HD : Hid (Calls Try.prog 20 #[.slice (some ⟨w1.heap.size, 0, none⟩) s.size cap] w2 fun e w' => e = .returned (.tuple #[.agg (evc (evr s.data.toList)), .int .i64 0]) ∧ Below w2.heap.size w2 w') := by
    have hD := decode_any (some ⟨w1.heap.size, 0, none⟩) cap s.data.toList w2 (by rw [← HL.out]; exact hby) hcap (fun ad had => by obtain rfl := Option.some.inj had; show w1.heap.size < _; omega)
    rw [HV.out, HH.out, ← HL.out] at hD
    exact hD
  clear hby hcap hbel hb1 hsz HV HH
  generalize evr s.data.toList = u at *
  go_wp2_with fail
  refine Calls.mono HD.out ?_
  rintro e w3 ⟨rfl, hb3⟩
  have hn := liesE_new w3 zv
  have H3 : Hid (Below w.heap.size w ((w3.alloc (.cells (evc zv) 29)).setRow w3.heap.size (evc u))) := by
    have b := H2.out.trans (hb3.mono H2.out.size)
    exact below_setRow (b.alloc b.size _) b.size _
  have E3 : LiesE ((w3.alloc (.cells (evc zv) 29)).setRow w3.heap.size (evc u)) w3.heap.size u := hn.row u
  clear hb3 H2 HD hcv
  go_upto_region 4 with (refine store_ev (e := u) rfl rfl rfl rfl hn hl rfl ?_)
  clear hn
  go_wp2_with (refine load_ev rfl rfl rfl E3 hl ?_)
  refine (encode_ok u hl HR.out HK.out _).mono ?_
  rintro e w4 ⟨g, c, rfl, hby, hcap, hb4⟩
  have E4 := E3.below hb4 E3.lt
  have H4 : Hid (Below w.heap.size w w4) := H3.out.trans (hb4.mono H3.out.size)
  have hcv := conv_of hby
  rw [show (⟨(evb u).toArray⟩ : ByteArray) = s from HS.out] at hcv
  clear hby hcap hb4 E3 H3
  generalize (evb u).length = m at *
  go_wp2_with (refine load_ev rfl rfl rfl E4 hl ?_)
  refine (eright_any u hl HR.out _).mono ?_
  rintro e w5 ⟨rfl, hb5⟩
  have H5 : Hid (Below w.heap.size w w5) := H4.out.trans (hb5.mono H4.out.size)
  rw [HK.out]
  clear E4 hb5 H4 hcv
  go_wp2
  go_ret
  exact ⟨rfl, H5.out⟩

theorem one_walk (s : ByteArray) (hs : s.size ≤ maxLen) (w : World) :
    Calls Try.prog 7 #[.string s] w fun e w' => e = .returned (.bool true) ∧ Below w.heap.size w w' := by
  by_cases h : dcE okev s.data.toList = 0
  · exact one_ok s hs h w
  · exact one_not s hs h w
end Go.Proofs.Ytgolokcajkccfaa
