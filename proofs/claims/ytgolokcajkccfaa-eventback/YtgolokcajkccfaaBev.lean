/-
  EventBack: an event's bytes are decoded as it; cut off, or with one more behind, they aren't.
-/
import Derived.Test.YtgolokcajkccfaaOev
import Derived.ArgAppend
import Derived.OpenShut
namespace Go.Proofs.Ytgolokcajkccfaa
open Go.RowKit Go.ChangeShapes Go.WideShapes

theorem Bytes.cut {w : World} {ad : Addr} {c : Nat} {l : List UInt8} (h : Bytes w (some ad) l.length c l) (r : Nat) (hr : r ≤ l.length) : Bytes w (some ad) (l.take r).length c (l.take r) := by
  refine ⟨rfl, ?_, (fun h => by cases h), ?_⟩
  · have := h.room
    rw [List.length_take]
    omega
  · intro ad' had j u hu
    refine h.cells ad' had j u ?_
    rw [bs, List.getElem?_map, List.getElem?_take] at hu
    rw [bs, List.getElem?_map]
    split at hu
    · exact hu
    · cases hu
theorem Bytes.full {w : World} {ad : Addr} {m c : Nat} {l : List UInt8} (h : Bytes w (some ad) m c l) : Bytes w (some ad) m m l := ⟨h.len, Nat.le_refl _, (fun h => by cases h), h.cells⟩
theorem own_shape {w : World} {base n : Nat} {v : Value} {l : List UInt8} (h : w.ownsRow base 5 1 v n (bs l)) (hn : 0 < n) : ∃ g cap, v = .slice (some ⟨g, 0, none⟩) n cap ∧ Bytes w (some ⟨g, 0, none⟩) n cap l ∧ cap ≤ maxLen ∧ g < w.heap.size := by
  have h0 := h
  rcases h.2 with ⟨_, h1⟩ | ⟨g, cap, cur, rfl, hbg, hg, hnc, hcm, hcs, htake⟩
  · omega
  · exact ⟨g, cap, rfl, Bytes.own h0, hcm, (Array.getElem?_eq_some_iff.1 hg).1⟩

/-- One byte behind bytes whose room is full. -/
theorem append_one {ops : Array Oper} {rest : List Oper} {o : Oper} {a : Act} {w : World} {Q : Exit → Act → World → Prop} (hgd : o.guard = none) (sl x : Operand)
    (ho : o.op = .call { callee := .builtin .append, args := #[sl, x], argTypes := #[35, 35] }) (g n k : Nat) (l : List UInt8) (z : UInt8)
    (hs : a.eval sl = .slice (some ⟨g, 0, none⟩) n n) (hx : a.eval x = .slice (some ⟨k, 0, none⟩) 1 1) (hb : Bytes w (some ⟨g, 0, none⟩) n n l) (hk : w.cell? ⟨k, 0, none⟩ = some (.int .u8 (z.toNat : Int))) (hn : n ≤ 1048576)
    (h : ∀ g' cap w', Bytes w' (some ⟨g', 0, none⟩) (n + 1) cap (l ++ [z]) → cap ≤ maxLen → g' < w'.heap.size → Below w.heap.size w w' → wpList Try.prog ops Q rest (a.put o.dst (.slice (some ⟨g', 0, none⟩) (n + 1) cap)) w') :
    wpList Try.prog ops Q (o :: rest) a w := by
  obtain ⟨i, hi, hz, hsize, hby⟩ := info_parts info5
  refine wpList_append_grows w hgd sl x 35 ho 5 i (.int .u8 0) 1 1 Try.underlying35 hi hz hsize hby rfl (by omega) (some ⟨g, 0, none⟩) n n (bs l) hs (fun h => by cases h) (by rw [bs_length, hb.len]; omega) (fun ad had j u hu => hb.cells ad had j u hu)
    ⟨k, 0, none⟩ 1 1 (bs [z]) hx (by rw [bs_length]; rfl) ?_ (bs_oneCell _) (by omega) (by unfold maxLen; omega) (by omega) ?_
  · intro j u hu
    match j, hu with
    | 0, hu =>
      obtain rfl := Option.some.inj hu
      exact hk
  · intro v' w' hown hgrow
    rw [← bs_append] at hown
    obtain ⟨g', cap, rfl, h1, h2, h3⟩ := own_shape hown (by omega)
    exact h g' cap w' h1 h2 h3 ((Below.refl _ _).grown hgrow (Nat.le_refl _) (fun k h => by cases h))

theorem evb_long {e : Ev} (hl : e.deps.length = 16) (hk : e.key ≠ []) : 21 ≤ (evb e).length := by
  have p := fun x : Int => (by rw [nm_length]; exact Vq.wd_pos _ : 0 < (nm x).length)
  have h16 : ∀ d : List Int, d.length ≤ (ns d).length := by
    intro d
    induction d with
    | nil => simp
    | cons x d ih =>
      have := p x
      have e : ns (x :: d) = nm x ++ ns d := by simp [ns]
      rw [e, List.length_append, List.length_cons]; omega
  have a1 := p e.r
  have a2 := p e.n
  have a3 := p e.t
  have a4 := h16 e.deps
  have a5 := p e.kind
  have a6 : 0 < e.key.length := List.length_pos_iff.2 hk
  have a7 : e.key.length + 1 ≤ (tm e.key).length := by
    have := Vq.wd_pos e.key.length
    rw [tm, List.length_append, Vq.num_length]; omega
  simp only [evb, List.length_append]
  omega
theorem evb_short {e : Ev} (h : Fits e) : (evb e).length ≤ 1000 := by
  have a1 := nm_le e.r
  have a2 := nm_le e.n
  have a3 := nm_le e.t
  have a4 := ns_len e.deps
  have a5 := opb_le h.key h.field.1 h.value.1
  have hl := h.len
  rw [evb_parts]
  simp only [List.length_append, List.length_nil]
  omega

set_option maxHeartbeats 1000000 in
theorem back_not (e : Ev) (hl : e.deps.length = 16) (lk : Room e) (K : Nat) (z : UInt8) (h : okev e = false) (w : World) :
    Calls Try.prog 6 #[.agg (evc e), .int .u64 (K : Int), .int .u8 (z.toNat : Int)] w fun e w' => e = .returned (.bool true) ∧ Below w.heap.size w w' := by
  obtain ⟨hE, hB⟩ := boxedE w e
  have H0 : Hid (Below w.heap.size w (w.alloc (.cells (evc e) 29))) := hB
  have HK : Hid _ := h
  clear hB h
  go_enter Try.func6, Try.ntmps6
  go_wp2_with fail
  refine (awake_any _).mono ?_
  rintro e1 w1 ⟨rfl, hb1⟩
  have E1 := hE.below hb1 hE.lt
  have H1 : Hid (Below w.heap.size w w1) := H0.out.trans (hb1.mono H0.out.size)
  clear hE hb1 H0
  go_wp2_with (refine load_ev rfl rfl rfl E1 hl ?_)
  refine (encode_no e hl lk HK.out _).mono ?_
  rintro e2 w2 ⟨rfl, hb2⟩
  have E2 := E1.below hb2 E1.lt
  have H2 : Hid (Below w.heap.size w w2) := H1.out.trans (hb2.mono H1.out.size)
  clear E1 hb2 H1
  go_wp2_with (refine load_ev rfl rfl rfl E2 hl ?_)
  refine (eright_any e hl lk _).mono ?_
  rintro e3 w3 ⟨rfl, hb3⟩
  have H3 : Hid (Below w.heap.size w w3) := H2.out.trans (hb3.mono H2.out.size)
  rw [HK.out]
  clear E2 hb3 H2
  go_wp2
  go_ret
  exact ⟨rfl, H3.out⟩

theorem dc_cut2 {e : Ev} {k : Nat} (hk : k < (evb e).length) (h : Fits e) : dcE okev ((evb e).take k) ≠ 0 := by
  intro h0
  obtain ⟨a, b⟩ := dc_ok h0
  have hf := okev_fits (rdNs_len 16 _ : (evr ((evb e).take k)).deps.length = 16) b
  obtain ⟨-, c⟩ := evr_evb ((evb e).drop k) hf
  rw [← a, List.take_append_drop] at c
  obtain ⟨-, d⟩ := evr_evb [] h
  rw [List.append_nil, c, Rd.mk.injEq] at d
  have := congrArg List.length d.1
  rw [List.length_drop, List.length_nil] at this
  omega
theorem run_same_ev (w : World) (e : Ev) (hl : e.deps.length = 16) : (Op.equalIn 10000 29 (.agg (evc e)) (.agg (evc e))).run Try.prog w = .ok true w := by
  have h := run_equalIn_ev w 9996 e e hl hl
  rw [(sameE_iff e e).2 rfl] at h
  exact h

set_option maxHeartbeats 1000000 in
theorem back_ok (e : Ev) (hl : e.deps.length = 16) (lk : Room e) (K : Nat) (hK : K < 18446744073709551616) (z : UInt8) (h : okev e = true) (w : World) :
    Calls Try.prog 6 #[.agg (evc e), .int .u64 (K : Int), .int .u8 (z.toNat : Int)] w fun e w' => e = .returned (.bool true) ∧ Below w.heap.size w w' := by
  obtain ⟨hE, hB⟩ := boxedE w e
  have H0 : Hid (Below w.heap.size w (w.alloc (.cells (evc e) 29))) := hB
  have HK : Hid _ := h
  have hf := okev_fits hl h
  have hlong := evb_long hl (okev_parts h).2.2.2.2.1
  have hshort := evb_short hf
  obtain ⟨d1, d2⟩ := dc_evb hf h
  have d3 : dcV (evb e) = e := by rw [dcV, if_pos d1, d2]
  have d4 := dc_more (ok := okev) [z] (by simp) hf
  have hr0 : K % (evb e).length < (evb e).length := Nat.mod_lt _ (by omega)
  have d5 : dcE okev ((evb e).take (K % (evb e).length)) ≠ 0 := dc_cut2 hr0 hf
  have H1 : Hid (∀ W, Calls Try.prog 18 #[.agg (evc e)] W fun e' w' => ∃ g c, e' = .returned (.tuple #[.slice (some ⟨g, 0, none⟩) (evb e).length c, .int .i64 0]) ∧ Bytes w' (some ⟨g, 0, none⟩) (evb e).length c (evb e) ∧ c ≤ maxLen ∧ Below W.heap.size W w') := fun W => encode_ok e hl lk h W
  have H2 : Hid (∀ W g c, Bytes W (some ⟨g, 0, none⟩) (evb e).length c (evb e) → c ≤ maxLen → g < W.heap.size → Calls Try.prog 20 #[.slice (some ⟨g, 0, none⟩) (evb e).length c] W fun e' w' => e' = .returned (.tuple #[.agg (evc e), .int .i64 0]) ∧ Below W.heap.size W w') := fun W g c hb hc hg => by
    have hD := decode_any (some ⟨g, 0, none⟩) c (evb e) W hb hc (fun ad had => by obtain rfl := Option.some.inj had; exact hg)
    rw [d1, d3] at hD
    exact hD
  have H3 : Hid (∀ W g c, Bytes W (some ⟨g, 0, none⟩) (evb e).length c (evb e) → c ≤ maxLen → g < W.heap.size → Calls Try.prog 20 #[.slice (some ⟨g, 0, none⟩) (K % (evb e).length) c] W fun e' w' => ∃ f : Int, e' = .returned (.tuple #[.agg (evc zv), .int .i64 f]) ∧ f ≠ 0 ∧ Below W.heap.size W w') := fun W g c hb hc hg => by
    have hD := decode_any (some ⟨g, 0, none⟩) c _ W (hb.cut (K % (evb e).length) (by omega)) hc (fun ad had => by obtain rfl := Option.some.inj had; exact hg)
    rw [show ((evb e).take (K % (evb e).length)).length = K % (evb e).length by rw [List.length_take]; omega, dcV, if_neg d5] at hD
    exact hD.mono fun _ _ ⟨h1, h2⟩ => ⟨_, h1, d5, h2⟩
  have H4 : Hid (∀ W g c, Bytes W (some ⟨g, 0, none⟩) ((evb e).length + 1) c (evb e ++ [z]) → c ≤ maxLen → g < W.heap.size → Calls Try.prog 20 #[.slice (some ⟨g, 0, none⟩) ((evb e).length + 1) c] W fun e' w' => e' = .returned (.tuple #[.agg (evc zv), .int .i64 3]) ∧ Below W.heap.size W w') := fun W g c hb hc hg => by
    have hD := decode_any (some ⟨g, 0, none⟩) c (evb e ++ [z]) W (by rw [List.length_append]; exact hb) hc (fun ad had => by obtain rfl := Option.some.inj had; exact hg)
    rw [List.length_append, d4, dcV, d4, if_neg three_ne] at hD
    exact hD
  have hsame := fun W : World => run_same_ev W e hl
  have hp := plain_ev
  clear hB h hf d1 d2 d3 d4 d5
  generalize evb e = q at *
  obtain ⟨r, Hr⟩ : ∃ r, Hid (K % q.length = r) := ⟨_, rfl⟩
  rw [Hr.out] at H3 hr0
  have hm : ((K : Int) % (q.length : Int)) = (r : Int) := by rw [← Hr.out]; rfl
  go_enter Try.func6, Try.ntmps6
  go_wp2_with fail
  refine (awake_any _).mono ?_
  rintro e1 w1 ⟨rfl, hb1⟩
  have E1 := hE.below hb1 hE.lt
  have B1 : Hid (Below w.heap.size w w1) := H0.out.trans (hb1.mono H0.out.size)
  clear hE hb1 H0
  go_wp2_with (refine load_ev rfl rfl rfl E1 hl ?_)
  refine Calls.mono (H1.out _) ?_
  rintro e2 w2 ⟨g, c, rfl, by2, hc, hb2⟩
  have E2 := E1.below hb2 E1.lt
  have B2 : Hid (Below w.heap.size w w2) := B1.out.trans (hb2.mono B1.out.size)
  have hg : g < w2.heap.size := World.block_lt_of_cell? w2 _ (by2.cells _ rfl 0 _ (List.getElem?_eq_getElem (by rw [bs_length]; omega)))
  have hroom := by2.room
  have Y2 : Hid (Bytes w2 (some ⟨g, 0, none⟩) q.length c q) := by2
  clear E1 hb2 B1 H1 by2
  go_wp2_with fail
  refine Calls.mono (H2.out _ _ _ Y2.out hc hg) ?_
  rintro e3 w3 ⟨rfl, hb3⟩
  have n3 := liesE_new w3 zv
  have E3 : LiesE ((w3.alloc (.cells (evc zv) 29)).setRow w3.heap.size (evc e)) w.heap.size e := ((E2.below hb3 E2.lt).alloc _).rowOther _ (by have := E2.lt; have := hb3.size; omega)
  have F3 : LiesE ((w3.alloc (.cells (evc zv) 29)).setRow w3.heap.size (evc e)) w3.heap.size e := n3.row e
  have B3 : Hid (Below w2.heap.size w2 ((w3.alloc (.cells (evc zv) 29)).setRow w3.heap.size (evc e))) := below_setRow (hb3.alloc hb3.size _) hb3.size _
  clear hb3 E2 H2
  go_upto_region 7 with (refine store_ev (e := e) rfl rfl rfl rfl n3 hl rfl ?_)
  clear n3
  rw [zv_cells] at E3 F3 B3
  generalize ((w3.alloc (.cells #[.int .i64 0, .int .i64 0, .int .i64 0, .int .i64 0, .int .i64 0, .int .i64 0, .int .i64 0, .int .i64 0, .int .i64 0, .int .i64 0, .int .i64 0, .int .i64 0, .int .i64 0, .int .i64 0, .int .i64 0, .int .i64 0, .int .i64 0, .int .i64 0, .int .i64 0, .int .i64 0, .string ⟨#[]⟩, .string ⟨#[]⟩, .string ⟨#[]⟩, .int .i64 0, .int .i64 0, .int .i64 0] 29)).setRow w3.heap.size (evc e)) = w4 at *
  have Y4 : Hid (Bytes w4 (some ⟨g, 0, none⟩) q.length c q) := Y2.out.below B3.out (Nat.le_refl _)
  have hg4 : g < w4.heap.size := Nat.lt_of_lt_of_le hg B3.out.size
  have B4 : Hid (Below w.heap.size w w4) := B2.out.trans (B3.out.mono B2.out.size)
  clear Y2 B2 B3 hg
  go_wp2_with (first | refine load_ev rfl rfl rfl F3 hl ?_ | refine load_ev rfl rfl rfl E3 hl ?_)
  refine Calls.mono (H3.out _ _ _ Y4.out hc hg4) ?_
  rintro e5 w5 ⟨f, rfl, hf, hb5⟩
  have n5 := liesE_new w5 zv
  have B5 : Hid (Below w4.heap.size w4 ((w5.alloc (.cells #[.int .i64 0, .int .i64 0, .int .i64 0, .int .i64 0, .int .i64 0, .int .i64 0, .int .i64 0, .int .i64 0, .int .i64 0, .int .i64 0, .int .i64 0, .int .i64 0, .int .i64 0, .int .i64 0, .int .i64 0, .int .i64 0, .int .i64 0, .int .i64 0, .int .i64 0, .int .i64 0, .string ⟨#[]⟩, .string ⟨#[]⟩, .string ⟨#[]⟩, .int .i64 0, .int .i64 0, .int .i64 0] 29)).setRow w5.heap.size (evc zv))) := below_setRow (hb5.alloc hb5.size _) hb5.size _
  clear hb5 H3 E3 F3
  go_upto_region 10 with (refine store_ev (e := zv) rfl rfl rfl rfl n5 rfl rfl ?_)
  clear n5
  generalize hw6 : ((w5.alloc (.cells #[.int .i64 0, .int .i64 0, .int .i64 0, .int .i64 0, .int .i64 0, .int .i64 0, .int .i64 0, .int .i64 0, .int .i64 0, .int .i64 0, .int .i64 0, .int .i64 0, .int .i64 0, .int .i64 0, .int .i64 0, .int .i64 0, .int .i64 0, .int .i64 0, .int .i64 0, .int .i64 0, .string ⟨#[]⟩, .string ⟨#[]⟩, .string ⟨#[]⟩, .int .i64 0, .int .i64 0, .int .i64 0] 29)).setRow w5.heap.size (evc zv)) = w6 at *
  clear hw6
  have Y6 : Bytes w6 (some ⟨g, 0, none⟩) q.length c q := Y4.out.below B5.out (Nat.le_refl _)
  have B6 : Hid (Below w.heap.size w w6) := B4.out.trans (B5.out.mono B4.out.size)
  clear Y4 B4 B5 hg4
  go_wp2_with (at_builtin; refine append_one rfl _ _ rfl g q.length w6.heap.size q z rfl rfl (Y6.full.below ((Below.refl w6.heap.size w6).alloc (Nat.le_refl _) _) (Nat.le_refl _)) ?_ (by omega) ?_)
  · rw [cell_of_row _ _ 0 _ _ _ (heap_alloc_new w6 _)]; rfl
  intro g7 c7 w7 Y7 hc7 hg7 hb7
  have B7 : Hid (Below w.heap.size w w7) := (B6.out.alloc B6.out.size _).trans (hb7.mono (by have := B6.out.size; omega))
  have HD : Hid _ := H4.out _ _ _ Y7 hc7 hg7
  clear Y6 B6 Y7 hc7 hg7 hb7 H4
  go_wp2_with fail
  refine Calls.mono HD.out ?_
  rintro e8 w8 ⟨rfl, hb8⟩
  have n8 := liesE_new w8 zv
  have B8 : Hid (Below w.heap.size w ((w8.alloc (.cells (evc zv) 29)).setRow w8.heap.size (evc zv))) := by
    have b := B7.out.trans (hb8.mono B7.out.size)
    exact below_setRow (b.alloc b.size _) b.size _
  have hfe : Hid ((f != 0) = true) := by show _ = _; simpa using hf
  clear hb8 B7 HD
  go_wp2_with (refine store_ev (e := zv) rfl rfl rfl rfl n8 rfl rfl ?_)
  go_ret
  exact ⟨congrArg (fun b => Ending.returned (.bool b)) hfe.out, B8.out⟩

theorem back_walk (e : Ev) (hl : e.deps.length = 16) (lk : Room e) (a b : Int) (ha : (Lit.int .u64 a).wf = true) (hb : (Lit.int .u8 b).wf = true) (w : World) :
    Calls Try.prog 6 #[.agg (evc e), .int .u64 a, .int .u8 b] w fun e w' => e = .returned (.bool true) ∧ Below w.heap.size w w' := by
  obtain ⟨a0, a1⟩ := bounds_u64 ha
  obtain ⟨b0, b1⟩ := bounds_u8 hb
  obtain ⟨K, rfl⟩ : ∃ K : Nat, a = (K : Int) := ⟨a.toNat, by omega⟩
  obtain ⟨z, rfl⟩ : ∃ z : UInt8, b = (z.toNat : Int) := ⟨UInt8.ofNat b.toNat, by rw [UInt8.toNat_ofNat']; omega⟩
  rcases Bool.eq_false_or_eq_true (okev e) with h | h
  · exact back_ok e hl lk K (by omega) z h w
  · exact back_not e hl lk K z h w
end Go.Proofs.Ytgolokcajkccfaa
