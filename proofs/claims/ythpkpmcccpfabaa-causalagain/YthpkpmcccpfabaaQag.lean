/-
  CausalAgain: what was told, and seen, isn't told again.
-/
import Derived.Test.YthpkpmcccpfabaaQlw
namespace Go.Proofs.Ythpkpmcccpfabaa
set_option maxRecDepth 100000
open Go.RowKit

/-- What was told so far, what waits, what was seen. -/
structure AgP (i : Nat) (S : List Ev) (v : List Int) (T : List Ev) : Prop where
  buf : Buf S
  wide : ∀ x ∈ S, Wide x
  rest : Rest S v
  vl : v.length = 16
  told : ∀ x ∈ T, Wide x ∧ hasv v x.r x.n = true
  len : T.length ≤ 64 * i
theorem AgP.start : AgP 0 [] zeros [] := ⟨Buf.nil, fun _ h => by simp at h, fun _ h => by simp at h, rfl, fun _ h => by simp at h, by simp⟩
theorem AgP.step {i : Nat} {S T T' S' : List Ev} {v u : List Int} {e : Ev} (h : AgP i S v T) (he : Wide e) (ho : Off S e v T' S' u) : AgP (i + 1) S' u (T ++ T') := by
  have hw := ho.wide h.wide he
  have hok := ho.ok h.buf
  have hch := Chain.has h.vl T' ho.chain (fun y hy => okev_dot (hok y hy))
  refine ⟨ho.buf h.buf, hw.2, ho.rest h.buf h.vl, by rw [ho.vs, vs_length, h.vl], fun x hx => ?_, ?_⟩
  · rcases List.mem_append.1 hx with hx | hx
    · exact ⟨(h.told x hx).1, by rw [ho.vs]; exact (hch x.r x.n).2 (.inl (h.told x hx).2)⟩
    · exact ⟨hw.1 x hx, by rw [ho.vs]; exact (hch x.r x.n).2 (.inr ⟨x, hx, rfl, rfl⟩)⟩
  · have := ho.len h.buf
    have := h.len
    rw [List.length_append]; omega
theorem neq_i0 (w : World) : (binOp .neq 3 (.int .i64 0) (.int .i64 0)).run Try.prog w = .ok (.bool false) w := by simp [go_sem]
theorem gtr_same (w : World) (n : Int) : (binOp .gtr 3 (.int .i64 n) (.int .i64 n)).run Try.prog w = .ok (.bool false) w := by simp [go_sem]
theorem u8_range {a : Int} (h : (Lit.int .u8 a).wf = true) : 0 ≤ a ∧ a < 256 := by
  have h1 : IntKind.u8.min = 0 := by decide
  have h2 : IntKind.u8.max = 255 := by decide
  simp only [Lit.wf, h1, h2, Bool.and_eq_true, decide_eq_true_eq] at h
  omega
set_option maxHeartbeats 4000000 in
theorem lagain_walk (ao : Option Addr) (m c : Nat) (E : List Ev) (t : Int) (ht0 : 0 ≤ t) (ht1 : t < 256) (w : World) (hE : Evs w ao m c E) : Calls Try.prog 7 #[.slice ao m c, .int .u8 t] w fun ex w' => ex = .returned (.bool true) ∧ Below w.heap.size w w' := by
  have hA := qawake_any w
  have htop := hE.top
  have hroom := hE.room
  have hm63 : m ≤ 9223372036854775807 := by unfold maxLen at htop; omega
  by_cases hm : 150 < m
  · have hm' : (150 : Int) < (m : Int) := by omega
    clear hE
    go_enter Try.func7, Try.ntmps7
    go_wp2_with fail
    refine Calls.mono hA ?_
    rintro ex w1 ⟨rfl, hb1⟩
    have hA1 := qawake_any w1
    go_wp2_with fail
    refine Calls.mono hA1 ?_
    rintro ex w2 ⟨rfl, hb2⟩
    go_wp2
    go_ret
    exact ⟨rfl, hb1.trans (hb2.mono hb1.size)⟩
  have hm' : ¬ (150 : Int) < (m : Int) := by omega
  go_enter Try.func7, Try.ntmps7
  go_wp2_with fail
  refine Calls.mono hA ?_
  rintro ex w1 ⟨rfl, hb1⟩
  have hN := qnew_any w1
  have hF0 := bf_new w1
  have hb2 : Below w1.heap.size w1 (w1.alloc (.cells #[.map none] 34)) := (Below.refl _ _).alloc (Nat.le_refl _) _
  have hs2 := World.size_alloc w1 (.cells #[.map none] 34)
  generalize w1.alloc (.cells #[.map none] 34) = w2 at *
  obtain ⟨g, hg⟩ : ∃ g, w1.heap.size = g := ⟨_, rfl⟩
  rw [hg] at hN hF0 hs2
  have hgw : w.heap.size ≤ g := by rw [← hg]; exact hb1.size
  have hL0 : Lq w g (g + 1) (w2.alloc (.cells (vals zeros) 40)) none [] zeros := by
    have hb3 : Below w2.heap.size w2 (w2.alloc (.cells (vals zeros) 40)) := (Below.refl _ _).alloc (Nat.le_refl _) _
    refine ⟨(hb1.trans (hb2.mono hb1.size)).trans (hb3.mono (by omega)), hF0.below hb3, ?_, hgw, by omega, fun k e => by cases e⟩
    rw [← hs2]; exact lies_new w2 zeros
  have hzz : w2.alloc (.cells #[.int .i64 0, .int .i64 0, .int .i64 0, .int .i64 0, .int .i64 0, .int .i64 0, .int .i64 0, .int .i64 0, .int .i64 0, .int .i64 0, .int .i64 0, .int .i64 0, .int .i64 0, .int .i64 0, .int .i64 0, .int .i64 0] 40) = w2.alloc (.cells (vals zeros) 40) := by rw [zeros_vals]
  generalize hW3 : w2.alloc (.cells (vals zeros) 40) = W3 at *
  have hrel0 : Hid (∃ (i : Nat) (mm : Option Nat) (S : List Ev) (v : List Int) (T : List Ev), i ≤ m ∧ Value.int .i64 0 = .int .i64 (i : Int) ∧ Lq w g (g + 1) W3 mm S v ∧ AgP i S v T ∧ Row W3 (g + 2) (.slice none 0 0) T) := ⟨0, none, [], zeros, [], Nat.zero_le _, rfl, hL0, AgP.start, World.ownsRow_nil _ _ _ _⟩
  have HE : Hid (Evs w ao m c E) := hE
  clear hL0 hF0 hb1 hb2 hA hE hW3
  go_wp2_with fail
  refine Calls.mono hN ?_
  rintro ex w2' ⟨rfl, hw2⟩
  obtain rfl := hw2.symm
  go_wp2_with fail
  go_loopw [7, 24] (fun c7 c24 wr => ∃ (i : Nat) (mm : Option Nat) (S : List Ev) (v : List Int) (T : List Ev), i ≤ m ∧ c24 = .int .i64 (i : Int) ∧ Lq w g (g + 1) wr mm S v ∧ AgP i S v T ∧ Row wr (g + 2) c7 T) (fun _ c24 _ => m - (intOf c24).toNat)
  case atStart => exact hrel0.out
  case round =>
    clear hrel0 hzz hN
    obtain ⟨i, mm, S, v, T, hi, rfl, hL, hP, hR⟩ := hrel
    by_cases hlt : i < m
    · have hlt' : (i : Int) < (m : Int) := by omega
      obtain ⟨b, off, e, hao, hei, hwe, hrg, hbw⟩ := HE.out.at hlt
      have he16 := hwe.1
      subst hao
      have hv16 := hP.vl
      have hLd := hL.drew
      have hOf := offer_any g mm S e v hwe hv16 wr.drew hLd.bf hP.buf hP.wide
      have hrgd : wr.drew.rangeAt b (off + i * 26) (evl e) := range_below hrg hLd.below hbw
      have HL : Hid _ := hLd
      have HP : Hid _ := hP
      have HR : Hid (Row wr.drew (g + 2) u7 T) := hR
      have hvd : Lies wr.drew (g + 1) v := hLd.vec
      have hsd : g + 2 ≤ wr.heap.size := by have := hL.vec.lt; omega
      have hix := fun W : World => index_ev W (b := b) (off := off) (c := c) hlt
      clear hL hP hR hLd
      go_upto_region 9 with fail
      refine wp_region_noPanic ?_
      refine wp_region_held_drew (S := fun W' : World => W'.rangeAt b (off + i * 26) (evl e) ∧ Lies W' (g + 1) v) (by kernel_rfl) ⟨hrgd, hvd⟩ (fun hHeld => ?_)
      refine wpAnyH_take (i := 0) (oi := { dst := some 27, op := _, type := _, pos := _, after := _, guard := _ }) (v := .pointer (some ⟨g, 0, none⟩)) rfl (by kernel_rfl) (by kernel_rfl) (by kernel_rfl) (fun _ _ _ h => h) (Or.inl ⟨by rfl, ?_⟩) (by assumption) ?_
      · intro w9 hSw
        exact y_move rfl rfl
      simp only [Act.put, List.setIfInBounds_toArray, List.set_cons_zero, List.set_cons_succ]
      refine wpAnyH_take (i := 1) (oi := { dst := some 28, op := _, type := _, pos := _, after := _, guard := _ }) (v := .slice (some ⟨b, off, none⟩) m c) rfl (by kernel_rfl) (by kernel_rfl) (by kernel_rfl) (fun _ _ _ h => h) (Or.inl ⟨by rfl, ?_⟩) (by assumption) ?_
      · intro w9 hSw
        exact y_move rfl rfl
      simp only [Act.put, List.setIfInBounds_toArray, List.set_cons_zero, List.set_cons_succ]
      refine wpAnyH_take (i := 2) (oi := { dst := some 29, op := _, type := _, pos := _, after := _, guard := _ }) (v := .int .i64 (i : Int)) rfl (by kernel_rfl) (by kernel_rfl) (by kernel_rfl) (fun _ _ _ h => h) (Or.inl ⟨by rfl, ?_⟩) (by assumption) ?_
      · intro w9 hSw
        exact y_move rfl rfl
      simp only [Act.put, List.setIfInBounds_toArray, List.set_cons_zero, List.set_cons_succ]
      refine wpAnyH_take (i := 3) (oi := { dst := some 30, op := _, type := _, pos := _, after := _, guard := _ }) (v := .pointer (some ⟨b, off + i * 26, none⟩)) rfl (by kernel_rfl) (by kernel_rfl) (by kernel_rfl) (fun _ _ _ h => h) (Or.inl ⟨by rfl, ?_⟩) (by assumption) ?_
      · intro w9 hSw
        exact y_index rfl rfl rfl (hix _)
      simp only [Act.put, List.setIfInBounds_toArray, List.set_cons_zero, List.set_cons_succ]
      refine wpAnyH_take (i := 4) (oi := { dst := some 31, op := _, type := _, pos := _, after := _, guard := _ }) (v := .agg (evc e)) rfl (by kernel_rfl) (by kernel_rfl) (by kernel_rfl) (fun _ _ _ h => h) (Or.inl ⟨by rfl, ?_⟩) (by assumption) ?_
      · intro w9 hSw
        exact y_load rfl rfl (load_em hSw.1 he16)
      simp only [Act.put, List.setIfInBounds_toArray, List.set_cons_zero, List.set_cons_succ]
      refine wpAnyH_take (i := 5) (oi := { dst := some 32, op := _, type := _, pos := _, after := _, guard := _ }) (v := .agg (vals v)) rfl (by kernel_rfl) (by kernel_rfl) (by kernel_rfl) (fun _ _ _ h => h) (Or.inl ⟨by rfl, ?_⟩) (by assumption) ?_
      · intro w9 hSw
        exact y_load rfl rfl (load_v hSw.2 hv16)
      simp only [Act.put, List.setIfInBounds_toArray, List.set_cons_zero, List.set_cons_succ]
      clear hHeld
      refine wpAnyH_ready (rs := [6]) (by kernel_rfl) (by simp) ?_
      refine AllReadyH.cons (o := { dst := some 33, op := _, type := _, pos := _, after := _, guard := _ }) rfl (fun K hK => ?_) AllReadyH.nil
      rw [if_pos (by rfl)]
      refine y_call (f := 11) (xs := [.tmp 27, .tmp 31, .tmp 32]) (vs := [.pointer (some ⟨g, 0, none⟩), .agg (evc e), .agg (vals v)]) rfl rfl (enters_offer _ _) hOf ?_
      rintro ex w4 ⟨vt, T', S', u, m4, rfl, hO, hu16, hr4, hB4, ht4⟩
      refine ⟨_, rfl, ?_⟩
      have hL4 := HL.out.offer hB4 ht4
      have hrg4 : w4.rangeAt b (off + i * 26) (evl e) := range_below hrg hL4.below hbw
      have HRT4 : Hid (Row w4 (g + 2) u7 T) := Row.tn HR.out HL.out.bf (by omega) ht4
      refine hK.out _ _ ⟨hrg4, hL4.vec⟩ (fun hHeld => ?_)
      clear hK K
      simp only [Act.put, List.setIfInBounds_toArray, List.set_cons_zero, List.set_cons_succ]
      refine wpAnyH_take (i := 7) (oi := { dst := some 9, op := _, type := _, pos := _, after := _, guard := _ }) (v := vt) rfl (by kernel_rfl) (by kernel_rfl) (by kernel_rfl) (fun _ _ _ h => h) (Or.inl ⟨by rfl, ?_⟩) (by assumption) ?_
      · intro w9 hSw
        exact y_assign rfl rfl
      simp only [Act.put, List.setIfInBounds_toArray, List.set_cons_zero, List.set_cons_succ]
      refine wpAnyH_done (by kernel_rfl) ?_ _
      refine NoPanic.normal ?_
      clear hHeld
      have hwT := (hO.wide HP.out.wide hwe).1
      obtain ⟨at', ct, hvt, hTe⟩ := hr4.evs hwT
      have hTl : T'.length ≤ 64 := hO.len HP.out.buf
      have hTl' : T'.length ≤ 9223372036854775807 := by omega
      have HO : Hid (u = vs T' v) := hO.vs
      have HAP : Hid (AgP (i + 1) S' u (T ++ T')) := HP.out.step hwe hO
      have hok' : ∀ x ∈ T', okdot x.r x.n = true := fun x hx => okev_dot (hO.ok HP.out.buf x hx)
      subst hvt
      have HR4 : Hid (Row w4 (g + 2) (.slice at' T'.length ct) T') := hr4.lower (by exact hsd)
      have hrelI : Hid (∃ j : Nat, j ≤ T'.length ∧ Value.int .i64 0 = .int .i64 (j : Int) ∧ Lq w g (g + 1) w4 m4 S' (vs (T'.take j) v) ∧ Row w4 (g + 2) (.slice at' T'.length ct) T' ∧ Row w4 (g + 2) u7 T) := ⟨0, Nat.zero_le _, rfl, hL4, HR4.out, HRT4.out⟩
      clear hO hL4 hr4 HR4 HRT4 HR HL hTe hvd hrgd hrg4 hrg
      go_wp2_with fail
      go_loopw [36] (fun c36 wj => ∃ j : Nat, j ≤ T'.length ∧ c36 = .int .i64 (j : Int) ∧ Lq w g (g + 1) wj m4 S' (vs (T'.take j) v) ∧ Row wj (g + 2) (.slice at' T'.length ct) T' ∧ Row wj (g + 2) u7 T) (fun c36 _ => T'.length - (intOf c36).toNat)
      case atStart => exact hrelI.out
      case round =>
        clear hrelI
        obtain ⟨j, hj, rfl, hLj, hRj, hRTj⟩ := hrel
        by_cases hjl : j < T'.length
        · have hjl' : (j : Int) < (T'.length : Int) := by omega
          obtain ⟨ao2, c2, hv2, hTe⟩ := hRj.evs hwT
          simp only [Value.slice.injEq, true_and] at hv2
          obtain ⟨rfl, rfl⟩ := hv2
          obtain ⟨b2, off2, x, hao2, hxj, -, hrg2, hbl2⟩ := hTe.at hjl
          subst hao2
          have hdx := hok' x (List.mem_of_getElem? hxj)
          simp only [okdot, decide_eq_true_eq] at hdx
          obtain ⟨r, hr⟩ : ∃ r : Nat, x.r = (r : Int) := ⟨x.r.toNat, by omega⟩
          have hr16 : r < 16 := by omega
          have hb2ne : b2 ≠ g + 1 := by
            have := Row.own hRj b2 rfl
            omega
          have hLjd := hLj.drew
          have hcu := hLjd.vec.cell (k := r) (by rw [vs_length]; rw [HP.out.vl]; exact hr16)
          have hfu := hLjd.vec.frozen (k := r)
          have hst := st_int (v := .int .i64 x.n) hcu hfu rfl ⟨_, rfl⟩
          have hL5 := hLjd.set r x.n
          have hvn : (vs (T'.take j) v).set r x.n = vs (T'.take (j + 1)) v := by rw [vs_take hxj, hr]; rfl
          rw [hvn] at hL5
          have hrd : wr.drew.rangeAt b2 (off2 + j * 26) (evl x) := hrg2
          have hix2 := fun W : World => index_ev W (b := b2) (off := off2) (c := ct) hjl
          have hiv := fun W : World => index_vv W (g + 1) 0 r hr16
          simp only [Nat.zero_add] at hiv
          have hS5 : (wr.drew.setCell ⟨g + 1, r, none⟩ (.int .i64 x.n)).rangeAt b2 (off2 + j * 26) (evl x) := fun q z hz => by
            rw [World.cell?_setCell_other _ _ _ _ (by intro e; exact hb2ne (congrArg Addr.block e).symm)]; exact hrd q z hz
          have HL5 : Hid _ := hL5
          have HR5 : Hid _ := Row.set (j := r) (x := .int .i64 x.n) (Bv := g + 1) (w := wr.drew) hRj (by omega)
          have HRT5 : Hid _ := Row.set (j := r) (x := .int .i64 x.n) (Bv := g + 1) (w := wr.drew) hRTj (by omega)
          have hrr : ∀ W : World, W.rangeAt b2 (off2 + j * 26) (evl x) → W.cell? ⟨b2, off2 + j * 26, none⟩ = some (.int .i64 (r : Int)) := fun W h => by rw [range_r h, hr]
          clear hLj hRj hRTj hTe hrg2 hL5 hLjd hvn
          go_upto_region 13 with fail
          refine wp_region_noPanic ?_
          refine wp_region_held_drew (S := fun W' : World => W'.rangeAt b2 (off2 + j * 26) (evl x)) (by kernel_rfl) hrd (fun hHeld => ?_)
          refine wpAnyH_take (i := 0) (oi := { dst := some 39, op := _, type := _, pos := _, after := _, guard := _ }) (v := .slice (some ⟨b2, off2, none⟩) T'.length ct) rfl (by kernel_rfl) (by kernel_rfl) (by kernel_rfl) (fun _ _ _ h => h) (Or.inl ⟨by rfl, ?_⟩) (by assumption) ?_
          · intro w9 hSw
            exact y_move rfl rfl
          simp only [Act.put, List.setIfInBounds_toArray, List.set_cons_zero, List.set_cons_succ]
          refine wpAnyH_take (i := 1) (oi := { dst := some 40, op := _, type := _, pos := _, after := _, guard := _ }) (v := .int .i64 (j : Int)) rfl (by kernel_rfl) (by kernel_rfl) (by kernel_rfl) (fun _ _ _ h => h) (Or.inl ⟨by rfl, ?_⟩) (by assumption) ?_
          · intro w9 hSw
            exact y_move rfl rfl
          simp only [Act.put, List.setIfInBounds_toArray, List.set_cons_zero, List.set_cons_succ]
          refine wpAnyH_take (i := 2) (oi := { dst := some 41, op := _, type := _, pos := _, after := _, guard := _ }) (v := .pointer (some ⟨b2, off2 + j * 26, none⟩)) rfl (by kernel_rfl) (by kernel_rfl) (by kernel_rfl) (fun _ _ _ h => h) (Or.inl ⟨by rfl, ?_⟩) (by assumption) ?_
          · intro w9 hSw
            exact y_index rfl rfl rfl (hix2 _)
          simp only [Act.put, List.setIfInBounds_toArray, List.set_cons_zero, List.set_cons_succ]
          refine wpAnyH_take (i := 3) (oi := { dst := some 42, op := _, type := _, pos := _, after := _, guard := _ }) (v := .pointer (some ⟨b2, off2 + j * 26, none⟩)) rfl (by kernel_rfl) (by kernel_rfl) (by kernel_rfl) (fun _ _ _ h => h) (Or.inl ⟨by rfl, ?_⟩) (by assumption) ?_
          · intro w9 hSw
            exact y_field rfl rfl (field_em0 _ _ _)
          simp only [Act.put, List.setIfInBounds_toArray, List.set_cons_zero, List.set_cons_succ]
          refine wpAnyH_take (i := 4) (oi := { dst := some 43, op := _, type := _, pos := _, after := _, guard := _ }) (v := .pointer (some ⟨b2, off2 + j * 26, none⟩)) rfl (by kernel_rfl) (by kernel_rfl) (by kernel_rfl) (fun _ _ _ h => h) (Or.inl ⟨by rfl, ?_⟩) (by assumption) ?_
          · intro w9 hSw
            exact y_field rfl rfl (field_dm0 _ _ _)
          simp only [Act.put, List.setIfInBounds_toArray, List.set_cons_zero, List.set_cons_succ]
          refine wpAnyH_take (i := 5) (oi := { dst := some 44, op := _, type := _, pos := _, after := _, guard := _ }) (v := .int .i64 (r : Int)) rfl (by kernel_rfl) (by kernel_rfl) (by kernel_rfl) (fun _ _ _ h => h) (Or.inl ⟨by rfl, ?_⟩) (by assumption) ?_
          · intro w9 hSw
            exact y_load rfl rfl (load_int (hrr _ hSw))
          simp only [Act.put, List.setIfInBounds_toArray, List.set_cons_zero, List.set_cons_succ]
          refine wpAnyH_take (i := 6) (oi := { dst := some 45, op := _, type := _, pos := _, after := _, guard := _ }) (v := .slice (some ⟨b2, off2, none⟩) T'.length ct) rfl (by kernel_rfl) (by kernel_rfl) (by kernel_rfl) (fun _ _ _ h => h) (Or.inl ⟨by rfl, ?_⟩) (by assumption) ?_
          · intro w9 hSw
            exact y_move rfl rfl
          simp only [Act.put, List.setIfInBounds_toArray, List.set_cons_zero, List.set_cons_succ]
          refine wpAnyH_take (i := 7) (oi := { dst := some 46, op := _, type := _, pos := _, after := _, guard := _ }) (v := .int .i64 (j : Int)) rfl (by kernel_rfl) (by kernel_rfl) (by kernel_rfl) (fun _ _ _ h => h) (Or.inl ⟨by rfl, ?_⟩) (by assumption) ?_
          · intro w9 hSw
            exact y_move rfl rfl
          simp only [Act.put, List.setIfInBounds_toArray, List.set_cons_zero, List.set_cons_succ]
          refine wpAnyH_take (i := 8) (oi := { dst := some 47, op := _, type := _, pos := _, after := _, guard := _ }) (v := .pointer (some ⟨b2, off2 + j * 26, none⟩)) rfl (by kernel_rfl) (by kernel_rfl) (by kernel_rfl) (fun _ _ _ h => h) (Or.inl ⟨by rfl, ?_⟩) (by assumption) ?_
          · intro w9 hSw
            exact y_index rfl rfl rfl (hix2 _)
          simp only [Act.put, List.setIfInBounds_toArray, List.set_cons_zero, List.set_cons_succ]
          refine wpAnyH_take (i := 9) (oi := { dst := some 48, op := _, type := _, pos := _, after := _, guard := _ }) (v := .pointer (some ⟨b2, off2 + j * 26, none⟩)) rfl (by kernel_rfl) (by kernel_rfl) (by kernel_rfl) (fun _ _ _ h => h) (Or.inl ⟨by rfl, ?_⟩) (by assumption) ?_
          · intro w9 hSw
            exact y_field rfl rfl (field_em0 _ _ _)
          simp only [Act.put, List.setIfInBounds_toArray, List.set_cons_zero, List.set_cons_succ]
          refine wpAnyH_take (i := 10) (oi := { dst := some 49, op := _, type := _, pos := _, after := _, guard := _ }) (v := .pointer (some ⟨b2, off2 + j * 26 + 1, none⟩)) rfl (by kernel_rfl) (by kernel_rfl) (by kernel_rfl) (fun _ _ _ h => h) (Or.inl ⟨by rfl, ?_⟩) (by assumption) ?_
          · intro w9 hSw
            exact y_field rfl rfl (field_dm1 _ _ _)
          simp only [Act.put, List.setIfInBounds_toArray, List.set_cons_zero, List.set_cons_succ]
          refine wpAnyH_take (i := 11) (oi := { dst := some 50, op := _, type := _, pos := _, after := _, guard := _ }) (v := .int .i64 x.n) rfl (by kernel_rfl) (by kernel_rfl) (by kernel_rfl) (fun _ _ _ h => h) (Or.inl ⟨by rfl, ?_⟩) (by assumption) ?_
          · intro w9 hSw
            exact y_load rfl rfl (load_int (range_n hSw))
          simp only [Act.put, List.setIfInBounds_toArray, List.set_cons_zero, List.set_cons_succ]
          refine wpAnyH_take (i := 12) (oi := { dst := some 51, op := _, type := _, pos := _, after := _, guard := _ }) (v := .pointer (some ⟨g + 1, r, none⟩)) rfl (by kernel_rfl) (by kernel_rfl) (by kernel_rfl) (fun _ _ _ h => h) (Or.inl ⟨by rfl, ?_⟩) (by assumption) ?_
          · intro w9 hSw
            exact y_index rfl rfl rfl (hiv _)
          simp only [Act.put, List.setIfInBounds_toArray, List.set_cons_zero, List.set_cons_succ]
          clear hHeld
          refine wpAnyH_ready (rs := [13]) (by kernel_rfl) (by simp) ?_
          refine AllReadyH.cons (o := { dst := none, op := _, type := _, pos := _, after := _, guard := _ }) rfl (fun K hK => ?_) AllReadyH.nil
          rw [if_pos (by rfl)]
          refine y_store (ty := 3) (x := .tmp 51) (y := .tmp 50) (ad := ⟨g + 1, r, none⟩) (v := .int .i64 x.n) (w' := wr.drew.setCell ⟨g + 1, r, none⟩ (.int .i64 x.n)) rfl rfl rfl hst ?_
          refine hK.out _ _ hS5 (fun hHeld => ?_)
          clear hK K
          simp only [Act.put]
          refine wpAnyH_done (by kernel_rfl) ?_ _
          refine NoPanic.normal ?_
          clear hHeld
          generalize wr.drew.setCell ⟨g + 1, r, none⟩ (.int .i64 x.n) = w5 at *
          go_wp2
          go_roundw
          case rel => exact ⟨j + 1, by omega, by go_num, HL5.out, HR5.out, HRT5.out⟩
          case measure => simp [intOf]; omega
        · have hjl' : ¬ (j : Int) < (T'.length : Int) := by omega
          have hjj : T'.take j = T' := List.take_of_length_le (by omega)
          rw [hjj, ← HO.out] at hLj
          obtain ⟨ao2, c2, hv2, hTe⟩ := hRj.evs hwT
          simp only [Value.slice.injEq, true_and] at hv2
          obtain ⟨rfl, rfl⟩ := hv2
          have hRT6 := hRTj
          have hlen6 : T.length + T'.length ≤ 1048576 := by have := HP.out.len; omega
          have hbase6 : g + 2 ≤ wr.heap.size := by have := hLj.vec.lt; omega
          have HL6 : Hid _ := hLj
          have HRT6 : Hid _ := hRTj
          clear hLj hRj hRTj
          go_wp2_with (refine wpList_appE rfl _ _ rfl (g + 2) _ T rfl hRT6 _ _ _ T' rfl hTe hlen6 hbase6 ?_)
          intro vt6 w6 hr6 hg6 hn6
          have HL7 : Hid _ := HL6.out.grow hg6 (fun k hk => ⟨by have := Row.own HRT6.out k hk; omega, (row_cells HRT6.out k hk).2⟩)
          have HR7 : Hid _ := hr6
          clear hr6 hg6 hn6 hRT6 hTe
          go_wp2
          go_roundw
          case rel => exact ⟨i + 1, m4, S', u, T ++ T', by omega, by go_num, HL7.out, HAP.out, HR7.out⟩
          case measure => simp [intOf]; omega
    · have hlt' : ¬ (i : Int) < (m : Int) := by omega
      have hLn := qlen_any g mm S wr hL.bf
      have HL : Hid _ := hL
      have HP : Hid _ := hP
      have HR : Hid _ := hR
      have hTw : ∀ x ∈ T, Wide x := fun x hx => (hP.told x hx).1
      obtain ⟨at', ct, hvt, -⟩ := hR.evs hTw
      have hTl : T.length ≤ 9600 := by have := hP.len; omega
      have hSl : S.length ≤ 64 := hP.buf.len
      clear hL hP hR HE
      subst hvt
      go_wp2_with fail
      refine Calls.mono hLn ?_
      rintro ex w8 ⟨rfl, hw8⟩
      obtain rfl := hw8.symm
      clear hLn
      go_wp2_with fail
      have hrel3 : Hid (∃ (q : Nat) (mm : Option Nat), (q : Int) ≤ t % 4 ∧ Value.int .u8 0 = .int .u8 (q : Int) ∧ Lq w g (g + 1) wr mm S v ∧ Row wr (g + 2) (.slice at' T.length ct) T) := ⟨0, mm, by omega, rfl, HL.out, HR.out⟩
      clear HL HR
      go_loopw [61] (fun c61 wz => ∃ (q : Nat) (mm : Option Nat), (q : Int) ≤ t % 4 ∧ c61 = .int .u8 (q : Int) ∧ Lq w g (g + 1) wz mm S v ∧ Row wz (g + 2) (.slice at' T.length ct) T) (fun c61 _ => 4 - (intOf c61).toNat)
      case atStart => exact hrel3.out
      case round =>
        clear hrel3
        obtain ⟨q, mq, hq, rfl, hLq, hRq⟩ := hrel
        have ht4 : t % 4 < 4 := by omega
        by_cases hql : (q : Int) < t % 4
        · have hrel4 : Hid (∃ (j : Nat) (mm : Option Nat), j ≤ T.length ∧ Value.int .i64 0 = .int .i64 (j : Int) ∧ Lq w g (g + 1) wr mm S v ∧ Row wr (g + 2) (.slice at' T.length ct) T) := ⟨0, mq, Nat.zero_le _, rfl, hLq, hRq⟩
          clear hLq hRq
          go_wp2_with fail
          go_loopw [65] (fun c65 wz => ∃ (j : Nat) (mm : Option Nat), j ≤ T.length ∧ c65 = .int .i64 (j : Int) ∧ Lq w g (g + 1) wz mm S v ∧ Row wz (g + 2) (.slice at' T.length ct) T) (fun c65 _ => T.length - (intOf c65).toNat)
          case atStart => exact hrel4.out
          case round =>
            clear hrel4
            obtain ⟨j, mj, hj, rfl, hLj, hRj⟩ := hrel
            by_cases hjl : j < T.length
            · have hjl' : (j : Int) < (T.length : Int) := by omega
              obtain ⟨ao2, c2, hv2, hTe⟩ := hRj.evs hTw
              simp only [Value.slice.injEq, true_and] at hv2
              obtain ⟨rfl, rfl⟩ := hv2
              obtain ⟨b2, off2, x, hao2, hxj, hwx, hrg2, hbl2⟩ := hTe.at hjl
              subst hao2
              have hx16 := hwx.1
              have hv16 := HP.out.vl
              have hLd := hLj.drew
              have hOf := offer_any g mj S x v hwx hv16 wr.drew hLd.bf HP.out.buf HP.out.wide
              have hb2 : g + 2 ≤ b2 := Row.own hRj b2 rfl
              have hRd : Row wr.drew (g + 2) (.slice (some ⟨b2, off2, none⟩) T.length ct) T := hRj
              have HLd : Hid _ := hLd
              have hrgd : wr.drew.rangeAt b2 (off2 + j * 26) (evl x) := hrg2
              have hvd : Lies wr.drew (g + 1) v := hLd.vec
              have HX : Hid (hasv v x.r x.n = true) := (HP.out.told x (List.mem_of_getElem? hxj)).2
              have hix2 := fun W : World => index_ev W (b := b2) (off := off2) (c := ct) hjl
              have HRD : Hid _ := hRd
              clear hLj hRj hTe hrg2 hLd hRd
              go_upto_region 23 with fail
              refine wp_region_noPanic ?_
              refine wp_region_held_drew (S := fun W' : World => W'.rangeAt b2 (off2 + j * 26) (evl x) ∧ Lies W' (g + 1) v) (by kernel_rfl) ⟨hrgd, hvd⟩ (fun hHeld => ?_)
              refine wpAnyH_take (i := 0) (oi := { dst := some 68, op := _, type := _, pos := _, after := _, guard := _ }) (v := .pointer (some ⟨g, 0, none⟩)) rfl (by kernel_rfl) (by kernel_rfl) (by kernel_rfl) (fun _ _ _ h => h) (Or.inl ⟨by rfl, ?_⟩) (by assumption) ?_
              · intro w9 hSw
                exact y_move rfl rfl
              simp only [Act.put, List.setIfInBounds_toArray, List.set_cons_zero, List.set_cons_succ]
              refine wpAnyH_take (i := 1) (oi := { dst := some 69, op := _, type := _, pos := _, after := _, guard := _ }) (v := .slice (some ⟨b2, off2, none⟩) T.length ct) rfl (by kernel_rfl) (by kernel_rfl) (by kernel_rfl) (fun _ _ _ h => h) (Or.inl ⟨by rfl, ?_⟩) (by assumption) ?_
              · intro w9 hSw
                exact y_move rfl rfl
              simp only [Act.put, List.setIfInBounds_toArray, List.set_cons_zero, List.set_cons_succ]
              refine wpAnyH_take (i := 2) (oi := { dst := some 70, op := _, type := _, pos := _, after := _, guard := _ }) (v := .int .i64 (j : Int)) rfl (by kernel_rfl) (by kernel_rfl) (by kernel_rfl) (fun _ _ _ h => h) (Or.inl ⟨by rfl, ?_⟩) (by assumption) ?_
              · intro w9 hSw
                exact y_move rfl rfl
              simp only [Act.put, List.setIfInBounds_toArray, List.set_cons_zero, List.set_cons_succ]
              refine wpAnyH_take (i := 3) (oi := { dst := some 71, op := _, type := _, pos := _, after := _, guard := _ }) (v := .pointer (some ⟨b2, off2 + j * 26, none⟩)) rfl (by kernel_rfl) (by kernel_rfl) (by kernel_rfl) (fun _ _ _ h => h) (Or.inl ⟨by rfl, ?_⟩) (by assumption) ?_
              · intro w9 hSw
                exact y_index rfl rfl rfl (hix2 _)
              simp only [Act.put, List.setIfInBounds_toArray, List.set_cons_zero, List.set_cons_succ]
              refine wpAnyH_take (i := 4) (oi := { dst := some 72, op := _, type := _, pos := _, after := _, guard := _ }) (v := .agg (evc x)) rfl (by kernel_rfl) (by kernel_rfl) (by kernel_rfl) (fun _ _ _ h => h) (Or.inl ⟨by rfl, ?_⟩) (by assumption) ?_
              · intro w9 hSw
                exact y_load rfl rfl (load_em hSw.1 hx16)
              simp only [Act.put, List.setIfInBounds_toArray, List.set_cons_zero, List.set_cons_succ]
              refine wpAnyH_take (i := 5) (oi := { dst := some 73, op := _, type := _, pos := _, after := _, guard := _ }) (v := .agg (vals v)) rfl (by kernel_rfl) (by kernel_rfl) (by kernel_rfl) (fun _ _ _ h => h) (Or.inl ⟨by rfl, ?_⟩) (by assumption) ?_
              · intro w9 hSw
                exact y_load rfl rfl (load_v hSw.2 hv16)
              simp only [Act.put, List.setIfInBounds_toArray, List.set_cons_zero, List.set_cons_succ]
              clear hHeld
              refine wpAnyH_ready (rs := [6]) (by kernel_rfl) (by simp) ?_
              refine AllReadyH.cons (o := { dst := some 74, op := _, type := _, pos := _, after := _, guard := _ }) rfl (fun K hK => ?_) AllReadyH.nil
              rw [if_pos (by rfl)]
              refine y_call (f := 11) (xs := [.tmp 68, .tmp 72, .tmp 73]) (vs := [.pointer (some ⟨g, 0, none⟩), .agg (evc x), .agg (vals v)]) rfl rfl (enters_offer _ _) hOf ?_
              rintro ex w4 ⟨vt, T', S', u, m4, rfl, hO, hu16, hr4, hB4, ht4⟩
              refine ⟨_, rfl, ?_⟩
              obtain ⟨rfl, rfl, rfl⟩ := hO.again HP.out.rest HX.out
              have hL4 := HLd.out.offer hB4 ht4
              have HR4 : Hid (Row w4 (g + 2) (.slice (some ⟨b2, off2, none⟩) T.length ct) T) := Row.tn HRD.out HLd.out.bf (by omega) ht4
              obtain ⟨ao4, c4, hv4, -⟩ := hr4.evs (fun _ h => by simp at h)
              subst hv4
              have hrg4 : w4.rangeAt b2 (off2 + j * 26) (evl x) := row_range HR4.out hTw hjl hxj
              have hLn := qlen_any g m4 S' w4 hL4.bf
              refine hK.out _ _ ⟨hrg4, hL4.vec⟩ (fun hHeld => ?_)
              clear hK K
              simp only [Act.put, List.setIfInBounds_toArray, List.set_cons_zero, List.set_cons_succ]
              refine wpAnyH_take (i := 7) (oi := { dst := some 75, op := _, type := _, pos := _, after := _, guard := _ }) (v := .int .i64 0) rfl (by kernel_rfl) (by kernel_rfl) (by kernel_rfl) (fun _ _ _ h => h) (Or.inl ⟨by rfl, ?_⟩) (by assumption) ?_
              · intro w9 hSw
                exact y_len rfl rfl
              simp only [Act.put, List.setIfInBounds_toArray, List.set_cons_zero, List.set_cons_succ]
              refine wpAnyH_take (i := 8) (oi := { dst := some 76, op := _, type := _, pos := _, after := _, guard := _ }) (v := .bool false) rfl (by kernel_rfl) (by kernel_rfl) (by kernel_rfl) (fun _ _ _ h => h) (Or.inl ⟨by rfl, ?_⟩) (by assumption) ?_
              · intro w9 hSw
                exact exec_bin rfl rfl rfl (eqGuard_ii _ _ _) (neq_i0 _)
              simp only [Act.put, List.setIfInBounds_toArray, List.set_cons_zero, List.set_cons_succ]
              refine wpAnyH_take (i := 9) (oi := { dst := some 77, op := _, type := _, pos := _, after := _, guard := _ }) (v := .bool false) rfl (by kernel_rfl) (by kernel_rfl) (by kernel_rfl) (fun _ _ _ h => h) (Or.inl ⟨by rfl, ?_⟩) (by assumption) ?_
              · intro w9 hSw
                exact y_move rfl rfl
              simp only [Act.put, List.setIfInBounds_toArray, List.set_cons_zero, List.set_cons_succ]
              refine wpAnyH_take (i := 10) (oi := { dst := some 78, op := _, type := _, pos := _, after := _, guard := _ }) (v := .pointer (some ⟨g, 0, none⟩)) rfl (by kernel_rfl) (by kernel_rfl) (by kernel_rfl) (fun _ _ _ h => h) (Or.inl ⟨by rfl, ?_⟩) (by assumption) ?_
              · intro w9 hSw
                exact y_move rfl rfl
              simp only [Act.put, List.setIfInBounds_toArray, List.set_cons_zero, List.set_cons_succ]
              refine wpAnyH_take (i := 12) (oi := { dst := some 80, op := _, type := _, pos := _, after := _, guard := _ }) (v := .int .i64 (S'.length : Int)) rfl (by kernel_rfl) (by kernel_rfl) (by kernel_rfl) (fun _ _ _ h => h) (Or.inl ⟨by rfl, ?_⟩) (by assumption) ?_
              · intro w9 hSw
                exact y_move rfl rfl
              simp only [Act.put, List.setIfInBounds_toArray, List.set_cons_zero, List.set_cons_succ]
              clear hHeld
              refine wpAnyH_ready (rs := [11]) (by kernel_rfl) (by simp) ?_
              refine AllReadyH.cons (o := { dst := some 79, op := _, type := _, pos := _, after := _, guard := _ }) rfl (fun K hK => ?_) AllReadyH.nil
              rw [if_pos (by rfl)]
              refine y_call (f := 13) (xs := [.tmp 78]) (vs := [.pointer (some ⟨g, 0, none⟩)]) rfl rfl (enters_qlen _ _) hLn ?_
              rintro ex w5 ⟨rfl, hw5⟩
              obtain rfl := hw5.symm
              refine ⟨_, rfl, ?_⟩
              refine hK.out _ _ ⟨hrg4, hL4.vec⟩ (fun hHeld => ?_)
              clear hK K
              simp only [Act.put, List.setIfInBounds_toArray, List.set_cons_zero, List.set_cons_succ]
              refine wpAnyH_take (i := 13) (oi := { dst := some 81, op := _, type := _, pos := _, after := _, guard := _ }) (v := .bool false) rfl (by kernel_rfl) (by kernel_rfl) (by kernel_rfl) (fun _ _ _ h => h) (Or.inl ⟨by rfl, ?_⟩) (by assumption) ?_
              · intro w9 hSw
                exact exec_bin rfl rfl rfl (eqGuard_ii _ _ _) (gtr_same _ _)
              simp only [Act.put, List.setIfInBounds_toArray, List.set_cons_zero, List.set_cons_succ]
              refine wpAnyH_take (i := 14) (oi := { dst := some 82, op := _, type := _, pos := _, after := _, guard := _ }) (v := .bool false) rfl (by kernel_rfl) (by kernel_rfl) (by kernel_rfl) (fun _ _ _ h => h) (Or.inl ⟨by rfl, ?_⟩) (by assumption) ?_
              · intro w9 hSw
                exact exec_pick (b := false) rfl rfl rfl rfl
              simp only [Act.put, List.setIfInBounds_toArray, List.set_cons_zero, List.set_cons_succ]
              refine wpAnyH_done (by kernel_rfl) ?_ _
              refine NoPanic.normal ?_
              clear hHeld
              go_wp2
              go_roundw
              case rel => exact ⟨j + 1, m4, by omega, by go_num, hL4, HR4.out⟩
              case measure => simp [intOf]; omega
            · have hjl' : ¬ (j : Int) < (T.length : Int) := by omega
              have HLj : Hid _ := hLj
              have HRj : Hid (Row wr (g + 2) (.slice at' T.length ct) T) := hRj
              clear hLj hRj
              go_wp2
              go_roundw
              case rel => exact ⟨q + 1, mj, by omega, by go_num, HLj.out, HRj.out⟩
              case measure => simp [intOf]; omega
        · have hql' : t % 4 ≤ (q : Int) := by omega
          go_wp2
          go_ret
          exact ⟨rfl, hLq.below⟩
end Go.Proofs.Ythpkpmcccpfabaa
