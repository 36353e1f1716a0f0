/-
  Pieces of lists; a list of numbers that came in.
-/
import Derived.Test.YthpkpmcccpfabaaQonG
import Derived.Deep.Slices
namespace Go.Proofs.Ythpkpmcccpfabaa
set_option maxRecDepth 100000
open Go.RowKit

theorem app_zero (w : World) (ty : TypeId) (a b : Addr) (k c : Nat) : (Builtin.append_ #[27, 27] ty #[.slice (some a) k k, .slice (some b) 0 c]).run Try.prog w = .ok (.slice (some a) k k) w := by
  simp [go_sem, Builtin.append_]
theorem Evs.take {w : World} {ao : Option Addr} {m c : Nat} {E : List Ev} (h : Evs w ao m c E) {i : Nat} (hi : i ≤ m) : Evs w ao i c (E.take i) := by
  have hl := h.len
  have hr := h.room
  refine ⟨by rw [List.length_take]; omega, by omega, h.top, fun e => ⟨by have := (h.zero e).1; omega, (h.zero e).2⟩, fun ad ha j u hu => ?_, fun e he => h.wide e (List.mem_of_mem_take he)⟩
  refine h.cells ad ha j u ?_
  have e1 : evs E = evs (E.take i) ++ evs (E.drop i) := by rw [← evs_append, List.take_append_drop]
  rw [e1, List.getElem?_append_left ((List.getElem?_eq_some_iff.1 hu).1)]
  exact hu
/-- From a place on. -/
def dropA (ao : Option Addr) (c k : Nat) : Option Addr := if c = k then ao else ao.map (·.add (k * 26))
theorem slice_from (w : World) {ao : Option Addr} {m c k : Nat} (hk : k ≤ m) : (Instr.sliceAt 27 (.slice ao m c) (some (.int .i64 (k : Int))) none none).run Try.prog w = .ok (.slice (dropA ao c k) (m - k) (c - k)) w := by
  have h2 : (k : Int) ≤ (m : Int) := by omega
  have hs : (sizeOf 44).run Try.prog w = .ok 26 w := Try.sizeOf44 w
  have ht : Try.prog.underlying 27 = some (.slice 44) := Try.underlying27
  have he : Try.prog.elem 27 = 44 := by kernel_rfl
  rw [run_sliceAt_slice w 27 _ _ _ _ (by rw [he]; exact ht), run_slice_l w 27 ao m c (by rw [he]; exact ht) .i64 (k : Int) (by omega) h2, he, hs, Result.andThen_ok]
  unfold sliced dropA
  simp
theorem Evs.drop {w : World} {ao : Option Addr} {m c : Nat} {E : List Ev} (h : Evs w ao m c E) {k : Nat} (hk : k ≤ m) : Evs w (dropA ao c k) (m - k) (c - k) (E.drop k) := by
  have hl := h.len
  have hr := h.room
  have ht := h.top
  refine ⟨by rw [List.length_drop]; omega, by omega, by omega, fun e => ?_, fun ad ha j u hu => ?_, fun e he => h.wide e (List.mem_of_mem_drop he)⟩
  · have : ao = none := by
      unfold dropA at e
      split at e
      · exact e
      · cases ao with
        | none => rfl
        | some _ => cases e
    have := h.zero this
    omega
  · have hlen : (evs (E.take k)).length = k * 26 := by
      rw [evs_length (fun e he => h.wide e (List.mem_of_mem_take he)), List.length_take]
      congr 1
      omega
    have e1 : evs E = evs (E.take k) ++ evs (E.drop k) := by rw [← evs_append, List.take_append_drop]
    have hjl := (List.getElem?_eq_some_iff.1 hu).1
    have hu2 : (evs E)[k * 26 + j]? = some u := by
      rw [e1, List.getElem?_append_right (by omega), hlen, show k * 26 + j - k * 26 = j by omega]
      exact hu
    by_cases hck : c = k
    · have : E.drop k = [] := List.drop_eq_nil_of_le (by omega)
      rw [this] at hu
      cases hu
    · unfold dropA at ha
      rw [if_neg hck] at ha
      cases ao with
      | none => cases ha
      | some a0 =>
        have ha' : a0.add (k * 26) = ad := by simpa using ha
        rw [← ha', Go.Deep.add_add]
        exact h.cells a0 rfl _ _ hu2
theorem run_build0 (w : World) : (Instr.buildSlice 27 0 #[]).run Try.prog w = .ok (.slice (some ⟨w.heap.size, 0, none⟩) 0 0) (w.alloc (.cells #[] 44)) := by
  obtain ⟨i0, hi, hz0, hz1, hz2⟩ := info_parts infoE
  have ht : Try.prog.underlying 27 = some (.slice 44) := Try.underlying27
  simp [Instr.buildSlice, run_underlying ht, sizeOf, typeInfo, hi, Instr.fill, newRow]
  have h0 : Array.range 0 = #[] := by apply Array.eq_empty_of_size_eq_zero; simp
  rw [h0, Array.map_empty]
theorem wp_build0 {o : Oper} {a : Act} {w w' : World} {K : Act → World → Prop} {Q : Exit → Act → World → Prop} {ty : TypeId} {n : Nat} {v : Value} (ho : o.op = .buildSlice ty n #[]) (hr : (Instr.buildSlice ty n #[]).run Try.prog w = .ok v w') (h : K (a.put o.dst v) w') : o.wp Try.prog a w K Q := by
  unfold Oper.wp execOp
  simp only [ho, List.map_toArray, List.map_nil, Sem.run_bind, Sem.run_pure, Result.andThen_ok, hr]
  exact h
theorem wpList_build0 {ops : Array Oper} {rest : List Oper} {o : Oper} {a : Act} {w : World} {Q : Exit → Act → World → Prop} (hw : Region.wanted o (yielded ops a.tmps) = true) (ho : o.op = .buildSlice 27 0 #[])
    (h : wpList Try.prog ops Q rest (a.put o.dst (.slice (some ⟨w.heap.size, 0, none⟩) 0 0)) (w.alloc (.cells #[] 44))) : wpList Try.prog ops Q (o :: rest) a w :=
  wpList_step fun K hK => by
    rw [if_pos hw]
    exact wp_build0 ho (run_build0 w) (hK _ _ h)
theorem slice_kk (w : World) {ao : Option Addr} {n c k : Nat} (hk : k ≤ c) : (Instr.sliceAt 27 (.slice ao n c) none (some (.int .i64 (k : Int))) (some (.int .i64 (k : Int)))).run Try.prog w = .ok (.slice ao k k) w := by
  have h2 : (k : Int) ≤ (c : Int) := by omega
  have h0 : (0 : Int) ≤ (k : Int) := by omega
  have hs : (Try.prog.info? 44).map (·.size) = some 26 := by kernel_rfl
  have ht : Try.prog.underlying 27 = some (.slice 44) := Try.underlying27
  have he : Try.prog.elem 27 = 44 := by kernel_rfl
  have hsz : (sizeOf 44).run Try.prog w = .ok 26 w := Try.sizeOf44 w
  rw [run_sliceAt_slice w 27 _ _ _ _ (by rw [he]; exact ht), run_slice_hm w 27 ao n c (by rw [he]; exact ht) .i64 .i64 (k : Int) (k : Int) h0 (Int.le_refl _) h2, he, hsz, Result.andThen_ok]
  unfold sliced
  simp
  cases ao with
  | none => simp
  | some ad => simp [Addr.add]
/-- Two lists, the first one full, are laid anew where the second one has something. -/
theorem run_join {w : World} {a : Addr} {k : Nat} {A F : List Ev} {ao : Option Addr} {m c : Nat} (hA : Evs w (some a) k k A) (hF : Evs w ao m c F) (hm : 0 < m) (hkm : k + m ≤ 1048576) (ty : TypeId) :
    ∃ c' w', (Builtin.append_ #[27, 27] ty #[.slice (some a) k k, .slice ao m c]).run Try.prog w = .ok (.slice (some ⟨w.heap.size, 0, none⟩) (k + m) c') w' ∧ Evs w' (some ⟨w.heap.size, 0, none⟩) (k + m) c' (A ++ F) ∧ Below w.heap.size w w' := by
  obtain ⟨i0, hi, hz0, hz1, hz2⟩ := info_parts infoE
  have ht : Try.prog.underlying 27 = some (.slice 44) := Try.underlying27
  cases ao with
  | none => have := (hF.zero rfl).1; omega
  | some b =>
    have hla : (evs A).length = k * 26 := by rw [evs_length hA.wide, hA.len]
    have hlf : (evs F).length = m * 26 := by rw [evs_length hF.wide, hF.len]
    have hr := run_append_grow (P := Try.prog) w 27 ty 44 i0 _ ht hi hz0 a k k (evs A) (by rw [hz1]; exact hla) (hA.cells a rfl) b m c (evs F) (by rw [hz1]; exact hlf) (hF.cells b rfl) (by omega) (by omega) (growslice_fits (by omega) (by rw [hz2]; omega))
    refine ⟨_, _, hr, ⟨by rw [List.length_append, hA.len, hF.len], grownCap_ge w _ _ _, grownCap_le_maxLen w _ _ _ (by unfold maxLen; omega), (fun h => by cases h), fun ad ha j u hu => ?_, fun e he => ?_⟩, ((Below.refl _ w).drew).alloc (Nat.le_refl _) _⟩
    · obtain rfl := Option.some.inj ha
      rw [Addr.add_mid, Nat.zero_add]
      refine (cell_of_row _ w.drew.heap.size j _ _ _ (heap_alloc_new w.drew _)).trans ?_
      rw [evs_append] at hu
      have hj := (List.getElem?_eq_some_iff.1 hu).1
      rw [Array.getElem?_append_left (by simp; simpa using hj)]
      simpa using hu
    · rcases List.mem_append.1 he with h | h
      · exact hA.wide e h
      · exact hF.wide e h
/-- One is cut out of a list that is laid anew, or cut off at its end. -/
theorem run_cutout {w : World} {a : Addr} {n c : Nat} {Ls : List Ev} (h : Evs w (some a) n c Ls) {k : Nat} (hk : k < n) (hn : n ≤ 64) (ty : TypeId) :
    ∃ a' c' w', (Builtin.append_ #[27, 27] ty #[.slice (some a) k k, .slice (dropA (some a) c (k + 1)) (n - (k + 1)) (c - (k + 1))]).run Try.prog w = .ok (.slice (some a') (n - 1) c') w' ∧ Evs w' (some a') (n - 1) c' (Ls.eraseIdx k) ∧ Below w.heap.size w w' ∧ (a' = a ∨ w.heap.size ≤ a'.block) := by
  have hd := h.drop (k := k + 1) (by omega)
  have ht0 := h.take (i := k) (by omega)
  have hA : Evs w (some a) k k (Ls.take k) := ⟨ht0.len, Nat.le_refl _, by have := h.top; have := h.room; omega, (fun e => by cases e), ht0.cells, ht0.wide⟩
  have he : Ls.take k ++ Ls.drop (k + 1) = Ls.eraseIdx k := (List.eraseIdx_eq_take_drop_succ Ls k).symm
  by_cases hm : n - (k + 1) = 0
  · obtain ⟨b, hb⟩ : ∃ b, dropA (some a) c (k + 1) = some b := by
      unfold dropA
      by_cases hc : c = k + 1
      · exact ⟨a, by rw [if_pos hc]⟩
      · exact ⟨_, by rw [if_neg hc]; rfl⟩
    have hnil : Ls.drop (k + 1) = [] := List.drop_eq_nil_of_le (by rw [h.len]; omega)
    rw [hnil, List.append_nil] at he
    refine ⟨a, k, w, ?_, ?_, Below.refl _ _, .inl rfl⟩
    · rw [hb, hm, app_zero, show n - 1 = k by omega]
    · rw [← he, show n - 1 = k by omega]; exact hA
  · obtain ⟨c', w', h1, h2, h3⟩ := run_join hA hd (by omega) (by omega) ty
    rw [he, show k + (n - (k + 1)) = n - 1 by omega] at h2
    rw [show k + (n - (k + 1)) = n - 1 by omega] at h1
    exact ⟨_, c', w', h1, h2, h3, .inr (Nat.le_refl _)⟩
/-- Numbers that came in. -/
def Uis (w : World) (a : Option Addr) (len : Nat) (O : Nat → Int) : Prop :=
  len ≤ maxLen ∧ (len = 0 ∨ ∃ b off, a = some ⟨b, off, none⟩ ∧ b < w.heap.size ∧ ∀ i, i < len → w.cell? ⟨b, off + i, none⟩ = some (.int .u64 (O i)) ∧ (Lit.int .u64 (O i)).wf = true)
section
variable {H : Type} {enc : TypeId × Value → H}
theorem open_uints {w : World} {a : Option Addr} {len cap : Nat} {d : DataW H} {ps : List MemPlace} (h : DataW.Trod enc Try.prog w 0 (fun _ => true) true 52 (.slice a len cap) d ps) :
    ∃ O, Uis w a len O := by
  obtain ⟨fuel, hf⟩ := h
  have ce : Try.prog.cellsOf 53 = 1 := by kernel_rfl
  rcases Go.Deep.open_slice1 Try.underlying52 ce hf with ⟨hcs, _⟩ | ⟨x, l, c, m, n, V, D, Pl, hcs, hb, hl, hm, hmm, hx, hall⟩
  · simp [Value.cells] at hcs
    exact ⟨fun _ => 0, by rw [hcs.2.1]; exact Nat.zero_le _, .inl hcs.2.1⟩
  · simp [Value.cells] at hcs
    obtain ⟨rfl, rfl, rfl⟩ := hcs
    simp only [if_true] at hmm
    subst hmm
    have key : ∀ i, i < m → ∃ o : Int, w.cell? (x.add i) = some (.int .u64 o) ∧ (Lit.int .u64 o).wf = true := by
      intro i hi
      obtain ⟨h1, h2⟩ := hall i hi
      obtain ⟨o, h3, -, h4⟩ := DataW.trod_int Try.underlying53 h2
      simp only [List.cons.injEq, and_true] at h3
      exact ⟨o, by rw [h1, h3], h4⟩
    obtain ⟨O, hO⟩ := @Go.Deep.choose_lt Int ⟨0⟩ _ _ key
    refine ⟨O, by omega, ?_⟩
    by_cases h0 : len = 0
    · exact .inl h0
    · right
      obtain ⟨b, off, spot⟩ := x
      have h00 := (hO 0 (by omega)).1
      have hs : spot = none := by simpa [Addr.add] using World.cell?_spot h00
      subst hs
      refine ⟨b, off, rfl, ?_, fun i hi => ?_⟩
      · exact World.block_lt_of_cell? w _ (by rw [Addr.add_lit] at h00; exact h00)
      · have := hO i (by omega)
        rw [Addr.add_lit] at this
        exact this
end
end Go.Proofs.Ythpkpmcccpfabaa

namespace Go.Proofs.Ythpkpmcccpfabaa
set_option maxRecDepth 100000
open Go.RowKit

/-- The set so far. -/
structure SetP (i : Nat) (Es : List Ev) : Prop where
  chain : Chain Es zeros
  ok : ∀ e ∈ Es, okev e = true ∧ Wide e
  len : Es.length ≤ i
theorem SetP.start : SetP 0 [] := ⟨Chain.nil _, fun _ h => by simp at h, by simp⟩
theorem SetP.skip {i : Nat} {Es : List Ev} (h : SetP i Es) : SetP (i + 1) Es := ⟨h.chain, h.ok, by have := h.len; omega⟩
theorem SetP.snoc {i : Nat} {Es : List Ev} {e : Ev} (h : SetP i Es) (ho : okev e = true) (hw : Wide e) (hm : mayE e (vs Es zeros) = true) : SetP (i + 1) (Es ++ [e]) :=
  ⟨h.chain.snoc hm, fun x hx => by
    rcases List.mem_append.1 hx with hx | hx
    · exact h.ok x hx
    · rw [List.mem_singleton.1 hx]; exact ⟨ho, hw⟩, by have := h.len; rw [List.length_append, List.length_singleton]; omega⟩
theorem SetP.small {i : Nat} {Es : List Ev} (h : SetP i Es) : Small (vs Es zeros) := h.chain.small small_zeros (fun e he => okev_dot (h.ok e he).1)
theorem SetP.good {i : Nat} {Es : List Ev} (h : SetP i Es) (hi : i ≤ 64) : Good Es := ⟨h.chain, fun e he => (h.ok e he).1, fun e he => (h.ok e he).2.1, Nat.le_trans h.len hi⟩
/-- What comes, and what is left. -/
structure MixP (Es : List Ev) (i : Nat) (C L : List Ev) : Prop where
  come : ∀ x ∈ C, x ∈ Es
  left : ∀ x ∈ L, x ∈ Es
  all : ∀ x ∈ Es, x ∈ C ∨ x ∈ L
  cl : C.length ≤ i
  ll : L.length ≤ 64
theorem MixP.start {Es : List Ev} (h : Es.length ≤ 64) : MixP Es 0 [] Es := ⟨fun _ h => by simp at h, fun _ h => h, fun _ h => .inr h, by simp, h⟩
theorem MixP.twice {Es C L : List Ev} {i k : Nat} {e : Ev} (h : MixP Es i C L) (he : L[k]? = some e) : MixP Es (i + 1) (C ++ [e]) L := by
  have hm := List.mem_of_getElem? he
  refine ⟨fun x hx => ?_, h.left, fun x hx => ?_, ?_, h.ll⟩
  · rcases List.mem_append.1 hx with hx | hx
    · exact h.come x hx
    · rw [List.mem_singleton.1 hx]; exact h.left e hm
  · rcases h.all x hx with hx | hx
    · exact .inl (List.mem_append_left _ hx)
    · exact .inr hx
  · have := h.cl; rw [List.length_append, List.length_singleton]; omega
theorem MixP.once {Es C L : List Ev} {i k : Nat} {e : Ev} (h : MixP Es i C L) (he : L[k]? = some e) : MixP Es (i + 1) (C ++ [e]) (L.eraseIdx k) := by
  have h2 := h.twice he
  have hp := erase_perm he
  refine ⟨h2.come, fun x hx => h.left x (hp.mem_iff.1 (List.mem_cons_of_mem _ hx)), fun x hx => ?_, h2.cl, ?_⟩
  · rcases h.all x hx with hx | hx
    · exact .inl (List.mem_append_left _ hx)
    · rcases List.mem_cons.1 (hp.mem_iff.2 hx) with hx | hx
      · exact .inl (by rw [hx]; exact List.mem_append_right _ (by simp))
      · exact .inr hx
  · have := hp.length_eq
    have := h.ll
    simp only [List.length_cons] at *
    omega
/-- What lies there in the first loop. -/
structure L1 (w : World) (B : Nat) (c5 : Value) (Es : List Ev) (wr : World) : Prop where
  below : Below w.heap.size w wr
  vec : Lies wr B (vs Es zeros)
  row : Row wr (B + 1) c5 Es
theorem L1.next {w : World} {B : Nat} {c5 : Value} {Es : List Ev} {wr w' : World} (h : L1 w B c5 Es wr) (hb : Below wr.heap.size wr w') : L1 w B c5 Es w' :=
  ⟨h.below.trans (hb.mono h.below.size), h.vec.below hb h.vec.lt, h.row.below hb (Nat.le_refl _)⟩
/-- What lies there in the second loop. -/
structure L2 (w : World) (B : Nat) (c8 : Value) (C : List Ev) (a9 : Option Addr) (c9 : Nat) (L : List Ev) (u : List Int) (wr : World) : Prop where
  below : Below w.heap.size w wr
  vec : Lies wr B u
  come : Row wr (B + 1) c8 C
  left : Evs wr a9 L.length c9 L
  apart : ∀ k ad, c8.ownBlock = some k → a9 = some ad → ad.block ≠ k
  new : ∀ ad, a9 = some ad → 0 < L.length → B + 1 ≤ ad.block ∧ ad.block < wr.heap.size
theorem L2.next {w : World} {B : Nat} {c8 : Value} {C : List Ev} {a9 : Option Addr} {c9 : Nat} {L : List Ev} {u : List Int} {wr w' : World} (h : L2 w B c8 C a9 c9 L u wr) (hb : Below wr.heap.size wr w') : L2 w B c8 C a9 c9 L u w' :=
  ⟨h.below.trans (hb.mono h.below.size), h.vec.below hb h.vec.lt, h.come.below hb (Nat.le_refl _), h.left.below hb (Nat.le_refl _), h.apart, fun ad ha hl => ⟨(h.new ad ha hl).1, Nat.lt_of_lt_of_le (h.new ad ha hl).2 hb.size⟩⟩
/-- One more comes. -/
theorem L2.app {w : World} {B : Nat} {c8 v8 : Value} {C C' : List Ev} {a9 : Option Addr} {c9 : Nat} {L : List Ev} {u : List Int} {wr w' : World} (h : L2 w B c8 C a9 c9 L u wr) (hBw : w.heap.size ≤ B) (hr : Row w' (B + 1) v8 C') (hg : wr.grownBy w' c8.ownBlock) (hn : ∀ k, v8.ownBlock = some k → c8.ownBlock = some k ∨ wr.heap.size ≤ k) (hl : 0 < L.length) : L2 w B v8 C' a9 c9 L u w' := by
  have ho : ∀ k, k ≤ B → some k ≠ c8.ownBlock := fun k hk e => by have := Row.own h.come k e.symm; omega
  refine ⟨h.below.grown hg h.below.size (fun k hk => by have := Row.own h.come k hk; omega), ?_, hr, h.left.kept fun _ ad ha => ?_, fun k ad hk ha => ?_, fun ad ha hl => ⟨(h.new ad ha hl).1, Nat.lt_of_lt_of_le (h.new ad ha hl).2 hg.size⟩⟩
  · rw [Lies, hg.block B h.vec.lt (ho B (Nat.le_refl _))]; exact h.vec
  · exact hg.block _ (h.new ad ha hl).2 (fun e => h.apart _ ad e.symm ha rfl)
  · rcases hn k hk with h1 | h1
    · exact h.apart k ad h1 ha
    · have := (h.new ad ha hl).2; omega
theorem Come.tl {E C T S : List Ev} {v : List Int} (h : Come E C T S v) (hE : Good E) : T.length ≤ 64 :=
  Nat.le_trans (sub_len T E (Chain.apart rfl T h.chain (fun e he => hE.dots e (h.told e he))) h.told) hE.len
theorem most_same (v : List Int) : most v v = true := (most_spec v v).2 fun _ _ => Int.le_refl _
theorem way_same (v : List Int) : way v v = 0 := by unfold way; simp
theorem wpList_eqlv {P : Program} {ops : Array Oper} {rest : List Oper} {o : Oper} {a : Act} {w : World} {Q : Exit → Act → World → Prop} {x y : Operand} {t r : TypeId} {vx vy v : Value} (hw : Region.wanted o (yielded ops a.tmps) = true) (ho : o.op = .binOp .eql t x y r) (hx : a.eval x = vx) (hy : a.eval y = vy) (hg : (eqGuard .eql t x y vx vy).run P w = .ok () w) (hv : (binOp .eql t vx vy).run P w = .ok v w) (hK : wpList P ops Q rest (a.put o.dst v) w) : wpList P ops Q (o :: rest) a w := by
  refine wpList_step fun K hK' => ?_
  rw [if_pos hw]
  unfold Oper.wp execOp
  simp only [ho, hx, hy, Sem.run_bind, hg, hv, Result.andThen_ok, Sem.run_pure]
  exact hK' _ _ hK
theorem rem_of (x : Int) (n : Nat) (hn : 0 < n) (h : (Lit.int .u64 x).wf = true) : ∃ k : Nat, x.tmod (n : Int) = (k : Int) ∧ k < n := by
  have h0 : 0 ≤ x := by
    simp [Lit.wf, IntKind.min, IntKind.max, IntKind.signed] at h
    omega
  rw [Int.tmod_eq_emod_of_nonneg h0]
  have h1 := Int.emod_nonneg x (show (n : Int) ≠ 0 by omega)
  have h2 := Int.emod_lt_of_pos x (show (0 : Int) < (n : Int) by omega)
  exact ⟨(x % (n : Int)).toNat, by omega, by omega⟩
theorem add_k (w : World) (k : Nat) (hk : k ≤ 1048576) : (binOp .add 3 (.int .i64 (k : Int)) (.int .i64 1)).run Try.prog w = .ok (.int .i64 ((k + 1 : Nat) : Int)) w := by
  rw [add_one', show IntKind.i64.wrap ((k : Int) + 1) = ((k + 1 : Nat) : Int) by simp [IntKind.wrap, IntKind.signed, IntKind.bits]; omega]
set_option maxHeartbeats 8000000 in
theorem lall_walk (ao : Option Addr) (m c : Nat) (E : List Ev) (ao2 : Option Addr) (m2 c2 : Nat) (O : Nat → Int) (w : World) (hE : Evs w ao m c E) (hO : Uis w ao2 m2 O) : Calls Try.prog 5 #[.slice ao m c, .slice ao2 m2 c2] w fun ex w' => ex = .returned (.bool true) ∧ Below w.heap.size w w' := by
  have hA := qawake_any w
  have htop := hE.top
  have hroom := hE.room
  have hm63 : m ≤ 9223372036854775807 := by unfold maxLen at htop; omega
  have hm263 : m2 ≤ 9223372036854775807 := by have := hO.1; unfold maxLen at this; omega
  by_cases hm : 64 < m
  · have hm' : (64 : Int) < (m : Int) := by omega
    clear hE hO
    go_enter Try.func5, Try.ntmps5
    go_wp2_with fail
    refine Calls.mono hA ?_
    rintro ex w1 ⟨rfl, hb1⟩
    have hA1 := qawake_any w1
    go_wp2_with fail
    refine Calls.mono hA1 ?_
    rintro ex w2 ⟨rfl, hb2⟩
    go_wp2
    go_ret
    exact ⟨rfl, hb1.trans (hb2.mono hb1.size)⟩
  have hm' : ¬ (64 : Int) < (m : Int) := by omega
  go_enter Try.func5, Try.ntmps5
  go_wp2_with fail
  refine Calls.mono hA ?_
  rintro ex w1 ⟨rfl, hb1⟩
  obtain ⟨B, hB⟩ : ∃ B, w1.heap.size = B := ⟨_, rfl⟩
  have hBw : w.heap.size ≤ B := by rw [← hB]; exact hb1.size
  have hL0 : L1 w B (.slice none 0 0) [] (w1.alloc (.cells (vals zeros) 40)) := ⟨hb1.alloc hb1.size _, by rw [← hB]; exact lies_new w1 zeros, World.ownsRow_nil _ _ _ _⟩
  have hzz : w1.alloc (.cells #[.int .i64 0, .int .i64 0, .int .i64 0, .int .i64 0, .int .i64 0, .int .i64 0, .int .i64 0, .int .i64 0, .int .i64 0, .int .i64 0, .int .i64 0, .int .i64 0, .int .i64 0, .int .i64 0, .int .i64 0, .int .i64 0] 40) = w1.alloc (.cells (vals zeros) 40) := by rw [zeros_vals]
  generalize hW2 : w1.alloc (.cells (vals zeros) 40) = W2 at *
  have hrel0 : Hid (∃ (i : Nat) (Es : List Ev), i ≤ m ∧ Value.int .i64 0 = .int .i64 (i : Int) ∧ SetP i Es ∧ L1 w B (.slice none 0 0) Es W2) := ⟨0, [], Nat.zero_le _, rfl, SetP.start, hL0⟩
  have HE : Hid (Evs w ao m c E) := hE
  have HU : Hid (Uis w ao2 m2 O) := hO
  clear hL0 hb1 hA hE hO hW2
  go_wp2_with fail
  go_loopw [5, 28] (fun c5 c28 wr => ∃ (i : Nat) (Es : List Ev), i ≤ m ∧ c28 = .int .i64 (i : Int) ∧ SetP i Es ∧ L1 w B c5 Es wr) (fun _ c28 _ => m - (intOf c28).toNat)
  case atStart => exact hrel0.out
  case round =>
    clear hrel0 hzz
    obtain ⟨i, Es, hi, rfl, hP, hL⟩ := hrel
    by_cases hlt : i < m
    · have hlt' : (i : Int) < (m : Int) := by omega
      obtain ⟨b, off, e, hao, hei, hwe, hrg, hbw⟩ := HE.out.at hlt
      have he16 := hwe.1
      subst hao
      obtain ⟨v, hv⟩ : ∃ v, vs Es zeros = v := ⟨_, rfl⟩
      have hv16 : v.length = 16 := by rw [← hv, vs_length]; rfl
      have hfit : Fit v := by rw [← hv]; exact hP.small.fit
      have HP : Hid _ := hP
      have hLd : L1 w B u5 Es wr.drew := hL.next (Below.refl _ _).drew
      have HLd : Hid _ := hLd
      have hrgd : wr.drew.rangeAt b (off + i * 26) (evl e) := range_below hrg hLd.below hbw
      have hvd : Lies wr.drew B v := by rw [← hv]; exact hLd.vec
      have hix := fun W : World => index_ev W (b := b) (off := off) (c := c) hlt
      have hRi := reright_any e he16 wr.drew
      clear hL hP hLd
      cases hok : okev e
      · rw [hok] at hRi
        go_upto_region 8 with fail
        refine wp_region_noPanic ?_
        refine wp_region_held_drew (S := fun W' : World => W'.rangeAt b (off + i * 26) (evl e) ∧ Lies W' B v) (by kernel_rfl) ⟨hrgd, hvd⟩ (fun hHeld => ?_)
        refine wpAnyH_take (i := 0) (oi := { dst := some 31, op := _, type := _, pos := _, after := _, guard := _ }) (v := .slice (some ⟨b, off, none⟩) m c) rfl (by kernel_rfl) (by kernel_rfl) (by kernel_rfl) (fun _ _ _ h => h) (Or.inl ⟨by rfl, ?_⟩) (by assumption) ?_
        · intro w9 hSw
          exact y_move rfl rfl
        simp only [Act.put, List.setIfInBounds_toArray, List.set_cons_zero, List.set_cons_succ]
        refine wpAnyH_take (i := 1) (oi := { dst := some 32, op := _, type := _, pos := _, after := _, guard := _ }) (v := .int .i64 (i : Int)) rfl (by kernel_rfl) (by kernel_rfl) (by kernel_rfl) (fun _ _ _ h => h) (Or.inl ⟨by rfl, ?_⟩) (by assumption) ?_
        · intro w9 hSw
          exact y_move rfl rfl
        simp only [Act.put, List.setIfInBounds_toArray, List.set_cons_zero, List.set_cons_succ]
        refine wpAnyH_take (i := 2) (oi := { dst := some 33, op := _, type := _, pos := _, after := _, guard := _ }) (v := .pointer (some ⟨b, off + i * 26, none⟩)) rfl (by kernel_rfl) (by kernel_rfl) (by kernel_rfl) (fun _ _ _ h => h) (Or.inl ⟨by rfl, ?_⟩) (by assumption) ?_
        · intro w9 hSw
          exact y_index rfl rfl rfl (hix _)
        simp only [Act.put, List.setIfInBounds_toArray, List.set_cons_zero, List.set_cons_succ]
        refine wpAnyH_take (i := 3) (oi := { dst := some 34, op := _, type := _, pos := _, after := _, guard := _ }) (v := .agg (evc e)) rfl (by kernel_rfl) (by kernel_rfl) (by kernel_rfl) (fun _ _ _ h => h) (Or.inl ⟨by rfl, ?_⟩) (by assumption) ?_
        · intro w9 hSw
          exact y_load rfl rfl (load_em hSw.1 he16)
        simp only [Act.put, List.setIfInBounds_toArray, List.set_cons_zero, List.set_cons_succ]
        clear hHeld
        refine wpAnyH_ready (rs := [4]) (by kernel_rfl) (by simp) ?_
        refine AllReadyH.cons (o := { dst := some 35, op := _, type := _, pos := _, after := _, guard := _ }) rfl (fun K hK => ?_) AllReadyH.nil
        rw [if_pos (by rfl)]
        refine y_call (f := 14) (xs := [.tmp 34]) (vs := [.agg (evc e)]) rfl rfl (enters_reright _ _) hRi ?_
        rintro ex w4 ⟨rfl, hbA⟩
        refine ⟨_, rfl, ?_⟩
        have HL4 : Hid (L1 w B u5 Es w4) := HLd.out.next hbA
        have hS4 : w4.rangeAt b (off + i * 26) (evl e) ∧ Lies w4 B v := ⟨range_below hrg HL4.out.below hbw, by rw [← hv]; exact HL4.out.vec⟩
        refine hK.out _ _ hS4 (fun hHeld => ?_)
        clear hK K
        simp only [Act.put, List.setIfInBounds_toArray, List.set_cons_zero, List.set_cons_succ]
        refine wpAnyH_take (i := 5) (oi := { dst := some 36, op := _, type := _, pos := _, after := _, guard := _ }) (v := .bool false) rfl (by kernel_rfl) (by kernel_rfl) (by kernel_rfl) (fun _ _ _ h => h) (Or.inl ⟨by rfl, ?_⟩) (by assumption) ?_
        · intro w9 hSw
          exact y_move rfl rfl
        simp only [Act.put, List.setIfInBounds_toArray, List.set_cons_zero, List.set_cons_succ]
        refine wpAnyH_take (i := 6) (oi := { dst := some 37, op := _, type := _, pos := _, after := _, guard := _ }) (v := undef) rfl (by kernel_rfl) (by kernel_rfl) (by kernel_rfl) (fun _ _ _ h => h) (Or.inr ⟨by rfl, rfl⟩) (by assumption) ?_
        simp only [Act.put, List.setIfInBounds_toArray, List.set_cons_zero, List.set_cons_succ]
        refine wpAnyH_take (i := 7) (oi := { dst := some 38, op := _, type := _, pos := _, after := _, guard := _ }) (v := undef) rfl (by kernel_rfl) (by kernel_rfl) (by kernel_rfl) (fun _ _ _ h => h) (Or.inr ⟨by rfl, rfl⟩) (by assumption) ?_
        simp only [Act.put, List.setIfInBounds_toArray, List.set_cons_zero, List.set_cons_succ]
        refine wpAnyH_take (i := 8) (oi := { dst := some 39, op := _, type := _, pos := _, after := _, guard := _ }) (v := undef) rfl (by kernel_rfl) (by kernel_rfl) (by kernel_rfl) (fun _ _ _ h => h) (Or.inr ⟨by rfl, rfl⟩) (by assumption) ?_
        simp only [Act.put, List.setIfInBounds_toArray, List.set_cons_zero, List.set_cons_succ]
        refine wpAnyH_take (i := 9) (oi := { dst := some 40, op := _, type := _, pos := _, after := _, guard := _ }) (v := undef) rfl (by kernel_rfl) (by kernel_rfl) (by kernel_rfl) (fun _ _ _ h => h) (Or.inr ⟨by rfl, rfl⟩) (by assumption) ?_
        simp only [Act.put, List.setIfInBounds_toArray, List.set_cons_zero, List.set_cons_succ]
        refine wpAnyH_take (i := 10) (oi := { dst := some 41, op := _, type := _, pos := _, after := _, guard := _ }) (v := undef) rfl (by kernel_rfl) (by kernel_rfl) (by kernel_rfl) (fun _ _ _ h => h) (Or.inr ⟨by rfl, rfl⟩) (by assumption) ?_
        simp only [Act.put, List.setIfInBounds_toArray, List.set_cons_zero, List.set_cons_succ]
        refine wpAnyH_take (i := 11) (oi := { dst := some 42, op := _, type := _, pos := _, after := _, guard := _ }) (v := undef) rfl (by kernel_rfl) (by kernel_rfl) (by kernel_rfl) (fun _ _ _ h => h) (Or.inr ⟨by rfl, rfl⟩) (by assumption) ?_
        simp only [Act.put, List.setIfInBounds_toArray, List.set_cons_zero, List.set_cons_succ]
        refine wpAnyH_take (i := 12) (oi := { dst := some 43, op := _, type := _, pos := _, after := _, guard := _ }) (v := .bool false) rfl (by kernel_rfl) (by kernel_rfl) (by kernel_rfl) (fun _ _ _ h => h) (Or.inl ⟨by rfl, ?_⟩) (by assumption) ?_
        · intro w9 hSw
          exact exec_pick (b := false) rfl rfl rfl rfl
        simp only [Act.put, List.setIfInBounds_toArray, List.set_cons_zero, List.set_cons_succ]
        refine wpAnyH_done (by kernel_rfl) ?_ _
        refine NoPanic.normal ?_
        clear hHeld
        go_wp2
        go_roundw
        case rel => exact ⟨i + 1, Es, by omega, by go_num, HP.out.skip, HL4.out⟩
        case measure => simp [intOf]; omega
      · rw [hok] at hRi
        have hde := okev_dot hok
        have hMy := fun W : World => rmay_any e v hwe hde hv16 hfit W
        cases hmay : mayE e v
        · rw [hmay] at hMy
          go_upto_region 8 with fail
          refine wp_region_noPanic ?_
          refine wp_region_held_drew (S := fun W' : World => W'.rangeAt b (off + i * 26) (evl e) ∧ Lies W' B v) (by kernel_rfl) ⟨hrgd, hvd⟩ (fun hHeld => ?_)
          refine wpAnyH_take (i := 0) (oi := { dst := some 31, op := _, type := _, pos := _, after := _, guard := _ }) (v := .slice (some ⟨b, off, none⟩) m c) rfl (by kernel_rfl) (by kernel_rfl) (by kernel_rfl) (fun _ _ _ h => h) (Or.inl ⟨by rfl, ?_⟩) (by assumption) ?_
          · intro w9 hSw
            exact y_move rfl rfl
          simp only [Act.put, List.setIfInBounds_toArray, List.set_cons_zero, List.set_cons_succ]
          refine wpAnyH_take (i := 1) (oi := { dst := some 32, op := _, type := _, pos := _, after := _, guard := _ }) (v := .int .i64 (i : Int)) rfl (by kernel_rfl) (by kernel_rfl) (by kernel_rfl) (fun _ _ _ h => h) (Or.inl ⟨by rfl, ?_⟩) (by assumption) ?_
          · intro w9 hSw
            exact y_move rfl rfl
          simp only [Act.put, List.setIfInBounds_toArray, List.set_cons_zero, List.set_cons_succ]
          refine wpAnyH_take (i := 2) (oi := { dst := some 33, op := _, type := _, pos := _, after := _, guard := _ }) (v := .pointer (some ⟨b, off + i * 26, none⟩)) rfl (by kernel_rfl) (by kernel_rfl) (by kernel_rfl) (fun _ _ _ h => h) (Or.inl ⟨by rfl, ?_⟩) (by assumption) ?_
          · intro w9 hSw
            exact y_index rfl rfl rfl (hix _)
          simp only [Act.put, List.setIfInBounds_toArray, List.set_cons_zero, List.set_cons_succ]
          refine wpAnyH_take (i := 3) (oi := { dst := some 34, op := _, type := _, pos := _, after := _, guard := _ }) (v := .agg (evc e)) rfl (by kernel_rfl) (by kernel_rfl) (by kernel_rfl) (fun _ _ _ h => h) (Or.inl ⟨by rfl, ?_⟩) (by assumption) ?_
          · intro w9 hSw
            exact y_load rfl rfl (load_em hSw.1 he16)
          simp only [Act.put, List.setIfInBounds_toArray, List.set_cons_zero, List.set_cons_succ]
          clear hHeld
          refine wpAnyH_ready (rs := [4]) (by kernel_rfl) (by simp) ?_
          refine AllReadyH.cons (o := { dst := some 35, op := _, type := _, pos := _, after := _, guard := _ }) rfl (fun K hK => ?_) AllReadyH.nil
          rw [if_pos (by rfl)]
          refine y_call (f := 14) (xs := [.tmp 34]) (vs := [.agg (evc e)]) rfl rfl (enters_reright _ _) hRi ?_
          rintro ex w4 ⟨rfl, hbA⟩
          refine ⟨_, rfl, ?_⟩
          have HL4 : Hid (L1 w B u5 Es w4) := HLd.out.next hbA
          have hS4 : w4.rangeAt b (off + i * 26) (evl e) ∧ Lies w4 B v := ⟨range_below hrg HL4.out.below hbw, by rw [← hv]; exact HL4.out.vec⟩
          refine hK.out _ _ hS4 (fun hHeld => ?_)
          clear hK K
          simp only [Act.put, List.setIfInBounds_toArray, List.set_cons_zero, List.set_cons_succ]
          refine wpAnyH_take (i := 5) (oi := { dst := some 36, op := _, type := _, pos := _, after := _, guard := _ }) (v := .bool true) rfl (by kernel_rfl) (by kernel_rfl) (by kernel_rfl) (fun _ _ _ h => h) (Or.inl ⟨by rfl, ?_⟩) (by assumption) ?_
          · intro w9 hSw
            exact y_move rfl rfl
          simp only [Act.put, List.setIfInBounds_toArray, List.set_cons_zero, List.set_cons_succ]
          refine wpAnyH_take (i := 6) (oi := { dst := some 37, op := _, type := _, pos := _, after := _, guard := _ }) (v := .slice (some ⟨b, off, none⟩) m c) rfl (by kernel_rfl) (by kernel_rfl) (by kernel_rfl) (fun _ _ _ h => h) (Or.inl ⟨by rfl, ?_⟩) (by assumption) ?_
          · intro w9 hSw
            exact y_move rfl rfl
          simp only [Act.put, List.setIfInBounds_toArray, List.set_cons_zero, List.set_cons_succ]
          refine wpAnyH_take (i := 7) (oi := { dst := some 38, op := _, type := _, pos := _, after := _, guard := _ }) (v := .int .i64 (i : Int)) rfl (by kernel_rfl) (by kernel_rfl) (by kernel_rfl) (fun _ _ _ h => h) (Or.inl ⟨by rfl, ?_⟩) (by assumption) ?_
          · intro w9 hSw
            exact y_move rfl rfl
          simp only [Act.put, List.setIfInBounds_toArray, List.set_cons_zero, List.set_cons_succ]
          refine wpAnyH_take (i := 8) (oi := { dst := some 39, op := _, type := _, pos := _, after := _, guard := _ }) (v := .pointer (some ⟨b, off + i * 26, none⟩)) rfl (by kernel_rfl) (by kernel_rfl) (by kernel_rfl) (fun _ _ _ h => h) (Or.inl ⟨by rfl, ?_⟩) (by assumption) ?_
          · intro w9 hSw
            exact y_index rfl rfl rfl (hix _)
          simp only [Act.put, List.setIfInBounds_toArray, List.set_cons_zero, List.set_cons_succ]
          refine wpAnyH_take (i := 9) (oi := { dst := some 40, op := _, type := _, pos := _, after := _, guard := _ }) (v := .agg (evc e)) rfl (by kernel_rfl) (by kernel_rfl) (by kernel_rfl) (fun _ _ _ h => h) (Or.inl ⟨by rfl, ?_⟩) (by assumption) ?_
          · intro w9 hSw
            exact y_load rfl rfl (load_em hSw.1 he16)
          simp only [Act.put, List.setIfInBounds_toArray, List.set_cons_zero, List.set_cons_succ]
          refine wpAnyH_take (i := 10) (oi := { dst := some 41, op := _, type := _, pos := _, after := _, guard := _ }) (v := .agg (vals v)) rfl (by kernel_rfl) (by kernel_rfl) (by kernel_rfl) (fun _ _ _ h => h) (Or.inl ⟨by rfl, ?_⟩) (by assumption) ?_
          · intro w9 hSw
            exact y_load rfl rfl (load_v hSw.2 hv16)
          simp only [Act.put, List.setIfInBounds_toArray, List.set_cons_zero, List.set_cons_succ]
          clear hHeld
          refine wpAnyH_ready (rs := [11]) (by kernel_rfl) (by simp) ?_
          refine AllReadyH.cons (o := { dst := some 42, op := _, type := _, pos := _, after := _, guard := _ }) rfl (fun K hK => ?_) AllReadyH.nil
          rw [if_pos (by rfl)]
          refine y_call (f := 15) (xs := [.tmp 40, .tmp 41]) (vs := [.agg (evc e), .agg (vals v)]) rfl rfl (enters_rmay _ _) (hMy _) ?_
          rintro ex w5 ⟨rfl, hbB⟩
          refine ⟨_, rfl, ?_⟩
          have HL5 : Hid (L1 w B u5 Es w5) := HL4.out.next hbB
          have hS5a : w5.rangeAt b (off + i * 26) (evl e) ∧ Lies w5 B v := ⟨range_below hrg HL5.out.below hbw, by rw [← hv]; exact HL5.out.vec⟩
          refine hK.out _ _ hS5a (fun hHeld => ?_)
          clear hK K
          simp only [Act.put, List.setIfInBounds_toArray, List.set_cons_zero, List.set_cons_succ]
          refine wpAnyH_take (i := 12) (oi := { dst := some 43, op := _, type := _, pos := _, after := _, guard := _ }) (v := .bool false) rfl (by kernel_rfl) (by kernel_rfl) (by kernel_rfl) (fun _ _ _ h => h) (Or.inl ⟨by rfl, ?_⟩) (by assumption) ?_
          · intro w9 hSw
            exact exec_pick (b := true) rfl rfl rfl rfl
          simp only [Act.put, List.setIfInBounds_toArray, List.set_cons_zero, List.set_cons_succ]
          refine wpAnyH_done (by kernel_rfl) ?_ _
          refine NoPanic.normal ?_
          clear hHeld
          go_wp2
          go_roundw
          case rel => exact ⟨i + 1, Es, by omega, by go_num, HP.out.skip, HL5.out⟩
          case measure => simp [intOf]; omega
        · rw [hmay] at hMy
          go_upto_region 8 with fail
          refine wp_region_noPanic ?_
          refine wp_region_held_drew (S := fun W' : World => W'.rangeAt b (off + i * 26) (evl e) ∧ Lies W' B v) (by kernel_rfl) ⟨hrgd, hvd⟩ (fun hHeld => ?_)
          refine wpAnyH_take (i := 0) (oi := { dst := some 31, op := _, type := _, pos := _, after := _, guard := _ }) (v := .slice (some ⟨b, off, none⟩) m c) rfl (by kernel_rfl) (by kernel_rfl) (by kernel_rfl) (fun _ _ _ h => h) (Or.inl ⟨by rfl, ?_⟩) (by assumption) ?_
          · intro w9 hSw
            exact y_move rfl rfl
          simp only [Act.put, List.setIfInBounds_toArray, List.set_cons_zero, List.set_cons_succ]
          refine wpAnyH_take (i := 1) (oi := { dst := some 32, op := _, type := _, pos := _, after := _, guard := _ }) (v := .int .i64 (i : Int)) rfl (by kernel_rfl) (by kernel_rfl) (by kernel_rfl) (fun _ _ _ h => h) (Or.inl ⟨by rfl, ?_⟩) (by assumption) ?_
          · intro w9 hSw
            exact y_move rfl rfl
          simp only [Act.put, List.setIfInBounds_toArray, List.set_cons_zero, List.set_cons_succ]
          refine wpAnyH_take (i := 2) (oi := { dst := some 33, op := _, type := _, pos := _, after := _, guard := _ }) (v := .pointer (some ⟨b, off + i * 26, none⟩)) rfl (by kernel_rfl) (by kernel_rfl) (by kernel_rfl) (fun _ _ _ h => h) (Or.inl ⟨by rfl, ?_⟩) (by assumption) ?_
          · intro w9 hSw
            exact y_index rfl rfl rfl (hix _)
          simp only [Act.put, List.setIfInBounds_toArray, List.set_cons_zero, List.set_cons_succ]
          refine wpAnyH_take (i := 3) (oi := { dst := some 34, op := _, type := _, pos := _, after := _, guard := _ }) (v := .agg (evc e)) rfl (by kernel_rfl) (by kernel_rfl) (by kernel_rfl) (fun _ _ _ h => h) (Or.inl ⟨by rfl, ?_⟩) (by assumption) ?_
          · intro w9 hSw
            exact y_load rfl rfl (load_em hSw.1 he16)
          simp only [Act.put, List.setIfInBounds_toArray, List.set_cons_zero, List.set_cons_succ]
          clear hHeld
          refine wpAnyH_ready (rs := [4]) (by kernel_rfl) (by simp) ?_
          refine AllReadyH.cons (o := { dst := some 35, op := _, type := _, pos := _, after := _, guard := _ }) rfl (fun K hK => ?_) AllReadyH.nil
          rw [if_pos (by rfl)]
          refine y_call (f := 14) (xs := [.tmp 34]) (vs := [.agg (evc e)]) rfl rfl (enters_reright _ _) hRi ?_
          rintro ex w4 ⟨rfl, hbA⟩
          refine ⟨_, rfl, ?_⟩
          have HL4 : Hid (L1 w B u5 Es w4) := HLd.out.next hbA
          have hS4 : w4.rangeAt b (off + i * 26) (evl e) ∧ Lies w4 B v := ⟨range_below hrg HL4.out.below hbw, by rw [← hv]; exact HL4.out.vec⟩
          refine hK.out _ _ hS4 (fun hHeld => ?_)
          clear hK K
          simp only [Act.put, List.setIfInBounds_toArray, List.set_cons_zero, List.set_cons_succ]
          refine wpAnyH_take (i := 5) (oi := { dst := some 36, op := _, type := _, pos := _, after := _, guard := _ }) (v := .bool true) rfl (by kernel_rfl) (by kernel_rfl) (by kernel_rfl) (fun _ _ _ h => h) (Or.inl ⟨by rfl, ?_⟩) (by assumption) ?_
          · intro w9 hSw
            exact y_move rfl rfl
          simp only [Act.put, List.setIfInBounds_toArray, List.set_cons_zero, List.set_cons_succ]
          refine wpAnyH_take (i := 6) (oi := { dst := some 37, op := _, type := _, pos := _, after := _, guard := _ }) (v := .slice (some ⟨b, off, none⟩) m c) rfl (by kernel_rfl) (by kernel_rfl) (by kernel_rfl) (fun _ _ _ h => h) (Or.inl ⟨by rfl, ?_⟩) (by assumption) ?_
          · intro w9 hSw
            exact y_move rfl rfl
          simp only [Act.put, List.setIfInBounds_toArray, List.set_cons_zero, List.set_cons_succ]
          refine wpAnyH_take (i := 7) (oi := { dst := some 38, op := _, type := _, pos := _, after := _, guard := _ }) (v := .int .i64 (i : Int)) rfl (by kernel_rfl) (by kernel_rfl) (by kernel_rfl) (fun _ _ _ h => h) (Or.inl ⟨by rfl, ?_⟩) (by assumption) ?_
          · intro w9 hSw
            exact y_move rfl rfl
          simp only [Act.put, List.setIfInBounds_toArray, List.set_cons_zero, List.set_cons_succ]
          refine wpAnyH_take (i := 8) (oi := { dst := some 39, op := _, type := _, pos := _, after := _, guard := _ }) (v := .pointer (some ⟨b, off + i * 26, none⟩)) rfl (by kernel_rfl) (by kernel_rfl) (by kernel_rfl) (fun _ _ _ h => h) (Or.inl ⟨by rfl, ?_⟩) (by assumption) ?_
          · intro w9 hSw
            exact y_index rfl rfl rfl (hix _)
          simp only [Act.put, List.setIfInBounds_toArray, List.set_cons_zero, List.set_cons_succ]
          refine wpAnyH_take (i := 9) (oi := { dst := some 40, op := _, type := _, pos := _, after := _, guard := _ }) (v := .agg (evc e)) rfl (by kernel_rfl) (by kernel_rfl) (by kernel_rfl) (fun _ _ _ h => h) (Or.inl ⟨by rfl, ?_⟩) (by assumption) ?_
          · intro w9 hSw
            exact y_load rfl rfl (load_em hSw.1 he16)
          simp only [Act.put, List.setIfInBounds_toArray, List.set_cons_zero, List.set_cons_succ]
          refine wpAnyH_take (i := 10) (oi := { dst := some 41, op := _, type := _, pos := _, after := _, guard := _ }) (v := .agg (vals v)) rfl (by kernel_rfl) (by kernel_rfl) (by kernel_rfl) (fun _ _ _ h => h) (Or.inl ⟨by rfl, ?_⟩) (by assumption) ?_
          · intro w9 hSw
            exact y_load rfl rfl (load_v hSw.2 hv16)
          simp only [Act.put, List.setIfInBounds_toArray, List.set_cons_zero, List.set_cons_succ]
          clear hHeld
          refine wpAnyH_ready (rs := [11]) (by kernel_rfl) (by simp) ?_
          refine AllReadyH.cons (o := { dst := some 42, op := _, type := _, pos := _, after := _, guard := _ }) rfl (fun K hK => ?_) AllReadyH.nil
          rw [if_pos (by rfl)]
          refine y_call (f := 15) (xs := [.tmp 40, .tmp 41]) (vs := [.agg (evc e), .agg (vals v)]) rfl rfl (enters_rmay _ _) (hMy _) ?_
          rintro ex w5 ⟨rfl, hbB⟩
          refine ⟨_, rfl, ?_⟩
          have HL5 : Hid (L1 w B u5 Es w5) := HL4.out.next hbB
          have hS5a : w5.rangeAt b (off + i * 26) (evl e) ∧ Lies w5 B v := ⟨range_below hrg HL5.out.below hbw, by rw [← hv]; exact HL5.out.vec⟩
          refine hK.out _ _ hS5a (fun hHeld => ?_)
          clear hK K
          simp only [Act.put, List.setIfInBounds_toArray, List.set_cons_zero, List.set_cons_succ]
          refine wpAnyH_take (i := 12) (oi := { dst := some 43, op := _, type := _, pos := _, after := _, guard := _ }) (v := .bool true) rfl (by kernel_rfl) (by kernel_rfl) (by kernel_rfl) (fun _ _ _ h => h) (Or.inl ⟨by rfl, ?_⟩) (by assumption) ?_
          · intro w9 hSw
            exact exec_pick (b := true) rfl rfl rfl rfl
          simp only [Act.put, List.setIfInBounds_toArray, List.set_cons_zero, List.set_cons_succ]
          refine wpAnyH_done (by kernel_rfl) ?_ _
          refine NoPanic.normal ?_
          clear hHeld
          have HP2 : Hid (SetP (i + 1) (Es ++ [e])) := HP.out.snoc hok hwe (by rw [hv]; exact hmay)
          have hrow5 : Row (w5.alloc (.cells (evc e) 44)) (B + 1) u5 Es := HL5.out.row.below ((Below.refl _ _).alloc (Nat.le_refl _) _) (Nat.le_refl _)
          have hF5 : Evs (w5.alloc (.cells (evc e) 44)) (some ⟨w5.heap.size, 0, none⟩) 1 1 [e] := evs_single _ _ e hwe (liesE_new w5 e)
          have hle5 : B + 1 ≤ (w5.alloc (.cells (evc e) 44)).heap.size := by have := HL5.out.vec.lt; simp; omega
          have hll5 : Es.length + 1 ≤ 1048576 := by have := HP.out.len; omega
          have hrg5 := range_below hrg HL5.out.below hbw
          have HL6 : Hid (L1 w B u5 Es (w5.alloc (.cells (evc e) 44))) := HL5.out.next ((Below.refl _ _).alloc (Nat.le_refl _) _)
          go_wp2_with (first
            | refine load_ev_mid rfl rfl rfl hrg5 he16 ?_
            | refine build_ev1 rfl rfl rfl he16 ?_
            | refine wpList_appE rfl _ _ rfl (B + 1) _ Es rfl hrow5 _ 1 1 [e] rfl hF5 hll5 hle5 ?_)
          intro vt6 w6 hr6 hg6 hn6
          have hV6 : Lies w6 B v := by
            rw [Lies, hg6.block B (by have := HL6.out.vec.lt; exact this) (fun e1 => by have := Row.own hrow5 B e1.symm; omega), ← hv]; exact HL6.out.vec
          have hB6 : Below w.heap.size w w6 := HL6.out.below.grown hg6 HL6.out.below.size (fun k hk => by have := Row.own hrow5 k hk; omega)
          have HR6 : Hid (Row w6 (B + 1) vt6 (Es ++ [e])) := hr6
          clear hr6 hg6 hn6 hrow5 hF5 HL6 hle5
          have hdx := hde
          simp only [okdot, decide_eq_true_eq] at hdx
          obtain ⟨r, hr⟩ : ∃ r : Nat, e.r = (r : Int) := ⟨e.r.toNat, by omega⟩
          have hr16 : r < 16 := by omega
          have hV6d : Lies w6.drew B v := hV6
          have hB6d : Below w.heap.size w w6.drew := hB6.drew
          have hcu := hV6d.cell (k := r) (by omega)
          have hfu := hV6d.frozen (k := r)
          have hst := st_int (v := .int .i64 e.n) hcu hfu rfl ⟨_, rfl⟩
          have hrd : w6.drew.rangeAt b (off + i * 26) (evl e) := range_below hrg hB6d hbw
          have hB7 : Below w.heap.size w (w6.drew.setCell ⟨B, r, none⟩ (.int .i64 e.n)) := hB6d.setCell (p := ⟨B, r, none⟩) (by show _ ≤ B; omega) _
          have hS5 := range_below hrg hB7 hbw
          have hiv := fun W : World => index_vv W B 0 r hr16
          simp only [Nat.zero_add] at hiv
          have hrr : ∀ W : World, W.rangeAt b (off + i * 26) (evl e) → W.cell? ⟨b, off + i * 26, none⟩ = some (.int .i64 (r : Int)) := fun W h => by rw [range_r h, hr]
          have HL7 : Hid (L1 w B vt6 (Es ++ [e]) (w6.drew.setCell ⟨B, r, none⟩ (.int .i64 e.n))) := ⟨hB7, by
            have := hV6d.set (k := r) e.n
            rw [vs_snoc, hv, show seeV v e = v.set r e.n by unfold seeV; rw [hr]; rfl]
            exact this, Row.set (w := w6.drew) HR6.out (by omega) _⟩
          go_upto_region 10 with fail
          refine wp_region_noPanic ?_
          refine wp_region_held_drew (S := fun W' : World => W'.rangeAt b (off + i * 26) (evl e)) (by kernel_rfl) hrd (fun hHeld => ?_)
          refine wpAnyH_take (i := 0) (oi := { dst := some 51, op := _, type := _, pos := _, after := _, guard := _ }) (v := .slice (some ⟨b, off, none⟩) m c) rfl (by kernel_rfl) (by kernel_rfl) (by kernel_rfl) (fun _ _ _ h => h) (Or.inl ⟨by rfl, ?_⟩) (by assumption) ?_
          · intro w9 hSw
            exact y_move rfl rfl
          simp only [Act.put, List.setIfInBounds_toArray, List.set_cons_zero, List.set_cons_succ]
          refine wpAnyH_take (i := 1) (oi := { dst := some 52, op := _, type := _, pos := _, after := _, guard := _ }) (v := .int .i64 (i : Int)) rfl (by kernel_rfl) (by kernel_rfl) (by kernel_rfl) (fun _ _ _ h => h) (Or.inl ⟨by rfl, ?_⟩) (by assumption) ?_
          · intro w9 hSw
            exact y_move rfl rfl
          simp only [Act.put, List.setIfInBounds_toArray, List.set_cons_zero, List.set_cons_succ]
          refine wpAnyH_take (i := 2) (oi := { dst := some 53, op := _, type := _, pos := _, after := _, guard := _ }) (v := .pointer (some ⟨b, off + i * 26, none⟩)) rfl (by kernel_rfl) (by kernel_rfl) (by kernel_rfl) (fun _ _ _ h => h) (Or.inl ⟨by rfl, ?_⟩) (by assumption) ?_
          · intro w9 hSw
            exact y_index rfl rfl rfl (hix _)
          simp only [Act.put, List.setIfInBounds_toArray, List.set_cons_zero, List.set_cons_succ]
          refine wpAnyH_take (i := 3) (oi := { dst := some 54, op := _, type := _, pos := _, after := _, guard := _ }) (v := .pointer (some ⟨b, off + i * 26, none⟩)) rfl (by kernel_rfl) (by kernel_rfl) (by kernel_rfl) (fun _ _ _ h => h) (Or.inl ⟨by rfl, ?_⟩) (by assumption) ?_
          · intro w9 hSw
            exact y_field rfl rfl (field_em0 _ _ _)
          simp only [Act.put, List.setIfInBounds_toArray, List.set_cons_zero, List.set_cons_succ]
          refine wpAnyH_take (i := 4) (oi := { dst := some 55, op := _, type := _, pos := _, after := _, guard := _ }) (v := .pointer (some ⟨b, off + i * 26, none⟩)) rfl (by kernel_rfl) (by kernel_rfl) (by kernel_rfl) (fun _ _ _ h => h) (Or.inl ⟨by rfl, ?_⟩) (by assumption) ?_
          · intro w9 hSw
            exact y_field rfl rfl (field_dm0 _ _ _)
          simp only [Act.put, List.setIfInBounds_toArray, List.set_cons_zero, List.set_cons_succ]
          refine wpAnyH_take (i := 5) (oi := { dst := some 56, op := _, type := _, pos := _, after := _, guard := _ }) (v := .int .i64 (r : Int)) rfl (by kernel_rfl) (by kernel_rfl) (by kernel_rfl) (fun _ _ _ h => h) (Or.inl ⟨by rfl, ?_⟩) (by assumption) ?_
          · intro w9 hSw
            exact y_load rfl rfl (load_int (hrr _ hSw))
          simp only [Act.put, List.setIfInBounds_toArray, List.set_cons_zero, List.set_cons_succ]
          refine wpAnyH_take (i := 6) (oi := { dst := some 57, op := _, type := _, pos := _, after := _, guard := _ }) (v := .slice (some ⟨b, off, none⟩) m c) rfl (by kernel_rfl) (by kernel_rfl) (by kernel_rfl) (fun _ _ _ h => h) (Or.inl ⟨by rfl, ?_⟩) (by assumption) ?_
          · intro w9 hSw
            exact y_move rfl rfl
          simp only [Act.put, List.setIfInBounds_toArray, List.set_cons_zero, List.set_cons_succ]
          refine wpAnyH_take (i := 7) (oi := { dst := some 58, op := _, type := _, pos := _, after := _, guard := _ }) (v := .int .i64 (i : Int)) rfl (by kernel_rfl) (by kernel_rfl) (by kernel_rfl) (fun _ _ _ h => h) (Or.inl ⟨by rfl, ?_⟩) (by assumption) ?_
          · intro w9 hSw
            exact y_move rfl rfl
          simp only [Act.put, List.setIfInBounds_toArray, List.set_cons_zero, List.set_cons_succ]
          refine wpAnyH_take (i := 8) (oi := { dst := some 59, op := _, type := _, pos := _, after := _, guard := _ }) (v := .pointer (some ⟨b, off + i * 26, none⟩)) rfl (by kernel_rfl) (by kernel_rfl) (by kernel_rfl) (fun _ _ _ h => h) (Or.inl ⟨by rfl, ?_⟩) (by assumption) ?_
          · intro w9 hSw
            exact y_index rfl rfl rfl (hix _)
          simp only [Act.put, List.setIfInBounds_toArray, List.set_cons_zero, List.set_cons_succ]
          refine wpAnyH_take (i := 9) (oi := { dst := some 60, op := _, type := _, pos := _, after := _, guard := _ }) (v := .pointer (some ⟨b, off + i * 26, none⟩)) rfl (by kernel_rfl) (by kernel_rfl) (by kernel_rfl) (fun _ _ _ h => h) (Or.inl ⟨by rfl, ?_⟩) (by assumption) ?_
          · intro w9 hSw
            exact y_field rfl rfl (field_em0 _ _ _)
          simp only [Act.put, List.setIfInBounds_toArray, List.set_cons_zero, List.set_cons_succ]
          refine wpAnyH_take (i := 10) (oi := { dst := some 61, op := _, type := _, pos := _, after := _, guard := _ }) (v := .pointer (some ⟨b, off + i * 26 + 1, none⟩)) rfl (by kernel_rfl) (by kernel_rfl) (by kernel_rfl) (fun _ _ _ h => h) (Or.inl ⟨by rfl, ?_⟩) (by assumption) ?_
          · intro w9 hSw
            exact y_field rfl rfl (field_dm1 _ _ _)
          simp only [Act.put, List.setIfInBounds_toArray, List.set_cons_zero, List.set_cons_succ]
          refine wpAnyH_take (i := 11) (oi := { dst := some 62, op := _, type := _, pos := _, after := _, guard := _ }) (v := .int .i64 e.n) rfl (by kernel_rfl) (by kernel_rfl) (by kernel_rfl) (fun _ _ _ h => h) (Or.inl ⟨by rfl, ?_⟩) (by assumption) ?_
          · intro w9 hSw
            exact y_load rfl rfl (load_int (range_n hSw))
          simp only [Act.put, List.setIfInBounds_toArray, List.set_cons_zero, List.set_cons_succ]
          refine wpAnyH_take (i := 12) (oi := { dst := some 63, op := _, type := _, pos := _, after := _, guard := _ }) (v := .pointer (some ⟨B, r, none⟩)) rfl (by kernel_rfl) (by kernel_rfl) (by kernel_rfl) (fun _ _ _ h => h) (Or.inl ⟨by rfl, ?_⟩) (by assumption) ?_
          · intro w9 hSw
            exact y_index rfl rfl rfl (hiv _)
          simp only [Act.put, List.setIfInBounds_toArray, List.set_cons_zero, List.set_cons_succ]
          clear hHeld
          refine wpAnyH_ready (rs := [13]) (by kernel_rfl) (by simp) ?_
          refine AllReadyH.cons (o := { dst := none, op := _, type := _, pos := _, after := _, guard := _ }) rfl (fun K hK => ?_) AllReadyH.nil
          rw [if_pos (by rfl)]
          refine y_store (ty := 3) (x := .tmp 63) (y := .tmp 62) (ad := ⟨B, r, none⟩) (v := .int .i64 e.n) (w' := w6.drew.setCell ⟨B, r, none⟩ (.int .i64 e.n)) rfl rfl rfl hst ?_
          refine hK.out _ _ hS5 (fun hHeld => ?_)
          clear hK K
          simp only [Act.put]
          refine wpAnyH_done (by kernel_rfl) ?_ _
          refine NoPanic.normal ?_
          clear hHeld
          generalize w6.drew.setCell ⟨B, r, none⟩ (.int .i64 e.n) = w7 at *
          go_wp2
          go_roundw
          case rel => exact ⟨i + 1, Es ++ [e], by omega, by go_num, HP2.out, HL7.out⟩
          case measure => simp [intOf]; omega
    · have hlt' : ¬ (i : Int) < (m : Int) := by omega
      have hG : Good Es := hP.good (by omega)
      have HG : Hid _ := hG
      have hwE : ∀ e ∈ Es, Wide e := fun e he => (hP.ok e he).2
      obtain ⟨aS, cs', hvs, hEs⟩ := hL.row.evs hwE
      have hElen : Es.length ≤ 64 := hG.len
      subst hvs
      have hrow0 := row_empty wr (B + 1) (by have := hL.vec.lt; omega)
      have hEs0 := hEs.below (B := wr.heap.size) ((Below.refl _ wr).alloc (Nat.le_refl _) (.cells #[] 44)) (Nat.le_refl _)
      have hsz0 : B + 1 ≤ (wr.alloc (.cells #[] 44)).heap.size := by have := hL.vec.lt; simp; omega
      have HL : Hid (L1 w B (.slice aS Es.length cs') Es (wr.alloc (.cells #[] 44))) := hL.next ((Below.refl _ wr).alloc (Nat.le_refl _) _)
      have h0l : ([] : List Ev).length + Es.length ≤ 1048576 := by simp; omega
      clear hL hP HE hEs hG
      go_wp2_with (first | refine wpList_build0 rfl rfl ?_ | refine wpList_appE rfl _ _ rfl (B + 1) _ [] rfl hrow0 _ _ _ Es rfl hEs0 h0l hsz0 ?_)
      intro v9 w9 hr9 hg9 hn9
      obtain ⟨a9, c9, hv9, hE9⟩ := hr9.evs hwE
      obtain ⟨u, hu⟩ : ∃ u, vs Es zeros = u := ⟨_, rfl⟩
      have HU1 : Hid (vs Es zeros = u) := hu
      have hL2 : L2 w B (.slice none 0 0) [] a9 c9 Es u w9 := by
        have ho : ∀ k, k ≤ B → some k ≠ Value.ownBlock (.slice (some ⟨wr.heap.size, 0, none⟩) 0 0) := fun k hk e => by
          have := Row.own hrow0 k e.symm; omega
        refine ⟨HL.out.below.grown hg9 HL.out.below.size (fun k hk => by have := Row.own hrow0 k hk; omega), ?_, World.ownsRow_nil _ _ _ _, hE9, (fun k ad hk => by cases hk), fun ad ha hl => ?_⟩
        · rw [← hu, Lies, hg9.block B HL.out.vec.lt (ho B (Nat.le_refl _))]; exact HL.out.vec
        · have h1 : v9.ownBlock = some ad.block := by rw [hv9, ha]; rfl
          exact ⟨Row.own hr9 _ h1, (World.ownsRow.lt hr9 _ h1).2⟩
      have hrel2 : Hid (∃ (i : Nat) (C L : List Ev) (a9 : Option Addr) (c9 : Nat), i ≤ m2 ∧ i ≤ 150 ∧ Value.int .i64 0 = .int .i64 (i : Int) ∧ v9 = .slice a9 L.length c9 ∧ MixP Es i C L ∧ L2 w B (.slice none 0 0) C a9 c9 L u w9) := ⟨0, [], Es, a9, c9, Nat.zero_le _, by omega, rfl, hv9, MixP.start hElen, hL2⟩
      clear hL2 hr9 hg9 hn9 hE9 HL hrow0 hEs0 hsz0 hu
      subst hv9
      go_wp2_with fail
      go_loopw [8, 9, 70] (fun c8 c9v c70 wz => ∃ (i : Nat) (C L : List Ev) (a9 : Option Addr) (c9 : Nat), i ≤ m2 ∧ i ≤ 150 ∧ c70 = .int .i64 (i : Int) ∧ c9v = .slice a9 L.length c9 ∧ MixP Es i C L ∧ L2 w B c8 C a9 c9 L u wz) (fun _ _ c70 _ => m2 - (intOf c70).toNat)
      case atStart => exact hrel2.out
      case round =>
        clear hrel2
        obtain ⟨i, C, L, a9, c9, hi2, hi150, rfl, rfl, hMx, hL⟩ := hrel
        have hLl := hMx.ll
        by_cases hlt2 : i < m2
        · have hlt2' : (i : Int) < (m2 : Int) := by omega
          by_cases hi15 : 150 ≤ i
          · have hi15' : (150 : Int) ≤ (i : Int) := by omega
            go_upto_region 23 with fail
            have hCE : ∀ x ∈ C ++ L, x ∈ Es := fun x hx => by
              rcases List.mem_append.1 hx with hx | hx
              · exact hMx.come x hx
              · exact hMx.left x hx
            have hEC0 : ∀ x ∈ Es, x ∈ C ++ L := fun x hx => by
              rcases hMx.all x hx with hx | hx
              · exact List.mem_append_left _ hx
              · exact List.mem_append_right _ hx
            have hlen8 : C.length + L.length ≤ 1048576 := by have := hMx.cl; omega
            have hClen : (C ++ L).length ≤ 1000 := by have := hMx.cl; rw [List.length_append]; omega
            have hrow8 := hL.come
            have hEl := hL.left
            have hbase8 : B + 1 ≤ wr.heap.size := by have := hL.vec.lt; omega
            have HL : Hid _ := hL
            clear hL hMx HU
            go_wp2_with (refine wpList_appE rfl _ _ rfl (B + 1) _ C rfl hrow8 _ _ _ L rfl hEl hlen8 hbase8 ?_)
            intro v10 w10 hr10 hg10 hn10
            have hV10 : Lies w10 B u := by
              rw [Lies, hg10.block B HL.out.vec.lt (fun e1 => by have := Row.own hrow8 B e1.symm; omega)]; exact HL.out.vec
            have hB10 : Below w.heap.size w w10 := HL.out.below.grown hg10 HL.out.below.size (fun k hk => by have := Row.own hrow8 k hk; omega)
            clear hn10 hg10 HL hrow8 hEl
            obtain ⟨Cs, hCs⟩ : ∃ Cs, C ++ L = Cs := ⟨_, rfl⟩
            rw [hCs] at hr10 hCE hEC0 hClen
            have hwC : ∀ e ∈ Cs, Wide e := fun e he => hwE e (hCE e he)
            obtain ⟨aoc, cc, hvc, hEC⟩ := hr10.evs hwC
            subst hvc
            have HEC : Hid (Evs w10 aoc Cs.length cc Cs) := hEC
            have HEA : Hid (∀ x ∈ Es, x ∈ Cs) := hEC0
            have HV10 : Hid (Lies w10 B u) := hV10
            have HB10 : Hid (Below w.heap.size w w10) := hB10
            have hN := qnew_any w10
            have hF0 := bf_new w10
            have hb2 : Below w10.heap.size w10 (w10.alloc (.cells #[.map none] 34)) := (Below.refl _ _).alloc (Nat.le_refl _) _
            have hs2 := World.size_alloc w10 (.cells #[.map none] 34)
            generalize w10.alloc (.cells #[.map none] 34) = w2 at *
            obtain ⟨g, hg⟩ : ∃ g, w10.heap.size = g := ⟨_, rfl⟩
            rw [hg] at hN hF0 hs2
            have hL0 : Lq w10 g (g + 1) (w2.alloc (.cells (vals zeros) 40)) none [] zeros := by
              have hb3 : Below w2.heap.size w2 (w2.alloc (.cells (vals zeros) 40)) := (Below.refl _ _).alloc (Nat.le_refl _) _
              refine ⟨hb2.trans (hb3.mono (by omega)), hF0.below hb3, ?_, by omega, by omega, fun k e => by cases e⟩
              rw [← hs2]; exact lies_new w2 zeros
            have hzz : w2.alloc (.cells #[.int .i64 0, .int .i64 0, .int .i64 0, .int .i64 0, .int .i64 0, .int .i64 0, .int .i64 0, .int .i64 0, .int .i64 0, .int .i64 0, .int .i64 0, .int .i64 0, .int .i64 0, .int .i64 0, .int .i64 0, .int .i64 0] 40) = w2.alloc (.cells (vals zeros) 40) := by rw [zeros_vals]
            generalize hW3 : w2.alloc (.cells (vals zeros) 40) = W3 at *
            have hrel3 : Hid (∃ (i : Nat) (mm : Option Nat) (S : List Ev) (v : List Int) (T : List Ev), i ≤ Cs.length ∧ Value.int .i64 0 = .int .i64 (i : Int) ∧ Value.int .i64 0 = .int .i64 (T.length : Int) ∧ Lq w10 g (g + 1) W3 mm S v ∧ Come Es (Cs.take i) T S v) := ⟨0, none, [], zeros, [], Nat.zero_le _, rfl, rfl, hL0, Come.start Es⟩
            clear hL0 hF0 hb2 hEC hEC0 hV10 hB10 hW3 hr10 hCs
            go_wp2_with fail
            refine Calls.mono hN ?_
            rintro ex w2' ⟨rfl, hw2⟩
            obtain rfl := hw2.symm
            go_wp2_with fail
            go_loopw [14, 118] (fun c14 c118 wz => ∃ (i : Nat) (mm : Option Nat) (S : List Ev) (v : List Int) (T : List Ev), i ≤ Cs.length ∧ c118 = .int .i64 (i : Int) ∧ c14 = .int .i64 (T.length : Int) ∧ Lq w10 g (g + 1) wz mm S v ∧ Come Es (Cs.take i) T S v) (fun _ c118 _ => Cs.length - (intOf c118).toNat)
            case atStart => exact hrel3.out
            case round =>
              clear hrel3 hzz hN
              obtain ⟨i, mm, S, v, T, hi, rfl, rfl, hL, hP⟩ := hrel
              have hT64 : T.length ≤ 64 := hP.tl HG.out
              by_cases hlt : i < Cs.length
              · have hlt' : (i : Int) < (Cs.length : Int) := by omega
                obtain ⟨b, off, e, hao, hei, hwe, hrg, hbw⟩ := HEC.out.at hlt
                have he16 := hwe.1
                subst hao
                have heE : e ∈ Es := hCE e (List.mem_of_getElem? hei)
                have hv16 := hP.vlen
                have hSw' : ∀ x ∈ S, Wide x := fun x hx => hwE x (hP.kept x hx)
                have hLd := hL.drew
                have hOf := offer_any g mm S e v hwe hv16 wr.drew hLd.bf hP.buf hSw'
                have hrgd : wr.drew.rangeAt b (off + i * 26) (evl e) := range_below hrg hLd.below hbw
                have HL : Hid _ := hLd
                have HP : Hid _ := hP
                have hvd : Lies wr.drew (g + 1) v := hLd.vec
                have hsd : g + 2 ≤ wr.heap.size := by have := hL.vec.lt; omega
                have hix := fun W : World => index_ev W (b := b) (off := off) (c := cc) hlt
                clear hL hP hLd
                go_upto_region 30 with fail
                refine wp_region_noPanic ?_
                refine wp_region_held_drew (S := fun W' : World => W'.rangeAt b (off + i * 26) (evl e) ∧ Lies W' (g + 1) v) (by kernel_rfl) ⟨hrgd, hvd⟩ (fun hHeld => ?_)
                refine wpAnyH_take (i := 0) (oi := { dst := some 121, op := _, type := _, pos := _, after := _, guard := _ }) (v := .pointer (some ⟨g, 0, none⟩)) rfl (by kernel_rfl) (by kernel_rfl) (by kernel_rfl) (fun _ _ _ h => h) (Or.inl ⟨by rfl, ?_⟩) (by assumption) ?_
                · intro w9 hSw
                  exact y_move rfl rfl
                simp only [Act.put, List.setIfInBounds_toArray, List.set_cons_zero, List.set_cons_succ]
                refine wpAnyH_take (i := 1) (oi := { dst := some 122, op := _, type := _, pos := _, after := _, guard := _ }) (v := .slice (some ⟨b, off, none⟩) Cs.length cc) rfl (by kernel_rfl) (by kernel_rfl) (by kernel_rfl) (fun _ _ _ h => h) (Or.inl ⟨by rfl, ?_⟩) (by assumption) ?_
                · intro w9 hSw
                  exact y_move rfl rfl
                simp only [Act.put, List.setIfInBounds_toArray, List.set_cons_zero, List.set_cons_succ]
                refine wpAnyH_take (i := 2) (oi := { dst := some 123, op := _, type := _, pos := _, after := _, guard := _ }) (v := .int .i64 (i : Int)) rfl (by kernel_rfl) (by kernel_rfl) (by kernel_rfl) (fun _ _ _ h => h) (Or.inl ⟨by rfl, ?_⟩) (by assumption) ?_
                · intro w9 hSw
                  exact y_move rfl rfl
                simp only [Act.put, List.setIfInBounds_toArray, List.set_cons_zero, List.set_cons_succ]
                refine wpAnyH_take (i := 3) (oi := { dst := some 124, op := _, type := _, pos := _, after := _, guard := _ }) (v := .pointer (some ⟨b, off + i * 26, none⟩)) rfl (by kernel_rfl) (by kernel_rfl) (by kernel_rfl) (fun _ _ _ h => h) (Or.inl ⟨by rfl, ?_⟩) (by assumption) ?_
                · intro w9 hSw
                  exact y_index rfl rfl rfl (hix _)
                simp only [Act.put, List.setIfInBounds_toArray, List.set_cons_zero, List.set_cons_succ]
                refine wpAnyH_take (i := 4) (oi := { dst := some 125, op := _, type := _, pos := _, after := _, guard := _ }) (v := .agg (evc e)) rfl (by kernel_rfl) (by kernel_rfl) (by kernel_rfl) (fun _ _ _ h => h) (Or.inl ⟨by rfl, ?_⟩) (by assumption) ?_
                · intro w9 hSw
                  exact y_load rfl rfl (load_em hSw.1 he16)
                simp only [Act.put, List.setIfInBounds_toArray, List.set_cons_zero, List.set_cons_succ]
                refine wpAnyH_take (i := 5) (oi := { dst := some 126, op := _, type := _, pos := _, after := _, guard := _ }) (v := .agg (vals v)) rfl (by kernel_rfl) (by kernel_rfl) (by kernel_rfl) (fun _ _ _ h => h) (Or.inl ⟨by rfl, ?_⟩) (by assumption) ?_
                · intro w9 hSw
                  exact y_load rfl rfl (load_v hSw.2 hv16)
                simp only [Act.put, List.setIfInBounds_toArray, List.set_cons_zero, List.set_cons_succ]
                clear hHeld
                refine wpAnyH_ready (rs := [6]) (by kernel_rfl) (by simp) ?_
                refine AllReadyH.cons (o := { dst := some 127, op := _, type := _, pos := _, after := _, guard := _ }) rfl (fun K hK => ?_) AllReadyH.nil
                rw [if_pos (by rfl)]
                refine y_call (f := 11) (xs := [.tmp 121, .tmp 125, .tmp 126]) (vs := [.pointer (some ⟨g, 0, none⟩), .agg (evc e), .agg (vals v)]) rfl rfl (enters_offer _ _) hOf ?_
                rintro ex w4 ⟨vt, T', S', u4, m4, rfl, hO, hu16, hr4, hB4, ht4⟩
                refine ⟨_, rfl, ?_⟩
                have hL4 := HL.out.offer hB4 ht4
                have hrg4 : w4.rangeAt b (off + i * 26) (evl e) := range_below hrg hL4.below hbw
                refine hK.out _ _ ⟨hrg4, hL4.vec⟩ (fun hHeld => ?_)
                clear hK K
                simp only [Act.put, List.setIfInBounds_toArray, List.set_cons_zero, List.set_cons_succ]
                refine wpAnyH_take (i := 7) (oi := { dst := some 16, op := _, type := _, pos := _, after := _, guard := _ }) (v := vt) rfl (by kernel_rfl) (by kernel_rfl) (by kernel_rfl) (fun _ _ _ h => h) (Or.inl ⟨by rfl, ?_⟩) (by assumption) ?_
                · intro w9 hSw
                  exact y_assign rfl rfl
                simp only [Act.put, List.setIfInBounds_toArray, List.set_cons_zero, List.set_cons_succ]
                refine wpAnyH_done (by kernel_rfl) ?_ _
                refine NoPanic.normal ?_
                clear hHeld
                have hwT := (hO.wide hSw' hwe).1
                obtain ⟨at', ct, hvt, hTe⟩ := hr4.evs hwT
                have hTl : T'.length ≤ 64 := hO.len HP.out.buf
                have HO : Hid (u4 = vs T' v) := hO.vs
                have HAP : Hid (Come Es (Cs.take (i + 1)) (T ++ T') S' u4) := by
                  rw [List.take_add_one, hei, Option.toList_some]
                  exact HP.out.step HG.out heE hO
                have hok' : ∀ x ∈ T', okdot x.r x.n = true := fun x hx => okev_dot (hO.ok HP.out.buf x hx)
                have HVL : Hid (v.length = 16) := hv16
                subst hvt
                have HR4 : Hid (Row w4 (g + 2) (.slice at' T'.length ct) T') := hr4.lower (by exact hsd)
                have hrelI : Hid (∃ j : Nat, j ≤ T'.length ∧ Value.int .i64 0 = .int .i64 (j : Int) ∧ Lq w10 g (g + 1) w4 m4 S' (vs (T'.take j) v) ∧ Row w4 (g + 2) (.slice at' T'.length ct) T') := ⟨0, Nat.zero_le _, rfl, hL4, HR4.out⟩
                clear hO hL4 hr4 HR4 HL hTe hvd hrgd hrg4 hrg
                go_wp2_with fail
                go_loopw [134] (fun c134 wj => ∃ j : Nat, j ≤ T'.length ∧ c134 = .int .i64 (j : Int) ∧ Lq w10 g (g + 1) wj m4 S' (vs (T'.take j) v) ∧ Row wj (g + 2) (.slice at' T'.length ct) T') (fun c134 _ => T'.length - (intOf c134).toNat)
                case atStart => exact hrelI.out
                case round =>
                  clear hrelI
                  obtain ⟨j, hj, rfl, hLj, hRj⟩ := hrel
                  by_cases hjl : j < T'.length
                  · have hjl' : (j : Int) < (T'.length : Int) := by omega
                    obtain ⟨ao2, c2, hv2, hTe⟩ := hRj.evs hwT
                    simp only [Value.slice.injEq, true_and] at hv2
                    obtain ⟨rfl, rfl⟩ := hv2
                    obtain ⟨b2, off2, x, hao2, hxj, hwx, hrg2, hbl2⟩ := hTe.at hjl
                    subst hao2
                    have hdx := hok' x (List.mem_of_getElem? hxj)
                    simp only [okdot, decide_eq_true_eq] at hdx
                    obtain ⟨r, hr⟩ : ∃ r : Nat, x.r = (r : Int) := ⟨x.r.toNat, by omega⟩
                    have hr16 : r < 16 := by omega
                    have hb2ne : b2 ≠ g + 1 := by
                      have := Row.own hRj b2 rfl
                      omega
                    have hLjd := hLj.drew
                    have hcu := hLjd.vec.cell (k := r) (by rw [vs_length, HVL.out]; exact hr16)
                    have hfu := hLjd.vec.frozen (k := r)
                    have hst := st_int (v := .int .i64 x.n) hcu hfu rfl ⟨_, rfl⟩
                    have hL5 := hLjd.set r x.n
                    have hvn : (vs (T'.take j) v).set r x.n = vs (T'.take (j + 1)) v := by rw [vs_take hxj, hr]; rfl
                    rw [hvn] at hL5
                    have hrd : wr.drew.rangeAt b2 (off2 + j * 26) (evl x) := hrg2
                    have hix2 := fun W : World => index_ev W (b := b2) (off := off2) (c := ct) hjl
                    have hiv := fun W : World => index_vv W (g + 1) 0 r hr16
                    simp only [Nat.zero_add] at hiv
                    have hS5 : (wr.drew.setCell ⟨g + 1, r, none⟩ (.int .i64 x.n)).rangeAt b2 (off2 + j * 26) (evl x) := fun q z hz => by
                      rw [World.cell?_setCell_other _ _ _ _ (by intro e; exact hb2ne (congrArg Addr.block e).symm)]; exact hrd q z hz
                    have HL5 : Hid _ := hL5
                    have HR5 : Hid _ := Row.set (j := r) (x := .int .i64 x.n) (Bv := g + 1) (w := wr.drew) hRj (by omega)
                    have hrr : ∀ W : World, W.rangeAt b2 (off2 + j * 26) (evl x) → W.cell? ⟨b2, off2 + j * 26, none⟩ = some (.int .i64 (r : Int)) := fun W h => by rw [range_r h, hr]
                    clear hLj hRj hTe hrg2 hL5 hLjd hvn
                    go_upto_region 35 with fail
                    refine wp_region_noPanic ?_
                    refine wp_region_held_drew (S := fun W' : World => W'.rangeAt b2 (off2 + j * 26) (evl x)) (by kernel_rfl) hrd (fun hHeld => ?_)
                    refine wpAnyH_take (i := 0) (oi := { dst := some 137, op := _, type := _, pos := _, after := _, guard := _ }) (v := .slice (some ⟨b2, off2, none⟩) T'.length ct) rfl (by kernel_rfl) (by kernel_rfl) (by kernel_rfl) (fun _ _ _ h => h) (Or.inl ⟨by rfl, ?_⟩) (by assumption) ?_
                    · intro w9 hSw
                      exact y_move rfl rfl
                    simp only [Act.put, List.setIfInBounds_toArray, List.set_cons_zero, List.set_cons_succ]
                    refine wpAnyH_take (i := 1) (oi := { dst := some 138, op := _, type := _, pos := _, after := _, guard := _ }) (v := .int .i64 (j : Int)) rfl (by kernel_rfl) (by kernel_rfl) (by kernel_rfl) (fun _ _ _ h => h) (Or.inl ⟨by rfl, ?_⟩) (by assumption) ?_
                    · intro w9 hSw
                      exact y_move rfl rfl
                    simp only [Act.put, List.setIfInBounds_toArray, List.set_cons_zero, List.set_cons_succ]
                    refine wpAnyH_take (i := 2) (oi := { dst := some 139, op := _, type := _, pos := _, after := _, guard := _ }) (v := .pointer (some ⟨b2, off2 + j * 26, none⟩)) rfl (by kernel_rfl) (by kernel_rfl) (by kernel_rfl) (fun _ _ _ h => h) (Or.inl ⟨by rfl, ?_⟩) (by assumption) ?_
                    · intro w9 hSw
                      exact y_index rfl rfl rfl (hix2 _)
                    simp only [Act.put, List.setIfInBounds_toArray, List.set_cons_zero, List.set_cons_succ]
                    refine wpAnyH_take (i := 3) (oi := { dst := some 140, op := _, type := _, pos := _, after := _, guard := _ }) (v := .pointer (some ⟨b2, off2 + j * 26, none⟩)) rfl (by kernel_rfl) (by kernel_rfl) (by kernel_rfl) (fun _ _ _ h => h) (Or.inl ⟨by rfl, ?_⟩) (by assumption) ?_
                    · intro w9 hSw
                      exact y_field rfl rfl (field_em0 _ _ _)
                    simp only [Act.put, List.setIfInBounds_toArray, List.set_cons_zero, List.set_cons_succ]
                    refine wpAnyH_take (i := 4) (oi := { dst := some 141, op := _, type := _, pos := _, after := _, guard := _ }) (v := .pointer (some ⟨b2, off2 + j * 26, none⟩)) rfl (by kernel_rfl) (by kernel_rfl) (by kernel_rfl) (fun _ _ _ h => h) (Or.inl ⟨by rfl, ?_⟩) (by assumption) ?_
                    · intro w9 hSw
                      exact y_field rfl rfl (field_dm0 _ _ _)
                    simp only [Act.put, List.setIfInBounds_toArray, List.set_cons_zero, List.set_cons_succ]
                    refine wpAnyH_take (i := 5) (oi := { dst := some 142, op := _, type := _, pos := _, after := _, guard := _ }) (v := .int .i64 (r : Int)) rfl (by kernel_rfl) (by kernel_rfl) (by kernel_rfl) (fun _ _ _ h => h) (Or.inl ⟨by rfl, ?_⟩) (by assumption) ?_
                    · intro w9 hSw
                      exact y_load rfl rfl (load_int (hrr _ hSw))
                    simp only [Act.put, List.setIfInBounds_toArray, List.set_cons_zero, List.set_cons_succ]
                    refine wpAnyH_take (i := 6) (oi := { dst := some 143, op := _, type := _, pos := _, after := _, guard := _ }) (v := .slice (some ⟨b2, off2, none⟩) T'.length ct) rfl (by kernel_rfl) (by kernel_rfl) (by kernel_rfl) (fun _ _ _ h => h) (Or.inl ⟨by rfl, ?_⟩) (by assumption) ?_
                    · intro w9 hSw
                      exact y_move rfl rfl
                    simp only [Act.put, List.setIfInBounds_toArray, List.set_cons_zero, List.set_cons_succ]
                    refine wpAnyH_take (i := 7) (oi := { dst := some 144, op := _, type := _, pos := _, after := _, guard := _ }) (v := .int .i64 (j : Int)) rfl (by kernel_rfl) (by kernel_rfl) (by kernel_rfl) (fun _ _ _ h => h) (Or.inl ⟨by rfl, ?_⟩) (by assumption) ?_
                    · intro w9 hSw
                      exact y_move rfl rfl
                    simp only [Act.put, List.setIfInBounds_toArray, List.set_cons_zero, List.set_cons_succ]
                    refine wpAnyH_take (i := 8) (oi := { dst := some 145, op := _, type := _, pos := _, after := _, guard := _ }) (v := .pointer (some ⟨b2, off2 + j * 26, none⟩)) rfl (by kernel_rfl) (by kernel_rfl) (by kernel_rfl) (fun _ _ _ h => h) (Or.inl ⟨by rfl, ?_⟩) (by assumption) ?_
                    · intro w9 hSw
                      exact y_index rfl rfl rfl (hix2 _)
                    simp only [Act.put, List.setIfInBounds_toArray, List.set_cons_zero, List.set_cons_succ]
                    refine wpAnyH_take (i := 9) (oi := { dst := some 146, op := _, type := _, pos := _, after := _, guard := _ }) (v := .pointer (some ⟨b2, off2 + j * 26, none⟩)) rfl (by kernel_rfl) (by kernel_rfl) (by kernel_rfl) (fun _ _ _ h => h) (Or.inl ⟨by rfl, ?_⟩) (by assumption) ?_
                    · intro w9 hSw
                      exact y_field rfl rfl (field_em0 _ _ _)
                    simp only [Act.put, List.setIfInBounds_toArray, List.set_cons_zero, List.set_cons_succ]
                    refine wpAnyH_take (i := 10) (oi := { dst := some 147, op := _, type := _, pos := _, after := _, guard := _ }) (v := .pointer (some ⟨b2, off2 + j * 26 + 1, none⟩)) rfl (by kernel_rfl) (by kernel_rfl) (by kernel_rfl) (fun _ _ _ h => h) (Or.inl ⟨by rfl, ?_⟩) (by assumption) ?_
                    · intro w9 hSw
                      exact y_field rfl rfl (field_dm1 _ _ _)
                    simp only [Act.put, List.setIfInBounds_toArray, List.set_cons_zero, List.set_cons_succ]
                    refine wpAnyH_take (i := 11) (oi := { dst := some 148, op := _, type := _, pos := _, after := _, guard := _ }) (v := .int .i64 x.n) rfl (by kernel_rfl) (by kernel_rfl) (by kernel_rfl) (fun _ _ _ h => h) (Or.inl ⟨by rfl, ?_⟩) (by assumption) ?_
                    · intro w9 hSw
                      exact y_load rfl rfl (load_int (range_n hSw))
                    simp only [Act.put, List.setIfInBounds_toArray, List.set_cons_zero, List.set_cons_succ]
                    refine wpAnyH_take (i := 12) (oi := { dst := some 149, op := _, type := _, pos := _, after := _, guard := _ }) (v := .pointer (some ⟨g + 1, r, none⟩)) rfl (by kernel_rfl) (by kernel_rfl) (by kernel_rfl) (fun _ _ _ h => h) (Or.inl ⟨by rfl, ?_⟩) (by assumption) ?_
                    · intro w9 hSw
                      exact y_index rfl rfl rfl (hiv _)
                    simp only [Act.put, List.setIfInBounds_toArray, List.set_cons_zero, List.set_cons_succ]
                    clear hHeld
                    refine wpAnyH_ready (rs := [13]) (by kernel_rfl) (by simp) ?_
                    refine AllReadyH.cons (o := { dst := none, op := _, type := _, pos := _, after := _, guard := _ }) rfl (fun K hK => ?_) AllReadyH.nil
                    rw [if_pos (by rfl)]
                    refine y_store (ty := 3) (x := .tmp 149) (y := .tmp 148) (ad := ⟨g + 1, r, none⟩) (v := .int .i64 x.n) (w' := wr.drew.setCell ⟨g + 1, r, none⟩ (.int .i64 x.n)) rfl rfl rfl hst ?_
                    refine hK.out _ _ hS5 (fun hHeld => ?_)
                    clear hK K
                    simp only [Act.put]
                    refine wpAnyH_done (by kernel_rfl) ?_ _
                    refine NoPanic.normal ?_
                    clear hHeld
                    generalize wr.drew.setCell ⟨g + 1, r, none⟩ (.int .i64 x.n) = w5 at *
                    go_wp2
                    go_roundw
                    case rel => exact ⟨j + 1, by omega, by go_num, HL5.out, HR5.out⟩
                    case measure => simp [intOf]; omega
                  · have hjl' : ¬ (j : Int) < (T'.length : Int) := by omega
                    have hjj : T'.take j = T' := List.take_of_length_le (by omega)
                    rw [hjj, ← HO.out] at hLj
                    have HL6 : Hid _ := hLj
                    clear hLj hRj
                    go_wp2
                    go_roundw
                    case rel => exact ⟨i + 1, m4, S', u4, T ++ T', by omega, by go_num, by rw [List.length_append]; go_num, HL6.out, HAP.out⟩
                    case measure => simp [intOf]; omega
              · have hlt' : ¬ (i : Int) < (Cs.length : Int) := by omega
                have hii : Cs.take i = Cs := List.take_of_length_le (by omega)
                rw [hii] at hP
                obtain ⟨h1, h2, h3⟩ := hP.all HG.out HEA.out
                rw [HU1.out] at h1
                subst h1 h3
                have hLn := qlen_any g mm [] wr hL.bf
                have hvl := hP.vlen
                have hlv := load_v hL.vec hvl
                have hla := load_v (HV10.out.below hL.below HV10.out.lt) hvl
                have hCm := fun W : World => rcompare_truetrue v v hvl hvl (most_same v) (most_same v) (way_same v) W
                rw [way_same v] at hCm
                have HBF : Hid (Below w.heap.size w wr) := HB10.out.trans (hL.below.mono HB10.out.size)
                have heq : (binOp .eql 40 (.agg (vals v)) (.agg (vals v))).run Try.prog wr = .ok (.bool true) wr := by
                  rw [run_eql_vec wr v v hvl hvl, decide_eq_true rfl]
                have heg : ∀ {op : BinOp} {x y : Operand}, (eqGuard op 40 x y (.agg (vals v)) (.agg (vals v))).run Try.prog wr = .ok () wr := fun {op x y} => eqGuard_vv wr v v
                have h2' : (T.length : Int) = (Es.length : Int) := by omega
                clear hL hP HV10 HB10 HEC HEA
                rw [h2']
                go_wp2_with (first
                  | (refine wpList_loadW (ty := 40) (x := .tmp 13) (ad := ⟨g + 1, 0, none⟩) (v := .agg (vals v)) rfl rfl rfl hlv ?_)
                  | (refine wpList_loadW (ty := 40) (x := .tmp 6) (ad := ⟨B, 0, none⟩) (v := .agg (vals v)) rfl rfl rfl hla ?_)
                  | (refine wpList_eqlv rfl rfl rfl rfl heg heq ?_))
                refine Calls.mono hLn ?_
                rintro ex w8 ⟨rfl, hw8⟩
                obtain rfl := hw8.symm
                clear hLn
                go_wp2_with (first
                  | (refine wpList_loadW (ty := 40) (x := .tmp 13) (ad := ⟨g + 1, 0, none⟩) (v := .agg (vals v)) rfl rfl rfl hlv ?_)
                  | (refine wpList_loadW (ty := 40) (x := .tmp 6) (ad := ⟨B, 0, none⟩) (v := .agg (vals v)) rfl rfl rfl hla ?_))
                refine Calls.mono (hCm wr) ?_
                rintro ex w9' ⟨rfl, hb9⟩
                clear hCm
                go_wp2
                go_ret
                exact ⟨rfl, HBF.out.trans (hb9.mono HBF.out.size)⟩
          · have hi15' : ¬ (150 : Int) ≤ (i : Int) := by omega
            by_cases hl0 : L.length = 0
            · have hl0' : (L.length : Int) = 0 := by omega
              go_upto_region 23 with fail
              have hCE : ∀ x ∈ C ++ L, x ∈ Es := fun x hx => by
                rcases List.mem_append.1 hx with hx | hx
                · exact hMx.come x hx
                · exact hMx.left x hx
              have hEC0 : ∀ x ∈ Es, x ∈ C ++ L := fun x hx => by
                rcases hMx.all x hx with hx | hx
                · exact List.mem_append_left _ hx
                · exact List.mem_append_right _ hx
              have hlen8 : C.length + L.length ≤ 1048576 := by have := hMx.cl; omega
              have hClen : (C ++ L).length ≤ 1000 := by have := hMx.cl; rw [List.length_append]; omega
              have hrow8 := hL.come
              have hEl := hL.left
              have hbase8 : B + 1 ≤ wr.heap.size := by have := hL.vec.lt; omega
              have HL : Hid _ := hL
              clear hL hMx HU
              go_wp2_with (refine wpList_appE rfl _ _ rfl (B + 1) _ C rfl hrow8 _ _ _ L rfl hEl hlen8 hbase8 ?_)
              intro v10 w10 hr10 hg10 hn10
              have hV10 : Lies w10 B u := by
                rw [Lies, hg10.block B HL.out.vec.lt (fun e1 => by have := Row.own hrow8 B e1.symm; omega)]; exact HL.out.vec
              have hB10 : Below w.heap.size w w10 := HL.out.below.grown hg10 HL.out.below.size (fun k hk => by have := Row.own hrow8 k hk; omega)
              clear hn10 hg10 HL hrow8 hEl
              obtain ⟨Cs, hCs⟩ : ∃ Cs, C ++ L = Cs := ⟨_, rfl⟩
              rw [hCs] at hr10 hCE hEC0 hClen
              have hwC : ∀ e ∈ Cs, Wide e := fun e he => hwE e (hCE e he)
              obtain ⟨aoc, cc, hvc, hEC⟩ := hr10.evs hwC
              subst hvc
              have HEC : Hid (Evs w10 aoc Cs.length cc Cs) := hEC
              have HEA : Hid (∀ x ∈ Es, x ∈ Cs) := hEC0
              have HV10 : Hid (Lies w10 B u) := hV10
              have HB10 : Hid (Below w.heap.size w w10) := hB10
              have hN := qnew_any w10
              have hF0 := bf_new w10
              have hb2 : Below w10.heap.size w10 (w10.alloc (.cells #[.map none] 34)) := (Below.refl _ _).alloc (Nat.le_refl _) _
              have hs2 := World.size_alloc w10 (.cells #[.map none] 34)
              generalize w10.alloc (.cells #[.map none] 34) = w2 at *
              obtain ⟨g, hg⟩ : ∃ g, w10.heap.size = g := ⟨_, rfl⟩
              rw [hg] at hN hF0 hs2
              have hL0 : Lq w10 g (g + 1) (w2.alloc (.cells (vals zeros) 40)) none [] zeros := by
                have hb3 : Below w2.heap.size w2 (w2.alloc (.cells (vals zeros) 40)) := (Below.refl _ _).alloc (Nat.le_refl _) _
                refine ⟨hb2.trans (hb3.mono (by omega)), hF0.below hb3, ?_, by omega, by omega, fun k e => by cases e⟩
                rw [← hs2]; exact lies_new w2 zeros
              have hzz : w2.alloc (.cells #[.int .i64 0, .int .i64 0, .int .i64 0, .int .i64 0, .int .i64 0, .int .i64 0, .int .i64 0, .int .i64 0, .int .i64 0, .int .i64 0, .int .i64 0, .int .i64 0, .int .i64 0, .int .i64 0, .int .i64 0, .int .i64 0] 40) = w2.alloc (.cells (vals zeros) 40) := by rw [zeros_vals]
              generalize hW3 : w2.alloc (.cells (vals zeros) 40) = W3 at *
              have hrel3 : Hid (∃ (i : Nat) (mm : Option Nat) (S : List Ev) (v : List Int) (T : List Ev), i ≤ Cs.length ∧ Value.int .i64 0 = .int .i64 (i : Int) ∧ Value.int .i64 0 = .int .i64 (T.length : Int) ∧ Lq w10 g (g + 1) W3 mm S v ∧ Come Es (Cs.take i) T S v) := ⟨0, none, [], zeros, [], Nat.zero_le _, rfl, rfl, hL0, Come.start Es⟩
              clear hL0 hF0 hb2 hEC hEC0 hV10 hB10 hW3 hr10 hCs
              go_wp2_with fail
              refine Calls.mono hN ?_
              rintro ex w2' ⟨rfl, hw2⟩
              obtain rfl := hw2.symm
              go_wp2_with fail
              go_loopw [14, 118] (fun c14 c118 wz => ∃ (i : Nat) (mm : Option Nat) (S : List Ev) (v : List Int) (T : List Ev), i ≤ Cs.length ∧ c118 = .int .i64 (i : Int) ∧ c14 = .int .i64 (T.length : Int) ∧ Lq w10 g (g + 1) wz mm S v ∧ Come Es (Cs.take i) T S v) (fun _ c118 _ => Cs.length - (intOf c118).toNat)
              case atStart => exact hrel3.out
              case round =>
                clear hrel3 hzz hN
                obtain ⟨i, mm, S, v, T, hi, rfl, rfl, hL, hP⟩ := hrel
                have hT64 : T.length ≤ 64 := hP.tl HG.out
                by_cases hlt : i < Cs.length
                · have hlt' : (i : Int) < (Cs.length : Int) := by omega
                  obtain ⟨b, off, e, hao, hei, hwe, hrg, hbw⟩ := HEC.out.at hlt
                  have he16 := hwe.1
                  subst hao
                  have heE : e ∈ Es := hCE e (List.mem_of_getElem? hei)
                  have hv16 := hP.vlen
                  have hSw' : ∀ x ∈ S, Wide x := fun x hx => hwE x (hP.kept x hx)
                  have hLd := hL.drew
                  have hOf := offer_any g mm S e v hwe hv16 wr.drew hLd.bf hP.buf hSw'
                  have hrgd : wr.drew.rangeAt b (off + i * 26) (evl e) := range_below hrg hLd.below hbw
                  have HL : Hid _ := hLd
                  have HP : Hid _ := hP
                  have hvd : Lies wr.drew (g + 1) v := hLd.vec
                  have hsd : g + 2 ≤ wr.heap.size := by have := hL.vec.lt; omega
                  have hix := fun W : World => index_ev W (b := b) (off := off) (c := cc) hlt
                  clear hL hP hLd
                  go_upto_region 30 with fail
                  refine wp_region_noPanic ?_
                  refine wp_region_held_drew (S := fun W' : World => W'.rangeAt b (off + i * 26) (evl e) ∧ Lies W' (g + 1) v) (by kernel_rfl) ⟨hrgd, hvd⟩ (fun hHeld => ?_)
                  refine wpAnyH_take (i := 0) (oi := { dst := some 121, op := _, type := _, pos := _, after := _, guard := _ }) (v := .pointer (some ⟨g, 0, none⟩)) rfl (by kernel_rfl) (by kernel_rfl) (by kernel_rfl) (fun _ _ _ h => h) (Or.inl ⟨by rfl, ?_⟩) (by assumption) ?_
                  · intro w9 hSw
                    exact y_move rfl rfl
                  simp only [Act.put, List.setIfInBounds_toArray, List.set_cons_zero, List.set_cons_succ]
                  refine wpAnyH_take (i := 1) (oi := { dst := some 122, op := _, type := _, pos := _, after := _, guard := _ }) (v := .slice (some ⟨b, off, none⟩) Cs.length cc) rfl (by kernel_rfl) (by kernel_rfl) (by kernel_rfl) (fun _ _ _ h => h) (Or.inl ⟨by rfl, ?_⟩) (by assumption) ?_
                  · intro w9 hSw
                    exact y_move rfl rfl
                  simp only [Act.put, List.setIfInBounds_toArray, List.set_cons_zero, List.set_cons_succ]
                  refine wpAnyH_take (i := 2) (oi := { dst := some 123, op := _, type := _, pos := _, after := _, guard := _ }) (v := .int .i64 (i : Int)) rfl (by kernel_rfl) (by kernel_rfl) (by kernel_rfl) (fun _ _ _ h => h) (Or.inl ⟨by rfl, ?_⟩) (by assumption) ?_
                  · intro w9 hSw
                    exact y_move rfl rfl
                  simp only [Act.put, List.setIfInBounds_toArray, List.set_cons_zero, List.set_cons_succ]
                  refine wpAnyH_take (i := 3) (oi := { dst := some 124, op := _, type := _, pos := _, after := _, guard := _ }) (v := .pointer (some ⟨b, off + i * 26, none⟩)) rfl (by kernel_rfl) (by kernel_rfl) (by kernel_rfl) (fun _ _ _ h => h) (Or.inl ⟨by rfl, ?_⟩) (by assumption) ?_
                  · intro w9 hSw
                    exact y_index rfl rfl rfl (hix _)
                  simp only [Act.put, List.setIfInBounds_toArray, List.set_cons_zero, List.set_cons_succ]
                  refine wpAnyH_take (i := 4) (oi := { dst := some 125, op := _, type := _, pos := _, after := _, guard := _ }) (v := .agg (evc e)) rfl (by kernel_rfl) (by kernel_rfl) (by kernel_rfl) (fun _ _ _ h => h) (Or.inl ⟨by rfl, ?_⟩) (by assumption) ?_
                  · intro w9 hSw
                    exact y_load rfl rfl (load_em hSw.1 he16)
                  simp only [Act.put, List.setIfInBounds_toArray, List.set_cons_zero, List.set_cons_succ]
                  refine wpAnyH_take (i := 5) (oi := { dst := some 126, op := _, type := _, pos := _, after := _, guard := _ }) (v := .agg (vals v)) rfl (by kernel_rfl) (by kernel_rfl) (by kernel_rfl) (fun _ _ _ h => h) (Or.inl ⟨by rfl, ?_⟩) (by assumption) ?_
                  · intro w9 hSw
                    exact y_load rfl rfl (load_v hSw.2 hv16)
                  simp only [Act.put, List.setIfInBounds_toArray, List.set_cons_zero, List.set_cons_succ]
                  clear hHeld
                  refine wpAnyH_ready (rs := [6]) (by kernel_rfl) (by simp) ?_
                  refine AllReadyH.cons (o := { dst := some 127, op := _, type := _, pos := _, after := _, guard := _ }) rfl (fun K hK => ?_) AllReadyH.nil
                  rw [if_pos (by rfl)]
                  refine y_call (f := 11) (xs := [.tmp 121, .tmp 125, .tmp 126]) (vs := [.pointer (some ⟨g, 0, none⟩), .agg (evc e), .agg (vals v)]) rfl rfl (enters_offer _ _) hOf ?_
                  rintro ex w4 ⟨vt, T', S', u4, m4, rfl, hO, hu16, hr4, hB4, ht4⟩
                  refine ⟨_, rfl, ?_⟩
                  have hL4 := HL.out.offer hB4 ht4
                  have hrg4 : w4.rangeAt b (off + i * 26) (evl e) := range_below hrg hL4.below hbw
                  refine hK.out _ _ ⟨hrg4, hL4.vec⟩ (fun hHeld => ?_)
                  clear hK K
                  simp only [Act.put, List.setIfInBounds_toArray, List.set_cons_zero, List.set_cons_succ]
                  refine wpAnyH_take (i := 7) (oi := { dst := some 16, op := _, type := _, pos := _, after := _, guard := _ }) (v := vt) rfl (by kernel_rfl) (by kernel_rfl) (by kernel_rfl) (fun _ _ _ h => h) (Or.inl ⟨by rfl, ?_⟩) (by assumption) ?_
                  · intro w9 hSw
                    exact y_assign rfl rfl
                  simp only [Act.put, List.setIfInBounds_toArray, List.set_cons_zero, List.set_cons_succ]
                  refine wpAnyH_done (by kernel_rfl) ?_ _
                  refine NoPanic.normal ?_
                  clear hHeld
                  have hwT := (hO.wide hSw' hwe).1
                  obtain ⟨at', ct, hvt, hTe⟩ := hr4.evs hwT
                  have hTl : T'.length ≤ 64 := hO.len HP.out.buf
                  have HO : Hid (u4 = vs T' v) := hO.vs
                  have HAP : Hid (Come Es (Cs.take (i + 1)) (T ++ T') S' u4) := by
                    rw [List.take_add_one, hei, Option.toList_some]
                    exact HP.out.step HG.out heE hO
                  have hok' : ∀ x ∈ T', okdot x.r x.n = true := fun x hx => okev_dot (hO.ok HP.out.buf x hx)
                  have HVL : Hid (v.length = 16) := hv16
                  subst hvt
                  have HR4 : Hid (Row w4 (g + 2) (.slice at' T'.length ct) T') := hr4.lower (by exact hsd)
                  have hrelI : Hid (∃ j : Nat, j ≤ T'.length ∧ Value.int .i64 0 = .int .i64 (j : Int) ∧ Lq w10 g (g + 1) w4 m4 S' (vs (T'.take j) v) ∧ Row w4 (g + 2) (.slice at' T'.length ct) T') := ⟨0, Nat.zero_le _, rfl, hL4, HR4.out⟩
                  clear hO hL4 hr4 HR4 HL hTe hvd hrgd hrg4 hrg
                  go_wp2_with fail
                  go_loopw [134] (fun c134 wj => ∃ j : Nat, j ≤ T'.length ∧ c134 = .int .i64 (j : Int) ∧ Lq w10 g (g + 1) wj m4 S' (vs (T'.take j) v) ∧ Row wj (g + 2) (.slice at' T'.length ct) T') (fun c134 _ => T'.length - (intOf c134).toNat)
                  case atStart => exact hrelI.out
                  case round =>
                    clear hrelI
                    obtain ⟨j, hj, rfl, hLj, hRj⟩ := hrel
                    by_cases hjl : j < T'.length
                    · have hjl' : (j : Int) < (T'.length : Int) := by omega
                      obtain ⟨ao2, c2, hv2, hTe⟩ := hRj.evs hwT
                      simp only [Value.slice.injEq, true_and] at hv2
                      obtain ⟨rfl, rfl⟩ := hv2
                      obtain ⟨b2, off2, x, hao2, hxj, hwx, hrg2, hbl2⟩ := hTe.at hjl
                      subst hao2
                      have hdx := hok' x (List.mem_of_getElem? hxj)
                      simp only [okdot, decide_eq_true_eq] at hdx
                      obtain ⟨r, hr⟩ : ∃ r : Nat, x.r = (r : Int) := ⟨x.r.toNat, by omega⟩
                      have hr16 : r < 16 := by omega
                      have hb2ne : b2 ≠ g + 1 := by
                        have := Row.own hRj b2 rfl
                        omega
                      have hLjd := hLj.drew
                      have hcu := hLjd.vec.cell (k := r) (by rw [vs_length, HVL.out]; exact hr16)
                      have hfu := hLjd.vec.frozen (k := r)
                      have hst := st_int (v := .int .i64 x.n) hcu hfu rfl ⟨_, rfl⟩
                      have hL5 := hLjd.set r x.n
                      have hvn : (vs (T'.take j) v).set r x.n = vs (T'.take (j + 1)) v := by rw [vs_take hxj, hr]; rfl
                      rw [hvn] at hL5
                      have hrd : wr.drew.rangeAt b2 (off2 + j * 26) (evl x) := hrg2
                      have hix2 := fun W : World => index_ev W (b := b2) (off := off2) (c := ct) hjl
                      have hiv := fun W : World => index_vv W (g + 1) 0 r hr16
                      simp only [Nat.zero_add] at hiv
                      have hS5 : (wr.drew.setCell ⟨g + 1, r, none⟩ (.int .i64 x.n)).rangeAt b2 (off2 + j * 26) (evl x) := fun q z hz => by
                        rw [World.cell?_setCell_other _ _ _ _ (by intro e; exact hb2ne (congrArg Addr.block e).symm)]; exact hrd q z hz
                      have HL5 : Hid _ := hL5
                      have HR5 : Hid _ := Row.set (j := r) (x := .int .i64 x.n) (Bv := g + 1) (w := wr.drew) hRj (by omega)
                      have hrr : ∀ W : World, W.rangeAt b2 (off2 + j * 26) (evl x) → W.cell? ⟨b2, off2 + j * 26, none⟩ = some (.int .i64 (r : Int)) := fun W h => by rw [range_r h, hr]
                      clear hLj hRj hTe hrg2 hL5 hLjd hvn
                      go_upto_region 35 with fail
                      refine wp_region_noPanic ?_
                      refine wp_region_held_drew (S := fun W' : World => W'.rangeAt b2 (off2 + j * 26) (evl x)) (by kernel_rfl) hrd (fun hHeld => ?_)
                      refine wpAnyH_take (i := 0) (oi := { dst := some 137, op := _, type := _, pos := _, after := _, guard := _ }) (v := .slice (some ⟨b2, off2, none⟩) T'.length ct) rfl (by kernel_rfl) (by kernel_rfl) (by kernel_rfl) (fun _ _ _ h => h) (Or.inl ⟨by rfl, ?_⟩) (by assumption) ?_
                      · intro w9 hSw
                        exact y_move rfl rfl
                      simp only [Act.put, List.setIfInBounds_toArray, List.set_cons_zero, List.set_cons_succ]
                      refine wpAnyH_take (i := 1) (oi := { dst := some 138, op := _, type := _, pos := _, after := _, guard := _ }) (v := .int .i64 (j : Int)) rfl (by kernel_rfl) (by kernel_rfl) (by kernel_rfl) (fun _ _ _ h => h) (Or.inl ⟨by rfl, ?_⟩) (by assumption) ?_
                      · intro w9 hSw
                        exact y_move rfl rfl
                      simp only [Act.put, List.setIfInBounds_toArray, List.set_cons_zero, List.set_cons_succ]
                      refine wpAnyH_take (i := 2) (oi := { dst := some 139, op := _, type := _, pos := _, after := _, guard := _ }) (v := .pointer (some ⟨b2, off2 + j * 26, none⟩)) rfl (by kernel_rfl) (by kernel_rfl) (by kernel_rfl) (fun _ _ _ h => h) (Or.inl ⟨by rfl, ?_⟩) (by assumption) ?_
                      · intro w9 hSw
                        exact y_index rfl rfl rfl (hix2 _)
                      simp only [Act.put, List.setIfInBounds_toArray, List.set_cons_zero, List.set_cons_succ]
                      refine wpAnyH_take (i := 3) (oi := { dst := some 140, op := _, type := _, pos := _, after := _, guard := _ }) (v := .pointer (some ⟨b2, off2 + j * 26, none⟩)) rfl (by kernel_rfl) (by kernel_rfl) (by kernel_rfl) (fun _ _ _ h => h) (Or.inl ⟨by rfl, ?_⟩) (by assumption) ?_
                      · intro w9 hSw
                        exact y_field rfl rfl (field_em0 _ _ _)
                      simp only [Act.put, List.setIfInBounds_toArray, List.set_cons_zero, List.set_cons_succ]
                      refine wpAnyH_take (i := 4) (oi := { dst := some 141, op := _, type := _, pos := _, after := _, guard := _ }) (v := .pointer (some ⟨b2, off2 + j * 26, none⟩)) rfl (by kernel_rfl) (by kernel_rfl) (by kernel_rfl) (fun _ _ _ h => h) (Or.inl ⟨by rfl, ?_⟩) (by assumption) ?_
                      · intro w9 hSw
                        exact y_field rfl rfl (field_dm0 _ _ _)
                      simp only [Act.put, List.setIfInBounds_toArray, List.set_cons_zero, List.set_cons_succ]
                      refine wpAnyH_take (i := 5) (oi := { dst := some 142, op := _, type := _, pos := _, after := _, guard := _ }) (v := .int .i64 (r : Int)) rfl (by kernel_rfl) (by kernel_rfl) (by kernel_rfl) (fun _ _ _ h => h) (Or.inl ⟨by rfl, ?_⟩) (by assumption) ?_
                      · intro w9 hSw
                        exact y_load rfl rfl (load_int (hrr _ hSw))
                      simp only [Act.put, List.setIfInBounds_toArray, List.set_cons_zero, List.set_cons_succ]
                      refine wpAnyH_take (i := 6) (oi := { dst := some 143, op := _, type := _, pos := _, after := _, guard := _ }) (v := .slice (some ⟨b2, off2, none⟩) T'.length ct) rfl (by kernel_rfl) (by kernel_rfl) (by kernel_rfl) (fun _ _ _ h => h) (Or.inl ⟨by rfl, ?_⟩) (by assumption) ?_
                      · intro w9 hSw
                        exact y_move rfl rfl
                      simp only [Act.put, List.setIfInBounds_toArray, List.set_cons_zero, List.set_cons_succ]
                      refine wpAnyH_take (i := 7) (oi := { dst := some 144, op := _, type := _, pos := _, after := _, guard := _ }) (v := .int .i64 (j : Int)) rfl (by kernel_rfl) (by kernel_rfl) (by kernel_rfl) (fun _ _ _ h => h) (Or.inl ⟨by rfl, ?_⟩) (by assumption) ?_
                      · intro w9 hSw
                        exact y_move rfl rfl
                      simp only [Act.put, List.setIfInBounds_toArray, List.set_cons_zero, List.set_cons_succ]
                      refine wpAnyH_take (i := 8) (oi := { dst := some 145, op := _, type := _, pos := _, after := _, guard := _ }) (v := .pointer (some ⟨b2, off2 + j * 26, none⟩)) rfl (by kernel_rfl) (by kernel_rfl) (by kernel_rfl) (fun _ _ _ h => h) (Or.inl ⟨by rfl, ?_⟩) (by assumption) ?_
                      · intro w9 hSw
                        exact y_index rfl rfl rfl (hix2 _)
                      simp only [Act.put, List.setIfInBounds_toArray, List.set_cons_zero, List.set_cons_succ]
                      refine wpAnyH_take (i := 9) (oi := { dst := some 146, op := _, type := _, pos := _, after := _, guard := _ }) (v := .pointer (some ⟨b2, off2 + j * 26, none⟩)) rfl (by kernel_rfl) (by kernel_rfl) (by kernel_rfl) (fun _ _ _ h => h) (Or.inl ⟨by rfl, ?_⟩) (by assumption) ?_
                      · intro w9 hSw
                        exact y_field rfl rfl (field_em0 _ _ _)
                      simp only [Act.put, List.setIfInBounds_toArray, List.set_cons_zero, List.set_cons_succ]
                      refine wpAnyH_take (i := 10) (oi := { dst := some 147, op := _, type := _, pos := _, after := _, guard := _ }) (v := .pointer (some ⟨b2, off2 + j * 26 + 1, none⟩)) rfl (by kernel_rfl) (by kernel_rfl) (by kernel_rfl) (fun _ _ _ h => h) (Or.inl ⟨by rfl, ?_⟩) (by assumption) ?_
                      · intro w9 hSw
                        exact y_field rfl rfl (field_dm1 _ _ _)
                      simp only [Act.put, List.setIfInBounds_toArray, List.set_cons_zero, List.set_cons_succ]
                      refine wpAnyH_take (i := 11) (oi := { dst := some 148, op := _, type := _, pos := _, after := _, guard := _ }) (v := .int .i64 x.n) rfl (by kernel_rfl) (by kernel_rfl) (by kernel_rfl) (fun _ _ _ h => h) (Or.inl ⟨by rfl, ?_⟩) (by assumption) ?_
                      · intro w9 hSw
                        exact y_load rfl rfl (load_int (range_n hSw))
                      simp only [Act.put, List.setIfInBounds_toArray, List.set_cons_zero, List.set_cons_succ]
                      refine wpAnyH_take (i := 12) (oi := { dst := some 149, op := _, type := _, pos := _, after := _, guard := _ }) (v := .pointer (some ⟨g + 1, r, none⟩)) rfl (by kernel_rfl) (by kernel_rfl) (by kernel_rfl) (fun _ _ _ h => h) (Or.inl ⟨by rfl, ?_⟩) (by assumption) ?_
                      · intro w9 hSw
                        exact y_index rfl rfl rfl (hiv _)
                      simp only [Act.put, List.setIfInBounds_toArray, List.set_cons_zero, List.set_cons_succ]
                      clear hHeld
                      refine wpAnyH_ready (rs := [13]) (by kernel_rfl) (by simp) ?_
                      refine AllReadyH.cons (o := { dst := none, op := _, type := _, pos := _, after := _, guard := _ }) rfl (fun K hK => ?_) AllReadyH.nil
                      rw [if_pos (by rfl)]
                      refine y_store (ty := 3) (x := .tmp 149) (y := .tmp 148) (ad := ⟨g + 1, r, none⟩) (v := .int .i64 x.n) (w' := wr.drew.setCell ⟨g + 1, r, none⟩ (.int .i64 x.n)) rfl rfl rfl hst ?_
                      refine hK.out _ _ hS5 (fun hHeld => ?_)
                      clear hK K
                      simp only [Act.put]
                      refine wpAnyH_done (by kernel_rfl) ?_ _
                      refine NoPanic.normal ?_
                      clear hHeld
                      generalize wr.drew.setCell ⟨g + 1, r, none⟩ (.int .i64 x.n) = w5 at *
                      go_wp2
                      go_roundw
                      case rel => exact ⟨j + 1, by omega, by go_num, HL5.out, HR5.out⟩
                      case measure => simp [intOf]; omega
                    · have hjl' : ¬ (j : Int) < (T'.length : Int) := by omega
                      have hjj : T'.take j = T' := List.take_of_length_le (by omega)
                      rw [hjj, ← HO.out] at hLj
                      have HL6 : Hid _ := hLj
                      clear hLj hRj
                      go_wp2
                      go_roundw
                      case rel => exact ⟨i + 1, m4, S', u4, T ++ T', by omega, by go_num, by rw [List.length_append]; go_num, HL6.out, HAP.out⟩
                      case measure => simp [intOf]; omega
                · have hlt' : ¬ (i : Int) < (Cs.length : Int) := by omega
                  have hii : Cs.take i = Cs := List.take_of_length_le (by omega)
                  rw [hii] at hP
                  obtain ⟨h1, h2, h3⟩ := hP.all HG.out HEA.out
                  rw [HU1.out] at h1
                  subst h1 h3
                  have hLn := qlen_any g mm [] wr hL.bf
                  have hvl := hP.vlen
                  have hlv := load_v hL.vec hvl
                  have hla := load_v (HV10.out.below hL.below HV10.out.lt) hvl
                  have hCm := fun W : World => rcompare_truetrue v v hvl hvl (most_same v) (most_same v) (way_same v) W
                  rw [way_same v] at hCm
                  have HBF : Hid (Below w.heap.size w wr) := HB10.out.trans (hL.below.mono HB10.out.size)
                  have heq : (binOp .eql 40 (.agg (vals v)) (.agg (vals v))).run Try.prog wr = .ok (.bool true) wr := by
                    rw [run_eql_vec wr v v hvl hvl, decide_eq_true rfl]
                  have heg : ∀ {op : BinOp} {x y : Operand}, (eqGuard op 40 x y (.agg (vals v)) (.agg (vals v))).run Try.prog wr = .ok () wr := fun {op x y} => eqGuard_vv wr v v
                  have h2' : (T.length : Int) = (Es.length : Int) := by omega
                  clear hL hP HV10 HB10 HEC HEA
                  rw [h2']
                  go_wp2_with (first
                    | (refine wpList_loadW (ty := 40) (x := .tmp 13) (ad := ⟨g + 1, 0, none⟩) (v := .agg (vals v)) rfl rfl rfl hlv ?_)
                    | (refine wpList_loadW (ty := 40) (x := .tmp 6) (ad := ⟨B, 0, none⟩) (v := .agg (vals v)) rfl rfl rfl hla ?_)
                    | (refine wpList_eqlv rfl rfl rfl rfl heg heq ?_))
                  refine Calls.mono hLn ?_
                  rintro ex w8 ⟨rfl, hw8⟩
                  obtain rfl := hw8.symm
                  clear hLn
                  go_wp2_with (first
                    | (refine wpList_loadW (ty := 40) (x := .tmp 13) (ad := ⟨g + 1, 0, none⟩) (v := .agg (vals v)) rfl rfl rfl hlv ?_)
                    | (refine wpList_loadW (ty := 40) (x := .tmp 6) (ad := ⟨B, 0, none⟩) (v := .agg (vals v)) rfl rfl rfl hla ?_))
                  refine Calls.mono (hCm wr) ?_
                  rintro ex w9' ⟨rfl, hb9⟩
                  clear hCm
                  go_wp2
                  go_ret
                  exact ⟨rfl, HBF.out.trans (hb9.mono HBF.out.size)⟩
            · have hl0' : ¬ (L.length : Int) = 0 := by omega
              obtain ⟨b3, off3, rfl, hb3, hcl⟩ := HU.out.2.resolve_left (by omega)
              obtain ⟨hcu, hwf⟩ := hcl i hlt2
              have hcu' : wr.cell? ⟨b3, off3 + i, none⟩ = some (.int .u64 (O i)) := (hL.below.cell (p := ⟨b3, off3 + i, none⟩) hb3).trans hcu
              obtain ⟨k, hk, hkm⟩ := rem_of (O i) L.length (by omega) hwf
              have HMx : Hid _ := hMx
              have HL : Hid _ := hL
              clear hMx hL
              have HK : Hid ((O i).tmod (L.length : Int) = (k : Int)) := hk
              have HWK : Hid (wrap64 (k : Int) = (k : Int)) := show wrap64 (k : Int) = (k : Int) from (by unfold wrap64; omega)
              clear hk
              go_upto_region 19 with fail
              rw [HK.out, HWK.out]
              obtain ⟨b4, off4, e, ha9, hek, hwe, hrg4, hbl4⟩ := HL.out.left.at hkm
              subst ha9
              have he16 := hwe.1
              have hkm' : (k : Int) < (L.length : Int) := by omega
              have hrow8 : Row (wr.alloc (.cells (evc e) 44)) (B + 1) u8 C := HL.out.come.below ((Below.refl _ _).alloc (Nat.le_refl _) _) (Nat.le_refl _)
              have hF8 : Evs (wr.alloc (.cells (evc e) 44)) (some ⟨wr.heap.size, 0, none⟩) 1 1 [e] := evs_single _ _ e hwe (liesE_new wr e)
              have hle8 : B + 1 ≤ (wr.alloc (.cells (evc e) 44)).heap.size := by have := HL.out.vec.lt; simp; omega
              have hll8 : C.length + 1 ≤ 1048576 := by have := HMx.out.cl; omega
              have HL8 : Hid (L2 w B u8 C (some ⟨b4, off4, none⟩) c9 L u (wr.alloc (.cells (evc e) 44))) := HL.out.next ((Below.refl _ _).alloc (Nat.le_refl _) _)
              go_wp2_with (first
                | refine load_ev_mid rfl rfl rfl hrg4 he16 ?_
                | refine build_ev1 rfl rfl rfl he16 ?_
                | refine wpList_appE rfl _ _ rfl (B + 1) _ C rfl hrow8 _ 1 1 [e] rfl hF8 hll8 hle8 ?_)
              intro v8 w8 hr8 hg8 hn8
              have hL8 := HL8.out.app hBw hr8 hg8 (fun q hq => by rw [World.size_alloc]; exact hn8 q hq) (by omega)
              have HL9 : Hid _ := hL8
              have hcu8 : w8.cell? ⟨b3, off3 + i, none⟩ = some (.int .u64 (O i)) := (hL8.below.cell (p := ⟨b3, off3 + i, none⟩) hb3).trans hcu
              clear hrow8 hF8 hle8 HL8 HL hrg4 hr8 hg8 hn8 hcu'
              by_cases h3 : 0 < (O i).tmod 3
              · have hcut := run_cutout (w := w8.drew) (a := ⟨b4, off4, none⟩) (hL8.left.below (B := w8.heap.size) (Below.refl _ _).drew (Nat.le_refl _)) hkm hLl 27
                obtain ⟨a10, c10, w10, hap, hE10, hb10, hor⟩ := hcut
                have HM10 : Hid (MixP Es (i + 1) (C ++ [e]) (L.eraseIdx k)) := HMx.out.once hek
                have hlen10 : (L.eraseIdx k).length = L.length - 1 := List.length_eraseIdx_of_lt hkm
                have HL10 : Hid (L2 w B v8 (C ++ [e]) (some a10) c10 (L.eraseIdx k) u w10) := by
                  have h0 := HL9.out.next ((Below.refl _ _).drew.trans (hb10 : Below w8.heap.size w8.drew w10))
                  refine ⟨h0.below, h0.vec, h0.come, by rw [hlen10]; exact hE10, fun q ad hq ha => ?_, fun ad ha hl => ?_⟩
                  · obtain rfl := Option.some.inj ha
                    rcases hor with rfl | h1
                    · exact HL9.out.apart q _ hq rfl
                    · have h2 : q < w8.heap.size := (World.ownsRow.lt HL9.out.come q hq).2
                      have h3 : w8.heap.size ≤ a10.block := h1
                      omega
                  · obtain rfl := Option.some.inj ha
                    have h4 : a10.block < w10.heap.size := by
                      have := hE10.at (i := 0) (by rw [hlen10] at hl; omega)
                      obtain ⟨b5, o5, e5, h5, -, -, -, h6⟩ := this
                      cases h5; exact h6
                    refine ⟨?_, h4⟩
                    rcases hor with rfl | h1
                    · exact (HL9.out.new _ rfl (by omega)).1
                    · have h3 : w8.heap.size ≤ a10.block := h1
                      have := HL9.out.vec.lt; omega
                have hsl1 := fun W : World => slice_kk W (ao := some ⟨b4, off4, none⟩) (n := L.length) (c := c9) (k := k) (by have := hL8.left.room; omega)
                have hsl2 := fun W : World => slice_from W (ao := some ⟨b4, off4, none⟩) (m := L.length) (c := c9) (k := k + 1) (by omega)
                have hadd := fun W : World => add_k W k (by omega)
                rw [← hlen10] at hap
                clear hL8 hE10 hb10 hor
                go_upto_region 21 with fail
                refine wp_region_noPanic ?_
                refine wp_region_held_drew (S := fun W' : World => True) (by kernel_rfl) trivial (fun hHeld => ?_)
                refine wpAnyH_take (i := 0) (oi := { dst := some 102, op := _, type := _, pos := _, after := _, guard := _ }) (v := .slice (some ⟨b4, off4, none⟩) L.length c9) rfl (by kernel_rfl) (by kernel_rfl) (by kernel_rfl) (fun _ _ _ h => h) (Or.inl ⟨by rfl, ?_⟩) (by assumption) ?_
                · intro w9 hSw
                  exact y_move rfl rfl
                simp only [Act.put, List.setIfInBounds_toArray, List.set_cons_zero, List.set_cons_succ]
                refine wpAnyH_take (i := 1) (oi := { dst := some 103, op := _, type := _, pos := _, after := _, guard := _ }) (v := .int .i64 (k : Int)) rfl (by kernel_rfl) (by kernel_rfl) (by kernel_rfl) (fun _ _ _ h => h) (Or.inl ⟨by rfl, ?_⟩) (by assumption) ?_
                · intro w9 hSw
                  exact y_move rfl rfl
                simp only [Act.put, List.setIfInBounds_toArray, List.set_cons_zero, List.set_cons_succ]
                refine wpAnyH_take (i := 2) (oi := { dst := some 104, op := _, type := _, pos := _, after := _, guard := _ }) (v := .int .i64 (k : Int)) rfl (by kernel_rfl) (by kernel_rfl) (by kernel_rfl) (fun _ _ _ h => h) (Or.inl ⟨by rfl, ?_⟩) (by assumption) ?_
                · intro w9 hSw
                  exact y_move rfl rfl
                simp only [Act.put, List.setIfInBounds_toArray, List.set_cons_zero, List.set_cons_succ]
                refine wpAnyH_take (i := 3) (oi := { dst := some 105, op := _, type := _, pos := _, after := _, guard := _ }) (v := .slice (some ⟨b4, off4, none⟩) k k) rfl (by kernel_rfl) (by kernel_rfl) (by kernel_rfl) (fun _ _ _ h => h) (Or.inl ⟨by rfl, ?_⟩) (by assumption) ?_
                · intro w9 hSw
                  exact Go.Proofs.Ythpkpmcccpfabaa.E.y_slice rfl rfl (hsl1 _)
                simp only [Act.put, List.setIfInBounds_toArray, List.set_cons_zero, List.set_cons_succ]
                refine wpAnyH_take (i := 4) (oi := { dst := some 106, op := _, type := _, pos := _, after := _, guard := _ }) (v := .slice (some ⟨b4, off4, none⟩) L.length c9) rfl (by kernel_rfl) (by kernel_rfl) (by kernel_rfl) (fun _ _ _ h => h) (Or.inl ⟨by rfl, ?_⟩) (by assumption) ?_
                · intro w9 hSw
                  exact y_move rfl rfl
                simp only [Act.put, List.setIfInBounds_toArray, List.set_cons_zero, List.set_cons_succ]
                refine wpAnyH_take (i := 5) (oi := { dst := some 107, op := _, type := _, pos := _, after := _, guard := _ }) (v := .int .i64 (k : Int)) rfl (by kernel_rfl) (by kernel_rfl) (by kernel_rfl) (fun _ _ _ h => h) (Or.inl ⟨by rfl, ?_⟩) (by assumption) ?_
                · intro w9 hSw
                  exact y_move rfl rfl
                simp only [Act.put, List.setIfInBounds_toArray, List.set_cons_zero, List.set_cons_succ]
                refine wpAnyH_take (i := 6) (oi := { dst := some 108, op := _, type := _, pos := _, after := _, guard := _ }) (v := .int .i64 ((k + 1 : Nat) : Int)) rfl (by kernel_rfl) (by kernel_rfl) (by kernel_rfl) (fun _ _ _ h => h) (Or.inl ⟨by rfl, ?_⟩) (by assumption) ?_
                · intro w9 hSw
                  exact exec_bin rfl rfl rfl (eqGuard_ii _ _ _) (hadd _)
                simp only [Act.put, List.setIfInBounds_toArray, List.set_cons_zero, List.set_cons_succ]
                refine wpAnyH_take (i := 7) (oi := { dst := some 109, op := _, type := _, pos := _, after := _, guard := _ }) (v := .slice (dropA (some ⟨b4, off4, none⟩) c9 (k + 1)) (L.length - (k + 1)) (c9 - (k + 1))) rfl (by kernel_rfl) (by kernel_rfl) (by kernel_rfl) (fun _ _ _ h => h) (Or.inl ⟨by rfl, ?_⟩) (by assumption) ?_
                · intro w9 hSw
                  exact Go.Proofs.Ythpkpmcccpfabaa.E.y_slice rfl rfl (hsl2 _)
                simp only [Act.put, List.setIfInBounds_toArray, List.set_cons_zero, List.set_cons_succ]
                clear hHeld
                refine wpAnyH_ready (rs := [8]) (by kernel_rfl) (by simp) ?_
                refine AllReadyH.cons (o := { dst := some 110, op := _, type := _, pos := _, after := _, guard := _ }) rfl (fun K hK => ?_) AllReadyH.nil
                rw [if_pos (by rfl)]
                refine Go.Proofs.Ythpkpmcccpfabaa.E.y_app (t1 := 27) (t2 := 27) (x := .tmp 105) (y := .tmp 109) rfl rfl rfl hap ?_
                refine hK.out _ _ trivial (fun hHeld => ?_)
                clear hK K
                simp only [Act.put, List.setIfInBounds_toArray, List.set_cons_zero, List.set_cons_succ]
                refine wpAnyH_take (i := 9) (oi := { dst := some 9, op := _, type := _, pos := _, after := _, guard := _ }) (v := .slice (some a10) (L.eraseIdx k).length c10) rfl (by kernel_rfl) (by kernel_rfl) (by kernel_rfl) (fun _ _ _ h => h) (Or.inl ⟨by rfl, ?_⟩) (by assumption) ?_
                · intro w9 hSw
                  exact y_assign rfl rfl
                simp only [Act.put, List.setIfInBounds_toArray, List.set_cons_zero, List.set_cons_succ]
                refine wpAnyH_done (by kernel_rfl) ?_ _
                refine NoPanic.normal ?_
                clear hHeld
                go_wp2
                go_roundw
                case rel => exact ⟨i + 1, C ++ [e], L.eraseIdx k, some a10, c10, by omega, by omega, by go_num, rfl, HM10.out, HL10.out⟩
                case measure => simp [intOf]; omega
              · have HM10 : Hid (MixP Es (i + 1) (C ++ [e]) L) := HMx.out.twice hek
                clear hL8
                go_wp2
                go_roundw
                case rel => exact ⟨i + 1, C ++ [e], L, some ⟨b4, off4, none⟩, c9, by omega, by omega, by go_num, rfl, HM10.out, HL9.out⟩
                case measure => simp [intOf]; omega
        · have hlt2' : ¬ (i : Int) < (m2 : Int) := by omega
          go_upto_region 23 with fail
          have hCE : ∀ x ∈ C ++ L, x ∈ Es := fun x hx => by
            rcases List.mem_append.1 hx with hx | hx
            · exact hMx.come x hx
            · exact hMx.left x hx
          have hEC0 : ∀ x ∈ Es, x ∈ C ++ L := fun x hx => by
            rcases hMx.all x hx with hx | hx
            · exact List.mem_append_left _ hx
            · exact List.mem_append_right _ hx
          have hlen8 : C.length + L.length ≤ 1048576 := by have := hMx.cl; omega
          have hClen : (C ++ L).length ≤ 1000 := by have := hMx.cl; rw [List.length_append]; omega
          have hrow8 := hL.come
          have hEl := hL.left
          have hbase8 : B + 1 ≤ wr.heap.size := by have := hL.vec.lt; omega
          have HL : Hid _ := hL
          clear hL hMx HU
          go_wp2_with (refine wpList_appE rfl _ _ rfl (B + 1) _ C rfl hrow8 _ _ _ L rfl hEl hlen8 hbase8 ?_)
          intro v10 w10 hr10 hg10 hn10
          have hV10 : Lies w10 B u := by
            rw [Lies, hg10.block B HL.out.vec.lt (fun e1 => by have := Row.own hrow8 B e1.symm; omega)]; exact HL.out.vec
          have hB10 : Below w.heap.size w w10 := HL.out.below.grown hg10 HL.out.below.size (fun k hk => by have := Row.own hrow8 k hk; omega)
          clear hn10 hg10 HL hrow8 hEl
          obtain ⟨Cs, hCs⟩ : ∃ Cs, C ++ L = Cs := ⟨_, rfl⟩
          rw [hCs] at hr10 hCE hEC0 hClen
          have hwC : ∀ e ∈ Cs, Wide e := fun e he => hwE e (hCE e he)
          obtain ⟨aoc, cc, hvc, hEC⟩ := hr10.evs hwC
          subst hvc
          have HEC : Hid (Evs w10 aoc Cs.length cc Cs) := hEC
          have HEA : Hid (∀ x ∈ Es, x ∈ Cs) := hEC0
          have HV10 : Hid (Lies w10 B u) := hV10
          have HB10 : Hid (Below w.heap.size w w10) := hB10
          have hN := qnew_any w10
          have hF0 := bf_new w10
          have hb2 : Below w10.heap.size w10 (w10.alloc (.cells #[.map none] 34)) := (Below.refl _ _).alloc (Nat.le_refl _) _
          have hs2 := World.size_alloc w10 (.cells #[.map none] 34)
          generalize w10.alloc (.cells #[.map none] 34) = w2 at *
          obtain ⟨g, hg⟩ : ∃ g, w10.heap.size = g := ⟨_, rfl⟩
          rw [hg] at hN hF0 hs2
          have hL0 : Lq w10 g (g + 1) (w2.alloc (.cells (vals zeros) 40)) none [] zeros := by
            have hb3 : Below w2.heap.size w2 (w2.alloc (.cells (vals zeros) 40)) := (Below.refl _ _).alloc (Nat.le_refl _) _
            refine ⟨hb2.trans (hb3.mono (by omega)), hF0.below hb3, ?_, by omega, by omega, fun k e => by cases e⟩
            rw [← hs2]; exact lies_new w2 zeros
          have hzz : w2.alloc (.cells #[.int .i64 0, .int .i64 0, .int .i64 0, .int .i64 0, .int .i64 0, .int .i64 0, .int .i64 0, .int .i64 0, .int .i64 0, .int .i64 0, .int .i64 0, .int .i64 0, .int .i64 0, .int .i64 0, .int .i64 0, .int .i64 0] 40) = w2.alloc (.cells (vals zeros) 40) := by rw [zeros_vals]
          generalize hW3 : w2.alloc (.cells (vals zeros) 40) = W3 at *
          have hrel3 : Hid (∃ (i : Nat) (mm : Option Nat) (S : List Ev) (v : List Int) (T : List Ev), i ≤ Cs.length ∧ Value.int .i64 0 = .int .i64 (i : Int) ∧ Value.int .i64 0 = .int .i64 (T.length : Int) ∧ Lq w10 g (g + 1) W3 mm S v ∧ Come Es (Cs.take i) T S v) := ⟨0, none, [], zeros, [], Nat.zero_le _, rfl, rfl, hL0, Come.start Es⟩
          clear hL0 hF0 hb2 hEC hEC0 hV10 hB10 hW3 hr10 hCs
          go_wp2_with fail
          refine Calls.mono hN ?_
          rintro ex w2' ⟨rfl, hw2⟩
          obtain rfl := hw2.symm
          go_wp2_with fail
          go_loopw [14, 118] (fun c14 c118 wz => ∃ (i : Nat) (mm : Option Nat) (S : List Ev) (v : List Int) (T : List Ev), i ≤ Cs.length ∧ c118 = .int .i64 (i : Int) ∧ c14 = .int .i64 (T.length : Int) ∧ Lq w10 g (g + 1) wz mm S v ∧ Come Es (Cs.take i) T S v) (fun _ c118 _ => Cs.length - (intOf c118).toNat)
          case atStart => exact hrel3.out
          case round =>
            clear hrel3 hzz hN
            obtain ⟨i, mm, S, v, T, hi, rfl, rfl, hL, hP⟩ := hrel
            have hT64 : T.length ≤ 64 := hP.tl HG.out
            by_cases hlt : i < Cs.length
            · have hlt' : (i : Int) < (Cs.length : Int) := by omega
              obtain ⟨b, off, e, hao, hei, hwe, hrg, hbw⟩ := HEC.out.at hlt
              have he16 := hwe.1
              subst hao
              have heE : e ∈ Es := hCE e (List.mem_of_getElem? hei)
              have hv16 := hP.vlen
              have hSw' : ∀ x ∈ S, Wide x := fun x hx => hwE x (hP.kept x hx)
              have hLd := hL.drew
              have hOf := offer_any g mm S e v hwe hv16 wr.drew hLd.bf hP.buf hSw'
              have hrgd : wr.drew.rangeAt b (off + i * 26) (evl e) := range_below hrg hLd.below hbw
              have HL : Hid _ := hLd
              have HP : Hid _ := hP
              have hvd : Lies wr.drew (g + 1) v := hLd.vec
              have hsd : g + 2 ≤ wr.heap.size := by have := hL.vec.lt; omega
              have hix := fun W : World => index_ev W (b := b) (off := off) (c := cc) hlt
              clear hL hP hLd
              go_upto_region 30 with fail
              refine wp_region_noPanic ?_
              refine wp_region_held_drew (S := fun W' : World => W'.rangeAt b (off + i * 26) (evl e) ∧ Lies W' (g + 1) v) (by kernel_rfl) ⟨hrgd, hvd⟩ (fun hHeld => ?_)
              refine wpAnyH_take (i := 0) (oi := { dst := some 121, op := _, type := _, pos := _, after := _, guard := _ }) (v := .pointer (some ⟨g, 0, none⟩)) rfl (by kernel_rfl) (by kernel_rfl) (by kernel_rfl) (fun _ _ _ h => h) (Or.inl ⟨by rfl, ?_⟩) (by assumption) ?_
              · intro w9 hSw
                exact y_move rfl rfl
              simp only [Act.put, List.setIfInBounds_toArray, List.set_cons_zero, List.set_cons_succ]
              refine wpAnyH_take (i := 1) (oi := { dst := some 122, op := _, type := _, pos := _, after := _, guard := _ }) (v := .slice (some ⟨b, off, none⟩) Cs.length cc) rfl (by kernel_rfl) (by kernel_rfl) (by kernel_rfl) (fun _ _ _ h => h) (Or.inl ⟨by rfl, ?_⟩) (by assumption) ?_
              · intro w9 hSw
                exact y_move rfl rfl
              simp only [Act.put, List.setIfInBounds_toArray, List.set_cons_zero, List.set_cons_succ]
              refine wpAnyH_take (i := 2) (oi := { dst := some 123, op := _, type := _, pos := _, after := _, guard := _ }) (v := .int .i64 (i : Int)) rfl (by kernel_rfl) (by kernel_rfl) (by kernel_rfl) (fun _ _ _ h => h) (Or.inl ⟨by rfl, ?_⟩) (by assumption) ?_
              · intro w9 hSw
                exact y_move rfl rfl
              simp only [Act.put, List.setIfInBounds_toArray, List.set_cons_zero, List.set_cons_succ]
              refine wpAnyH_take (i := 3) (oi := { dst := some 124, op := _, type := _, pos := _, after := _, guard := _ }) (v := .pointer (some ⟨b, off + i * 26, none⟩)) rfl (by kernel_rfl) (by kernel_rfl) (by kernel_rfl) (fun _ _ _ h => h) (Or.inl ⟨by rfl, ?_⟩) (by assumption) ?_
              · intro w9 hSw
                exact y_index rfl rfl rfl (hix _)
              simp only [Act.put, List.setIfInBounds_toArray, List.set_cons_zero, List.set_cons_succ]
              refine wpAnyH_take (i := 4) (oi := { dst := some 125, op := _, type := _, pos := _, after := _, guard := _ }) (v := .agg (evc e)) rfl (by kernel_rfl) (by kernel_rfl) (by kernel_rfl) (fun _ _ _ h => h) (Or.inl ⟨by rfl, ?_⟩) (by assumption) ?_
              · intro w9 hSw
                exact y_load rfl rfl (load_em hSw.1 he16)
              simp only [Act.put, List.setIfInBounds_toArray, List.set_cons_zero, List.set_cons_succ]
              refine wpAnyH_take (i := 5) (oi := { dst := some 126, op := _, type := _, pos := _, after := _, guard := _ }) (v := .agg (vals v)) rfl (by kernel_rfl) (by kernel_rfl) (by kernel_rfl) (fun _ _ _ h => h) (Or.inl ⟨by rfl, ?_⟩) (by assumption) ?_
              · intro w9 hSw
                exact y_load rfl rfl (load_v hSw.2 hv16)
              simp only [Act.put, List.setIfInBounds_toArray, List.set_cons_zero, List.set_cons_succ]
              clear hHeld
              refine wpAnyH_ready (rs := [6]) (by kernel_rfl) (by simp) ?_
              refine AllReadyH.cons (o := { dst := some 127, op := _, type := _, pos := _, after := _, guard := _ }) rfl (fun K hK => ?_) AllReadyH.nil
              rw [if_pos (by rfl)]
              refine y_call (f := 11) (xs := [.tmp 121, .tmp 125, .tmp 126]) (vs := [.pointer (some ⟨g, 0, none⟩), .agg (evc e), .agg (vals v)]) rfl rfl (enters_offer _ _) hOf ?_
              rintro ex w4 ⟨vt, T', S', u4, m4, rfl, hO, hu16, hr4, hB4, ht4⟩
              refine ⟨_, rfl, ?_⟩
              have hL4 := HL.out.offer hB4 ht4
              have hrg4 : w4.rangeAt b (off + i * 26) (evl e) := range_below hrg hL4.below hbw
              refine hK.out _ _ ⟨hrg4, hL4.vec⟩ (fun hHeld => ?_)
              clear hK K
              simp only [Act.put, List.setIfInBounds_toArray, List.set_cons_zero, List.set_cons_succ]
              refine wpAnyH_take (i := 7) (oi := { dst := some 16, op := _, type := _, pos := _, after := _, guard := _ }) (v := vt) rfl (by kernel_rfl) (by kernel_rfl) (by kernel_rfl) (fun _ _ _ h => h) (Or.inl ⟨by rfl, ?_⟩) (by assumption) ?_
              · intro w9 hSw
                exact y_assign rfl rfl
              simp only [Act.put, List.setIfInBounds_toArray, List.set_cons_zero, List.set_cons_succ]
              refine wpAnyH_done (by kernel_rfl) ?_ _
              refine NoPanic.normal ?_
              clear hHeld
              have hwT := (hO.wide hSw' hwe).1
              obtain ⟨at', ct, hvt, hTe⟩ := hr4.evs hwT
              have hTl : T'.length ≤ 64 := hO.len HP.out.buf
              have HO : Hid (u4 = vs T' v) := hO.vs
              have HAP : Hid (Come Es (Cs.take (i + 1)) (T ++ T') S' u4) := by
                rw [List.take_add_one, hei, Option.toList_some]
                exact HP.out.step HG.out heE hO
              have hok' : ∀ x ∈ T', okdot x.r x.n = true := fun x hx => okev_dot (hO.ok HP.out.buf x hx)
              have HVL : Hid (v.length = 16) := hv16
              subst hvt
              have HR4 : Hid (Row w4 (g + 2) (.slice at' T'.length ct) T') := hr4.lower (by exact hsd)
              have hrelI : Hid (∃ j : Nat, j ≤ T'.length ∧ Value.int .i64 0 = .int .i64 (j : Int) ∧ Lq w10 g (g + 1) w4 m4 S' (vs (T'.take j) v) ∧ Row w4 (g + 2) (.slice at' T'.length ct) T') := ⟨0, Nat.zero_le _, rfl, hL4, HR4.out⟩
              clear hO hL4 hr4 HR4 HL hTe hvd hrgd hrg4 hrg
              go_wp2_with fail
              go_loopw [134] (fun c134 wj => ∃ j : Nat, j ≤ T'.length ∧ c134 = .int .i64 (j : Int) ∧ Lq w10 g (g + 1) wj m4 S' (vs (T'.take j) v) ∧ Row wj (g + 2) (.slice at' T'.length ct) T') (fun c134 _ => T'.length - (intOf c134).toNat)
              case atStart => exact hrelI.out
              case round =>
                clear hrelI
                obtain ⟨j, hj, rfl, hLj, hRj⟩ := hrel
                by_cases hjl : j < T'.length
                · have hjl' : (j : Int) < (T'.length : Int) := by omega
                  obtain ⟨ao2, c2, hv2, hTe⟩ := hRj.evs hwT
                  simp only [Value.slice.injEq, true_and] at hv2
                  obtain ⟨rfl, rfl⟩ := hv2
                  obtain ⟨b2, off2, x, hao2, hxj, hwx, hrg2, hbl2⟩ := hTe.at hjl
                  subst hao2
                  have hdx := hok' x (List.mem_of_getElem? hxj)
                  simp only [okdot, decide_eq_true_eq] at hdx
                  obtain ⟨r, hr⟩ : ∃ r : Nat, x.r = (r : Int) := ⟨x.r.toNat, by omega⟩
                  have hr16 : r < 16 := by omega
                  have hb2ne : b2 ≠ g + 1 := by
                    have := Row.own hRj b2 rfl
                    omega
                  have hLjd := hLj.drew
                  have hcu := hLjd.vec.cell (k := r) (by rw [vs_length, HVL.out]; exact hr16)
                  have hfu := hLjd.vec.frozen (k := r)
                  have hst := st_int (v := .int .i64 x.n) hcu hfu rfl ⟨_, rfl⟩
                  have hL5 := hLjd.set r x.n
                  have hvn : (vs (T'.take j) v).set r x.n = vs (T'.take (j + 1)) v := by rw [vs_take hxj, hr]; rfl
                  rw [hvn] at hL5
                  have hrd : wr.drew.rangeAt b2 (off2 + j * 26) (evl x) := hrg2
                  have hix2 := fun W : World => index_ev W (b := b2) (off := off2) (c := ct) hjl
                  have hiv := fun W : World => index_vv W (g + 1) 0 r hr16
                  simp only [Nat.zero_add] at hiv
                  have hS5 : (wr.drew.setCell ⟨g + 1, r, none⟩ (.int .i64 x.n)).rangeAt b2 (off2 + j * 26) (evl x) := fun q z hz => by
                    rw [World.cell?_setCell_other _ _ _ _ (by intro e; exact hb2ne (congrArg Addr.block e).symm)]; exact hrd q z hz
                  have HL5 : Hid _ := hL5
                  have HR5 : Hid _ := Row.set (j := r) (x := .int .i64 x.n) (Bv := g + 1) (w := wr.drew) hRj (by omega)
                  have hrr : ∀ W : World, W.rangeAt b2 (off2 + j * 26) (evl x) → W.cell? ⟨b2, off2 + j * 26, none⟩ = some (.int .i64 (r : Int)) := fun W h => by rw [range_r h, hr]
                  clear hLj hRj hTe hrg2 hL5 hLjd hvn
                  go_upto_region 35 with fail
                  refine wp_region_noPanic ?_
                  refine wp_region_held_drew (S := fun W' : World => W'.rangeAt b2 (off2 + j * 26) (evl x)) (by kernel_rfl) hrd (fun hHeld => ?_)
                  refine wpAnyH_take (i := 0) (oi := { dst := some 137, op := _, type := _, pos := _, after := _, guard := _ }) (v := .slice (some ⟨b2, off2, none⟩) T'.length ct) rfl (by kernel_rfl) (by kernel_rfl) (by kernel_rfl) (fun _ _ _ h => h) (Or.inl ⟨by rfl, ?_⟩) (by assumption) ?_
                  · intro w9 hSw
                    exact y_move rfl rfl
                  simp only [Act.put, List.setIfInBounds_toArray, List.set_cons_zero, List.set_cons_succ]
                  refine wpAnyH_take (i := 1) (oi := { dst := some 138, op := _, type := _, pos := _, after := _, guard := _ }) (v := .int .i64 (j : Int)) rfl (by kernel_rfl) (by kernel_rfl) (by kernel_rfl) (fun _ _ _ h => h) (Or.inl ⟨by rfl, ?_⟩) (by assumption) ?_
                  · intro w9 hSw
                    exact y_move rfl rfl
                  simp only [Act.put, List.setIfInBounds_toArray, List.set_cons_zero, List.set_cons_succ]
                  refine wpAnyH_take (i := 2) (oi := { dst := some 139, op := _, type := _, pos := _, after := _, guard := _ }) (v := .pointer (some ⟨b2, off2 + j * 26, none⟩)) rfl (by kernel_rfl) (by kernel_rfl) (by kernel_rfl) (fun _ _ _ h => h) (Or.inl ⟨by rfl, ?_⟩) (by assumption) ?_
                  · intro w9 hSw
                    exact y_index rfl rfl rfl (hix2 _)
                  simp only [Act.put, List.setIfInBounds_toArray, List.set_cons_zero, List.set_cons_succ]
                  refine wpAnyH_take (i := 3) (oi := { dst := some 140, op := _, type := _, pos := _, after := _, guard := _ }) (v := .pointer (some ⟨b2, off2 + j * 26, none⟩)) rfl (by kernel_rfl) (by kernel_rfl) (by kernel_rfl) (fun _ _ _ h => h) (Or.inl ⟨by rfl, ?_⟩) (by assumption) ?_
                  · intro w9 hSw
                    exact y_field rfl rfl (field_em0 _ _ _)
                  simp only [Act.put, List.setIfInBounds_toArray, List.set_cons_zero, List.set_cons_succ]
                  refine wpAnyH_take (i := 4) (oi := { dst := some 141, op := _, type := _, pos := _, after := _, guard := _ }) (v := .pointer (some ⟨b2, off2 + j * 26, none⟩)) rfl (by kernel_rfl) (by kernel_rfl) (by kernel_rfl) (fun _ _ _ h => h) (Or.inl ⟨by rfl, ?_⟩) (by assumption) ?_
                  · intro w9 hSw
                    exact y_field rfl rfl (field_dm0 _ _ _)
                  simp only [Act.put, List.setIfInBounds_toArray, List.set_cons_zero, List.set_cons_succ]
                  refine wpAnyH_take (i := 5) (oi := { dst := some 142, op := _, type := _, pos := _, after := _, guard := _ }) (v := .int .i64 (r : Int)) rfl (by kernel_rfl) (by kernel_rfl) (by kernel_rfl) (fun _ _ _ h => h) (Or.inl ⟨by rfl, ?_⟩) (by assumption) ?_
                  · intro w9 hSw
                    exact y_load rfl rfl (load_int (hrr _ hSw))
                  simp only [Act.put, List.setIfInBounds_toArray, List.set_cons_zero, List.set_cons_succ]
                  refine wpAnyH_take (i := 6) (oi := { dst := some 143, op := _, type := _, pos := _, after := _, guard := _ }) (v := .slice (some ⟨b2, off2, none⟩) T'.length ct) rfl (by kernel_rfl) (by kernel_rfl) (by kernel_rfl) (fun _ _ _ h => h) (Or.inl ⟨by rfl, ?_⟩) (by assumption) ?_
                  · intro w9 hSw
                    exact y_move rfl rfl
                  simp only [Act.put, List.setIfInBounds_toArray, List.set_cons_zero, List.set_cons_succ]
                  refine wpAnyH_take (i := 7) (oi := { dst := some 144, op := _, type := _, pos := _, after := _, guard := _ }) (v := .int .i64 (j : Int)) rfl (by kernel_rfl) (by kernel_rfl) (by kernel_rfl) (fun _ _ _ h => h) (Or.inl ⟨by rfl, ?_⟩) (by assumption) ?_
                  · intro w9 hSw
                    exact y_move rfl rfl
                  simp only [Act.put, List.setIfInBounds_toArray, List.set_cons_zero, List.set_cons_succ]
                  refine wpAnyH_take (i := 8) (oi := { dst := some 145, op := _, type := _, pos := _, after := _, guard := _ }) (v := .pointer (some ⟨b2, off2 + j * 26, none⟩)) rfl (by kernel_rfl) (by kernel_rfl) (by kernel_rfl) (fun _ _ _ h => h) (Or.inl ⟨by rfl, ?_⟩) (by assumption) ?_
                  · intro w9 hSw
                    exact y_index rfl rfl rfl (hix2 _)
                  simp only [Act.put, List.setIfInBounds_toArray, List.set_cons_zero, List.set_cons_succ]
                  refine wpAnyH_take (i := 9) (oi := { dst := some 146, op := _, type := _, pos := _, after := _, guard := _ }) (v := .pointer (some ⟨b2, off2 + j * 26, none⟩)) rfl (by kernel_rfl) (by kernel_rfl) (by kernel_rfl) (fun _ _ _ h => h) (Or.inl ⟨by rfl, ?_⟩) (by assumption) ?_
                  · intro w9 hSw
                    exact y_field rfl rfl (field_em0 _ _ _)
                  simp only [Act.put, List.setIfInBounds_toArray, List.set_cons_zero, List.set_cons_succ]
                  refine wpAnyH_take (i := 10) (oi := { dst := some 147, op := _, type := _, pos := _, after := _, guard := _ }) (v := .pointer (some ⟨b2, off2 + j * 26 + 1, none⟩)) rfl (by kernel_rfl) (by kernel_rfl) (by kernel_rfl) (fun _ _ _ h => h) (Or.inl ⟨by rfl, ?_⟩) (by assumption) ?_
                  · intro w9 hSw
                    exact y_field rfl rfl (field_dm1 _ _ _)
                  simp only [Act.put, List.setIfInBounds_toArray, List.set_cons_zero, List.set_cons_succ]
                  refine wpAnyH_take (i := 11) (oi := { dst := some 148, op := _, type := _, pos := _, after := _, guard := _ }) (v := .int .i64 x.n) rfl (by kernel_rfl) (by kernel_rfl) (by kernel_rfl) (fun _ _ _ h => h) (Or.inl ⟨by rfl, ?_⟩) (by assumption) ?_
                  · intro w9 hSw
                    exact y_load rfl rfl (load_int (range_n hSw))
                  simp only [Act.put, List.setIfInBounds_toArray, List.set_cons_zero, List.set_cons_succ]
                  refine wpAnyH_take (i := 12) (oi := { dst := some 149, op := _, type := _, pos := _, after := _, guard := _ }) (v := .pointer (some ⟨g + 1, r, none⟩)) rfl (by kernel_rfl) (by kernel_rfl) (by kernel_rfl) (fun _ _ _ h => h) (Or.inl ⟨by rfl, ?_⟩) (by assumption) ?_
                  · intro w9 hSw
                    exact y_index rfl rfl rfl (hiv _)
                  simp only [Act.put, List.setIfInBounds_toArray, List.set_cons_zero, List.set_cons_succ]
                  clear hHeld
                  refine wpAnyH_ready (rs := [13]) (by kernel_rfl) (by simp) ?_
                  refine AllReadyH.cons (o := { dst := none, op := _, type := _, pos := _, after := _, guard := _ }) rfl (fun K hK => ?_) AllReadyH.nil
                  rw [if_pos (by rfl)]
                  refine y_store (ty := 3) (x := .tmp 149) (y := .tmp 148) (ad := ⟨g + 1, r, none⟩) (v := .int .i64 x.n) (w' := wr.drew.setCell ⟨g + 1, r, none⟩ (.int .i64 x.n)) rfl rfl rfl hst ?_
                  refine hK.out _ _ hS5 (fun hHeld => ?_)
                  clear hK K
                  simp only [Act.put]
                  refine wpAnyH_done (by kernel_rfl) ?_ _
                  refine NoPanic.normal ?_
                  clear hHeld
                  generalize wr.drew.setCell ⟨g + 1, r, none⟩ (.int .i64 x.n) = w5 at *
                  go_wp2
                  go_roundw
                  case rel => exact ⟨j + 1, by omega, by go_num, HL5.out, HR5.out⟩
                  case measure => simp [intOf]; omega
                · have hjl' : ¬ (j : Int) < (T'.length : Int) := by omega
                  have hjj : T'.take j = T' := List.take_of_length_le (by omega)
                  rw [hjj, ← HO.out] at hLj
                  have HL6 : Hid _ := hLj
                  clear hLj hRj
                  go_wp2
                  go_roundw
                  case rel => exact ⟨i + 1, m4, S', u4, T ++ T', by omega, by go_num, by rw [List.length_append]; go_num, HL6.out, HAP.out⟩
                  case measure => simp [intOf]; omega
            · have hlt' : ¬ (i : Int) < (Cs.length : Int) := by omega
              have hii : Cs.take i = Cs := List.take_of_length_le (by omega)
              rw [hii] at hP
              obtain ⟨h1, h2, h3⟩ := hP.all HG.out HEA.out
              rw [HU1.out] at h1
              subst h1 h3
              have hLn := qlen_any g mm [] wr hL.bf
              have hvl := hP.vlen
              have hlv := load_v hL.vec hvl
              have hla := load_v (HV10.out.below hL.below HV10.out.lt) hvl
              have hCm := fun W : World => rcompare_truetrue v v hvl hvl (most_same v) (most_same v) (way_same v) W
              rw [way_same v] at hCm
              have HBF : Hid (Below w.heap.size w wr) := HB10.out.trans (hL.below.mono HB10.out.size)
              have heq : (binOp .eql 40 (.agg (vals v)) (.agg (vals v))).run Try.prog wr = .ok (.bool true) wr := by
                rw [run_eql_vec wr v v hvl hvl, decide_eq_true rfl]
              have heg : ∀ {op : BinOp} {x y : Operand}, (eqGuard op 40 x y (.agg (vals v)) (.agg (vals v))).run Try.prog wr = .ok () wr := fun {op x y} => eqGuard_vv wr v v
              have h2' : (T.length : Int) = (Es.length : Int) := by omega
              clear hL hP HV10 HB10 HEC HEA
              rw [h2']
              go_wp2_with (first
                | (refine wpList_loadW (ty := 40) (x := .tmp 13) (ad := ⟨g + 1, 0, none⟩) (v := .agg (vals v)) rfl rfl rfl hlv ?_)
                | (refine wpList_loadW (ty := 40) (x := .tmp 6) (ad := ⟨B, 0, none⟩) (v := .agg (vals v)) rfl rfl rfl hla ?_)
                | (refine wpList_eqlv rfl rfl rfl rfl heg heq ?_))
              refine Calls.mono hLn ?_
              rintro ex w8 ⟨rfl, hw8⟩
              obtain rfl := hw8.symm
              clear hLn
              go_wp2_with (first
                | (refine wpList_loadW (ty := 40) (x := .tmp 13) (ad := ⟨g + 1, 0, none⟩) (v := .agg (vals v)) rfl rfl rfl hlv ?_)
                | (refine wpList_loadW (ty := 40) (x := .tmp 6) (ad := ⟨B, 0, none⟩) (v := .agg (vals v)) rfl rfl rfl hla ?_))
              refine Calls.mono (hCm wr) ?_
              rintro ex w9' ⟨rfl, hb9⟩
              clear hCm
              go_wp2
              go_ret
              exact ⟨rfl, HBF.out.trans (hb9.mono HBF.out.size)⟩
end Go.Proofs.Ythpkpmcccpfabaa
