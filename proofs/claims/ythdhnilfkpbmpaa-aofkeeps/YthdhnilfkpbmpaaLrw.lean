/-
  What Rewrite comes to.
-/
import Derived.Test.YthdhnilfkpbmpaaLad
namespace Go.Proofs.Ythdhnilfkpbmpaa
set_option maxRecDepth 100000
set_option linter.unusedVariables false
open Go.RowKit

theorem Evs.kept {w w' : World} {ao : Option Addr} {m c : Nat} {E : List Ev} (h : Evs w ao m c E) (hs : 0 < m → ∀ ad, ao = some ad → w'.heap[ad.block]? = w.heap[ad.block]?) : Evs w' ao m c E :=
  ⟨h.len, h.room, h.top, h.zero, fun ad ha j u hu => by
    have h1 := h.cells ad ha j u hu
    by_cases hm : 0 < m
    · have hb : (ad.add j).block = ad.block := by unfold Addr.add; split <;> rfl
      rw [World.cell?_of_block (w := w) (by rw [hb]; exact hs hm ad ha)]
      exact h1
    · have : E = [] := List.eq_nil_of_length_eq_zero (by have := h.len; omega)
      subst this
      simp [evs] at hu, h.wide⟩
/-- A list that shares nothing with the log and its disk. -/
def Off (ao : Option Addr) (m g gd : Nat) (vE vd : Value) (w : World) : Prop := 0 < m → ∀ ad, ao = some ad → ad.block < w.heap.size ∧ ad.block ≠ g ∧ ad.block ≠ gd ∧ vE.ownBlock ≠ some ad.block ∧ vd.ownBlock ≠ some ad.block
theorem Evs.mv {w w' : World} {ao : Option Addr} {m c g gd : Nat} {E : List Ev} {vE vd vE' vd' : Value} (h : Evs w ao m c E) (ho : Off ao m g gd vE vd w) (hm : Mv g gd vE vd vE' vd' w w') : Evs w' ao m c E :=
  h.kept (fun h0 ad ha => by
    obtain ⟨h1, h2, h3, h4, h5⟩ := ho h0 ad ha
    exact hm.block _ h1 h2 h3 h4 h5)
theorem Off.mv {w w' : World} {ao : Option Addr} {m g gd : Nat} {vE vd vE' vd' : Value} (ho : Off ao m g gd vE vd w) (hm : Mv g gd vE vd vE' vd' w w') : Off ao m g gd vE' vd' w' := fun h0 ad ha => by
  obtain ⟨h1, h2, h3, h4, h5⟩ := ho h0 ad ha
  exact ⟨Nat.lt_of_lt_of_le h1 hm.size, h2, h3, fun e => (hm.ownE _ e).elim h4 (fun q => by omega), fun e => (hm.ownD _ e).elim h5 (fun q => by omega)⟩

/-- What Rewrite leaves. -/
def Rewritten (w w' : World) (e : Ending) (base g gd : Nat) (vE vd : Value) (b : Bool) (s : List UInt8) (E : List Ev) (k : Nat) (l : List UInt8) (f r : Nat) (t : List UInt8) (L : List Ev) : Prop :=
  (∃ err : Int, (err = 1 ∨ err = 9 ∨ (err = 4 ∧ 65528 < t.length)) ∧ e = .returned (.int .i64 err) ∧ Both w' base g gd vE vd b s E k l f r ∧ Mv g gd vE vd vE vd w w') ∨
  (e = .returned (.int .i64 0) ∧ Fine true t L ∧ ∃ vE' vd', Both w' base g gd vE' vd' true t L L.length (file true t L) (file true t L).length r ∧ Mv g gd vE vd vE' vd' w w')

section
variable {w : World} {base g gd : Nat} {vE vd : Value} {b : Bool} {s : List UInt8} {E : List Ev} {k : Nat} {l : List UInt8} {f r : Nat} (t : List UInt8) (ao : Option Addr) (m c : Nat) (L : List Ev)
set_option maxHeartbeats 400000 in
theorem rewrite_long (h : Both w base g gd vE vd b s E k l f r) (ht : 65528 < t.length) (ht2 : t.length ≤ 70000) :
    Calls Try.prog 13 #[.pointer (some ⟨g, 0, none⟩), .string (sb t), .slice ao m c] w fun e w' => Rewritten w w' e base g gd vE vd b s E k l f r t L := by
  have c0 := h.log.c0
  have HP : Hid _ := putall_long t ao m c w ht ht2
  have Ht : Hid _ := ht
  clear ht
  unfold Rewritten
  go_enter Try.func13, Try.ntmps13
  go_wp2_with fail
  refine Calls.mono (lorz_some g _) ?_
  rintro e w1 ⟨rfl, rfl⟩
  go_wp2_with fail
  refine Calls.mono HP.out ?_
  rintro e w2 ⟨rfl, hb2⟩
  clear HP c0
  go_wp2
  go_ret
  exact .inl ⟨4, .inr (.inr ⟨rfl, Ht.out⟩), rfl, h.below hb2 (Nat.le_refl _), Mv.quiet _ _ _ _ hb2⟩
set_option maxHeartbeats 1000000 in
theorem rewrite_short (h : Both w base g gd vE vd b s E k l f r) (hbase : base ≤ w.heap.size) (hE : Evs w ao m c L) (ho : Off ao m g gd vE vd w) (ht : t.length ≤ 65528) (hm : m ≤ 100) :
    Calls Try.prog 13 #[.pointer (some ⟨g, 0, none⟩), .string (sb t), .slice ao m c] w fun e w' => Rewritten w w' e base g gd vE vd b s E k l f r t L := by
  have c0 := h.log.c0
  have HP : Hid _ := putall_any t ao m c L w hE ht hm
  have Ht : Hid _ := ht
  clear ht
  unfold Rewritten
  go_enter Try.func13, Try.ntmps13
  go_wp2_with fail
  refine Calls.mono (lorz_some g _) ?_
  rintro e w1 ⟨rfl, rfl⟩
  go_wp2_with fail
  refine Calls.mono HP.out ?_
  rintro e w2 ⟨hb2, hcase⟩
  clear HP c0
  have h2 := h.below hb2 (Nat.le_refl _)
  have M2 : Hid (Mv g gd vE vd vE vd w1 w2) := Mv.quiet _ _ _ _ hb2
  have hE2 := hE.below hb2 (Nat.le_refl _)
  have ho2 := ho.mv M2.out
  have hbs2 := Nat.le_trans hbase hb2.size
  have hel := hE.len
  clear hE ho h hbase
  rcases hcase with ⟨hgd, v, rfl, hrow⟩ | ⟨-, rfl⟩
  · obtain ⟨a2, c2, rfl, hby, hc2⟩ := own_val hrow
    have hfew := file_few (b := true) hgd Ht.out
    have d0 := h2.log.c0
    have hfl : (file true t L).length ≤ 1000000 := by omega
    by_cases hr : r < (file true t L).length
    · have HR : Hid _ := replace_full (some ⟨gd, 0, none⟩) a2 (file true t L).length c2 base gd vd l f r w2 w2 (orz_some gd _) h2.dsk hr
      clear hrow hby hr hfew
      generalize (file true t L).length = n at *
      go_wp2_with fail
      refine Calls.mono HR.out ?_
      rintro e w3 ⟨rfl, rfl⟩
      clear HR d0
      go_wp2
      go_ret
      exact .inl ⟨9, .inr (.inl rfl), rfl, h2, M2.out⟩
    · have HR : Hid _ := replace_ok (some ⟨gd, 0, none⟩) a2 (file true t L).length c2 base gd vd l (file true t L) f r w2 w2 (orz_some gd _) h2.dsk hby (by omega) hbs2
      clear hrow hby hr hfew
      obtain ⟨n, hn⟩ : ∃ n, (file true t L).length = n := ⟨_, rfl⟩
      rw [hn] at hfl HR ⊢
      go_wp2_with fail
      refine Calls.mono HR.out ?_
      rintro e w3 ⟨rfl, vd', hD3, hS3⟩
      have hL3 := h2.log.disk h2.dsk hS3
      have M3 : Hid (Mv g gd vE vd vE vd' w1 w3) := M2.out.trans (Mv.disk hS3)
      have hE3 := hE2.mv ho2 (Mv.disk hS3)
      have ho3 := ho2.mv (Mv.disk (vE := vE) (g := g) hS3)
      have hbs3 := Nat.le_trans hbs2 hS3.size
      clear HR d0 h2 hE2 ho2 hS3
      -- the log's cells
      have hL4 := (hL3.set1 t).set2 true
      have hS4 : Step g vE vE w3 ((w3.setCell ⟨g, 1, none⟩ (.string (sb t))).setCell ⟨g, 2, none⟩ (.bool true)) := (Step.set g 1 vE w3 (.string (sb t))).trans (Step.set g 2 vE _ (.bool true))
      have hD4 := hD3.log hL3 hS4
      have M4 : Hid (Mv g gd vE vd vE vd' w1 _) := M3.out.trans (Mv.log hS4)
      have hE4 := hE3.mv ho3 (Mv.log hS4)
      have hbs4 := Nat.le_trans hbs3 hS4.size
      have e1 := hL3.c1
      have e2 := hL3.c2
      have f1 := hL3.fz 1
      have f2 := hL3.fz 2
      clear hL3 hD3 hS4 hE3 ho3 M3 hbs3
      go_upto_region 11 with (fail)
      clear e1 e2 f1 f2
      generalize ((w3.setCell ⟨g, 1, none⟩ (.string (sb t))).setCell ⟨g, 2, none⟩ (.bool true)) = w4 at *
      have HC : Hid _ := eclone_any ao m c L w4 hE4 (by omega)
      clear hE4
      go_wp2_with fail
      refine Calls.mono HC.out ?_
      rintro e w5 ⟨v5, rfl, hr5, hb5⟩
      have hL5 := hL4.below hb5 (Nat.le_refl _)
      have hD5 := hD4.below hb5 (Nat.le_refl _)
      have hne : v5.ownBlock ≠ some g := fun e => by
        have := (hr5.lt g e).1
        have := hL4.lt
        omega
      have hwd : ∀ x ∈ L, Wide x := fun x hx => (hgd x hx).wide
      have hL6 : Lg ((w5.setCell ⟨g, 3, none⟩ v5).setCell ⟨g, 4, none⟩ (.int .i64 (m : Int))) base g (some ⟨gd, 0, none⟩) v5 true t L L.length := by
        have hb6 : (w5.setCell ⟨g, 3, none⟩ v5).heap[g]? = some (.cells #[.pointer (some ⟨gd, 0, none⟩), .string (sb t), .bool true, v5, .int .i64 (k : Int)] 59 (0, 0)) := by
          rw [heap_setCell_same w5 g 3 _ _ _ hL5.blk]; rfl
        refine ⟨by rw [heap_setCell_same _ g 4 _ _ _ hb6, hel]; rfl, row_set (row_set (Row.lower hr5 hbs4) hne _ _) hne _ _, hL5.low, hwd, by omega, Nat.le_refl _⟩
      have hS6 : Step g vE v5 w4 ((w5.setCell ⟨g, 3, none⟩ v5).setCell ⟨g, 4, none⟩ (.int .i64 (m : Int))) := by
        refine ⟨hb5.os, hb5.tape, hb5.output, by rw [setCell_size, setCell_size]; exact hb5.size, fun j hj h1 h2 => ?_, fun j hj => .inr (hr5.lt j hj).1⟩
        rw [Below.heap_setCell _ _ _ j h1, Below.heap_setCell _ _ _ j h1]
        exact hb5.block j hj
      have hD6 := hD4.log hL4 hS6
      have FIN : Hid (Fine true t L ∧ ∃ vE' vd', Both ((w5.setCell ⟨g, 3, none⟩ v5).setCell ⟨g, 4, none⟩ (.int .i64 (m : Int))) base g gd vE' vd' true t L L.length (file true t L) (file true t L).length r ∧ Mv g gd vE vd vE' vd' w1 ((w5.setCell ⟨g, 3, none⟩ v5).setCell ⟨g, 4, none⟩ (.int .i64 (m : Int)))) :=
        ⟨⟨hgd, Ht.out, by simp⟩, v5, vd', ⟨hL6, by rw [hn]; exact hD6⟩, M4.out.trans (Mv.log hS6)⟩
      have e3 := hL5.c3
      have e4 := hL5.c4
      have f3 := hL5.fz 3
      have f4 := hL5.fz 4
      obtain ⟨a5, c5, h5, -⟩ := Row.evs hr5 hwd
      rw [hel] at h5
      subst h5
      clear HC hL4 hD4 hL5 hD5 hL6 hD6 hS6 hr5 hb5 M4 hne
      go_wp2
      go_ret
      exact .inr ⟨rfl, FIN.out⟩
  · go_wp2
    go_ret
    exact .inl ⟨1, .inl rfl, rfl, h2, M2.out⟩
theorem rewrite_any (h : Both w base g gd vE vd b s E k l f r) (hbase : base ≤ w.heap.size) (hE : Evs w ao m c L) (ho : Off ao m g gd vE vd w) (ht : t.length ≤ 70000) (hm : m ≤ 100) :
    Calls Try.prog 13 #[.pointer (some ⟨g, 0, none⟩), .string (sb t), .slice ao m c] w fun e w' => Rewritten w w' e base g gd vE vd b s E k l f r t L := by
  by_cases h1 : 65528 < t.length
  · exact rewrite_long t ao m c L h h1 ht
  · exact rewrite_short t ao m c L h hbase hE ho (by omega) hm
end
end Go.Proofs.Ythdhnilfkpbmpaa
