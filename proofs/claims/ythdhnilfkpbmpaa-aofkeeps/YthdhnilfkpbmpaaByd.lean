/-
  Lists of bytes in memory, and texts: how they lie there, what the two conversions come to, and how a row of the call's own is read, turned, grown and cut.
-/
import Derived.Test.YthdhnilfkpbmpaaOpn
import Derived.Test.YthdhnilfkpbmpaaProg
import Derived.Laws.BitsAllLaws
import Derived.Laws.AppendOwnNone
import Derived.Laws.StructEq
import Derived.Laws.Rows
import Derived.Laws.ResultCell
import Derived.WalkKit
import Derived.Laws.IdiomStrings
namespace Go.Proofs.Ythdhnilfkpbmpaa
set_option maxRecDepth 100000

open Go.RowKit

/-- 'append' to a row of the call's own, of whatever came in, asked for or not (a guard that holds). -/
theorem wpList_app {ops : Array Oper} {rest : List Oper} {o : Oper} {a : Act} {w : World} {Q : Exit → Act → World → Prop} (hw : Region.wanted o (yielded ops a.tmps) = true) (s x : Operand) (t : TypeId)
    (ho : o.op = .call { callee := .builtin .append, args := #[s, x], argTypes := #[t, t] })
    (base : Nat) (e : TypeId) (i : TypeInfo) (z : Value) (bytes : Nat) (ht : Try.prog.underlying t = some (.slice e)) (hi : Try.prog.info? e = some i) (hz : i.zero = some z)
    (hsize : i.size = 1) (hby : i.bytes = bytes) (hzs : z.cells.size = 1)
    (v : Value) (n : Nat) (xs : List Value) (hs : a.eval s = v) (hown : w.ownsRow base e 1 v n xs)
    (ao : Option Addr) (m c : Nat) (news : List Value) (hx : a.eval x = .slice ao m c) (hl : news.length = m) (hnone : ao = none → m = 0 ∧ c = 0)
    (hnews : ∀ ad, ao = some ad → ∀ j u, news[j]? = some u → w.cell? (ad.add j) = some u) (h1 : ∀ u ∈ news, u.oneCell' = true)
    (h63 : n + m ≤ maxLen) (hbytes : (n + m) * bytes ≤ 140737488355328) (hbase : base ≤ w.heap.size)
    (h : ∀ v' w', w'.ownsRow base e 1 v' (n + m) (xs ++ news) → w.grownBy w' v.ownBlock → wpList Try.prog ops Q rest (a.put o.dst v') w') : wpList Try.prog ops Q (o :: rest) a w := by
  refine wpList_step fun K hK => ?_
  rw [if_pos hw]
  cases ao with
  | some ad => exact wp_append_own w s x t ho base e i z 1 bytes ht hi hz hsize hby hzs (by omega) v n xs hs hown ad m c news hx (by omega) (hnews ad rfl) h1 h63 hbytes hbase fun v' w' h2 h3 _ => hK _ _ (h v' w' h2 h3)
  | none =>
    obtain ⟨rfl, rfl⟩ := hnone rfl
    have hn : news = [] := List.eq_nil_of_length_eq_zero hl
    subst hn
    have hrun := run_append_owned_none (P := Try.prog) (w := w) base t o.type e i 1 ht hi v n xs hown
    unfold Oper.wp
    simp [execOp, ho, resolve, invoke, builtin, hs, hx, hrun, Result.andThen]
    exact hK _ _ (h v w (by simpa using hown) (World.grownBy.refl _ _))

/-- A new list of no things. -/
theorem own_empty (w : World) (base : Nat) (hb : base ≤ w.heap.size) (t : TypeId) : (w.alloc (Obj.cells #[] t)).ownsRow base t 1 (.slice (some ⟨w.heap.size, 0, none⟩) 0 0) 0 [] :=
  World.ownsRow_made w #[] 0 hb (Nat.zero_le _) rfl

theorem row_cell {w : World} {base g n cap : Nat} {l : List UInt8} (h : w.ownsRow base 5 1 (.slice (some ⟨g, 0, none⟩) n cap) n (bs l)) (k : Nat) (hk : k < n) : w.cell? ⟨g, k, none⟩ = some (.int .u8 ((l.getD k 0).toNat : Int)) := by
  have hl : l.length = n := by have := h.1; rw [bs_length] at this; omega
  rw [h.cellAt k (by omega), bs, List.getElem?_map, List.getElem?_eq_getElem (by omega)]
  simp [List.getD, show k < l.length by omega]
theorem row_turn {w : World} {base g n cap : Nat} {l : List UInt8} (h : w.ownsRow base 5 1 (.slice (some ⟨g, 0, none⟩) n cap) n (bs l)) (k : Nat) (c : UInt8) :
    (w.setCell ⟨g, k, none⟩ (.int .u8 (c.toNat : Int))).ownsRow base 5 1 (.slice (some ⟨g, 0, none⟩) n cap) n (bs (l.set k c)) ∧ w.grownBy (w.setCell ⟨g, k, none⟩ (.int .u8 (c.toNat : Int))) (some g) := by
  have := h.stored k (.int .u8 (c.toNat : Int))
  rw [bs, List.map_set]
  exact this
theorem grown_trans {a b c : World} {row : Option Nat} (h : a.grownBy b row) (k : b.grownBy c row) : a.grownBy c row :=
  ⟨k.os.trans h.os, k.tape.trans h.tape, k.output.trans h.output, Nat.le_trans h.size k.size, fun i hi hr => (k.block i (Nat.lt_of_lt_of_le hi h.size) hr).trans (h.block i hi hr)⟩
theorem conv_any {w : World} {ao : Option Addr} {m c : Nat} {t : ByteArray} (h : Bytes w ao m c t.data.toList) :
    (convert 54 9 (.slice ao m c)).run Try.prog w = .ok (.string t) w := by
  cases ao with
  | none =>
    obtain ⟨rfl, rfl⟩ := h.none rfl
    have ht : t = ByteArray.empty := by
      have h0 : t.data.toList = [] := List.eq_nil_of_length_eq_zero h.len
      obtain ⟨d⟩ := t
      have : d = #[] := Array.toList_inj.1 h0
      rw [this]; rfl
    rw [ht, run_convert_bytes_string w 54 9 5 _ 0 0 Try.underlying54 Try.underlying5 Try.underlying9]
    simp [Conv.bytesToString]
  | some ad =>
    have hl := h.len
    subst hl
    refine run_convert_bytes_back w 54 9 5 ad c t.data.toList Try.underlying54 Try.underlying5 Try.underlying9 ?_
    intro j hj
    refine h.cells ad rfl j _ ?_
    rw [bs, List.getElem?_map, List.getElem?_eq_getElem hj]
    rfl

/-- Bytes as a text. -/
def tx (l : List UInt8) : ByteArray := ⟨l.toArray⟩
theorem tx_list (l : List UInt8) : (tx l).data.toList = l := by simp [tx]
theorem tx_size (l : List UInt8) : (tx l).size = l.length := by simp [tx, ByteArray.size]
theorem tx_data (b : ByteArray) : tx b.data.toList = b := by cases b; simp [tx]
theorem tx_get (l : List UInt8) (i : Nat) (h : i < (tx l).size) : (tx l)[i] = l.getD i 0 := by
  have hi : i < l.length := by rw [tx_size] at h; exact h
  show l.toArray[i] = _
  rw [List.getElem_toArray]
  simp [List.getD, hi]
theorem ext_tx (b : ByteArray) (i j : Nat) : b.extract i j = tx ((b.data.toList.drop i).take (j - i)) := by
  rw [← tx_data (b.extract i j)]
  congr 1
  simp [List.take_drop]

theorem slice_tx (b : ByteArray) (i j : Nat) (I J : Int) (hI : I = (i : Int)) (hJ : J = (j : Int)) (hij : i ≤ j) (hj : j ≤ b.size) (W : World) :
    (Instr.slice 9 (.string b) (some (.int .i64 I)) (some (.int .i64 J)) none).run Try.prog W = .ok (.string (tx ((b.data.toList.drop i).take (j - i)))) W := by
  subst hI hJ
  rw [run_slice_string W 9 b .i64 .i64 _ _ Try.underlying9 (by omega) (by omega) (by omega), Int.toNat_natCast, Int.toNat_natCast, ext_tx]

end Go.Proofs.Ythdhnilfkpbmpaa
