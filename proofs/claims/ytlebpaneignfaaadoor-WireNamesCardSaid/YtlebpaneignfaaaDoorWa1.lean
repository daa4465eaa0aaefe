/- A row of bytes of the call's own that grows, over a world in which all that lay stays; package wire's appendLine, appendCount, appendText, appendNull, flagText. Conditions: the tables hold what start-up lays ('WCtx'); no row longer than 10 to the 11. -/
import Derived.Test.YtlebpaneignfaaaDoorWq
import Derived.Test.YtlebpaneignfaaaDoorFe6
import Derived.Test.YtlebpaneignfaaaDoorVa1
import Derived.Lib.AppendStr
import Derived.Lib.ItoaLen
import Derived.Shelf.Strconv.Itoa4
namespace Go.Proofs.YtlebpaneignfaaaDoor
open Go.ChangeShapes Go.WideShapes Go.ChangeAt Go.RowKit

/-- The bytes l, in a row v that was made behind the world wb; of wb all stands. -/
structure Buf (wb w : World) (v : Value) (l : List UInt8) : Prop where
  row : w.ownsRow wb.heap.size 5 1 v l.length (Lib.byteCells l)
  bel : Below wb.heap.size wb w

theorem Buf.size {wb w : World} {v : Value} {l : List UInt8} (h : Buf wb w v l) : wb.heap.size ≤ w.heap.size := h.bel.size
theorem Buf.nil (w : World) : Buf w w (.slice none 0 0) [] := ⟨World.ownsRow_nil _ _ _ _, Below.refl _ _⟩
theorem Buf.start {wb w : World} (h : Below wb.heap.size wb w) : Buf wb w (.slice none 0 0) [] := ⟨World.ownsRow_nil _ _ _ _, h⟩
theorem grow_of0 {w w' : World} (hb : Below w.heap.size w w') : w.grownBy w' none := ⟨hb.os, hb.tape, hb.output, hb.size, fun k hk _ => hb.block k hk⟩
theorem Buf.below {wb w w' : World} {v : Value} {l : List UInt8} (h : Buf wb w v l) (hb : Below w.heap.size w w') : Buf wb w' v l :=
  ⟨h.row.kept (grow_of0 hb) (by cases hv : v.ownBlock <;> simp), h.bel.trans (hb.mono h.size)⟩
theorem Buf.grown {wb w w' : World} {v v' : Value} {l l' : List UInt8} (h : Buf wb w v l) (hr : w'.ownsRow wb.heap.size 5 1 v' l'.length (Lib.byteCells l')) (hg : w.grownBy w' v.ownBlock) : Buf wb w' v' l' :=
  ⟨hr, h.bel.grown hg h.size (fun k hk => (h.row.lt k hk).1)⟩
theorem Buf.alloc {wb w : World} {v : Value} {l : List UInt8} (h : Buf wb w v l) (o : Obj) : Buf wb (w.alloc o) v l := h.below ((Below.refl _ _).alloc (Nat.le_refl _) o)

theorem buf_push {wb w : World} {v : Value} {l : List UInt8} {ops : Array Oper} {rest : List Oper} {o : Oper} {a : Act} {Q : Exit → Act → World → Prop} (hO : Buf wb w v l) (hgd : o.guard = none) (s x : Operand)
    (ho : o.op = .call { callee := .builtin .append, args := #[s, x], argTypes := #[27, 27] }) (hs : a.eval s = v) (bs : List UInt8) (arr : Array Value) (Te : TypeId) (m c : Nat)
    (hx : a.eval x = .slice (some ⟨w.heap.size, 0, none⟩) m c) (hm : m = bs.length) (harr : arr = (Lib.byteCells bs).toArray) (hl : l.length + bs.length ≤ 100000000000)
    (h : ∀ v' w', Buf wb w' v' (l ++ bs) → wpList Tryd.prog ops Q rest (a.put o.dst v') w') : wpList Tryd.prog ops Q (o :: rest) a (w.alloc (.cells arr Te)) := by
  obtain ⟨i0, hi, hz0, hz1, hz2⟩ := info_parts i5
  subst hm harr
  have hsz := hO.size
  refine wpList_append_own _ hgd s x 27 ho wb.heap.size 5 i0 (.int .u8 0) 1 1 Tryd.underlying27 hi hz0 hz1 hz2 rfl (by decide) v l.length (Lib.byteCells l) hs (hO.row.alloc _) ⟨w.heap.size, 0, none⟩ bs.length c (Lib.byteCells bs) hx
    (by rw [Lib.byteCells_length, Nat.mul_one]) ?_ ?_ (by unfold maxLen; omega) (by omega) (by simp; omega) ?_
  · intro j u hj
    rw [Addr.add_lit, Nat.zero_add, World.cell?_alloc_new]
    simpa using hj
  · intro u hu
    simp only [Lib.byteCells, List.mem_map] at hu
    obtain ⟨b, _, rfl⟩ := hu
    rfl
  · intro v' w' hr hg _
    refine h v' w' ((hO.alloc _).grown ?_ hg)
    rw [List.length_append]
    simpa [Lib.byteCells] using hr
theorem buf_text {wb w : World} {v : Value} {l : List UInt8} {ops : Array Oper} {rest : List Oper} {o : Oper} {a : Act} {Q : Exit → Act → World → Prop} (hO : Buf wb w v l) (hgd : o.guard = none) (s x : Operand)
    (ho : o.op = .call { callee := .builtin .append, args := #[s, x], argTypes := #[27, 9] }) (hs : a.eval s = v) (t : ByteArray) (hx : a.eval x = .string t) (hl : l.length + t.size ≤ 100000000000)
    (h : ∀ v' w', Buf wb w' v' (l ++ t.data.toList) → wpList Tryd.prog ops Q rest (a.put o.dst v') w') : wpList Tryd.prog ops Q (o :: rest) a w := by
  obtain ⟨i0, hi, hz0, hz1, hz2⟩ := info_parts i5
  refine Lib.wpList_append_own_string _ hgd s x 27 9 ho wb.heap.size 5 i0 Tryd.underlying27 Tryd.underlying9 hi hz0 hz1 hz2 v l.length (Lib.byteCells l) hs hO.row t hx (by unfold maxLen; omega) (by omega) hO.size ?_
  intro v' w' hr hg _
  refine h v' w' (hO.grown ?_ hg)
  rw [List.length_append, Array.length_toList]
  have e : Lib.byteCells (l ++ t.data.toList) = Lib.byteCells l ++ Lib.strCells t := by simp [Lib.byteCells, Lib.strCells]
  rw [e]
  exact hr

/-- What a call that appends leaves. -/
def Added (wb : World) (l : List UInt8) (e : Ending) (w' : World) : Prop := ∃ v', e = .returned v' ∧ Buf wb w' v' l

set_option maxHeartbeats 1000000 in
set_option maxRecDepth 100000 in
theorem appendLine_calls (wb w : World) (v : Value) (l : List UInt8) (m : UInt8) (t : ByteArray) (hO : Buf wb w v l) (hl : l.length + t.size + 3 ≤ 100000000000) :
    Calls Tryd.prog 12 #[v, .int .u8 m.toNat, .string t] w (Added wb (l ++ m :: (t.data.toList ++ [13, 10]))) := by
  have Hlt : Hid (t.data.toList.length = t.size) := Lib.hid Array.length_toList
  go_enter Tryd.func12, Tryd.ntmps12
  go_wp2_with (at_builtin; refine buf_push hO rfl _ _ rfl rfl [m] _ _ _ _ rfl rfl rfl ?hl1 ?_)
  case hl1 => rw [List.length_singleton]; omega
  intro v1 w1 hO1
  go_wp2_with (at_builtin; refine buf_text hO1 rfl _ _ rfl rfl t rfl ?hl1 ?_)
  case hl1 => rw [List.length_append, List.length_singleton]; omega
  intro v2 w2 hO2
  go_wp2_with (at_builtin; refine buf_push hO2 rfl _ _ rfl rfl [13, 10] _ _ _ _ rfl rfl rfl ?hl1 ?_)
  case hl1 => have := Hlt.out; simp only [List.length_append, List.length_cons, List.length_nil]; omega
  intro v3 w3 hO3
  go_wp2_with fail
  go_ret
  exact ⟨v3, rfl, hO3⟩
end Go.Proofs.YtlebpaneignfaaaDoor
