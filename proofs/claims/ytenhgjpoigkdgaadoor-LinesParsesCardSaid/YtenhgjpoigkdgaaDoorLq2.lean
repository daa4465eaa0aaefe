/- Package lines' isPlain; append of a text. No condition but bounds. -/
import Derived.Test.YtenhgjpoigkdgaaDoorLq1
import Derived.Lib.AppendStr
namespace Go.Proofs.YtenhgjpoigkdgaaDoor.Ln
open Go.ChangeShapes Go.WideShapes Go.ChangeAt Go.RowKit

theorem buf_pushS {wb w : World} {v : Value} {l : List UInt8} {ops : Array Oper} {rest : List Oper} {o : Oper} {a : Act} {Q : Exit → Act → World → Prop} (hO : BufB wb w v l) (hgd : o.guard = none) (s x : Operand)
    (ho : o.op = .call { callee := .builtin .append, args := #[s, x], argTypes := #[22, 9] }) (hs : a.eval s = v) (t : ByteArray)
    (hx : a.eval x = .string t) (hl : l.length + t.size ≤ 100000000000)
    (h : ∀ v' w', BufB wb w' v' (l ++ t.data.toList) → wpList Tryd.prog ops Q rest (a.put o.dst v') w') : wpList Tryd.prog ops Q (o :: rest) a w := by
  obtain ⟨i0, hi, hz0, hz1, hz2⟩ := info_parts i5
  have hsz := hO.size
  have hcl := cellsB_len l
  have hr0 := hO.row
  rw [hcl] at hr0
  refine Lib.wpList_append_own_string w hgd s x _ _ ho wb.heap.size 5 i0 Tryd.underlying22 Tryd.underlying9 hi hz0 hz1 hz2 v l.length (cellsB l) hs hr0 t hx (by unfold maxLen; omega) (by omega) hsz ?_
  intro v' w' r1 r2 _
  refine h v' w' (hO.grown ?_ r2)
  rw [cellsB_len, List.length_append, cellsB_app, len_of]
  exact r1
end Go.Proofs.YtenhgjpoigkdgaaDoor.Ln
