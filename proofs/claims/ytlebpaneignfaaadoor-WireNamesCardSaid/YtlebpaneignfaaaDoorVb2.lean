/- Package value's isSame at two values that part at the root: not the same. Condition: room. (Written by a program: one theorem for each place at which they part first.) -/
import Derived.Test.YtlebpaneignfaaaDoorVa5
import Derived.Test.YtlebpaneignfaaaDoorVb1
namespace Go.Proofs.YtlebpaneignfaaaDoor
open Go.ChangeShapes Go.WideShapes Go.ChangeAt Go.RowKit

def same : Val → Val → Bool
  | .mk k t z r f _ _ n K, .mk k' t' z' r' f' _ _ n' K' => decide (k = k' ∧ t = t' ∧ z = z' ∧ bitsN r = bitsN r' ∧ f = f' ∧ n = n') && allTo (fun i => same (K i) (K' i)) n
  | _, _ => false
theorem bytes_ext {a b : ByteArray} (h : a.toList = b.toList) : a = b := by
  rw [ByteArray.toList_eq, ByteArray.toList_eq] at h
  exact ByteArray.ext (Array.toList_inj.mp h)
end Go.Proofs.YtlebpaneignfaaaDoor
