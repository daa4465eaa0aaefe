/- Package value's hasItsOwn and listFits. No condition but that numbers are 64 bits. -/
import Derived.Test.YtlebpaneignfaaaDoorVa5
import Derived.Test.YtlebpaneignfaaaDoorVb1
namespace Go.Proofs.YtlebpaneignfaaaDoor
open Go.ChangeShapes Go.WideShapes Go.ChangeAt Go.RowKit

def ownB (k z : Int) (r : Nat) (f : Bool) : Bool := (z == 0 || k == 3) && (decide (bitsN r = 0) || k == 7) && (!f || k == 8)
def listB (k : Int) (n : Nat) : Bool := if k = 5 then true else if k = 13 then true else if k = 12 then decide (n % 2 = 0) else if k = 14 then decide (0 < n) else decide (n = 0)

theorem bits0 : bitsN 0 = 0 := by decide
end Go.Proofs.YtlebpaneignfaaaDoor
