/- Package expiry: follow. Conditions: turns as they lie; bounds. -/
import Derived.Test.YtmakmaambjgcnaaDoorEd1
import Derived.Test.YtmakmaambjgcnaaDoorEf1
namespace Go.Proofs.YtmakmaambjgcnaaDoor.Ea
open Go.ChangeShapes Go.WideShapes Go.ChangeAt Go.RowKit
end Go.Proofs.YtmakmaambjgcnaaDoor.Ea
