/- The document's Same of values, at any two values. No condition but bounds. -/
import Derived.Test.YtiigfcggdjcmfaaDoorVe3
namespace Go.Proofs.YtiigfcggdjcmfaaDoor
open Go.ChangeShapes Go.WideShapes Go.ChangeAt Go.RowKit

end Go.Proofs.YtiigfcggdjcmfaaDoor
