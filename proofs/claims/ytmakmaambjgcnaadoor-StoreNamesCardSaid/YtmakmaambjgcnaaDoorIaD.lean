/- The checking package's Right. No condition. -/
import Derived.Test.YtmakmaambjgcnaaDoorIaC
namespace Go.Proofs.YtmakmaambjgcnaaDoor.Ia
open Go.ChangeShapes Go.WideShapes Go.ChangeAt Go.RowKit
theorem Cell3.draw {w : World} {b : Nat} {v0 v1 v2 : Value} (h : Cell3 w b v0 v1 v2) (O : Obj) (n : Nat) : Cell3 ((w.alloc O).drewN n) b v0 v1 v2 := (h.alloc O).below ⟨rfl, rfl, rfl, Nat.le_refl _, fun _ _ => rfl⟩
theorem isE (l : List UInt8) : (l == []) = l.isEmpty := by cases l <;> rfl
end Go.Proofs.YtmakmaambjgcnaaDoor.Ia
/- The checking package's Right, at any item; the statements' fits. No condition. -/
namespace Go.Proofs.YtmakmaambjgcnaaDoor.Ia
open Go.ChangeShapes Go.WideShapes Go.ChangeAt Go.RowKit
end Go.Proofs.YtmakmaambjgcnaaDoor.Ia
