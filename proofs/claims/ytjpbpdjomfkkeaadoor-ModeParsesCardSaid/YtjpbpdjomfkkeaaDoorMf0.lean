/- An array of three truths, read at a place. No condition. -/
import Derived.Test.YtjpbpdjomfkkeaaDoorMa3
namespace Go.Proofs.YtjpbpdjomfkkeaaDoor.Ma
open Go.ChangeShapes Go.WideShapes Go.ChangeAt Go.RowKit
theorem ix3 (w : World) (a b c : Bool) :
    (Instr.index 42 (.agg #[.bool a, .bool b, .bool c]) (.int .i64 0)).run Tryd.prog w = .ok (.bool a) w ∧
    (Instr.index 42 (.agg #[.bool a, .bool b, .bool c]) (.int .i64 1)).run Tryd.prog w = .ok (.bool b) w ∧
    (Instr.index 42 (.agg #[.bool a, .bool b, .bool c]) (.int .i64 2)).run Tryd.prog w = .ok (.bool c) w := by
  refine ⟨?_, ?_, ?_⟩ <;> simp [Instr.index, run_underlying Tryd.underlying42, asIntOf, go_sem]
end Go.Proofs.YtjpbpdjomfkkeaaDoor.Ma
