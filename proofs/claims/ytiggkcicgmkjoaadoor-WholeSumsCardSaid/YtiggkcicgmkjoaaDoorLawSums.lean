/- The walk of the law WholeSums: true, at any two numbers. -/
import Derived.Test.YtiggkcicgmkjoaaDoorAlive
import Derived.Test.YtiggkcicgmkjoaaDoorSums
namespace Go.Proofs.YtiggkcicgmkjoaaDoor
open Go.ChangeShapes Go.WideShapes Go.ChangeAt Go.RowKit

set_option maxHeartbeats 400000 in
theorem wholeSums (a b : Int) (ha0 : -9223372036854775808 ≤ a) (ha1 : a ≤ 9223372036854775807) (hb0 : -9223372036854775808 ≤ b) (hb1 : b ≤ 9223372036854775807) (w : World) (hc : Ctx w) :
    Calls Tryd.prog 5 #[.int .i64 a, .int .i64 b] w fun e w' => e = .returned (.bool true) ∧ Below w.heap.size w w' := by
  have H := Lib.hid hc; clear hc
  obtain ⟨x, y, hxy⟩ : ∃ x y, addOf a b = (x, y) := ⟨_, _, rfl⟩
  obtain ⟨m, f, hmf⟩ : ∃ x y, negOf a = (x, y) := ⟨_, _, rfl⟩
  have XY := Lib.hid hxy; clear hxy
  have MF := Lib.hid hmf; clear hmf
  go_enter Tryd.func5, Tryd.ntmps5
  go_wp2_with fail
  refine (alive _ H.out).mono ?_
  rintro e w1 ⟨rfl, hb1⟩
  have B1 := Lib.hid hb1; clear hb1
  go_wp2_with fail
  refine (Add_calls a b (by assumption) (by assumption) (by assumption) (by assumption) _ x y XY.out).mono ?_
  rintro e w2 ⟨rfl, rfl⟩
  go_wp2_with fail
  refine (refAdd_calls a b (by assumption) (by assumption) (by assumption) (by assumption) _ x y XY.out).mono ?_
  rintro e w2 ⟨rfl, rfl⟩
  go_wp2_with fail
  refine (Neg_calls a (by assumption) (by assumption) _ m f MF.out).mono ?_
  rintro e w2 ⟨rfl, rfl⟩
  go_wp2_with fail
  refine (refNeg_calls a (by assumption) (by assumption) _ m f MF.out).mono ?_
  rintro e w2 ⟨rfl, rfl⟩
  go_wp2_with fail
  go_ret
  exact ⟨rfl, B1.out⟩
end Go.Proofs.YtiggkcicgmkjoaaDoor
