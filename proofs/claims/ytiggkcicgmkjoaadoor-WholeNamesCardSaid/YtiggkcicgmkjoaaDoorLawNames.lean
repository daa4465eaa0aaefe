/- The walk of the law WholeNames: true. -/
import Derived.Test.YtiggkcicgmkjoaaDoorAlive
import Derived.Test.YtiggkcicgmkjoaaDoorSize
import Derived.Test.YtiggkcicgmkjoaaDoorSums
namespace Go.Proofs.YtiggkcicgmkjoaaDoor
open Go.ChangeShapes Go.WideShapes Go.ChangeAt Go.RowKit

theorem dec_max1 : Lib.decDigits 9223372036854775808 = [57, 50, 50, 51, 51, 55, 50, 48, 51, 54, 56, 53, 52, 55, 55, 53, 56, 48, 56] :=
  Num.numeral_of_dv (by decide) (by decide +kernel)
theorem itoa_least : Lib.itoa (-9223372036854775808) = [45, 57, 50, 50, 51, 51, 55, 50, 48, 51, 54, 56, 53, 52, 55, 55, 53, 56, 48, 56] := by
  rw [show (-9223372036854775808 : Int) = -((9223372036854775808 : Nat) : Int) by omega, Lib.itoa_neg _ (by omega), dec_max1]
theorem wp_least : Num.wp [45, 57, 50, 50, 51, 51, 55, 50, 48, 51, 54, 56, 53, 52, 55, 55, 53, 56, 48, 56] = (-9223372036854775808, 0) := by
  rw [← itoa_least]; exact Num.wp_itoa _ (by omega) (by omega)
theorem wp_great : Num.wp [57, 50, 50, 51, 51, 55, 50, 48, 51, 54, 56, 53, 52, 55, 55, 53, 56, 48, 56] = (0, 11) := by
  refine Num.wp_bad fun v h => ?_
  have e : Lib.parseIntB 64 [57, 50, 50, 51, 51, 55, 50, 48, 51, 54, 56, 53, 52, 55, 55, 53, 56, 48, 56] = .range := by decide +kernel
  rw [e] at h; cases h
theorem len_least : ((Lib.itoa (-9223372036854775808)).length : Int) = 20 := by rw [itoa_least]; rfl
theorem len_zero : ((Lib.itoa 0).length : Int) = 1 := by rw [Num.itoa_digit (by omega) (by omega)]; rfl

set_option maxHeartbeats 400000 in
theorem wholeNames (w : World) (hc : Ctx w) :
    Calls Tryd.prog 3 #[] w fun e w' => e = .returned (.bool true) ∧ Below w.heap.size w w' := by
  have H := Lib.hid hc; clear hc
  go_enter Tryd.func3, Tryd.ntmps3
  go_wp2_with fail
  refine (Parse_calls _ (by decide) _ H.out _ _ wp_least).mono ?_
  rintro e w1 ⟨rfl, hb1⟩
  have B1 := Lib.hid hb1; clear hb1
  go_wp2_with fail
  refine (Parse_calls _ (by decide) _ (H.out.below B1.out) _ _ wp_great).mono ?_
  rintro e w2 ⟨rfl, hb2⟩
  have B2 := Lib.hid (bstep B1.out hb2); clear hb2
  go_wp2_with fail
  refine (Add_calls (-9223372036854775808) (-1) (by omega) (by omega) (by omega) (by omega) _ 0 12 (by unfold addOf; rw [if_neg (by omega)])).mono ?_
  rintro e w3 ⟨rfl, rfl⟩
  go_wp2_with fail
  refine (Neg_calls (-9223372036854775808) (by omega) (by omega) _ 0 12 (by unfold negOf; rw [if_pos rfl])).mono ?_
  rintro e w3 ⟨rfl, rfl⟩
  go_wp2_with fail
  refine (alive _ (H.out.below B2.out)).mono ?_
  rintro e w3 ⟨rfl, hb3⟩
  have B3 := Lib.hid (bstep B2.out hb3); clear hb3
  go_wp2_with fail
  refine (Size_calls (-9223372036854775808) (by omega) (by omega) _).mono ?_
  rintro e w5 ⟨rfl, rfl⟩
  rw [len_least]
  go_wp2_with fail
  refine (Size_calls 0 (by omega) (by omega) _).mono ?_
  rintro e w5 ⟨rfl, rfl⟩
  rw [len_zero]
  go_wp2_with fail
  go_ret
  exact ⟨rfl, B3.out⟩
end Go.Proofs.YtiggkcicgmkjoaaDoor
