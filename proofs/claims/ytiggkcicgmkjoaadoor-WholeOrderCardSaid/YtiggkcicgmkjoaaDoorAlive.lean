/- The contract of the law file's wholeAlive: the chapter's examples: true. -/
import Derived.Test.YtiggkcicgmkjoaaDoorParse
namespace Go.Proofs.YtiggkcicgmkjoaaDoor
open Go.ChangeShapes Go.WideShapes Go.ChangeAt Go.RowKit

theorem wp_m0 : Num.wp [45, 48] = (0, 11) := Num.wp_ne (v := 0) rfl (by rw [Num.itoa_digit (by omega) (by omega)]; decide)
theorem wp_p1 : Num.wp [43, 49] = (0, 11) := Num.wp_ne (v := 1) rfl (by rw [Num.itoa_digit (by omega) (by omega)]; decide)
theorem wp_01 : Num.wp [48, 49] = (0, 11) := Num.wp_ne (v := 1) rfl (by rw [Num.itoa_digit (by omega) (by omega)]; decide)
theorem itoa_m42 : Lib.itoa (-42) = [45, 52, 50] := by
  rw [show (-42 : Int) = -((42 : Nat) : Int) by omega, Lib.itoa_neg 42 (by omega), Lib.decDigits_two (by omega) (by omega)]; rfl
theorem wp_m42 : Num.wp [45, 52, 50] = (-42, 0) := by rw [← itoa_m42]; exact Num.wp_itoa _ (by omega) (by omega)

set_option maxHeartbeats 400000 in
theorem alive (w : World) (hc : Ctx w) : Calls Tryd.prog 11 #[] w fun e w' => e = .returned (.bool true) ∧ Below w.heap.size w w' := by
  have H := Lib.hid hc; clear hc
  go_enter Tryd.func11, Tryd.ntmps11
  go_wp2_with fail
  refine (Parse_calls _ (by decide) _ H.out _ _ wp_m0).mono ?_
  rintro e w1 ⟨rfl, hb1⟩
  have B1 := Lib.hid hb1; clear hb1
  go_wp2_with fail
  refine (Parse_calls _ (by decide) _ (H.out.below B1.out) _ _ wp_p1).mono ?_
  rintro e w2 ⟨rfl, hb2⟩
  have B2 := Lib.hid (bstep B1.out hb2); clear hb2
  go_wp2_with fail
  refine (Parse_calls _ (by decide) _ (H.out.below B2.out) _ _ wp_01).mono ?_
  rintro e w3 ⟨rfl, hb3⟩
  have B3 := Lib.hid (bstep B2.out hb3); clear hb3
  go_wp2_with fail
  refine (Parse_calls _ (by decide) _ (H.out.below B3.out) _ _ wp_m42).mono ?_
  rintro e w4 ⟨rfl, hb4⟩
  have B4 := Lib.hid (bstep B3.out hb4); clear hb4
  go_wp2_with fail
  refine (Text_calls (-42) (by omega) (by omega) _ (H.out.below B4.out)).mono ?_
  rintro e w5 ⟨rfl, hb5⟩
  have B5 := Lib.hid (bstep B4.out hb5); clear hb5
  rw [itoa_m42]
  go_wp2_with fail
  go_ret
  exact ⟨rfl, B5.out⟩
end Go.Proofs.YtiggkcicgmkjoaaDoor
