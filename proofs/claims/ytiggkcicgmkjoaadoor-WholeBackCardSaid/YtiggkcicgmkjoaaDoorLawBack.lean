/- The walk of the law WholeBack: true, at any two numbers and any text. -/
import Derived.Test.YtiggkcicgmkjoaaDoorAlive
import Derived.Test.YtiggkcicgmkjoaaDoorSums
namespace Go.Proofs.YtiggkcicgmkjoaaDoor
open Go.ChangeShapes Go.WideShapes Go.ChangeAt Go.RowKit

/-- What the law's last statement asks of a text. -/
theorem wp_way (l : List UInt8) : (∃ v, -9223372036854775808 ≤ v ∧ v ≤ 9223372036854775807 ∧ Lib.itoa v = l ∧ Num.wp l = (v, 0)) ∨ Num.wp l = (0, 11) := by
  rcases Num.wp_cases l with h | h
  · exact .inl h
  · exact .inr h.2

theorem addOf_comm (a b : Int) : addOf b a = addOf a b := by unfold addOf; rw [Int.add_comm]

set_option maxHeartbeats 800000 in
theorem wholeBack (a b : Int) (ha0 : -9223372036854775808 ≤ a) (ha1 : a ≤ 9223372036854775807) (hb0 : -9223372036854775808 ≤ b) (hb1 : b ≤ 9223372036854775807) (s : ByteArray) (hmax : s.size ≤ 9223372036854775807) (w : World) (hc : Ctx w) :
    Calls Tryd.prog 6 #[.int .i64 a, .int .i64 b, .string s] w fun e w' => e = .returned (.bool true) ∧ Below w.heap.size w w' := by
  have H := Lib.hid hc; clear hc
  by_cases hs : 100 < s.size
  · go_enter Tryd.func6, Tryd.ntmps6
    go_wp2_with fail
    refine (alive _ H.out).mono ?_
    rintro e w1 ⟨rfl, hb1⟩
    have B1 := Lib.hid hb1; clear hb1
    go_wp2_with fail
    go_ret
    exact ⟨rfl, B1.out⟩
  · have hslim : s.size ≤ 281474976710656 := by omega
    by_cases hr : -9223372036854775808 ≤ a + b ∧ a + b ≤ 9223372036854775807
    · obtain ⟨r0, r1⟩ := hr
      have S1 : Hid (addOf a b = (a + b, 0)) := by show _ = _; unfold addOf; rw [if_pos ⟨r0, r1⟩]
      have S2 : Hid (addOf b a = (a + b, 0)) := (addOf_comm a b).trans S1.out
      by_cases hm : b = -9223372036854775808
      · have S3 : Hid (negOf b = (0, 12)) := by show _ = _; unfold negOf; rw [if_pos hm]
        clear hm
        go_enter Tryd.func6, Tryd.ntmps6
        go_wp2_with fail
        refine (alive _ H.out).mono ?_
        rintro e w1 ⟨rfl, hbe⟩
        have B1 := Lib.hid hbe; clear hbe
        go_wp2_with fail
        refine (Add_calls a b (by assumption) (by assumption) (by assumption) (by assumption) _ _ _ S1.out).mono ?_
        rintro e w2 ⟨rfl, rfl⟩
        go_wp2_with fail
        refine (Add_calls b a (by assumption) (by assumption) (by assumption) (by assumption) _ _ _ S2.out).mono ?_
        rintro e w2 ⟨rfl, rfl⟩
        go_wp2_with fail
        refine (Neg_calls b (by assumption) (by assumption) _ _ _ S3.out).mono ?_
        rintro e w2 ⟨rfl, rfl⟩
        go_wp2_with fail
        rcases wp_way s.data.toList with ⟨v, v0, v1, hv, hw⟩ | hw
        · have HV := Lib.hid hv; have HW := Lib.hid hw; clear hv hw
          refine (Parse_calls s (by assumption) _ (H.out.below B1.out) _ _ HW.out).mono ?_
          rintro e w3 ⟨rfl, hbe⟩
          have B2 := Lib.hid (bstep B1.out hbe); clear hbe
          go_wp2_with fail
          refine (Text_calls v (by assumption) (by assumption) _ (H.out.below B2.out)).mono ?_
          rintro e w4 ⟨rfl, hbe⟩
          have B3 := Lib.hid (bstep B2.out hbe); clear hbe
          have ht : (Lib.itoa v == s.toList) = true := by rw [ByteArray.toList_eq, HV.out]; simp
          go_wp2_with fail
          go_ret
          exact ⟨rfl, B3.out⟩
        · have HW := Lib.hid hw; clear hw
          refine (Parse_calls s (by assumption) _ (H.out.below B1.out) _ _ HW.out).mono ?_
          rintro e w3 ⟨rfl, hbe⟩
          have B2 := Lib.hid (bstep B1.out hbe); clear hbe
          go_wp2_with fail
          go_ret
          exact ⟨rfl, B2.out⟩
      · have S3 : Hid (negOf b = (-b, 0)) := by show _ = _; unfold negOf; rw [if_neg hm]
        have n0 : -9223372036854775808 ≤ -b := by omega
        have n1 : -b ≤ 9223372036854775807 := by omega
        have S4 : Hid (addOf (a + b) (-b) = (a, 0)) := by
          show _ = _; unfold addOf; rw [if_pos (by omega)]; congr 1; omega
        clear hm
        go_enter Tryd.func6, Tryd.ntmps6
        go_wp2_with fail
        refine (alive _ H.out).mono ?_
        rintro e w1 ⟨rfl, hbe⟩
        have B1 := Lib.hid hbe; clear hbe
        go_wp2_with fail
        refine (Add_calls a b (by assumption) (by assumption) (by assumption) (by assumption) _ _ _ S1.out).mono ?_
        rintro e w2 ⟨rfl, rfl⟩
        go_wp2_with fail
        refine (Add_calls b a (by assumption) (by assumption) (by assumption) (by assumption) _ _ _ S2.out).mono ?_
        rintro e w2 ⟨rfl, rfl⟩
        go_wp2_with fail
        refine (Neg_calls b (by assumption) (by assumption) _ _ _ S3.out).mono ?_
        rintro e w2 ⟨rfl, rfl⟩
        go_wp2_with fail
        refine (Add_calls (a + b) (-b) (by assumption) (by assumption) (by assumption) (by assumption) _ _ _ S4.out).mono ?_
        rintro e w2 ⟨rfl, rfl⟩
        go_wp2_with fail
        rcases wp_way s.data.toList with ⟨v, v0, v1, hv, hw⟩ | hw
        · have HV := Lib.hid hv; have HW := Lib.hid hw; clear hv hw
          refine (Parse_calls s (by assumption) _ (H.out.below B1.out) _ _ HW.out).mono ?_
          rintro e w3 ⟨rfl, hbe⟩
          have B2 := Lib.hid (bstep B1.out hbe); clear hbe
          go_wp2_with fail
          refine (Text_calls v (by assumption) (by assumption) _ (H.out.below B2.out)).mono ?_
          rintro e w4 ⟨rfl, hbe⟩
          have B3 := Lib.hid (bstep B2.out hbe); clear hbe
          have ht : (Lib.itoa v == s.toList) = true := by rw [ByteArray.toList_eq, HV.out]; simp
          go_wp2_with fail
          go_ret
          exact ⟨rfl, B3.out⟩
        · have HW := Lib.hid hw; clear hw
          refine (Parse_calls s (by assumption) _ (H.out.below B1.out) _ _ HW.out).mono ?_
          rintro e w3 ⟨rfl, hbe⟩
          have B2 := Lib.hid (bstep B1.out hbe); clear hbe
          go_wp2_with fail
          go_ret
          exact ⟨rfl, B2.out⟩
    · have S1 : Hid (addOf a b = (0, 12)) := by show _ = _; unfold addOf; rw [if_neg hr]
      have S2 : Hid (addOf b a = (0, 12)) := (addOf_comm a b).trans S1.out
      obtain ⟨x, y, h3⟩ : ∃ x y, negOf b = (x, y) := ⟨_, _, rfl⟩
      have S3 := Lib.hid h3; clear h3 hr
      go_enter Tryd.func6, Tryd.ntmps6
      go_wp2_with fail
      refine (alive _ H.out).mono ?_
      rintro e w1 ⟨rfl, hbe⟩
      have B1 := Lib.hid hbe; clear hbe
      go_wp2_with fail
      refine (Add_calls a b (by assumption) (by assumption) (by assumption) (by assumption) _ _ _ S1.out).mono ?_
      rintro e w2 ⟨rfl, rfl⟩
      go_wp2_with fail
      refine (Add_calls b a (by assumption) (by assumption) (by assumption) (by assumption) _ _ _ S2.out).mono ?_
      rintro e w2 ⟨rfl, rfl⟩
      go_wp2_with fail
      refine (Neg_calls b (by assumption) (by assumption) _ _ _ S3.out).mono ?_
      rintro e w2 ⟨rfl, rfl⟩
      go_wp2_with fail
      rcases wp_way s.data.toList with ⟨v, v0, v1, hv, hw⟩ | hw
      · have HV := Lib.hid hv; have HW := Lib.hid hw; clear hv hw
        refine (Parse_calls s (by assumption) _ (H.out.below B1.out) _ _ HW.out).mono ?_
        rintro e w3 ⟨rfl, hbe⟩
        have B2 := Lib.hid (bstep B1.out hbe); clear hbe
        go_wp2_with fail
        refine (Text_calls v (by assumption) (by assumption) _ (H.out.below B2.out)).mono ?_
        rintro e w4 ⟨rfl, hbe⟩
        have B3 := Lib.hid (bstep B2.out hbe); clear hbe
        have ht : (Lib.itoa v == s.toList) = true := by rw [ByteArray.toList_eq, HV.out]; simp
        go_wp2_with fail
        go_ret
        exact ⟨rfl, B3.out⟩
      · have HW := Lib.hid hw; clear hw
        refine (Parse_calls s (by assumption) _ (H.out.below B1.out) _ _ HW.out).mono ?_
        rintro e w3 ⟨rfl, hbe⟩
        have B2 := Lib.hid (bstep B1.out hbe); clear hbe
        go_wp2_with fail
        go_ret
        exact ⟨rfl, B2.out⟩
end Go.Proofs.YtiggkcicgmkjoaaDoor
