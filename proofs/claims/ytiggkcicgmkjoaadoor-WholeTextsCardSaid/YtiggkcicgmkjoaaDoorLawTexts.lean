/- The walk of the law WholeTexts: true, at any number and any text. -/
import Derived.Test.YtiggkcicgmkjoaaDoorAlive
import Derived.Test.YtiggkcicgmkjoaaDoorSize
import Derived.Test.YtiggkcicgmkjoaaDoorRefText
import Derived.Test.YtiggkcicgmkjoaaDoorRefParse
namespace Go.Proofs.YtiggkcicgmkjoaaDoor
open Go.ChangeShapes Go.WideShapes Go.ChangeAt Go.RowKit

theorem bytes_list (l : List UInt8) : (⟨l.toArray⟩ : ByteArray).data.toList = l := by simp

set_option maxHeartbeats 400000 in
theorem wholeTexts (n : Int) (h0 : -9223372036854775808 ≤ n) (h1 : n ≤ 9223372036854775807) (s : ByteArray) (hmax : s.size ≤ 9223372036854775807) (w : World) (hc : Ctx w) :
    Calls Tryd.prog 4 #[.int .i64 n, .string s] w fun e w' => e = .returned (.bool true) ∧ Below w.heap.size w w' := by
  have H := Lib.hid hc; clear hc
  by_cases hs : 100 < s.size
  · go_enter Tryd.func4, Tryd.ntmps4
    go_wp2_with fail
    refine (alive _ H.out).mono ?_
    rintro e w1 ⟨rfl, hb1⟩
    have B1 := Lib.hid hb1; clear hb1
    go_wp2_with fail
    go_ret
    exact ⟨rfl, B1.out⟩
  · obtain ⟨x, f, hxf⟩ : ∃ x f, Num.wp s.data.toList = (x, f) := ⟨_, _, rfl⟩
    have XF := Lib.hid hxf; clear hxf
    have hl := Lib.itoa_length_le n h0 h1
    have hback : Num.wp (⟨(Lib.itoa n).toArray⟩ : ByteArray).data.toList = (n, 0) := by rw [bytes_list]; exact Num.wp_itoa n h0 h1
    have HK := Lib.hid hback; clear hback
    go_enter Tryd.func4, Tryd.ntmps4
    go_wp2_with fail
    refine (alive _ H.out).mono ?_
    rintro e w1 ⟨rfl, hb1⟩
    have B1 := Lib.hid hb1; clear hb1
    go_wp2_with fail
    refine (Text_calls n (by assumption) (by assumption) _ (H.out.below B1.out)).mono ?_
    rintro e w2 ⟨rfl, hb2⟩
    have B2 := Lib.hid (bstep B1.out hb2); clear hb2
    go_wp2_with fail
    refine (Parse_calls _ (by show (Lib.itoa n).toArray.size ≤ _; simp; omega) _ (H.out.below B2.out) _ _ HK.out).mono ?_
    rintro e w3 ⟨rfl, hb3⟩
    have B3 := Lib.hid (bstep B2.out hb3); clear hb3
    go_wp2_with fail
    refine (Parse_calls s (by omega) _ (H.out.below B3.out) _ _ XF.out).mono ?_
    rintro e w4 ⟨rfl, hb4⟩
    have B4 := Lib.hid (bstep B3.out hb4); clear hb4
    go_wp2_with fail
    refine (refParse_calls s (by omega) _ _ _ XF.out).mono ?_
    rintro e w5 ⟨rfl, rfl⟩
    go_wp2_with fail
    refine (refText_calls n (by assumption) (by assumption) _).mono ?_
    rintro e w5 ⟨rfl, rfl⟩
    go_wp2_with fail
    refine (Size_calls n (by assumption) (by assumption) _).mono ?_
    rintro e w5 ⟨rfl, rfl⟩
    go_wp2_with fail
    go_ret
    exact ⟨rfl, B4.out⟩
end Go.Proofs.YtiggkcicgmkjoaaDoor
