/- Package value's textFits at a Verbatim. No condition but the text's bound. -/
import Derived.Test.YtiigfcggdjcmfaaDoorVc4
namespace Go.Proofs.YtiigfcggdjcmfaaDoor
open Go.ChangeShapes Go.WideShapes Go.ChangeAt Go.RowKit

set_option maxHeartbeats 1000000 in
theorem fits_verb (t : ByteArray) (hm : t.size ≤ 9223372036854775807) : Fits 11 t := by
  by_cases h : t.size ≤ 4096
  case neg => exact fits_long 11 t h hm
  intro w
  rw [short_yes h, if_neg (by omega), if_neg (by omega), if_neg (by omega), if_pos rfl]
  have hl : t.data.toList.length = t.size := Array.length_toList
  rw [hl]
  by_cases h4 : 4 ≤ t.size
  · have h3 : 3 < t.size := h4
    rw [decide_eq_true h4, Bool.true_and]
    have hg : t.data.toList.getD 3 0 = t[3]'h3 := by
      rw [List.getD_eq_getElem?_getD, List.getElem?_eq_getElem (by rw [hl]; omega)]
      rfl
    rw [hg]
    generalize hb : t[3]'h3 = b
    have hB : Hid (t[3]'h3 = b) := Lib.hid hb
    have e : ((b.toNat : Int) == 58) = (b == 58) := by
      by_cases q : b = 58
      · subst q; rfl
      · rw [beq_eq_false_iff_ne.2 q, beq_eq_false_iff_ne]
        intro h
        exact q (UInt8.toNat_inj.1 (by show b.toNat = 58; omega))
    have E := Lib.hid e
    clear e hg hl
    go_enter Tryd.func37, Tryd.ntmps37
    go_wp2_with fail
    go_ret
    exact ⟨by rw [← E.out]; rfl, Below.refl _ _⟩
  · rw [decide_eq_false h4, Bool.false_and]
    clear hl
    go_enter Tryd.func37, Tryd.ntmps37
    go_wp2_with fail
    go_ret
    exact ⟨rfl, Below.refl _ _⟩
end Go.Proofs.YtiigfcggdjcmfaaDoor
