/- The contract of whole.Size: how many bytes the number's text has. -/
import Derived.Test.YtiggkcicgmkjoaaDoorWalks
import Derived.IntWalk
namespace Go.Proofs.YtiggkcicgmkjoaaDoor
open Go.ChangeShapes Go.WideShapes Go.ChangeAt Go.RowKit

/-- The digits that are still to be counted. -/
def left (m : Int) : Int := if m = 0 then 0 else Lib.nDigits m.natAbs

theorem left_step (m : Int) : (Lib.nDigits m.natAbs : Int) = 1 + left (m.tdiv 10) := by
  have e : (m.tdiv 10).natAbs = m.natAbs / 10 := by rw [Int.natAbs_tdiv]; rfl
  unfold left
  by_cases h : m.natAbs < 10
  · rw [if_pos (by omega), Lib.nDigits_small h]; rfl
  · rw [if_neg (by omega), e, Lib.nDigits_big h]; omega
theorem left_nz {m : Int} (h : m ≠ 0) : left m = 1 + left (m.tdiv 10) := by
  rw [← left_step]; unfold left; rw [if_neg h]

theorem tenth (m : Int) : (m.tdiv 10).natAbs = m.natAbs / 10 := by rw [Int.natAbs_tdiv]; rfl

theorem ret_i {a b : Int} (h : a = b) : Ending.returned (.int .i64 a) = .returned (.int .i64 b) := by rw [h]

set_option maxHeartbeats 400000 in
theorem Size_calls (n : Int) (h0 : -9223372036854775808 ≤ n) (h1 : n ≤ 9223372036854775807) (w : World) :
    Calls Tryd.prog 12 #[.int .i64 n] w fun e w' => e = .returned (.int .i64 (Lib.itoa n).length) ∧ w = w' := by
  have hl : ((Lib.itoa n).length : Int) = (if n < 0 then 1 else 0) + (1 + left (n.tdiv 10)) := by
    rw [Num.itoa_length, ← left_step]; split <;> omega
  have ht := tenth n
  obtain ⟨q, hq⟩ : ∃ q, n.tdiv 10 = q := ⟨_, rfl⟩
  rw [hq] at hl ht
  have q0 : -9223372036854775808 ≤ q := by omega
  have q1 : q ≤ 9223372036854775807 := by omega
  have hlen : (Lib.itoa n).length ≤ 21 := Lib.itoa_length_le n h0 h1
  obtain ⟨T, hT⟩ : ∃ T : Int, ((Lib.itoa n).length : Int) = T := ⟨_, rfl⟩
  rw [hT] at hl ⊢
  have T1 : T ≤ 21 := by omega
  have HT := Lib.hid hT; clear hT hlen
  have HL := Lib.hid hl; clear hl
  have HQ := Lib.hid ht; clear ht
  by_cases hn : n < 0
  all_goals
    go_enter Tryd.func12, Tryd.ntmps12
    go_wp2
    go_loop [0, 3] (fun m s => ∃ x c : Int, m = .int .i64 x ∧ s = .int .i64 c ∧ -9223372036854775808 ≤ x ∧ x ≤ 9223372036854775807 ∧ 1 ≤ c ∧ c ≤ 21 ∧ Hid (T = c + left x)) (fun m _ => (intOf m).natAbs)
    case atStart => exact ⟨q, _, rfl, rfl, q0, q1, by omega, by omega, by have h := HL.out; show T = _; split at h <;> omega⟩
    case round =>
      obtain ⟨x, c, rfl, rfl, x0, x1, c0, c1, hx⟩ := hrel
      by_cases hz : x = 0
      · subst hz
        go_wp2
        go_ret
        exact ⟨ret_i (by have h := hx.out; unfold left at h; simp at h; omega), rfl⟩
      · have hb : (x == 0) = false := by simpa using hz
        have hb' : (!x == 0) = true := by simp [hb]
        have ht := tenth x
        have hx2 := hx.out
        rw [left_nz hz] at hx2
        obtain ⟨y, hy⟩ : ∃ y, x.tdiv 10 = y := ⟨_, rfl⟩
        rw [hy] at ht hx2
        have hy0 : 0 ≤ left y := by unfold left; split <;> omega
        have y0 : -9223372036854775808 ≤ y := by omega
        have y1 : y ≤ 9223372036854775807 := by omega
        have c2 : c + 1 ≤ 21 := by omega
        have hlt : y.natAbs < x.natAbs := by omega
        have HX := Lib.hid hx2; clear hx2 hx hy0
        have HLT := Lib.hid hlt; clear hlt ht
        clear hz
        go_wp2
        go_round
        case rel => exact ⟨y, c + 1, rfl, rfl, y0, y1, by omega, by omega, by have h := HX.out; show T = _; omega⟩
        case measure => have h := HLT.out; simp only [intOf]; omega
end Go.Proofs.YtiggkcicgmkjoaaDoor
