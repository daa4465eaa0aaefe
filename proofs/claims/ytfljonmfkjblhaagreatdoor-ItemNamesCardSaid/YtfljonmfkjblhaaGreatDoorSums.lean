/- The contracts of whole.Add, whole.Neg and of the document's Add, Neg: the sum where 64 bits hold it, else 0 and ErrOver. -/
import Derived.Test.YtfljonmfkjblhaaGreatDoorWalks
import Derived.IntWalk
namespace Go.Proofs.YtfljonmfkjblhaaGreatDoor
open Go.ChangeShapes Go.WideShapes Go.ChangeAt Go.RowKit

/-- Both together, and the error's number. -/
def addOf (a b : Int) : Int × Int := if -9223372036854775808 ≤ a + b ∧ a + b ≤ 9223372036854775807 then (a + b, 0) else (0, 12)
def negOf (a : Int) : Int × Int := if a = -9223372036854775808 then (0, 12) else (-a, 0)

set_option maxHeartbeats 400000 in
theorem Add_ok (a b : Int) (hb0 : -9223372036854775808 ≤ b) (hb1 : b ≤ 9223372036854775807)
    (h0 : -9223372036854775808 ≤ a + b) (h1 : a + b ≤ 9223372036854775807) (w : World) :
    Calls Tryz.prog 26 #[.int .i64 a, .int .i64 b] w fun e w' => e = .returned (.tuple #[.int .i64 (a + b), .int .i64 0]) ∧ w = w' := by
  by_cases hp : 0 < b
  · have hn : ¬ b < 0 := by omega
    go_enter Tryz.func26, Tryz.ntmps26
    go_wp2
    go_ret2
    exact ⟨rfl, rfl⟩
  · by_cases hn : b < 0
    · go_enter Tryz.func26, Tryz.ntmps26
      go_wp2
      go_ret2
      exact ⟨rfl, rfl⟩
    · go_enter Tryz.func26, Tryz.ntmps26
      go_wp2
      go_ret2
      exact ⟨rfl, rfl⟩

set_option maxHeartbeats 400000 in
theorem Add_over (a b : Int) (ha0 : -9223372036854775808 ≤ a) (ha1 : a ≤ 9223372036854775807) (hb0 : -9223372036854775808 ≤ b) (hb1 : b ≤ 9223372036854775807)
    (h : a + b < -9223372036854775808 ∨ 9223372036854775807 < a + b) (w : World) :
    Calls Tryz.prog 26 #[.int .i64 a, .int .i64 b] w fun e w' => e = .returned (.tuple #[.int .i64 0, .int .i64 12]) ∧ w = w' := by
  by_cases hp : 0 < b
  · have hn : ¬ b < 0 := by omega
    have hs : 9223372036854775807 - b < a := by omega
    clear h
    go_enter Tryz.func26, Tryz.ntmps26
    go_wp2
    go_ret2
    exact ⟨rfl, rfl⟩
  · have hn : b < 0 := by omega
    have hs : a < -9223372036854775808 - b := by omega
    clear h
    go_enter Tryz.func26, Tryz.ntmps26
    go_wp2
    go_ret2
    exact ⟨rfl, rfl⟩

theorem Add_calls (a b : Int) (ha0 : -9223372036854775808 ≤ a) (ha1 : a ≤ 9223372036854775807) (hb0 : -9223372036854775808 ≤ b) (hb1 : b ≤ 9223372036854775807) (w : World) (x y : Int) (hxy : addOf a b = (x, y)) :
    Calls Tryz.prog 26 #[.int .i64 a, .int .i64 b] w fun e w' => e = .returned (.tuple #[.int .i64 x, .int .i64 y]) ∧ w = w' := by
  unfold addOf at hxy
  split at hxy
  · rename_i h
    injection hxy with e1 e2
    subst e1; subst e2
    exact Add_ok a b hb0 hb1 h.1 h.2 w
  · rename_i h
    injection hxy with e1 e2
    subst e1; subst e2
    exact Add_over a b ha0 ha1 hb0 hb1 (by omega) w

theorem ret2i {a b c : Int} (h : a = b) : Ending.returned (.tuple #[.int .i64 a, .int .i64 c]) = .returned (.tuple #[.int .i64 b, .int .i64 c]) := by rw [h]

theorem halves (a : Int) : ∃ p r, a.tdiv 2 = p ∧ a.tmod 2 = r ∧ a = 2 * p + r ∧ -1 ≤ r ∧ r ≤ 1 ∧ (0 ≤ a → 0 ≤ r) ∧ (a ≤ 0 → r ≤ 0) := by
  refine ⟨_, _, rfl, rfl, (Int.mul_tdiv_add_tmod a 2).symm, ?_, ?_, ?_, ?_⟩
  · have := Int.lt_tmod_of_pos a (b := 2) (by omega); omega
  · have := Int.tmod_lt_of_pos a (b := 2) (by omega); omega
  · intro h; exact Int.tmod_nonneg 2 h
  · intro h
    have h1 := Int.tmod_nonneg (a := -a) 2 (by omega)
    rw [Int.neg_tmod] at h1; omega

end Go.Proofs.YtfljonmfkjblhaaGreatDoor
