/- The contracts of whole.Add, whole.Neg and of the document's Add, Neg: the sum where 64 bits hold it, else 0 and ErrOver. -/
import Derived.Test.YtmjlhmohglbecaaGreatDoorWalks
import Derived.IntWalk
namespace Go.Proofs.YtmjlhmohglbecaaGreatDoor
open Go.ChangeShapes Go.WideShapes Go.ChangeAt Go.RowKit

/-- Both together, and the error's number. -/
def addOf (a b : Int) : Int × Int := if -9223372036854775808 ≤ a + b ∧ a + b ≤ 9223372036854775807 then (a + b, 0) else (0, 12)
def negOf (a : Int) : Int × Int := if a = -9223372036854775808 then (0, 12) else (-a, 0)

theorem ret2i {a b c : Int} (h : a = b) : Ending.returned (.tuple #[.int .i64 a, .int .i64 c]) = .returned (.tuple #[.int .i64 b, .int .i64 c]) := by rw [h]

theorem halves (a : Int) : ∃ p r, a.tdiv 2 = p ∧ a.tmod 2 = r ∧ a = 2 * p + r ∧ -1 ≤ r ∧ r ≤ 1 ∧ (0 ≤ a → 0 ≤ r) ∧ (a ≤ 0 → r ≤ 0) := by
  refine ⟨_, _, rfl, rfl, (Int.mul_tdiv_add_tmod a 2).symm, ?_, ?_, ?_, ?_⟩
  · have := Int.lt_tmod_of_pos a (b := 2) (by omega); omega
  · have := Int.tmod_lt_of_pos a (b := 2) (by omega); omega
  · intro h; exact Int.tmod_nonneg 2 h
  · intro h
    have h1 := Int.tmod_nonneg (a := -a) 2 (by omega)
    rw [Int.neg_tmod] at h1; omega

end Go.Proofs.YtmjlhmohglbecaaGreatDoor
