/- Package value's countOf and depthOf, at every value that lies in memory: how many, how deep. Conditions: no deeper than the room, and a count that fits. -/
import Derived.Test.YtimgkbpiengnjaaGreatDoorVa1
namespace Go.Proofs.YtimgkbpiengnjaaGreatDoor
open Go.ChangeShapes Go.WideShapes Go.ChangeAt Go.RowKit

theorem maxTo_mono {g h : Nat → Nat} {n : Nat} (H : ∀ i, i < n → g i ≤ h i) : maxTo g n ≤ maxTo h n := by
  induction n with
  | zero => exact Nat.le_refl _
  | succ n ih =>
    rw [maxTo_succ, maxTo_succ]
    have := ih fun i hi => H i (by omega)
    have := H n (by omega)
    omega
theorem depth_le_nest (v : Val) : v.depth ≤ v.nest := by
  induction v with
  | no => exact Nat.le_refl _
  | mk k t z r f a c n K ih =>
    have := maxTo_mono (n := n) fun i _ => ih i
    unfold Val.depth Val.nest
    split <;> omega
theorem ret_tup {a b : Int} {x : Bool} (h : a = b) : Ending.returned (.tuple #[.int .i64 a, .bool x]) = .returned (.tuple #[.int .i64 b, .bool x]) := by rw [h]

end Go.Proofs.YtimgkbpiengnjaaGreatDoor
