/- Package value's isSame at two values that part at the root: not the same. Condition: room. (Written by a program: one theorem for each place at which they part first.) -/
import Derived.Test.YtpmlhmdmnbmnnaaGreatDoorVa5
import Derived.Test.YtpmlhmdmnbmnnaaGreatDoorVb1
namespace Go.Proofs.YtpmlhmdmnbmnnaaGreatDoor
open Go.ChangeShapes Go.WideShapes Go.ChangeAt Go.RowKit

def same : Val → Val → Bool
  | .mk k t z r f _ _ n K, .mk k' t' z' r' f' _ _ n' K' => decide (k = k' ∧ t = t' ∧ z = z' ∧ bitsN r = bitsN r' ∧ f = f' ∧ n = n') && allTo (fun i => same (K i) (K' i)) n
  | _, _ => false
theorem same_quiet (r r' : Nat) (h1 : r < 18446744073709551616) (h2 : r' < 18446744073709551616) (x : Bool) (hx : decide (bitsN r = bitsN r') = x) (w : World) :
    Calls Tryz.prog 17 #[.float .f64 r, .float .f64 r'] w fun e w' => e = .returned (.bool x) ∧ w' = w :=
  (same_calls r r' h1 h2 w).mono fun _ _ h => ⟨by rw [h.1, hx], h.2.symm⟩
theorem bytes_ext {a b : ByteArray} (h : a.toList = b.toList) : a = b := by
  rw [ByteArray.toList_eq, ByteArray.toList_eq] at h
  exact ByteArray.ext (Array.toList_inj.mp h)
end Go.Proofs.YtpmlhmdmnbmnnaaGreatDoor
