/- Values beside numbers' bits. -/
import Derived.Test.YtpmlhmdmnbmnnaaGreatDoorVaM
import Derived.Test.YtpmlhmdmnbmnnaaGreatDoorFb
/- Package value's isSame at two values that part at the root: not the same. Condition: room. (Written by a program: one theorem for each place at which they part first.) -/
namespace Go.Proofs.YtpmlhmdmnbmnnaaGreatDoor
open Go.ChangeShapes Go.WideShapes Go.ChangeAt Go.RowKit

def same : Val → Val → Bool
  | .mk k t z r f _ _ n K, .mk k' t' z' r' f' _ _ n' K' => decide (k = k' ∧ t = t' ∧ z = z' ∧ bitsN r = bitsN r' ∧ f = f' ∧ n = n') && allTo (fun i => same (K i) (K' i)) n
  | _, _ => false
theorem same_quiet (r r' : Nat) (h1 : r < 18446744073709551616) (h2 : r' < 18446744073709551616) (x : Bool) (hx : decide (bitsN r = bitsN r') = x) (w : World) :
    Calls Tryz.prog 17 #[.float .f64 r, .float .f64 r'] w fun e w' => e = .returned (.bool x) ∧ w' = w :=
  (same_calls r r' h1 h2 w).mono fun _ _ h => ⟨by rw [h.1, hx], h.2.symm⟩
theorem bytes_ext {a b : ByteArray} (h : a.toList = b.toList) : a = b := by
  rw [ByteArray.toList_eq, ByteArray.toList_eq] at h
  exact ByteArray.ext (Array.toList_inj.mp h)
end Go.Proofs.YtpmlhmdmnbmnnaaGreatDoor
/- Package value's isSame and Same, at any two values. Condition: no deeper than the room. -/
namespace Go.Proofs.YtpmlhmdmnbmnnaaGreatDoor
open Go.ChangeShapes Go.WideShapes Go.ChangeAt Go.RowKit

theorem Lies.drew {S : Nat → Prop} {w : World} {v : Val} (h : Lies S w v) (m : Nat) : Lies S (w.drewN m) v := Lies.keep (T := S) (w := w) (w' := w.drewN m) (fun _ hb => ⟨hb, fun _ => rfl⟩) h
theorem At.drew {w : World} {b o : Nat} {v : Val} (h : At w b o v) (m : Nat) : At (w.drewN m) b o v := At.keep (w := w) (w' := w.drewN m) (fun _ => rfl) h
theorem allTo_down {g : Nat → Bool} {n i : Nat} (h : i < n) (hf : g i = false) : allTo g n = false := by
  induction n with
  | zero => omega
  | succ n ih =>
    rw [allTo_succ]
    by_cases e : i = n
    · subst e; rw [hf]; simp
    · rw [ih (by omega)]; rfl
theorem same_root {k k' : Int} {t t' : ByteArray} {z z' : Int} {r r' : Nat} {f f' : Bool} {a a' : Option Addr} {c c' n n' : Nat} {K K' : Nat → Val} (h : ¬ (k = k' ∧ t = t' ∧ z = z' ∧ bitsN r = bitsN r' ∧ f = f' ∧ n = n')) :
    same (.mk k t z r f a c n K) (.mk k' t' z' r' f' a' c' n' K') = false := by
  show (decide _ && _) = false
  rw [decide_eq_false h]; rfl
theorem same_kids {k : Int} {t : ByteArray} {z : Int} {r r' : Nat} {f : Bool} {a a' : Option Addr} {c c' n : Nat} {K K' : Nat → Val} (h : bitsN r = bitsN r') :
    same (.mk k t z r f a c n K) (.mk k t z r' f a' c' n K') = allTo (fun i => same (K i) (K' i)) n := by
  show (decide _ && _) = _
  rw [decide_eq_true ⟨rfl, rfl, rfl, h, rfl, rfl⟩]; rfl
theorem ret_b {a b : Bool} (h : a = b) : Ending.returned (.bool a) = .returned (.bool b) := by rw [h]

end Go.Proofs.YtpmlhmdmnbmnnaaGreatDoor
