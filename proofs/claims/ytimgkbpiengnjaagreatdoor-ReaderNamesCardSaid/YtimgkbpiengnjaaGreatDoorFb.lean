/- A number's bits: the library's, package real's and the document's; small facts on worlds. No condition but that they are 64 bits. -/
import Derived.Test.YtimgkbpiengnjaaGreatDoorRows
import Derived.Test.YtimgkbpiengnjaaGreatDoorFord
import Derived.WalkKit
import Derived.ProofKit
import Derived.OpenShut
import Derived.WalkSmall
import Derived.WalkSpells
import Derived.WalkLawsBesides
import Derived.Outline
import Derived.Lib.Hide
import Derived.Laws.Bits64b
import Derived.Laws.FloatBits
import Derived.Laws.Externs
import Derived.Deep.QuietTactic
import Derived.BigQuiet
namespace Go.Proofs.YtimgkbpiengnjaaGreatDoor
open Go.ChangeShapes Go.WideShapes Go.ChangeAt Go.RowKit

@[go_sem] theorem call_bits (b : Nat) (w : World) : (callFunc 88 #[.float .f64 b]).run Tryz.prog w = .ok (.value (.int .u64 (b : Int))) w := by
  rw [run_callFunc_extern Tryz.func88 (by kernel_rfl) (by kernel_rfl) (by kernel_rfl) (e := Extern.MathFloatBits.float64bits) (by kernel_rfl)]; rfl
/-- Bits of the document: those of the number, of each nan the one. -/
def bitsN (b : Nat) : Nat := if 9218868437227405312 < b % 9223372036854775808 then 9221120237041090561 else b
theorem andnot63 (b : Nat) (hb : b < 18446744073709551616) : bits .andNot .u64 (b : Int) 9223372036854775808 = ((b % 9223372036854775808 : Nat) : Int) := by
  have h1 : (BitVec.ofInt 64 (b : Int)).toNat = b := by
    rw [BitVec.ofInt_natCast, BitVec.toNat_ofNat]; exact Nat.mod_eq_of_lt (by omega)
  have h2 : (~~~ (BitVec.ofInt 64 9223372036854775808)).toNat = 2 ^ 63 - 1 := by decide
  show IntKind.u64.wrap ((BitVec.ofInt 64 (b : Int) &&& ~~~ (BitVec.ofInt 64 9223372036854775808)).toNat : Int) = _
  rw [BitVec.toNat_and, h1, h2, Nat.and_two_pow_sub_one_eq_mod, IntKind.wrap_u64]
  omega
theorem realBits_calls (b : Nat) (hb : b < 18446744073709551616) (w : World) :
    Calls Tryz.prog 70 #[.float .f64 b] w fun e w' => e = .returned (.int .u64 (bitsN b : Nat)) ∧ w = w' := by
  have ha := andnot63 b hb
  unfold bitsN
  generalize b % 9223372036854775808 = r at *
  by_cases hr : 9218868437227405312 < r
  · rw [if_pos hr]
    go_enter Tryz.func70, Tryz.ntmps70
    go_wp2
    go_ret
    exact ⟨rfl, rfl⟩
  · rw [if_neg hr]
    go_enter Tryz.func70, Tryz.ntmps70
    go_wp2
    go_ret
    exact ⟨rfl, rfl⟩
theorem same_calls (a b : Nat) (ha : a < 18446744073709551616) (hb : b < 18446744073709551616) (w : World) :
    Calls Tryz.prog 57 #[.float .f64 a, .float .f64 b] w fun e w' => e = .returned (.bool (decide (bitsN a = bitsN b))) ∧ w = w' := by
  have HA := Lib.hid (realBits_calls a ha)
  have HB := Lib.hid (realBits_calls b hb)
  have ed : ((bitsN a : Int) == (bitsN b : Int)) = decide (bitsN a = bitsN b) := by
    by_cases h : bitsN a = bitsN b
    · simp [h]
    · rw [decide_eq_false h, beq_eq_false_iff_ne]; omega
  have HE := Lib.hid ed
  clear ed
  go_enter Tryz.func57, Tryz.ntmps57
  go_wp2_with fail
  refine (HA.out _).mono ?_; rintro en w' ⟨rfl, rfl⟩
  go_wp2_with fail
  refine (HB.out _).mono ?_; rintro en w' ⟨rfl, rfl⟩
  go_wp2_with fail
  go_ret
  refine ⟨?_, rfl⟩
  rw [← HE.out]
  rfl
theorem fmt_order (a b : Nat) : FloatKind.f64.format.order a b = Ieee.double.order a b := rfl
theorem bstep {a b c : World} (h : Below a.heap.size a b) (k : Below b.heap.size b c) : Below a.heap.size a c := h.trans (k.mono h.size)
theorem ret_i64 {a b : Int} (h : a = b) : Ending.returned (.int .i64 a) = .returned (.int .i64 b) := by rw [h]
theorem below_drewN (w : World) (m : Nat) : Below w.heap.size w (w.drewN m) := ⟨rfl, rfl, rfl, Nat.le_refl _, fun _ _ => rfl⟩
end Go.Proofs.YtimgkbpiengnjaaGreatDoor
