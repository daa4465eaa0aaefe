/- Package real's Add, Same and Order over the translated program. -/
import Derived.Test.YtnibfebfgdhfgaaGreatDoorFla
import Derived.Laws.FloatArith
namespace Go.Proofs.YtnibfebfgdhfgaaGreatDoor
open Go.ChangeShapes Go.WideShapes Go.ChangeAt Go.RowKit Go.Sort

theorem bitsN_lt (b : Nat) (hb : b < 18446744073709551616) : bitsN b < 18446744073709551616 := by
  unfold bitsN
  split <;> omega

def cmpN (x y : Nat) : Int := if x < y then -1 else if y < x then 1 else 0
/-- Bits that rise as the numbers do. -/
def rankN (b : Nat) : Nat := if 9223372036854775808 ≤ bitsN b then 18446744073709551615 - bitsN b else bitsN b + 9223372036854775808
theorem and_hi (x : Nat) (hx : x < 18446744073709551616) : bits .and .u64 (x : Int) 9223372036854775808 = if 9223372036854775808 ≤ x then 9223372036854775808 else 0 := by
  have h := bits_and_u64_nat x 9223372036854775808 hx (by omega)
  have e : x &&& 9223372036854775808 = if 9223372036854775808 ≤ x then 9223372036854775808 else 0 := by
    rw [show (9223372036854775808 : Nat) = 2 ^ 63 from by decide]
    refine Nat.eq_of_testBit_eq fun i => ?_
    rw [Nat.testBit_and, Nat.testBit_two_pow]
    by_cases hi : 63 = i
    · subst hi
      rw [Nat.testBit_eq_decide_div_mod_eq]
      by_cases hx2 : 2 ^ 63 ≤ x
      · rw [if_pos hx2, show x / 2 ^ 63 % 2 = 1 by omega, Nat.testBit_two_pow]; rfl
      · rw [if_neg hx2, show x / 2 ^ 63 % 2 = 0 by omega]; rfl
    · rw [decide_eq_false hi, Bool.and_false]
      by_cases hx2 : 2 ^ 63 ≤ x
      · rw [if_pos hx2, Nat.testBit_two_pow, decide_eq_false hi]
      · rw [if_neg hx2, Nat.zero_testBit]
  rw [e] at h
  split <;> simp_all
theorem or_hi (x : Nat) (hx : x < 9223372036854775808) : bits .or .u64 (x : Int) 9223372036854775808 = (x : Int) + 9223372036854775808 := by
  have h := bits_or_u64_nat x 9223372036854775808 (by omega) (by omega)
  have := Nat.two_pow_add_eq_or_of_lt (i := 63) (b := x) (by omega) 1
  rw [Nat.or_comm, show (9223372036854775808 : Nat) = 2 ^ 63 * 1 from by decide, ← this] at h
  rw [show ((2 ^ 63 * 1 : Nat) : Int) = 9223372036854775808 by decide] at h
  rw [h]
  omega

theorem xor_max (x : Nat) (hx : x < 18446744073709551616) : bits .xor .u64 IntKind.u64.max (x : Int) = ((18446744073709551615 - x : Nat) : Int) := by
  have h1 : (BitVec.ofInt 64 (x : Int)).toNat = x := by
    rw [BitVec.ofInt_natCast, BitVec.toNat_ofNat]; exact Nat.mod_eq_of_lt (by omega)
  have h2 : BitVec.ofInt 64 IntKind.u64.max = BitVec.allOnes 64 := by decide
  show IntKind.u64.wrap ((BitVec.ofInt 64 IntKind.u64.max ^^^ BitVec.ofInt 64 (x : Int)).toNat : Int) = _
  rw [h2, BitVec.allOnes_xor, BitVec.toNat_not, h1, IntKind.wrap_u64]
  omega

/-- Order on bits. -/
def orderN (a b : Nat) : Int := cmpN (rankN a) (rankN b)
/-- Add where the sum is a number (told by the model's own sum). -/
theorem add_ok (a b r : Nat) (hr : floatBits .add .f64 a b = some r) (hlt : r < 18446744073709551616) (hi : (bits .and .u64 (bitsN r : Int) 9218868437227405312 == 9218868437227405312) = false) (w : World) :
    Calls Tryz.prog 11 #[.float .f64 a, .float .f64 b] w fun e w' => e = .returned (.tuple #[.float .f64 r, .int .i64 0]) ∧ w = w' := by
  have hrun := run_float_arith (P := Tryz.prog) w .add 24 .f64 _ _ _ hr
  have HB := Lib.hid (realBits_calls r hlt)
  clear hr
  go_enter Tryz.func11, Tryz.ntmps11
  go_wp2_with fail
  refine (HB.out _).mono ?_; rintro en w' ⟨rfl, rfl⟩
  go_wp2_with fail
  go_ret2
  exact ⟨rfl, rfl⟩
theorem add_err (a b r : Nat) (hr : floatBits .add .f64 a b = some r) (hlt : r < 18446744073709551616) (hi : (bits .and .u64 (bitsN r : Int) 9218868437227405312 == 9218868437227405312) = true) (w : World) :
    Calls Tryz.prog 11 #[.float .f64 a, .float .f64 b] w fun e w' => e = .returned (.tuple #[.float .f64 0, .int .i64 21]) ∧ w = w' := by
  have hrun := run_float_arith (P := Tryz.prog) w .add 24 .f64 _ _ _ hr
  have HB := Lib.hid (realBits_calls r hlt)
  clear hr
  go_enter Tryz.func11, Tryz.ntmps11
  go_wp2_with fail
  refine (HB.out _).mono ?_; rintro en w' ⟨rfl, rfl⟩
  go_wp2_with fail
  go_ret2
  exact ⟨rfl, rfl⟩
end Go.Proofs.YtnibfebfgdhfgaaGreatDoor
