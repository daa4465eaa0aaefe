/- Parse at whole numbers' texts: from 2 to the 52 on. Conditions: the tables hold what start-up lays. -/
import Derived.Test.YtnibfebfgdhfgaaGreatDoorFw7
namespace Go.Proofs.YtnibfebfgdhfgaaGreatDoor
open Go.ChangeShapes Go.WideShapes Go.ChangeAt Go.RowKit Go.Sort

theorem and52 (m : Nat) (hm : m < 18446744073709551616) (h : m / 4503599627370496 % 2 = 1) : bits .and .u64 (m : Int) 4503599627370496 = 4503599627370496 := by
  have e := bits_and_u64_nat m 4503599627370496 hm (by omega)
  have e2 : m &&& 4503599627370496 = 4503599627370496 := by
    rw [show (4503599627370496 : Nat) = 2 ^ 52 from by decide]
    refine Nat.eq_of_testBit_eq fun i => ?_
    rw [Nat.testBit_and, Nat.testBit_two_pow]
    by_cases hi : 52 = i
    · subst hi
      rw [Nat.testBit_eq_decide_div_mod_eq, decide_eq_true (show m / 2 ^ 52 % 2 = 1 from h)]
      rfl
    · rw [decide_eq_false hi, Bool.and_false]
  rw [e2] at e
  exact e
theorem mask52 (i : Nat) (h : i < 64) : (18446744073709551615 - 4503599627370496 : Nat).testBit i = decide (i ≠ 52) := by
  have : ∀ j : Fin 64, (18446744073709551615 - 4503599627370496 : Nat).testBit j.val = decide (j.val ≠ 52) := by decide +kernel
  exact this ⟨i, h⟩
theorem top_or (fr : Nat) (hf : fr < 4503599627370496) : 4503599627370496 + fr = 2 ^ 52 ||| fr := by
  have := Nat.two_pow_add_eq_or_of_lt (i := 52) (b := fr) (by omega) 1
  rw [Nat.mul_one] at this
  exact this
theorem sign_or (x : Nat) (hx : x < 9223372036854775808) : 9223372036854775808 + x = 2 ^ 63 ||| x := by
  have := Nat.two_pow_add_eq_or_of_lt (i := 63) (b := x) (by omega) 1
  rw [Nat.mul_one] at this
  exact this
theorem drop52 (S fr : Nat) (hS : S = 0 ∨ S = 9223372036854775808) (hf : fr < 4503599627370496) : (S + (4503599627370496 + fr)) &&& (18446744073709551615 - 4503599627370496) = S + fr := by
  refine Nat.eq_of_testBit_eq fun i => ?_
  rw [Nat.testBit_and]
  by_cases hi : i < 64
  · rw [mask52 i hi]
    by_cases h5 : i = 52
    · subst h5
      rw [Nat.testBit_eq_decide_div_mod_eq, Nat.testBit_eq_decide_div_mod_eq]
      rw [decide_eq_false (show ¬(52 ≠ 52) by omega), Bool.and_false, decide_eq_false]
      rcases hS with rfl | rfl <;> omega
    · rw [decide_eq_true h5, Bool.and_true]
      rcases hS with rfl | rfl
      · rw [Nat.zero_add, Nat.zero_add, top_or fr hf, Nat.testBit_or, Nat.testBit_two_pow, decide_eq_false (show ¬52 = i by omega), Bool.false_or]
      · rw [sign_or _ (by omega), sign_or _ (by omega), top_or fr hf, Nat.testBit_or, Nat.testBit_or, Nat.testBit_or, Nat.testBit_two_pow, Nat.testBit_two_pow, decide_eq_false (show ¬52 = i by omega), Bool.false_or]
  · have h1 : (S + fr) < 2 ^ i := Nat.lt_of_lt_of_le (show S + fr < 2 ^ 64 by rcases hS with rfl | rfl <;> omega) (Nat.pow_le_pow_right (by omega) (by omega))
    have h2 : (18446744073709551615 - 4503599627370496 : Nat) < 2 ^ i := Nat.lt_of_lt_of_le (show _ < 2 ^ 64 by decide) (Nat.pow_le_pow_right (by omega) (by omega))
    rw [Nat.testBit_lt_two_pow h1, Nat.testBit_lt_two_pow h2, Bool.and_false]
theorem andnot52 (S fr : Nat) (hS : S = 0 ∨ S = 9223372036854775808) (hf : fr < 4503599627370496) : bits .andNot .u64 ((S + (4503599627370496 + fr) : Nat) : Int) 4503599627370496 = ((S + fr : Nat) : Int) := by
  have hlt : S + (4503599627370496 + fr) < 18446744073709551616 := by rcases hS with rfl | rfl <;> omega
  have h1 : (BitVec.ofInt 64 ((S + (4503599627370496 + fr) : Nat) : Int)).toNat = S + (4503599627370496 + fr) := by
    rw [BitVec.ofInt_natCast, BitVec.toNat_ofNat]; exact Nat.mod_eq_of_lt hlt
  have h2 : (~~~ (BitVec.ofInt 64 4503599627370496)).toNat = 18446744073709551615 - 4503599627370496 := by decide
  show IntKind.u64.wrap ((BitVec.ofInt 64 ((S + (4503599627370496 + fr) : Nat) : Int) &&& ~~~ (BitVec.ofInt 64 4503599627370496)).toNat : Int) = _
  rw [BitVec.toNat_and, h1, h2, drop52 S fr hS hf, IntKind.wrap_u64]
  omega
theorem orexp (S fr : Nat) (hS : S = 0 ∨ S = 9223372036854775808) (hf : fr < 4503599627370496) : bits .or .u64 ((S + fr : Nat) : Int) 4841369599423283200 = ((S + (4841369599423283200 + fr) : Nat) : Int) := by
  have h := bits_or_u64_nat (S + fr) 4841369599423283200 (by rcases hS with rfl | rfl <;> omega) (by omega)
  have k := Nat.two_pow_add_eq_or_of_lt (i := 52) (b := fr) (by omega) 1075
  rw [show (2 : Nat) ^ 52 * 1075 = 4841369599423283200 from by decide] at k
  have e : (S + fr) ||| 4841369599423283200 = S + (4841369599423283200 + fr) := by
    rcases hS with rfl | rfl
    · rw [Nat.zero_add, Nat.zero_add, Nat.or_comm, k]
    · rw [sign_or _ (by omega), sign_or _ (by omega), k, Nat.or_assoc, Nat.or_comm fr]
  rw [e] at h
  exact h

set_option maxRecDepth 100000 in
/-- pack64 of a whole number from 2 to the 52 on. -/
theorem pack_whole (S fr : Nat) (hS : S = 0 ∨ S = 9223372036854775808) (hf : fr < 4503599627370496) (w : World) :
    Calls Tryz.prog 96 #[.int .u64 (S + (4503599627370496 + fr) : Nat), .int .i64 0] w fun e w' => e = .returned (.tuple #[.float .f64 (S + (4841369599423283200 + fr)), .nilIface]) ∧ w = w' := by
  have a := and52 (S + (4503599627370496 + fr)) (by rcases hS with rfl | rfl <;> omega) (by rcases hS with rfl | rfl <;> omega)
  have b := andnot52 S fr hS hf
  have c := orexp S fr hS hf
  have hlt : S + (4841369599423283200 + fr) < 18446744073709551616 := by rcases hS with rfl | rfl <;> omega
  have hlt2 : S + (4503599627370496 + fr) < 18446744073709551616 := by rcases hS with rfl | rfl <;> omega
  have hlt3 : S + fr < 18446744073709551616 := by omega
  generalize S + (4503599627370496 + fr) = m at *
  generalize S + (4841369599423283200 + fr) = r at *
  generalize S + fr = q at *
  have t : ((r : Int)).toNat = r := by omega
  go_enter Tryz.func96, Tryz.ntmps96
  go_wp2_with fail
  go_ret2
  exact ⟨rfl, rfl⟩
end Go.Proofs.YtnibfebfgdhfgaaGreatDoor
