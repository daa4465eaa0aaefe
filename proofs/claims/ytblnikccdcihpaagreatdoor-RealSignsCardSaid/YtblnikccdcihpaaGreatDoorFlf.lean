/- Package real's Add, Same and Order over the translated program. -/
import Derived.Test.YtblnikccdcihpaaGreatDoorFla
import Derived.Laws.FloatArith
namespace Go.Proofs.YtblnikccdcihpaaGreatDoor
open Go.ChangeShapes Go.WideShapes Go.ChangeAt Go.RowKit Go.Sort

theorem bitsN_lt (b : Nat) (hb : b < 18446744073709551616) : bitsN b < 18446744073709551616 := by
  unfold bitsN
  split <;> omega

theorem ret_i64 {a b : Int} (h : a = b) : Ending.returned (.int .i64 a) = .returned (.int .i64 b) := by rw [h]
def cmpN (x y : Nat) : Int := if x < y then -1 else if y < x then 1 else 0
set_option maxRecDepth 100000 in
theorem compare_calls (x y : Nat) (w : World) :
    Calls Tryz.prog 26 #[.int .u64 x, .int .u64 y] w fun e w' => e = .returned (.int .i64 (cmpN x y)) ∧ w = w' := by
  have hn : ∀ (z : Nat) (W : World), Calls Tryz.prog 33 #[.int .u64 z] W fun e w' => e = .returned (.bool false) ∧ W = w' := by
    intro z W
    have hz : ((z : Int) != (z : Int)) = false := by simp
    go_enter Tryz.func33, Tryz.ntmps33
    go_wp2
    go_ret
    exact ⟨rfl, rfl⟩
  have HN := Lib.hid hn
  have U : cmpN x y = cmpN x y := rfl
  conv at U => rhs; unfold cmpN
  generalize cmpN x y = c at *
  have HU := Lib.hid U
  clear U hn
  go_enter Tryz.func26, Tryz.ntmps26
  go_wp2_with fail
  refine (HN.out _ _).mono ?_; rintro en w' ⟨rfl, rfl⟩
  go_wp2_with fail
  refine (HN.out _ _).mono ?_; rintro en w' ⟨rfl, rfl⟩
  go_wp2_with fail
  all_goals
    go_ret
    refine ⟨ret_i64 ?_, rfl⟩
    rw [HU.out]
  · rw [if_pos (by omega)]
  · rw [if_neg (by omega), if_pos (by omega)]
  · rw [if_neg (by omega), if_neg (by omega)]

/-- Bits that rise as the numbers do. -/
def rankN (b : Nat) : Nat := if 9223372036854775808 ≤ bitsN b then 18446744073709551615 - bitsN b else bitsN b + 9223372036854775808
theorem and_hi (x : Nat) (hx : x < 18446744073709551616) : bits .and .u64 (x : Int) 9223372036854775808 = if 9223372036854775808 ≤ x then 9223372036854775808 else 0 := by
  have h := bits_and_u64_nat x 9223372036854775808 hx (by omega)
  have e : x &&& 9223372036854775808 = if 9223372036854775808 ≤ x then 9223372036854775808 else 0 := by
    rw [show (9223372036854775808 : Nat) = 2 ^ 63 from by decide]
    refine Nat.eq_of_testBit_eq fun i => ?_
    rw [Nat.testBit_and, Nat.testBit_two_pow]
    by_cases hi : 63 = i
    · subst hi
      rw [Nat.testBit_eq_decide_div_mod_eq]
      by_cases hx2 : 2 ^ 63 ≤ x
      · rw [if_pos hx2, show x / 2 ^ 63 % 2 = 1 by omega, Nat.testBit_two_pow]; rfl
      · rw [if_neg hx2, show x / 2 ^ 63 % 2 = 0 by omega]; rfl
    · rw [decide_eq_false hi, Bool.and_false]
      by_cases hx2 : 2 ^ 63 ≤ x
      · rw [if_pos hx2, Nat.testBit_two_pow, decide_eq_false hi]
      · rw [if_neg hx2, Nat.zero_testBit]
  rw [e] at h
  split <;> simp_all
theorem or_hi (x : Nat) (hx : x < 9223372036854775808) : bits .or .u64 (x : Int) 9223372036854775808 = (x : Int) + 9223372036854775808 := by
  have h := bits_or_u64_nat x 9223372036854775808 (by omega) (by omega)
  have := Nat.two_pow_add_eq_or_of_lt (i := 63) (b := x) (by omega) 1
  rw [Nat.or_comm, show (9223372036854775808 : Nat) = 2 ^ 63 * 1 from by decide, ← this] at h
  rw [show ((2 ^ 63 * 1 : Nat) : Int) = 9223372036854775808 by decide] at h
  rw [h]
  omega

theorem xor_max (x : Nat) (hx : x < 18446744073709551616) : bits .xor .u64 IntKind.u64.max (x : Int) = ((18446744073709551615 - x : Nat) : Int) := by
  have h1 : (BitVec.ofInt 64 (x : Int)).toNat = x := by
    rw [BitVec.ofInt_natCast, BitVec.toNat_ofNat]; exact Nat.mod_eq_of_lt (by omega)
  have h2 : BitVec.ofInt 64 IntKind.u64.max = BitVec.allOnes 64 := by decide
  show IntKind.u64.wrap ((BitVec.ofInt 64 IntKind.u64.max ^^^ BitVec.ofInt 64 (x : Int)).toNat : Int) = _
  rw [h2, BitVec.allOnes_xor, BitVec.toNat_not, h1, IntKind.wrap_u64]
  omega

set_option maxRecDepth 100000 in
theorem rank_calls (b : Nat) (hb : b < 18446744073709551616) (w : World) :
    Calls Tryz.prog 27 #[.float .f64 b] w fun e w' => e = .returned (.int .u64 (rankN b : Nat)) ∧ w = w' := by
  have HB := Lib.hid (realBits_calls b hb)
  have hlt := bitsN_lt b hb
  unfold rankN
  generalize bitsN b = x at *
  have ha := and_hi x hlt
  by_cases h : 9223372036854775808 ≤ x
  · rw [if_pos h]
    rw [if_pos h] at ha
    go_enter Tryz.func27, Tryz.ntmps27
    go_wp2_with fail
    refine (HB.out _).mono ?_; rintro en w' ⟨rfl, rfl⟩
    go_wp2_with fail
    go_ret
    refine ⟨?_, rfl⟩
    exact congrArg (fun n : Int => Ending.returned (.int .u64 n)) (xor_max x hlt)
  · rw [if_neg h]
    rw [if_neg h] at ha
    have ho := or_hi x (by omega)
    go_enter Tryz.func27, Tryz.ntmps27
    go_wp2_with fail
    refine (HB.out _).mono ?_; rintro en w' ⟨rfl, rfl⟩
    go_wp2_with fail
    go_ret
    exact ⟨by simp, rfl⟩

/-- Order on bits. -/
def orderN (a b : Nat) : Int := cmpN (rankN a) (rankN b)
set_option maxRecDepth 100000 in
theorem order_calls (a b : Nat) (ha : a < 18446744073709551616) (hb : b < 18446744073709551616) (w : World) :
    Calls Tryz.prog 15 #[.float .f64 a, .float .f64 b] w fun e w' => e = .returned (.int .i64 (orderN a b)) ∧ w = w' := by
  have HA := Lib.hid (rank_calls a ha)
  have HB := Lib.hid (rank_calls b hb)
  have HC := Lib.hid (compare_calls (rankN a) (rankN b))
  go_enter Tryz.func15, Tryz.ntmps15
  go_wp2_with fail
  refine (HA.out _).mono ?_; rintro en w' ⟨rfl, rfl⟩
  go_wp2_with fail
  refine (HB.out _).mono ?_; rintro en w' ⟨rfl, rfl⟩
  go_wp2_with fail
  refine (HC.out _).mono ?_; rintro en w' ⟨rfl, rfl⟩
  go_wp2_with fail
  go_ret
  exact ⟨rfl, rfl⟩
set_option maxRecDepth 100000 in
theorem same_calls (a b : Nat) (ha : a < 18446744073709551616) (hb : b < 18446744073709551616) (w : World) :
    Calls Tryz.prog 14 #[.float .f64 a, .float .f64 b] w fun e w' => e = .returned (.bool (decide (bitsN a = bitsN b))) ∧ w = w' := by
  have HA := Lib.hid (realBits_calls a ha)
  have HB := Lib.hid (realBits_calls b hb)
  have ed : ((bitsN a : Int) == (bitsN b : Int)) = decide (bitsN a = bitsN b) := by
    by_cases h : bitsN a = bitsN b
    · simp [h]
    · rw [decide_eq_false h, beq_eq_false_iff_ne]; omega
  have HE := Lib.hid ed
  clear ed
  go_enter Tryz.func14, Tryz.ntmps14
  go_wp2_with fail
  refine (HA.out _).mono ?_; rintro en w' ⟨rfl, rfl⟩
  go_wp2_with fail
  refine (HB.out _).mono ?_; rintro en w' ⟨rfl, rfl⟩
  go_wp2_with fail
  go_ret
  refine ⟨?_, rfl⟩
  rw [← HE.out]
  rfl
/-- Add where the sum is a number (told by the model's own sum). -/
theorem add_ok (a b r : Nat) (hr : floatBits .add .f64 a b = some r) (hlt : r < 18446744073709551616) (hi : (bits .and .u64 (bitsN r : Int) 9218868437227405312 == 9218868437227405312) = false) (w : World) :
    Calls Tryz.prog 10 #[.float .f64 a, .float .f64 b] w fun e w' => e = .returned (.tuple #[.float .f64 r, .int .i64 0]) ∧ w = w' := by
  have hrun := run_float_arith (P := Tryz.prog) w .add 22 .f64 _ _ _ hr
  have HB := Lib.hid (realBits_calls r hlt)
  clear hr
  go_enter Tryz.func10, Tryz.ntmps10
  go_wp2_with fail
  refine (HB.out _).mono ?_; rintro en w' ⟨rfl, rfl⟩
  go_wp2_with fail
  go_ret2
  exact ⟨rfl, rfl⟩
theorem add_err (a b r : Nat) (hr : floatBits .add .f64 a b = some r) (hlt : r < 18446744073709551616) (hi : (bits .and .u64 (bitsN r : Int) 9218868437227405312 == 9218868437227405312) = true) (w : World) :
    Calls Tryz.prog 10 #[.float .f64 a, .float .f64 b] w fun e w' => e = .returned (.tuple #[.float .f64 0, .int .i64 21]) ∧ w = w' := by
  have hrun := run_float_arith (P := Tryz.prog) w .add 22 .f64 _ _ _ hr
  have HB := Lib.hid (realBits_calls r hlt)
  clear hr
  go_enter Tryz.func10, Tryz.ntmps10
  go_wp2_with fail
  refine (HB.out _).mono ?_; rintro en w' ⟨rfl, rfl⟩
  go_wp2_with fail
  go_ret2
  exact ⟨rfl, rfl⟩
end Go.Proofs.YtblnikccdcihpaaGreatDoor
