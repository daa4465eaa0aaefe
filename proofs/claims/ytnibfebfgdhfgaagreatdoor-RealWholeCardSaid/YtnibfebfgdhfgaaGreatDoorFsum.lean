/- The walk of the law RealSums: true, at any two numbers' bits. Conditions: the tables hold what start-up lays. -/
import Derived.Test.YtnibfebfgdhfgaaGreatDoorFlh
import Derived.Test.YtnibfebfgdhfgaaGreatDoorFe6
import Derived.Laws.FloatBits
namespace Go.Proofs.YtnibfebfgdhfgaaGreatDoor
open Go.ChangeShapes Go.WideShapes Go.ChangeAt Go.RowKit Go.Sort

/-- The bits that the tape chooses for a sum that is none. -/
def nanOf (a b : Nat) (w : World) : Nat := Question.cut (.nanBits .f64 a b) (w.tape w.drawn (.nanBits .f64 a b))
theorem nanOf_lt (a b : Nat) (w : World) : nanOf a b w < 18446744073709551616 ∧ 9218868437227405312 < nanOf a b w % 9223372036854775808 := by
  unfold nanOf Question.cut
  simp only []
  generalize w.tape w.drawn (.nanBits .f64 a b) = t
  have h1 : t / 2 % (2 ^ 52 - 1) < 2 ^ 52 - 1 := Nat.mod_lt _ (by decide)
  generalize t / 2 % (2 ^ 52 - 1) = x at *
  rcases (show t % 2 = 0 ∨ t % 2 = 1 by omega) with h2 | h2
  · rw [h2]; omega
  · rw [h2]; omega
theorem run_add_nan (a b : Nat) (h : floatBits .add .f64 a b = none) (w : World) :
    (binOp .add 24 (.float .f64 a) (.float .f64 b)).run Tryz.prog w = .ok (.float .f64 (nanOf a b w)) w.drew := by
  unfold floatBits at h
  simp only at h
  simp [binOp, Op.floatArith, h, choose, nanOf]
  rfl

/-- What Add answers of a sum: the number, and the error. -/
def addFin (r : Nat) : Nat × Int := if 9218868437227405312 ≤ r % 9223372036854775808 then (0, 21) else (r, 0)
theorem and_mid (y : Nat) : y &&& (2 ^ 52 * (2 ^ 11 - 1)) = 2 ^ 52 * (y / 2 ^ 52 % 2 ^ 11) := by
  refine Nat.eq_of_testBit_eq fun i => ?_
  rw [Nat.testBit_and, Nat.testBit_two_pow_mul, Nat.testBit_two_pow_mul, Nat.testBit_two_pow_sub_one, Nat.testBit_mod_two_pow, Nat.testBit_div_two_pow]
  by_cases h : 52 ≤ i
  · rw [decide_eq_true h, show i - 52 + 52 = i by omega, Bool.true_and, Bool.true_and, Bool.and_comm]
  · rw [decide_eq_false h]; simp
theorem and_inf (x : Nat) (hx : x < 18446744073709551616) : (bits .and .u64 (bitsN x : Int) 9218868437227405312 == 9218868437227405312) = decide (9218868437227405312 ≤ x % 9223372036854775808) := by
  have h := bits_and_u64_nat (bitsN x) 9218868437227405312 (bitsN_lt x hx) (by omega)
  rw [show (9218868437227405312 : Nat) = 2 ^ 52 * (2 ^ 11 - 1) from by decide, and_mid] at h
  rw [show (9218868437227405312 : Int) = ((2 ^ 52 * (2 ^ 11 - 1) : Nat) : Int) from by decide, h]
  have hb := bitsN_lt x hx
  have key : (2 ^ 52 * (bitsN x / 2 ^ 52 % 2 ^ 11) = 2 ^ 52 * (2 ^ 11 - 1)) ↔ 9218868437227405312 ≤ x % 9223372036854775808 := by
    unfold bitsN at *
    split <;> omega
  by_cases c : 9218868437227405312 ≤ x % 9223372036854775808
  · rw [decide_eq_true c, beq_iff_eq, key.2 c]
  · rw [decide_eq_false c, beq_eq_false_iff_ne]
    intro e
    exact c (key.1 (Int.ofNat.inj e))

set_option maxRecDepth 100000 in
theorem realAdd_calls (a b r : Nat) (hr : floatBits .add .f64 a b = some r) (w : World) :
    Calls Tryz.prog 11 #[.float .f64 a, .float .f64 b] w fun e w' => e = .returned (.tuple #[.float .f64 (addFin r).1, .int .i64 (addFin r).2]) ∧ w = w' := by
  have hlt : r < 18446744073709551616 := by
    have := FloatKind.f64.format.add_lt hr
    exact this
  have hi := and_inf r hlt
  unfold addFin
  by_cases c : 9218868437227405312 ≤ r % 9223372036854775808
  · rw [decide_eq_true c] at hi
    rw [if_pos c]
    exact add_err a b r hr hlt hi w
  · rw [decide_eq_false c] at hi
    rw [if_neg c]
    exact add_ok a b r hr hlt hi w
set_option maxRecDepth 100000 in
theorem realAdd_nan (a b : Nat) (hr : floatBits .add .f64 a b = none) (w : World) :
    Calls Tryz.prog 11 #[.float .f64 a, .float .f64 b] w fun e w' => e = .returned (.tuple #[.float .f64 0, .int .i64 21]) ∧ ∃ n, w' = w.drewN n := by
  have hrun := run_add_nan a b hr w
  obtain ⟨hlt, hn⟩ := nanOf_lt a b w
  generalize nanOf a b w = r at *
  have hi := and_inf r hlt
  rw [decide_eq_true (by omega)] at hi
  have HB := Lib.hid (realBits_calls r hlt)
  clear hr
  go_enter Tryz.func11, Tryz.ntmps11
  go_wp2_with fail
  refine (HB.out _).mono ?_; rintro en w' ⟨rfl, rfl⟩
  go_wp2_with fail
  go_ret2
  exact ⟨rfl, 1, rfl⟩

theorem bits_three (r : Nat) (hlt : r < 18446744073709551616) (c : 9218868437227405312 ≤ r % 9223372036854775808) : bitsN r = 9221120237041090561 ∨ bitsN r = 9218868437227405312 ∨ bitsN r = 18442240474082181120 := by
  unfold bitsN
  split <;> omega
theorem bits_none (r : Nat) (c : ¬ 9218868437227405312 ≤ r % 9223372036854775808) : bitsN r ≠ 9221120237041090561 ∧ bitsN r ≠ 9218868437227405312 ∧ bitsN r ≠ 18442240474082181120 := by
  unfold bitsN
  rw [if_neg (by omega)]
  omega

theorem order_num (a b : Nat) (ha : a < 18446744073709551616) (hb : b < 18446744073709551616) (na : a % 9223372036854775808 ≤ 9218868437227405312) (nb : b % 9223372036854775808 ≤ 9218868437227405312) (hab : a ≠ b) :
    orderN a b = if Ord.sr a < Ord.sr b ∨ (Ord.sr a = Ord.sr b ∧ 9223372036854775808 ≤ a) then -1 else 1 := by
  have h1 : rankN a < rankN b ↔ (Ord.sr a < Ord.sr b ∨ (Ord.sr a = Ord.sr b ∧ 9223372036854775808 ≤ a)) := by
    unfold rankN
    rw [bitsN_num a na, bitsN_num b nb]
    unfold Ord.sr Ord.neg Ord.rung
    by_cases sa : 9223372036854775808 ≤ a <;> by_cases sb : 9223372036854775808 ≤ b <;> simp only [sa, sb, decide_true, decide_false, if_true, if_false, Bool.false_eq_true, and_true, and_false, or_false] <;> omega
  have h2 : rankN b < rankN a ↔ ¬ (Ord.sr a < Ord.sr b ∨ (Ord.sr a = Ord.sr b ∧ 9223372036854775808 ≤ a)) := by
    unfold rankN
    rw [bitsN_num a na, bitsN_num b nb]
    unfold Ord.sr Ord.neg Ord.rung
    by_cases sa : 9223372036854775808 ≤ a <;> by_cases sb : 9223372036854775808 ≤ b <;> simp only [sa, sb, decide_true, decide_false, if_true, if_false, Bool.false_eq_true, and_true, and_false, or_false] <;> omega
  unfold orderN cmpN
  by_cases P : Ord.sr a < Ord.sr b ∨ (Ord.sr a = Ord.sr b ∧ 9223372036854775808 ≤ a)
  · rw [if_pos (h1.2 P), if_pos P]
  · rw [if_neg (fun h => P (h1.1 h)), if_pos (h2.2 P), if_neg P]
theorem order_nan1 (a b : Nat) (hb : b < 18446744073709551616) (hx : bitsN a = 9221120237041090561) (hne : bitsN a ≠ bitsN b) : orderN a b = 1 := by
  have r1 : rankN a = 18444492273895866369 := by unfold rankN; rw [hx]; decide
  have nb : b % 9223372036854775808 ≤ 9218868437227405312 := by
    rcases Nat.lt_or_ge 9218868437227405312 (b % 9223372036854775808) with h | h
    · exact absurd (by rw [hx]; unfold bitsN; rw [if_pos h]) hne
    · exact h
  have r2 : rankN b < 18444492273895866369 := by
    unfold rankN
    rw [bitsN_num b nb]
    split <;> omega
  unfold orderN cmpN
  rw [r1, if_neg (by omega), if_pos r2]
theorem order_nan2 (a b : Nat) (ha : a < 18446744073709551616) (hx : bitsN b = 9221120237041090561) (hne : bitsN a ≠ bitsN b) : orderN a b = -1 := by
  rw [orderN_anti, order_nan1 b a ha hx (fun h => hne h.symm)]

end Go.Proofs.YtnibfebfgdhfgaaGreatDoor
