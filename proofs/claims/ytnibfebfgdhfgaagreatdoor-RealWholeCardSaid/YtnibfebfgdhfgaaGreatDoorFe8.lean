/- Numbers and their bits, with the other sign: what RealSigns asks of the order. No condition. -/
import Derived.Test.YtnibfebfgdhfgaaGreatDoorFe6
import Derived.Test.YtnibfebfgdhfgaaGreatDoorFsum
namespace Go.Proofs.YtnibfebfgdhfgaaGreatDoor
open Go.ChangeShapes Go.WideShapes Go.ChangeAt Go.RowKit Go.Sort

/-- The number with the other sign. -/
def flip (b : Nat) : Nat := if 9223372036854775808 ≤ b then b - 9223372036854775808 else b + 9223372036854775808
theorem xor_hi (x : Nat) (hx : x < 18446744073709551616) : bits .xor .u64 (x : Int) 9223372036854775808 = (flip x : Int) := by
  have h1 : (BitVec.ofInt 64 (x : Int)).toNat = x := by
    rw [BitVec.ofInt_natCast, BitVec.toNat_ofNat]; exact Nat.mod_eq_of_lt (by omega)
  have h2 : (BitVec.ofInt 64 9223372036854775808).toNat = 2 ^ 63 := by decide
  show IntKind.u64.wrap ((BitVec.ofInt 64 (x : Int) ^^^ BitVec.ofInt 64 9223372036854775808).toNat : Int) = _
  rw [BitVec.toNat_xor, h1, h2, IntKind.wrap_u64]
  have e : x ^^^ 2 ^ 63 = flip x := by
    unfold flip
    refine Nat.eq_of_testBit_eq fun i => ?_
    rw [Nat.testBit_xor, Nat.testBit_two_pow]
    by_cases hi : 63 = i
    · subst hi
      by_cases hs : 9223372036854775808 ≤ x
      · rw [if_pos hs]
        simp only [Nat.testBit_eq_decide_div_mod_eq]
        rw [decide_eq_true (show x / 2 ^ 63 % 2 = 1 by omega), decide_eq_false (show ¬(x - 9223372036854775808) / 2 ^ 63 % 2 = 1 by omega)]
        rfl
      · rw [if_neg hs]
        simp only [Nat.testBit_eq_decide_div_mod_eq]
        rw [decide_eq_false (show ¬x / 2 ^ 63 % 2 = 1 by omega), decide_eq_true (show (x + 9223372036854775808) / 2 ^ 63 % 2 = 1 by omega)]
        rfl
    · rw [decide_eq_false hi, Bool.xor_false]
      have key : ∀ y, y < 2 ^ 63 → (y + 2 ^ 63).testBit i = y.testBit i := by
        intro y hy
        have := Nat.two_pow_add_eq_or_of_lt (i := 63) (b := y) hy 1
        rw [Nat.mul_one] at this
        rw [Nat.add_comm, this, Nat.testBit_or, Nat.testBit_two_pow, decide_eq_false hi, Bool.false_or]
      by_cases hs : 9223372036854775808 ≤ x
      · rw [if_pos hs]
        have := key (x - 9223372036854775808) (by omega)
        rw [show x - 9223372036854775808 + 2 ^ 63 = x by omega] at this
        exact this
      · rw [if_neg hs]
        exact (key x (by omega)).symm
  rw [e]
  unfold flip
  split <;> omega
theorem flip_lt (b : Nat) (hb : b < 18446744073709551616) : flip b < 18446744073709551616 := by unfold flip; split <;> omega
theorem flip_rung (b : Nat) (hb : b < 18446744073709551616) : flip b % 9223372036854775808 = b % 9223372036854775808 := by unfold flip; split <;> omega
theorem flip_below (b : Nat) (hb : b < 18446744073709551616) : below (flip b) = !below b := by
  unfold below flip
  by_cases h : 9223372036854775808 ≤ b
  · rw [if_pos h, decide_eq_true h, decide_eq_false (by omega)]; rfl
  · rw [if_neg h, decide_eq_false h, decide_eq_true (by omega)]; rfl
theorem flip_rank (b : Nat) (hb : b < 18446744073709551616) (hn : b % 9223372036854775808 ≤ 9218868437227405312) : rankN (flip b) = 18446744073709551615 - rankN b := by
  have h1 := bitsN_num b hn
  have h2 := bitsN_num (flip b) (by rw [flip_rung b hb]; exact hn)
  unfold rankN
  rw [h1, h2]
  unfold flip
  by_cases h : 9223372036854775808 ≤ b
  · rw [if_pos h, if_pos h, if_neg (by omega)]; omega
  · rw [if_neg h, if_neg h, if_pos (by omega)]
theorem flip_order (a b : Nat) (ha : a < 18446744073709551616) (hb : b < 18446744073709551616) (na : a % 9223372036854775808 ≤ 9218868437227405312) (nb : b % 9223372036854775808 ≤ 9218868437227405312) : orderN (flip a) (flip b) = -orderN a b := by
  rw [← orderN_anti b a]
  unfold orderN
  rw [flip_rank a ha na, flip_rank b hb nb]
  have la : rankN a < 18446744073709551616 := by unfold rankN; rw [bitsN_num a na]; split <;> omega
  have lb : rankN b < 18446744073709551616 := by unfold rankN; rw [bitsN_num b nb]; split <;> omega
  generalize rankN a = x at *
  generalize rankN b = y at *
  unfold cmpN
  by_cases h1 : x < y
  · rw [if_neg (show ¬18446744073709551615 - x < 18446744073709551615 - y by omega), if_pos (show 18446744073709551615 - y < 18446744073709551615 - x by omega), if_neg (show ¬y < x by omega), if_pos h1]
  · by_cases h2 : y < x
    · rw [if_pos (show 18446744073709551615 - x < 18446744073709551615 - y by omega), if_pos h2]
    · rw [if_neg (show ¬18446744073709551615 - x < 18446744073709551615 - y by omega), if_neg (show ¬18446744073709551615 - y < 18446744073709551615 - x by omega), if_neg h2, if_neg h1]

end Go.Proofs.YtnibfebfgdhfgaaGreatDoor
