/- The float of a whole number up to 2 to the 53, and its text. Plain facts, no program. -/
import Derived.Test.YtnibfebfgdhfgaaGreatDoorFw3
import Derived.Laws.Cover2
namespace Go.Proofs.YtnibfebfgdhfgaaGreatDoor
open Go.ChangeShapes Go.WideShapes Go.ChangeAt Go.RowKit Go.Sort

theorem cut_none (s : Bool) (n : Nat) : Ieee.Toward.even.cut s n 0 = n := by
  unfold Ieee.Toward.cut
  simp [Nat.mod_one]
theorem nearest_whole (n : Nat) (h1 : 1 ≤ n) (h2 : n ≤ 9007199254740992) :
    ∃ r, r < 9223372036854775808 ∧ wholeBits (r / 4503599627370496) (r % 4503599627370496) n ∧ ∀ s : Bool, Ieee.double.nearest s n 0 = if s then 9223372036854775808 + r else r := by
  by_cases h53 : n = 9007199254740992
  · subst h53
    refine ⟨4845873199050653696, by omega, .inr ⟨by decide, by decide, rfl⟩, ?_⟩
    intro s
    cases s <;> decide +kernel
  · have l0 := Nat.log2_self_le (n := n) (by omega)
    have l1 : n < 2 ^ (n.log2 + 1) := Nat.lt_log2_self
    have l2 : n.log2 ≤ 52 := by
      have : n.log2 < 53 := (Nat.log2_lt (by omega)).2 (by omega)
      omega
    have e1 : Ieee.double.fractionBits = 52 := rfl
    have e2 : Ieee.double.leastPlace = -1074 := by decide
    have e3 : Ieee.double.binade = 4503599627370496 := by decide
    have e4 : Ieee.double.infRung = 9218868437227405312 := by decide +kernel
    have e5 : Ieee.double.signWeight = 9223372036854775808 := by decide
    generalize hlog : n.log2 = l at *
    have hl : max ((0 : Int) + (l : Int) - (52 : Nat)) (-1074) = -((52 - l : Nat) : Int) := by omega
    have a0 : 4503599627370496 ≤ n * 2 ^ (52 - l) := by
      calc 4503599627370496 = 2 ^ l * 2 ^ (52 - l) := by rw [← Nat.pow_add, show l + (52 - l) = 52 by omega]
        _ ≤ n * 2 ^ (52 - l) := Nat.mul_le_mul_right _ l0
    have a1 : n * 2 ^ (52 - l) < 9007199254740992 := by
      calc n * 2 ^ (52 - l) < 2 ^ (l + 1) * 2 ^ (52 - l) := Nat.mul_lt_mul_of_pos_right l1 (Nat.two_pow_pos _)
        _ = 9007199254740992 := by rw [← Nat.pow_add, show l + 1 + (52 - l) = 53 by omega]
    have ht : 52 - l ≤ 52 := by omega
    refine ⟨(1074 - (52 - l)) * 4503599627370496 + n * 2 ^ (52 - l), by omega, .inl ⟨52 - l, ht, ?_, ?_, ?_⟩, ?_⟩
    · generalize n * 2 ^ (52 - l) = q at *; omega
    · omega
    · generalize n * 2 ^ (52 - l) = q at *; omega
    · intro s
      unfold Ieee.Format.nearest
      rw [if_neg (by omega)]
      simp only [e1, e2, e3, e4, hlog, hl]
      have z1 : ((0 : Int) - -((52 - l : Nat) : Int)).toNat = 52 - l := by omega
      have z2 : (-((52 - l : Nat) : Int) - 0).toNat = 0 := by omega
      have z3 : (-((52 - l : Nat) : Int) - -1074).toNat = 1074 - (52 - l) := by omega
      rw [z1, z2, z3, cut_none, Nat.shiftLeft_eq]
      generalize n * 2 ^ (52 - l) = q at *
      unfold Ieee.Format.word
      rw [e5, Nat.min_eq_left (by omega)]
end Go.Proofs.YtnibfebfgdhfgaaGreatDoor
