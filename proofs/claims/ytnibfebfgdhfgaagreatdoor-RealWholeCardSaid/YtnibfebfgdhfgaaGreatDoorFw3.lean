/- The text of a whole number's bits is its numeral: the numbers from 2 to the 52 on. Plain facts, no program. -/
import Derived.Test.YtnibfebfgdhfgaaGreatDoorFw2
namespace Go.Proofs.YtnibfebfgdhfgaaGreatDoor
open Go.ChangeShapes Go.WideShapes Go.ChangeAt Go.RowKit Go.Sort

theorem dp_52 : shortDP 1075 0 = (4503599627370496, 0) := by decide +kernel
theorem dp_53 : shortDP 1076 0 = (9007199254740992, 0) := by decide +kernel
theorem row_one : p10Row 348 = (9223372036854775808, 0) := by decide +kernel
theorem us_one (x : Nat) (hx : x < 18446744073709551616) (h : x % 512 = 0) : uscaleN x 9223372036854775808 0 8 = x / 512 := by
  unfold uscaleN
  have e : x * 9223372036854775808 / 18446744073709551616 = x / 2 := by omega
  have e2 : x * 9223372036854775808 % 18446744073709551616 = 0 := by omega
  simp only [e, e2]
  rw [if_neg (by omega)]
  simp [b2n]
  omega
theorem core_ones (m n odd : Nat) (hm : m = n * 2048) (h0 : 4503599627370496 ≤ n) (h1 : n < 9007199254740992) (ho : odd ≤ 1) :
    shortCore (m - 1024) (m + 1024) m odd (-11) 348 = if n % 10 = 0 then (n / 10, 1) else (n, 0) := by
  have u1 : uscaleN (m - 1024) 9223372036854775808 0 8 = 4 * n - 2 := by rw [us_one _ (by omega) (by omega)]; omega
  have u2 : uscaleN (m + 1024) 9223372036854775808 0 8 = 4 * n + 2 := by rw [us_one _ (by omega) (by omega)]; omega
  have u3 : uscaleN m 9223372036854775808 0 8 = 4 * n := by rw [us_one _ (by omega) (by omega)]; omega
  unfold shortCore
  simp only [row_one]
  rw [show (-(-11 + l2p10 (((348 : Nat) : Int) - 348) + 3)).toNat = 8 from rfl, u1, u2, u3]
  have e1 : (4 * n - 2 + odd + 3) / 4 = n := by omega
  have e2 : (4 * n + 2 - odd) / 4 = n := by omega
  rw [e1, e2]
  by_cases h : n % 10 = 0
  · rw [if_pos (by omega), if_pos h]
    rfl
  · rw [if_neg (by omega), if_neg (by omega), if_neg h]
    rfl
theorem shortDP_ones (fr n : Nat) (h0 : 1 ≤ fr) (hfr : fr < 4503599627370496) (hn : fr + 4503599627370496 = n) :
    shortDP 1075 fr = if n % 10 = 0 then (n / 10, 1) else (n, 0) := by
  have ho : (fr + 4503599627370496) * 2048 / 2048 % 2 ≤ 1 := by omega
  unfold shortDP
  rw [if_neg (by omega)]
  simp only []
  rw [if_neg (by omega), show (348 - l10p2 (((1075 : Nat) : Int) - 1086 + 11)).toNat = 348 from rfl, show ((1075 : Nat) : Int) - 1086 = -11 from rfl]
  exact core_ones _ n _ (by rw [hn]) (by omega) (by omega) ho

/-- Bits of a whole number. -/
def wholeBits (ex fr n : Nat) : Prop := (∃ t, t ≤ 52 ∧ ex = 1075 - t ∧ fr < 4503599627370496 ∧ fr + 4503599627370496 = n * 2 ^ t) ∨ (ex = 1076 ∧ fr = 0 ∧ n = 9007199254740992)
theorem body_whole (r n : Nat) (h : wholeBits (r / 4503599627370496) (r % 4503599627370496) n) : bodyText r = Lib.decDigits n := by
  have hr : 4607182418800017408 ≤ r ∧ r < 4850376798678024192 := by
    rcases h with ⟨t, h1, h2, h3, h4⟩ | ⟨h1, h2, _⟩ <;> omega
  unfold bodyText
  rw [if_neg (by omega), if_neg (by omega), if_neg (by omega)]
  rcases h with ⟨t, h1, h2, h3, h4⟩ | ⟨h1, h2, rfl⟩
  · have hn : 1 ≤ n := by
      rcases Nat.eq_zero_or_pos n with h | h
      · subst h; rw [Nat.zero_mul] at h4; omega
      · exact h
    rw [h2]
    by_cases ht : 1 ≤ t
    · obtain ⟨j, hj⟩ := shortDP_whole n _ t ht h1 h3 h4
      rw [hj]
      exact fix_whole _ n _ hn (.inl ⟨j, rfl, rfl⟩)
    · obtain rfl : t = 0 := by omega
      rw [Nat.pow_zero, Nat.mul_one] at h4
      rw [show 1075 - 0 = 1075 from rfl]
      by_cases h0 : r % 4503599627370496 = 0
      · rw [h0, dp_52]
        refine fix_whole _ n _ hn (.inl ⟨0, ?_, rfl⟩)
        simp only []
        omega
      · rw [shortDP_ones _ n (by omega) h3 h4]
        split
        · exact fix_whole _ n _ hn (.inr ⟨by simp only []; omega, rfl⟩)
        · exact fix_whole _ n _ hn (.inl ⟨0, by simp, rfl⟩)
  · rw [h1, h2, dp_53]
    exact fix_whole _ _ _ (by omega) (.inl ⟨0, by decide, rfl⟩)
end Go.Proofs.YtnibfebfgdhfgaaGreatDoor
