/- From each number's digits to the next one's: the edges between the binades by reckoning, the rest by XFm1. No condition. -/
import Derived.Test.YtlebpaneignfaaaDoorFm1
namespace Go.Proofs.YtlebpaneignfaaaDoor.Sh
open Go
def edge (ex : Nat) : Bool := decide (valD (shortDP ex 4503599627370495) < valD (shortDP (ex + 1) 0)) && decide (valD (shortDP (ex + 1) 0) < valD (shortDP (ex + 1) 1))
set_option maxRecDepth 100000 in
theorem edges : ∀ ex, ex < 2045 → edge (ex + 1) = true := by decide +kernel
def edgeS (k : Nat) : Bool := decide (valD (shortDP 0 (2 ^ k - 1)) < valD (shortDP 0 (2 ^ k)))
set_option maxRecDepth 100000 in
theorem edgesS : ∀ k, k < 51 → edgeS (k + 1) = true := by decide +kernel
theorem edge01 : valD (shortDP 0 4503599627370495) < valD (shortDP 1 0) := by decide +kernel

theorem edge_sub (fr : Nat) (h0 : 1 ≤ fr) (hf : fr + 1 < 4503599627370496) (hb : Lib.bitLen (fr + 1) ≠ Lib.bitLen fr) : valD (shortDP 0 fr) < valD (shortDP 0 (fr + 1)) := by
  obtain ⟨b1, b2, b3⟩ := bitLen_bounds fr h0 (by omega)
  obtain ⟨c1, c2, c3⟩ := bitLen_bounds (fr + 1) (by omega) (by omega)
  have h : fr + 1 = 2 ^ Lib.bitLen fr := by
    by_cases h : fr + 1 < 2 ^ Lib.bitLen fr
    · exfalso
      rcases Nat.lt_or_gt_of_ne hb with q | q
      · have : 2 ^ Lib.bitLen (fr + 1) ≤ 2 ^ (Lib.bitLen fr - 1) := Nat.pow_le_pow_right (by omega) (by omega)
        omega
      · have : 2 ^ Lib.bitLen fr ≤ 2 ^ (Lib.bitLen (fr + 1) - 1) := Nat.pow_le_pow_right (by omega) (by omega)
        omega
    · omega
  have hL : Lib.bitLen fr ≤ 51 := by
    by_cases hl : Lib.bitLen fr ≤ 51
    · exact hl
    · have : 2 ^ 52 ≤ 2 ^ Lib.bitLen fr := Nat.pow_le_pow_right (by omega) (by omega)
      omega
  have := edgesS (Lib.bitLen fr - 1) (by omega)
  unfold edgeS at this
  rw [show Lib.bitLen fr - 1 + 1 = Lib.bitLen fr by omega, decide_eq_true_eq] at this
  rw [h, show fr = 2 ^ Lib.bitLen fr - 1 by omega]
  rw [show Lib.bitLen (2 ^ Lib.bitLen fr - 1) = Lib.bitLen fr by rw [show 2 ^ Lib.bitLen fr - 1 = fr by omega]]
  exact this

/-- The digits of the number whose bits are r. -/
def nth (r : Nat) : Nat × Int := shortDP (r / 4503599627370496) (r % 4503599627370496)
theorem nth_of (r ex fr : Nat) (h : r = 4503599627370496 * ex + fr) (hf : fr < 4503599627370496) : nth r = shortDP ex fr := by
  unfold nth
  rw [show r / 4503599627370496 = ex by omega, show r % 4503599627370496 = fr by omega]
theorem val_succ (r : Nat) (h0 : 1 ≤ r) (h1 : r + 1 < 9218868437227405312) : valD (nth r) < valD (nth (r + 1)) := by
  obtain ⟨ex, hex⟩ : ∃ ex, r / 4503599627370496 = ex := ⟨_, rfl⟩
  obtain ⟨fr, hfr⟩ : ∃ fr, r % 4503599627370496 = fr := ⟨_, rfl⟩
  have hr : r = 4503599627370496 * ex + fr := by omega
  have hlt : fr < 4503599627370496 := by omega
  have hx : ex ≤ 2046 := by omega
  rw [nth_of r ex fr hr hlt]
  by_cases hl : fr + 1 < 4503599627370496
  · rw [nth_of (r + 1) ex (fr + 1) (by omega) hl]
    by_cases h : ex = 0
    · subst h
      by_cases hb : Lib.bitLen (fr + 1) = Lib.bitLen fr
      · exact step_sub fr (by omega) hl hb
      · exact edge_sub fr (by omega) hl hb
    · by_cases hn : fr = 0 ∧ 1 < ex
      · obtain ⟨rfl, h2⟩ := hn
        have := edges (ex - 2) (by omega)
        unfold edge at this
        rw [show ex - 2 + 1 + 1 = ex by omega, Bool.and_eq_true, decide_eq_true_eq, decide_eq_true_eq] at this
        exact this.2
      · exact step_normal ex fr (by omega) hx hl hn
  · obtain rfl : fr = 4503599627370495 := by omega
    rw [nth_of (r + 1) (ex + 1) 0 (by omega) (by omega)]
    by_cases h : ex = 0
    · subst h; exact edge01
    · have := edges (ex - 1) (by omega)
      unfold edge at this
      rw [show ex - 1 + 1 = ex by omega, Bool.and_eq_true, decide_eq_true_eq, decide_eq_true_eq] at this
      exact this.1
theorem val_mono (a d : Nat) (h0 : 1 ≤ a) (h1 : a + d + 1 < 9218868437227405312) : valD (nth a) < valD (nth (a + d + 1)) := by
  induction d with
  | zero => exact val_succ a h0 h1
  | succ d ih => exact Nat.lt_trans (ih (by omega)) (val_succ (a + d + 1) (by omega) h1)
/-- Two numbers with the same digits at the same place are one. -/
theorem val_inj {a b : Nat} (ha : 1 ≤ a) (hb : 1 ≤ b) (ha1 : a < 9218868437227405312) (hb1 : b < 9218868437227405312) (h : valD (nth a) = valD (nth b)) : a = b := by
  rcases Nat.lt_trichotomy a b with q | q | q
  · have := val_mono a (b - a - 1) ha (by omega)
    rw [show a + (b - a - 1) + 1 = b by omega] at this
    omega
  · exact q
  · have := val_mono b (a - b - 1) hb (by omega)
    rw [show b + (a - b - 1) + 1 = a by omega] at this
    omega
end Go.Proofs.YtlebpaneignfaaaDoor.Sh
