/- Plain facts, of no program: every number's shortest digits lie within its rounding interval; parsed, they are that number. -/
import Derived.Test.YtnibfebfgdhfgaaGreatDoorUs9
namespace Go.Proofs.YtnibfebfgdhfgaaGreatDoor.Us
open Go Go.Proofs.YtnibfebfgdhfgaaGreatDoor.Sh

theorem nth_in (r : Nat) (h0 : 1 ≤ r) (h1 : r < 9218868437227405312) : ∃ F e0 q, F + (e0 - 1) * 4503599627370496 = r ∧ 1 ≤ F ∧ F < 9007199254740992 ∧ 1 ≤ e0 ∧ e0 ≤ 2046 ∧ (4503599627370496 ≤ F ∨ e0 = 1) ∧
    ((q = 2 ∧ (F ≠ 4503599627370496 ∨ e0 = 1)) ∨ (q = 1 ∧ F = 4503599627370496)) ∧ Within F e0 q (valD (nth r)) := by
  obtain ⟨ex, hex⟩ : ∃ ex, r / 4503599627370496 = ex := ⟨_, rfl⟩
  obtain ⟨fr, hfr⟩ : ∃ fr, r % 4503599627370496 = fr := ⟨_, rfl⟩
  have hr : r = 4503599627370496 * ex + fr := by omega
  have hf : fr < 4503599627370496 := by omega
  have hx : ex ≤ 2046 := by omega
  rw [nth_of r ex fr hr hf]
  by_cases he : ex = 0
  · subst he
    exact ⟨fr, 1, 2, by omega, by omega, by omega, by omega, by omega, .inr rfl, .inl ⟨rfl, .inr rfl⟩, sub_in fr (by omega) hf⟩
  · by_cases hs : fr = 0 ∧ 1 < ex
    · obtain ⟨rfl, hx1⟩ := hs
      exact ⟨4503599627370496, ex, 1, by omega, by omega, by omega, by omega, hx, .inl (by omega), .inr ⟨rfl, rfl⟩, skew_in ex (by omega) hx⟩
    · refine ⟨fr + 4503599627370496, ex, 2, by omega, by omega, by omega, by omega, hx, .inl (by omega), .inl ⟨rfl, ?_⟩, normal_in ex fr (by omega) hx hf hs⟩
      omega
end Go.Proofs.YtnibfebfgdhfgaaGreatDoor.Us
