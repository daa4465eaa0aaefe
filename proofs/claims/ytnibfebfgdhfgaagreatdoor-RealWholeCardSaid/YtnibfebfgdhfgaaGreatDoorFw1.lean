/- The shortest digits of whole numbers: they are the number, less one nought. Plain facts, no program. -/
import Derived.Test.YtnibfebfgdhfgaaGreatDoorFl8
namespace Go.Proofs.YtnibfebfgdhfgaaGreatDoor
open Go.ChangeShapes Go.WideShapes Go.ChangeAt Go.RowKit Go.Sort

theorem or_one (a : Nat) : a ||| 1 = a / 2 * 2 + 1 := by
  have h1 : (a ||| 1) / 2 = a / 2 := by rw [Nat.or_div_two]; simp
  have h2 : (a ||| 1) % 2 = 1 := Nat.or_mod_two_eq_one.2 (.inr rfl)
  omega
/-- Where the power of ten is exact the scaled number is the product's high part, but for its last bit. -/
theorem us_exact (x hi s : Nat) (hx : x < 18446744073709551616) (hh : hi < 18446744073709551616) :
    x * hi / 2 ^ (64 + s) ≤ uscaleN x hi 0 s ∧ uscaleN x hi 0 s ≤ x * hi / 2 ^ (64 + s) / 2 * 2 + 1 := by
  have hq := q_lt hx hh
  have e : x * hi / 18446744073709551616 / 2 ^ s = x * hi / 2 ^ (64 + s) := by rw [Nat.div_div_eq_div_mul, Nat.pow_add]
  have hb2 : ∀ b, b2n b ≤ 1 := fun b => by unfold b2n; split <;> omega
  have key : ∀ a b : Nat, b ≤ 1 → a ≤ a ||| b ∧ a ||| b ≤ a / 2 * 2 + 1 := by
    intro a b hb
    refine ⟨or_ge a b, ?_⟩
    rcases (show b = 0 ∨ b = 1 by omega) with rfl | rfl
    · rw [Nat.or_zero]; omega
    · rw [or_one]; exact Nat.le_refl _
  have e0 : x * 0 / 18446744073709551616 = 0 := by simp
  unfold uscaleN
  simp only []
  rw [e0]
  split
  · rw [e]; exact key _ 1 (by omega)
  · rw [show decide (x * hi % 18446744073709551616 < 0) = false from decide_eq_false (by omega), show b2n false = 0 from rfl, Nat.sub_zero, Nat.sub_zero, Nat.add_mod_right, Nat.mod_eq_of_lt hq, e]
    exact key _ _ (hb2 _)

/-- Between ends of which the number itself, a whole multiple of ten, stands less than ten away: the number by ten. -/
theorem core_whole (mn mx m odd : Nat) (e : Int) (i N s : Nat) (hs : (-(e + l2p10 ((i : Int) - 348) + 3)).toNat = s) (hlo : (p10Row i).2 = 0) (hhi : (p10Row i).1 < 18446744073709551616)
    (hmn : mn < m) (hmx : mx = m + 1024) (hx : mx < 18446744073709551616) (ho : odd ≤ 1) (hh0 : 0 < (p10Row i).1)
    (hN : m * (p10Row i).1 = 4 * N * 2 ^ (64 + s)) (hw : 2 * 2 ^ (64 + s) ≤ 1024 * (p10Row i).1) (hw' : 1024 * (p10Row i).1 < 40 * 2 ^ (64 + s)) (h10 : N % 10 = 0) :
    shortCore mn mx m odd e i = (N / 10, -(((i : Int) - 348) - 1)) := by
  have a := us_exact mn (p10Row i).1 s (by omega) hhi
  have b := us_exact mx (p10Row i).1 s hx hhi
  unfold shortCore
  simp only [hs, hlo]
  generalize (p10Row i).1 = hi at *
  have hD := Nat.two_pow_pos (64 + s)
  generalize 2 ^ (64 + s) = D at *
  have ea : mn * hi / D ≤ 4 * N - 1 := by
    have : mn * hi < 4 * N * D := by rw [← hN]; exact Nat.mul_lt_mul_of_pos_right hmn hh0
    have := (Nat.div_lt_iff_lt_mul hD).2 this
    omega
  have hN1 : 1 ≤ N := by
    rcases Nat.eq_zero_or_pos N with h | h
    · subst h
      rw [Nat.mul_zero, Nat.zero_mul] at hN
      have := Nat.mul_pos (show 0 < m by omega) hh0
      omega
    · exact h
  have eb : mx * hi = 4 * N * D + 1024 * hi := by rw [hmx, Nat.add_mul, hN]
  have eb1 : 4 * N + 2 ≤ mx * hi / D := by
    rw [Nat.le_div_iff_mul_le hD, eb, Nat.add_mul]
    omega
  have eb2 : mx * hi / D < 4 * N + 40 := by
    rw [Nat.div_lt_iff_lt_mul hD, eb, Nat.add_mul]
    omega
  generalize uscaleN mn hi 0 s = u at *
  generalize uscaleN mx hi 0 s = v at *
  generalize mn * hi / D = p at *
  generalize mx * hi / D = q at *
  rw [if_pos (by omega)]
  congr 1
  omega

/-- How many more than nothing digits are there behind the point: the power of ten that is taken at numbers below 2 to the 53 - t. -/
def kOfT (t : Nat) : Nat := (-(l10p2 (-(t : Int)))).toNat
def kOfS (t : Nat) : Nat := (-(skew (-(t : Int)))).toNat
def okT (t k : Nat) : Bool :=
  let s := (-((-11 - (t : Int)) + l2p10 (((348 + k : Nat) : Int) - 348) + 3)).toNat
  decide (1 ≤ k) && decide ((p10Row (348 + k)).2 = 0) && decide ((p10Row (348 + k)).1 < 18446744073709551616) && decide (0 < (p10Row (348 + k)).1) &&
  decide (2048 * 2 ^ t * (p10Row (348 + k)).1 = 4 * 10 ^ k * 2 ^ (64 + s)) && decide (2 * 2 ^ (64 + s) ≤ 1024 * (p10Row (348 + k)).1) && decide (1024 * (p10Row (348 + k)).1 < 40 * 2 ^ (64 + s))
set_option maxRecDepth 100000 in
theorem okT_all : ∀ t : Fin 52, okT (t.val + 1) (kOfT (t.val + 1)) = true ∧ okT (t.val + 1) (kOfS (t.val + 1)) = true := by decide +kernel

theorem core_t (mn m odd n t k : Nat) (hk : okT t k = true) (hm : m = n * (2048 * 2 ^ t)) (hmn : mn < m) (hx : m + 1024 < 18446744073709551616) (ho : odd ≤ 1) :
    shortCore mn (m + 1024) m odd (-11 - (t : Int)) (348 + k) = (n * 10 ^ (k - 1), 1 - (k : Int)) := by
  unfold okT at hk
  simp only [Bool.and_eq_true, decide_eq_true_eq] at hk
  obtain ⟨⟨⟨⟨⟨⟨k1, k2⟩, k3⟩, k4⟩, k5⟩, k6⟩, k7⟩ := hk
  have hp : 10 ^ k = 10 * 10 ^ (k - 1) := by conv => lhs; rw [show k = (k - 1) + 1 by omega, Nat.pow_succ, Nat.mul_comm]
  rw [core_whole mn (m + 1024) m odd (-11 - (t : Int)) (348 + k) (n * 10 ^ k) _ rfl k2 k3 hmn rfl hx ho k4 ?_ k6 k7 ?_]
  · rw [hp, show n * (10 * 10 ^ (k - 1)) = 10 * (n * 10 ^ (k - 1)) by rw [← Nat.mul_assoc, Nat.mul_comm n 10, Nat.mul_assoc], Nat.mul_div_cancel_left _ (by omega)]
    congr 1
    omega
  · rw [hm, Nat.mul_assoc, k5]
    generalize 2 ^ (64 + _) = D
    rw [← Nat.mul_assoc, ← Nat.mul_assoc, Nat.mul_comm n 4, Nat.mul_assoc 4 n]
  · rw [hp, show n * (10 * 10 ^ (k - 1)) = 10 * (n * 10 ^ (k - 1)) by rw [← Nat.mul_assoc, Nat.mul_comm n 10, Nat.mul_assoc]]
    omega
end Go.Proofs.YtnibfebfgdhfgaaGreatDoor
