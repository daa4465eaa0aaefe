/- How two numbers' bits stand to each other, by the model's own comparison: plain facts, no program. -/
import Derived.Laws.FloatArith
namespace Go.Proofs.YtimgkbpiengnjaaGreatDoor.Ord
open Ieee

def kOf (r : Nat) : Nat := r / 4503599627370496 - 1
def mOf (r : Nat) : Nat := r - kOf r * 4503599627370496
def vOf (r : Nat) : Nat := mOf r * 2 ^ kOf r

theorem mOf_lt (r : Nat) : mOf r < 9007199254740992 := by unfold mOf kOf; omega
theorem mOf_ge (r : Nat) (h : 4503599627370496 ≤ r) : 4503599627370496 ≤ mOf r := by unfold mOf kOf; omega
theorem vOf_mono {r q : Nat} (h : r < q) : vOf r < vOf q := by
  unfold vOf
  by_cases hk : kOf r = kOf q
  · rw [hk]
    refine Nat.mul_lt_mul_of_pos_right ?_ (Nat.two_pow_pos _)
    unfold mOf
    rw [hk]
    unfold kOf at *
    omega
  · have hlt : kOf r + 1 ≤ kOf q := by unfold kOf at *; omega
    have hq : 4503599627370496 ≤ q := by unfold kOf at *; omega
    have hmq := mOf_ge q hq
    have hmr := mOf_lt r
    have hp : 2 ^ kOf r * 2 ≤ 2 ^ kOf q := by
      rw [← Nat.pow_succ]
      exact Nat.pow_le_pow_right (by omega) hlt
    have h1 : mOf r * 2 ^ kOf r < 9007199254740992 * 2 ^ kOf r := Nat.mul_lt_mul_of_pos_right hmr (Nat.two_pow_pos _)
    have h2 : 4503599627370496 * 2 ^ kOf q ≤ mOf q * 2 ^ kOf q := Nat.mul_le_mul_right _ hmq
    omega
theorem vOf_zero : vOf 0 = 0 := by decide
theorem vOf_lt_iff {r q : Nat} : vOf r < vOf q ↔ r < q := by
  constructor
  · intro h
    rcases Nat.lt_trichotomy r q with k | k | k
    · exact k
    · subst k; omega
    · have := vOf_mono k; omega
  · exact vOf_mono

/-- A word's sign and rung, taken apart. -/
def neg (a : Nat) : Bool := decide (9223372036854775808 ≤ a)
def rung (a : Nat) : Nat := a % 9223372036854775808
def sr (a : Nat) : Int := if neg a then -(rung a : Int) else (rung a : Int)

theorem read_num (a : Nat) (ha : a < 18446744073709551616) (h : rung a < 9218868437227405312) : double.read a = .number (neg a) (mOf (rung a)) (-1074 + (kOf (rung a) : Int)) := by
  have e1 : double.signWeight = 9223372036854775808 := by decide
  have e2 : double.binade = 4503599627370496 := by decide
  have e3 : double.infRung = 9218868437227405312 := by decide +kernel
  have e4 : double.leastPlace = -1074 := by decide
  have en : (a / 9223372036854775808 % 2 == 1) = neg a := by
    unfold neg
    by_cases h9 : 9223372036854775808 ≤ a
    · rw [decide_eq_true h9, beq_iff_eq]; omega
    · rw [decide_eq_false h9, beq_eq_false_iff_ne]; omega
  unfold Format.read
  simp only [e1, e2, e3, e4, en]
  unfold rung at *
  by_cases hs : a % 9223372036854775808 < 4503599627370496
  · rw [if_pos hs]
    have k0 : kOf (a % 9223372036854775808) = 0 := by unfold kOf; omega
    unfold mOf
    rw [k0]
    simp
  · rw [if_neg hs, if_pos h]
    unfold mOf kOf
    congr 1
    omega
theorem read_inf (a : Nat) (ha : a < 18446744073709551616) (h : rung a = 9218868437227405312) : double.read a = .infinity (neg a) := by
  have e1 : double.signWeight = 9223372036854775808 := by decide
  have e2 : double.binade = 4503599627370496 := by decide
  have e3 : double.infRung = 9218868437227405312 := by decide +kernel
  have en : (a / 9223372036854775808 % 2 == 1) = neg a := by
    unfold neg
    by_cases h9 : 9223372036854775808 ≤ a
    · rw [decide_eq_true h9, beq_iff_eq]; omega
    · rw [decide_eq_false h9, beq_eq_false_iff_ne]; omega
  unfold rung at h
  unfold Format.read
  simp only [e1, e2, e3, en, h]
  rw [if_neg (by omega), if_neg (by omega), if_pos trivial]
theorem read_nan (a : Nat) (h : 9218868437227405312 < rung a) : ∃ s t, double.read a = .nan s t := by
  have e1 : double.signWeight = 9223372036854775808 := by decide
  have e2 : double.binade = 4503599627370496 := by decide
  have e3 : double.infRung = 9218868437227405312 := by decide +kernel
  unfold rung at h
  unfold Format.read
  simp only [e1, e2, e3]
  rw [if_neg (by omega), if_neg (by omega), if_neg (by omega)]
  exact ⟨_, _, rfl⟩

theorem order_nan_l (a b : Nat) (h : 9218868437227405312 < rung a) : double.order a b = none := by
  obtain ⟨s, t, e⟩ := read_nan a h
  unfold Format.order
  rw [e]
  cases double.read b <;> rfl
theorem order_nan_r (a b : Nat) (h : 9218868437227405312 < rung b) : double.order a b = none := by
  obtain ⟨s, t, e⟩ := read_nan b h
  unfold Format.order
  rw [e]
  cases double.read a <;> rfl

theorem cmpI (a b : Int) : compare a b = if a < b then .lt else if a = b then .eq else .gt := rfl
theorem cmp_mul (x y : Int) (c : Nat) (hc : 0 < c) : compare (x * (c : Int)) (y * (c : Int)) = compare x y := by
  have hc' : (0 : Int) < (c : Int) := by omega
  rw [cmpI, cmpI]
  by_cases h1 : x < y
  · rw [if_pos h1, if_pos (Int.mul_lt_mul_of_pos_right h1 hc')]
  · rw [if_neg h1, if_neg (fun h => h1 (Int.lt_of_mul_lt_mul_right h (Int.le_of_lt hc')))]
    by_cases h2 : x = y
    · subst h2; rw [if_pos rfl, if_pos rfl]
    · rw [if_neg h2, if_neg (fun h => h2 (Int.eq_of_mul_eq_mul_right (by omega) h))]
theorem signed_mul (s : Bool) (m k d : Nat) : signed s m k * ((2 ^ d : Nat) : Int) = if s then -((m * 2 ^ (k + d) : Nat) : Int) else ((m * 2 ^ (k + d) : Nat) : Int) := by
  have e : (m <<< k) * 2 ^ d = m * 2 ^ (k + d) := by rw [Nat.shiftLeft_eq, Nat.mul_assoc, Nat.pow_add]
  unfold signed
  cases s
  · rw [← e]; simp
  · rw [← e]; simp [Int.neg_mul]
theorem scaled (s t : Bool) (m n k l : Nat) :
    compare (signed s m ((-1074 + (k : Int)) - min (-1074 + (k : Int)) (-1074 + (l : Int))).toNat) (signed t n ((-1074 + (l : Int)) - min (-1074 + (k : Int)) (-1074 + (l : Int))).toNat) =
    compare (if s then -((m * 2 ^ k : Nat) : Int) else ((m * 2 ^ k : Nat) : Int)) (if t then -((n * 2 ^ l : Nat) : Int) else ((n * 2 ^ l : Nat) : Int)) := by
  have e1 : ((-1074 + (k : Int)) - min (-1074 + (k : Int)) (-1074 + (l : Int))).toNat = k - min k l := by omega
  have e2 : ((-1074 + (l : Int)) - min (-1074 + (k : Int)) (-1074 + (l : Int))).toNat = l - min k l := by omega
  rw [e1, e2, ← cmp_mul _ _ (2 ^ min k l) (Nat.two_pow_pos _), signed_mul, signed_mul, show k - min k l + min k l = k by omega, show l - min k l + min k l = l by omega]

theorem cmp_sr (s t : Bool) (r q : Nat) : compare (if s then -(vOf r : Int) else (vOf r : Int)) (if t then -(vOf q : Int) else (vOf q : Int)) = compare (if s then -(r : Int) else (r : Int)) (if t then -(q : Int) else (q : Int)) := by
  have h1 : vOf r < vOf q ↔ r < q := vOf_lt_iff
  have h2 : vOf q < vOf r ↔ q < r := vOf_lt_iff
  have h3 : 0 < vOf r ↔ 0 < r := by rw [← vOf_zero]; exact vOf_lt_iff
  have h4 : 0 < vOf q ↔ 0 < q := by rw [← vOf_zero]; exact vOf_lt_iff
  rw [cmpI, cmpI]
  have a1 : ((if s then -(vOf r : Int) else (vOf r : Int)) < (if t then -(vOf q : Int) else (vOf q : Int))) ↔ ((if s then -(r : Int) else (r : Int)) < (if t then -(q : Int) else (q : Int))) := by
    cases s <;> cases t <;> simp only [Bool.false_eq_true, if_true, if_false] <;> omega
  have a2 : ((if s then -(vOf r : Int) else (vOf r : Int)) = (if t then -(vOf q : Int) else (vOf q : Int))) ↔ ((if s then -(r : Int) else (r : Int)) = (if t then -(q : Int) else (q : Int))) := by
    cases s <;> cases t <;> simp only [Bool.false_eq_true, if_true, if_false] <;> omega
  simp only [a1, a2]

theorem order_eq (a b : Nat) (ha : a < 18446744073709551616) (hb : b < 18446744073709551616) (na : rung a ≤ 9218868437227405312) (nb : rung b ≤ 9218868437227405312) :
    double.order a b = some (compare (sr a) (sr b)) := by
  unfold Format.order
  by_cases fa : rung a < 9218868437227405312
  · rw [read_num a ha fa]
    by_cases fb : rung b < 9218868437227405312
    · rw [read_num b hb fb]
      show some (compare _ _) = _
      rw [scaled]
      exact congrArg some (cmp_sr (neg a) (neg b) (rung a) (rung b))
    · rw [read_inf b hb (by omega)]
      show some (if neg b then Ordering.gt else Ordering.lt) = _
      have eb : rung b = 9218868437227405312 := by omega
      unfold sr
      rw [eb, cmpI]
      cases neg a <;> cases neg b <;> simp only [Bool.false_eq_true, if_true, if_false]
      · rw [if_pos (by omega)]
      · rw [if_neg (by omega), if_neg (by omega)]
      · rw [if_pos (by omega)]
      · rw [if_neg (by omega), if_neg (by omega)]
  · have ea : rung a = 9218868437227405312 := by omega
    rw [read_inf a ha ea]
    by_cases fb : rung b < 9218868437227405312
    · rw [read_num b hb fb]
      show some (if neg a then Ordering.lt else Ordering.gt) = _
      unfold sr
      rw [ea, cmpI]
      cases neg a <;> cases neg b <;> simp only [Bool.false_eq_true, if_true, if_false]
      · rw [if_neg (by omega), if_neg (by omega)]
      · rw [if_neg (by omega), if_neg (by omega)]
      · rw [if_pos (by omega)]
      · rw [if_pos (by omega)]
    · have eb : rung b = 9218868437227405312 := by omega
      rw [read_inf b hb eb]
      unfold sr
      rw [ea, eb]
      show some (compare (neg b).toNat (neg a).toNat) = _
      cases neg a <;> cases neg b <;> decide
end Go.Proofs.YtimgkbpiengnjaaGreatDoor.Ord
