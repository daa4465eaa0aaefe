/- Plain facts, of no program: what the model makes of a dyadic number (a product's, a quotient's) that lies within a number's rounding interval: that number's kept digits. No condition. -/
import Derived.Test.YtnibfebfgdhfgaaGreatDoorUsa
namespace Go.Proofs.YtnibfebfgdhfgaaGreatDoor.Us
open Go

theorem log_low {n k : Nat} (h : 2 ^ k ≤ 2 * n) : k ≤ n.log2 + 1 := by
  have h1 : n < 2 ^ (n.log2 + 1) := Nat.lt_log2_self
  rcases Nat.lt_or_ge (n.log2 + 1) k with h2 | h2
  · have h3 := Nat.pow_le_pow_right (n := 2) (by omega) h2
    rw [Nat.pow_succ] at h3
    omega
  · exact h2
/-- Cut to the nearest (of two the even one): within half a unit of F it is F. -/
theorem cut_within (s : Bool) (n drop F : Nat) (hF : 1 ≤ F) (h1 : (2 * F - 1) * 2 ^ drop ≤ 2 * n) (h2 : 2 * n ≤ (2 * F + 1) * 2 ^ drop) (h3 : F % 2 = 1 → (2 * F - 1) * 2 ^ drop < 2 * n ∧ 2 * n < (2 * F + 1) * 2 ^ drop) :
    Ieee.Toward.even.cut s n drop = F := by
  have hg := Nat.two_pow_pos drop
  have hle : 2 ^ drop ≤ (2 * F - 1) * 2 ^ drop := Nat.le_mul_of_pos_left _ (by omega)
  have hn : n ≠ 0 := by omega
  have hk := log_low (n := n) (k := drop) (by omega)
  unfold Ieee.Toward.cut
  simp only [Nat.min_eq_left (show drop ≤ n.log2 + 2 by omega), Nat.one_shiftLeft]
  have e1 : (2 * F - 1) * 2 ^ drop = 2 * ((F - 1) * 2 ^ drop) + 2 ^ drop := by
    rw [show 2 * F - 1 = 2 * (F - 1) + 1 by omega, Nat.add_mul, Nat.one_mul, Nat.mul_assoc]
  have e2 : (2 * F + 1) * 2 ^ drop = 2 * ((F - 1) * 2 ^ drop) + 3 * 2 ^ drop := by
    rw [show 2 * F + 1 = 2 * (F - 1) + 3 by omega, Nat.add_mul, Nat.mul_assoc]
  rw [e1] at h1 h3
  rw [e2] at h2 h3
  have q1 : F - 1 ≤ n / 2 ^ drop := (Nat.le_div_iff_mul_le hg).2 (by omega)
  have q2 : n / 2 ^ drop < F + 1 := (Nat.div_lt_iff_lt_mul hg).2 (by
    rw [show F + 1 = (F - 1) + 2 by omega, Nat.add_mul]; omega)
  have hd := Nat.div_add_mod n (2 ^ drop)
  have hm := Nat.mod_lt n hg
  generalize n / 2 ^ drop = q at *
  generalize n % 2 ^ drop = r at *
  generalize 2 ^ drop = g at *
  rcases (show q = F - 1 ∨ q = F by omega) with rfl | rfl
  · rw [Nat.mul_comm g] at hd
    have hr : g ≤ 2 * r := by omega
    by_cases he : g = 2 * r
    · have hodd : F % 2 ≠ 1 := fun ho => by have := (h3 ho).1; omega
      have : (F - 1) % 2 = 1 := by omega
      rw [decide_eq_false (show ¬ g < 2 * r by omega), this]
      simp [he.symm]
      omega
    · rw [decide_eq_true (show g < 2 * r by omega)]
      simp
      omega
  · have hd2 : (q - 1) * g + g + r = n := by
      have : (q - 1) * g + g = q * g := by
        rw [show q = (q - 1) + 1 by omega, Nat.add_mul, Nat.one_mul, Nat.add_sub_cancel]
      rw [Nat.mul_comm g] at hd
      omega
    have hr : 2 * r ≤ g := by omega
    rw [decide_eq_false (show ¬ g < 2 * r by omega)]
    by_cases he : g = 2 * r
    · have hodd : q % 2 ≠ 1 := fun ho => by have := (h3 ho).2; omega
      simp [show q % 2 = 0 by omega]
    · have : (g == 2 * r) = false := beq_eq_false_iff_ne.2 he
      rw [this]
      simp
end Go.Proofs.YtnibfebfgdhfgaaGreatDoor.Us
/- Plain facts, of no program: the float nearest to a dyadic number that lies within a number's rounding interval is that number. No condition. -/
namespace Go.Proofs.YtnibfebfgdhfgaaGreatDoor.Us
open Go

/-- From one scale to the other. -/
theorem scale_le {x m A B a b k : Nat} (h : x * 2 ^ A ≤ m * 2 ^ B) (hk : A + a = B + b + k) : x * 2 ^ (b + k) ≤ m * 2 ^ a := by
  have h1 := Nat.mul_le_mul_right (2 ^ (b + k)) h
  have e1 : x * 2 ^ A * 2 ^ (b + k) = x * 2 ^ (b + k) * 2 ^ A := by ac_rfl
  have e2 : m * 2 ^ B * 2 ^ (b + k) = m * 2 ^ a * 2 ^ A := by
    rw [Nat.mul_assoc, Nat.mul_assoc, ← Nat.pow_add, ← Nat.pow_add, show B + (b + k) = a + A by omega]
  rw [e1, e2] at h1
  exact Nat.le_of_mul_le_mul_right h1 (Nat.two_pow_pos A)
theorem scale_ge {x m A B a b k : Nat} (h : m * 2 ^ B ≤ x * 2 ^ A) (hk : A + a = B + b + k) : m * 2 ^ a ≤ x * 2 ^ (b + k) := by
  have h1 := Nat.mul_le_mul_right (2 ^ (b + k)) h
  have e1 : x * 2 ^ A * 2 ^ (b + k) = x * 2 ^ (b + k) * 2 ^ A := by ac_rfl
  have e2 : m * 2 ^ B * 2 ^ (b + k) = m * 2 ^ a * 2 ^ A := by
    rw [Nat.mul_assoc, Nat.mul_assoc, ← Nat.pow_add, ← Nat.pow_add, show B + (b + k) = a + A by omega]
  rw [e1, e2] at h1
  exact Nat.le_of_mul_le_mul_right h1 (Nat.two_pow_pos A)
theorem scale_lt {x m A B a b k : Nat} (h : x * 2 ^ A < m * 2 ^ B) (hk : A + a = B + b + k) : x * 2 ^ (b + k) < m * 2 ^ a := by
  rcases Nat.lt_or_ge (x * 2 ^ (b + k)) (m * 2 ^ a) with h1 | h1
  · exact h1
  · have h2 := Nat.mul_le_mul_right (2 ^ A) h1
    have e1 : x * 2 ^ (b + k) * 2 ^ A = x * 2 ^ A * 2 ^ (b + k) := by ac_rfl
    have e2 : m * 2 ^ a * 2 ^ A = m * 2 ^ B * 2 ^ (b + k) := by
      rw [Nat.mul_assoc, Nat.mul_assoc, ← Nat.pow_add, ← Nat.pow_add, show B + (b + k) = a + A by omega]
    rw [e1, e2] at h2
    have := Nat.le_of_mul_le_mul_right h2 (Nat.two_pow_pos (b + k))
    omega
theorem scale_gt {x m A B a b k : Nat} (h : m * 2 ^ B < x * 2 ^ A) (hk : A + a = B + b + k) : m * 2 ^ a < x * 2 ^ (b + k) := by
  rcases Nat.lt_or_ge (m * 2 ^ a) (x * 2 ^ (b + k)) with h1 | h1
  · exact h1
  · have h2 := Nat.mul_le_mul_right (2 ^ A) h1
    have e1 : x * 2 ^ (b + k) * 2 ^ A = x * 2 ^ A * 2 ^ (b + k) := by ac_rfl
    have e2 : m * 2 ^ a * 2 ^ A = m * 2 ^ B * 2 ^ (b + k) := by
      rw [Nat.mul_assoc, Nat.mul_assoc, ← Nat.pow_add, ← Nat.pow_add, show B + (b + k) = a + A by omega]
    rw [e1, e2] at h2
    have := Nat.le_of_mul_le_mul_right h2 (Nat.two_pow_pos (b + k))
    omega
theorem pow_lt_of {a b : Nat} (h : 2 ^ a < 2 ^ b) : a < b := by
  rcases Nat.lt_or_ge a b with h1 | h1
  · exact h1
  · have := Nat.pow_le_pow_right (n := 2) (by omega) h1
    omega
set_option maxRecDepth 100000 in
theorem nearest_within (s : Bool) (mag : Nat) (place : Int) (F e0 q A B : Nat) (hm : 1 ≤ mag) (hF : 1 ≤ F) (hF1 : F < 9007199254740992) (he0 : 1 ≤ e0) (hr : e0 ≤ 2046) (hn : 4503599627370496 ≤ F ∨ e0 = 1)
    (hq : (q = 2 ∧ (F ≠ 4503599627370496 ∨ e0 = 1)) ∨ (q = 1 ∧ F = 4503599627370496)) (hAB : (B : Int) - A = place + 1077 - e0)
    (h1 : (4 * F - q) * 2 ^ A ≤ mag * 2 ^ B) (h2 : mag * 2 ^ B ≤ (4 * F + 2) * 2 ^ A) (h3 : F % 2 = 1 → (4 * F - q) * 2 ^ A < mag * 2 ^ B ∧ mag * 2 ^ B < (4 * F + 2) * 2 ^ A) :
    Ieee.double.nearest s mag place = if s then 9223372036854775808 + (F + (e0 - 1) * 4503599627370496) else F + (e0 - 1) * 4503599627370496 := by
  have l0 := Nat.log2_self_le (n := mag) (by omega)
  have l1 : mag < 2 ^ (mag.log2 + 1) := Nat.lt_log2_self
  have e1 : Ieee.double.fractionBits = 52 := rfl
  have e2 : Ieee.double.leastPlace = -1074 := by decide
  have e3 : Ieee.double.binade = 4503599627370496 := by decide
  have e4 : Ieee.double.infRung = 9218868437227405312 := by decide +kernel
  have e5 : Ieee.double.signWeight = 9223372036854775808 := by decide
  generalize hlog : mag.log2 = l at *
  -- where the number stands
  have up : (l : Int) + place ≤ (e0 : Int) - 1023 := by
    have a1 : 2 ^ l * 2 ^ B ≤ mag * 2 ^ B := Nat.mul_le_mul_right _ l0
    have a2 : (4 * F + 2) * 2 ^ A < 2 ^ 55 * 2 ^ A := Nat.mul_lt_mul_of_pos_right (by omega) (Nat.two_pow_pos A)
    have a3 : 2 ^ (l + B) < 2 ^ (55 + A) := by rw [Nat.pow_add, Nat.pow_add]; omega
    have := pow_lt_of a3
    omega
  have dn : 4503599627370496 ≤ F → (e0 : Int) - 1024 ≤ (l : Int) + place := fun hF2 => by
    have a1 : mag * 2 ^ B < 2 ^ (l + 1) * 2 ^ B := Nat.mul_lt_mul_of_pos_right l1 (Nat.two_pow_pos B)
    have a2 : 2 ^ 53 * 2 ^ A ≤ (4 * F - q) * 2 ^ A := Nat.mul_le_mul_right _ (by omega)
    have a3 : 2 ^ (53 + A) < 2 ^ (l + 1 + B) := by rw [Nat.pow_add 2 53, Nat.pow_add 2 (l + 1)]; omega
    have := pow_lt_of a3
    omega
  have hword : ∀ v : Nat, v = F + (e0 - 1) * 4503599627370496 → Ieee.double.word s (min v 9218868437227405312) = if s then 9223372036854775808 + (F + (e0 - 1) * 4503599627370496) else F + (e0 - 1) * 4503599627370496 := fun v hv => by
    unfold Ieee.Format.word
    rw [e5, Nat.min_eq_left (by omega), hv]
  unfold Ieee.Format.nearest
  rw [if_neg (by omega)]
  simp only [e1, e2, e3, e4, hlog]
  obtain ⟨last, hlast⟩ : ∃ last : Int, max (place + (l : Int) - ((52 : Nat) : Int)) (-1074) = last := ⟨_, rfl⟩
  rw [hlast]
  obtain ⟨a, ha⟩ : ∃ a, (place - last).toNat = a := ⟨_, rfl⟩
  obtain ⟨b, hb⟩ : ∃ b, (last - place).toNat = b := ⟨_, rfl⟩
  rw [ha, hb, Nat.shiftLeft_eq]
  by_cases hc : last = (e0 : Int) - 1075
  · have hk : A + (a + 2) = B + b + 0 := by omega
    have p4 : 2 ^ (a + 2) = 4 * 2 ^ a := by rw [Nat.pow_add]; omega
    have c1 := scale_le h1 hk
    have c2 := scale_ge h2 hk
    have c3 := fun ho => scale_lt (h3 ho).1 hk
    have c4 := fun ho => scale_gt (h3 ho).2 hk
    rw [p4, show b + 0 = b from rfl] at c1 c2 c3 c4
    have em : mag * (4 * 2 ^ a) = 4 * (mag * 2 ^ a) := by ac_rfl
    rw [em] at c1 c2 c3 c4
    have f1 : (4 * F - 2) * 2 ^ b ≤ (4 * F - q) * 2 ^ b := Nat.mul_le_mul_right _ (by omega)
    have f2 : (4 * F - 2) * 2 ^ b = 2 * ((2 * F - 1) * 2 ^ b) := by rw [← Nat.mul_assoc]; congr 1; omega
    have f3 : (4 * F + 2) * 2 ^ b = 2 * ((2 * F + 1) * 2 ^ b) := by rw [← Nat.mul_assoc]; congr 1; omega
    rw [cut_within s (mag * 2 ^ a) b F hF (by omega) (by omega) (fun ho => by have := c3 ho; have := c4 ho; omega)]
    refine hword _ ?_
    rw [show (last - -1074).toNat = e0 - 1 by omega]
    omega
  · have hF2 : 4503599627370496 ≤ F := by omega
    have hz := dn hF2
    have hl2 : last = (e0 : Int) - 1076 := by omega
    have hk : A + (a + 2) = B + b + 1 := by omega
    have p4 : 2 ^ (a + 2) = 4 * 2 ^ a := by rw [Nat.pow_add]; omega
    have p2 : 2 ^ (b + 1) = 2 * 2 ^ b := by rw [Nat.pow_succ]; omega
    have c1 := scale_le h1 hk
    rw [p4, p2] at c1
    have em : mag * (4 * 2 ^ a) = 4 * (mag * 2 ^ a) := by ac_rfl
    rw [em] at c1
    -- below the binade
    have hlow : mag * 2 ^ a < 2 ^ 53 * 2 ^ b := by
      have a1 : mag * 2 ^ a < 2 ^ (l + 1) * 2 ^ a := Nat.mul_lt_mul_of_pos_right l1 (Nat.two_pow_pos a)
      rw [← Nat.pow_add, show l + 1 + a = 53 + b by omega, Nat.pow_add] at a1
      exact a1
    have hFq : F = 4503599627370496 := by
      rcases Nat.lt_or_ge 4503599627370496 F with h | h
      · have g1 : 18014398509481986 * (2 * 2 ^ b) ≤ (4 * F - q) * (2 * 2 ^ b) := Nat.mul_le_mul_right _ (by omega)
        omega
      · omega
    have hq1 : q = 1 := by omega
    subst hFq hq1
    rw [cut_within s (mag * 2 ^ a) b 9007199254740992 (by omega) (by omega) (by omega) (fun ho => absurd ho (by omega))]
    refine hword _ ?_
    rw [show (last - -1074).toNat = e0 - 2 by omega]
    omega
end Go.Proofs.YtnibfebfgdhfgaaGreatDoor.Us
/- Plain facts, of no program: the model's quotient (twice the whole part, and whether anything is left) of what lies within a number's rounding interval, as a float, is that number. No condition. -/
namespace Go.Proofs.YtnibfebfgdhfgaaGreatDoor.Us
open Go

theorem quot_within (s : Bool) (D n : Nat) (pl : Int) (F e0 q A : Nat) (hn0 : 0 < n) (hF : 1 ≤ F) (hF1 : F < 9007199254740992) (he0 : 1 ≤ e0) (hr : e0 ≤ 2046) (hn : 4503599627370496 ≤ F ∨ e0 = 1)
    (hq : (q = 2 ∧ (F ≠ 4503599627370496 ∨ e0 = 1)) ∨ (q = 1 ∧ F = 4503599627370496)) (hA : (A : Int) = (e0 : Int) - 1077 - pl)
    (h1 : (4 * F - q) * 2 ^ A * n ≤ 2 * D) (h2 : 2 * D ≤ (4 * F + 2) * 2 ^ A * n) (h3 : F % 2 = 1 → (4 * F - q) * 2 ^ A * n < 2 * D ∧ 2 * D < (4 * F + 2) * 2 ^ A * n) :
    Ieee.double.nearest s (2 * (D / n) + (D % n != 0).toNat) pl = if s then 9223372036854775808 + (F + (e0 - 1) * 4503599627370496) else F + (e0 - 1) * 4503599627370496 := by
  have hd := Nat.div_add_mod D n
  have hm := Nat.mod_lt D hn0
  have hzero : D % n = 0 → (D % n != 0).toNat = 0 := fun h => by rw [h]; rfl
  have hone : D % n ≠ 0 → (D % n != 0).toNat = 1 := fun h => by rw [bne_iff_ne.2 h]; rfl
  have hpos : 1 ≤ (4 * F - q) * 2 ^ A := Nat.mul_pos (by omega) (Nat.two_pow_pos A)
  have evX : F % 2 = 1 → (4 * F - q) * 2 ^ A % 2 = 0 := fun ho => by
    rw [Nat.mul_mod, show (4 * F - q) % 2 = 0 by omega, Nat.zero_mul, Nat.zero_mod]
  have evY : (4 * F + 2) * 2 ^ A % 2 = 0 := by rw [Nat.mul_mod, show (4 * F + 2) % 2 = 0 by omega, Nat.zero_mul, Nat.zero_mod]
  have c1 : ∀ a b : Nat, a * n < b * n → a < b := fun a b h => Nat.lt_of_mul_lt_mul_right h
  have hD : 2 * D = 2 * (D / n) * n + 2 * (D % n) := by
    have : n * (D / n) = D / n * n := Nat.mul_comm _ _
    rw [Nat.mul_assoc]
    omega
  generalize hX : (4 * F - q) * 2 ^ A = X at *
  generalize hY : (4 * F + 2) * 2 ^ A = Y at *
  generalize D % n = r at *
  generalize D / n = f at *
  have a1 : ∀ k : Nat, (2 * f + k) * n = 2 * f * n + k * n := fun k => Nat.add_mul _ _ _
  have lo : X ≤ 2 * f + (r != 0).toNat := by
    by_cases h0 : r = 0
    · rw [hzero h0]
      have := c1 X (2 * f + 1) (by rw [a1]; omega)
      omega
    · rw [hone h0]
      have := c1 X (2 * f + 2) (by rw [a1]; omega)
      omega
  have up : 2 * f + (r != 0).toNat ≤ Y := by
    by_cases h0 : r = 0
    · rw [hzero h0]
      have := c1 (2 * f) (Y + 1) (by rw [Nat.add_mul]; omega)
      omega
    · rw [hone h0]
      have := c1 (2 * f) Y (by omega)
      omega
  refine nearest_within s _ pl F e0 q A 0 (by omega) hF hF1 he0 hr hn hq (by omega) ?_ ?_ ?_
  · rw [hX, Nat.pow_zero, Nat.mul_one]; exact lo
  · rw [hY, Nat.pow_zero, Nat.mul_one]; exact up
  · intro ho
    obtain ⟨s1, s2⟩ := h3 ho
    have ev := evX ho
    rw [hX, hY, Nat.pow_zero, Nat.mul_one]
    by_cases h0 : r = 0
    · rw [hzero h0]
      exact ⟨c1 X (2 * f + 0) (by rw [a1]; omega), c1 (2 * f + 0) Y (by rw [a1]; omega)⟩
    · rw [hone h0] at lo up ⊢
      omega
end Go.Proofs.YtnibfebfgdhfgaaGreatDoor.Us
/- Plain facts, of no program: a whole number below 2 to the 53 by a power of ten up to 22, as the model divides floats: the number within whose interval that lies. No condition. -/
namespace Go.Proofs.YtnibfebfgdhfgaaGreatDoor.Us
open Go Go.Proofs.YtnibfebfgdhfgaaGreatDoor.Sh

theorem read_norm (sg : Bool) (ex fr : Nat) (h0 : 1 ≤ ex) (h1 : ex ≤ 2046) (hf : fr < 4503599627370496) :
    Ieee.double.read ((if sg then 9223372036854775808 else 0) + (ex * 4503599627370496 + fr)) = .number sg (4503599627370496 + fr) ((ex : Int) - 1075) := by
  have e2 : Ieee.double.leastPlace = -1074 := by decide
  have e3 : Ieee.double.binade = 4503599627370496 := by decide
  have e4 : Ieee.double.infRung = 9218868437227405312 := by decide +kernel
  have e5 : Ieee.double.signWeight = 9223372036854775808 := by decide
  unfold Ieee.Format.read
  simp only [e2, e3, e4, e5]
  have q1 : ((if sg then 9223372036854775808 else 0) + (ex * 4503599627370496 + fr)) % 9223372036854775808 = ex * 4503599627370496 + fr := by cases sg <;> simp <;> omega
  have q2 : (((if sg then 9223372036854775808 else 0) + (ex * 4503599627370496 + fr)) / 9223372036854775808 % 2 == 1) = sg := by
    cases sg
    · rw [show ((if false = true then 9223372036854775808 else 0) + (ex * 4503599627370496 + fr)) / 9223372036854775808 = 0 by simp; omega]; rfl
    · rw [show ((if true = true then 9223372036854775808 else 0) + (ex * 4503599627370496 + fr)) / 9223372036854775808 = 1 by simp; omega]; rfl
  rw [q1, q2, if_neg (by omega), if_pos (by omega)]
  congr 1
  · omega
  · omega
def f10ok (k : Nat) : Bool :=
  match Ieee.double.read (f10Bits.getD k 0) with
  | .number false M P => decide (M * 2 ^ (P + 52).toNat = 10 ^ k * 4503599627370496) && decide (4503599627370496 ≤ M) && decide (M < 9007199254740992) && decide (-52 ≤ P) && decide (P ≤ 52)
  | _ => false
theorem f10_all : ∀ k, k < 23 → f10ok k = true := by decide +kernel
theorem f10_at (k : Nat) (hk : k < 23) : ∃ (M : Nat) (p : Nat), Ieee.double.read (f10Bits.getD k 0) = .number false M ((p : Int) - 52) ∧ M * 2 ^ p = 10 ^ k * 4503599627370496 ∧ 4503599627370496 ≤ M ∧ M < 9007199254740992 ∧ p ≤ 104 := by
  have h := f10_all k hk
  unfold f10ok at h
  split at h
  · rename_i M P hr
    simp only [Bool.and_eq_true, decide_eq_true_eq] at h
    obtain ⟨⟨⟨⟨h1, h2⟩, h3⟩, h4⟩, h5⟩ := h
    exact ⟨M, (P + 52).toNat, by rw [hr]; congr 1; omega, h1, h2, h3, by omega⟩
  · cases h
theorem log52 {m : Nat} (h0 : 4503599627370496 ≤ m) (h1 : m < 9007199254740992) : m.log2 = 52 := by
  have a : m.log2 < 53 := (Nat.log2_lt (by omega)).2 (by omega)
  have b : ¬ m.log2 < 52 := fun h => by
    have := (Nat.log2_lt (by omega)).1 h
    omega
  omega
theorem side_l (x M p t e0 k A c' T52 : Nat) (hMp : M * 2 ^ p = 10 ^ k * T52) (hA : A + c' = e0 + t + p) : x * 2 ^ e0 * 10 ^ k * (T52 * 2 ^ t) = x * 2 ^ A * M * 2 ^ c' := by
  have e1 : x * 2 ^ e0 * 10 ^ k * (T52 * 2 ^ t) = x * 2 ^ e0 * (10 ^ k * T52) * 2 ^ t := by ac_rfl
  have e2 : x * 2 ^ e0 * (M * 2 ^ p) * 2 ^ t = x * M * (2 ^ e0 * 2 ^ t * 2 ^ p) := by ac_rfl
  have e3 : x * 2 ^ A * M * 2 ^ c' = x * M * (2 ^ A * 2 ^ c') := by ac_rfl
  rw [e1, ← hMp, e2, e3, ← Nat.pow_add, ← Nat.pow_add, ← Nat.pow_add, hA]
theorem side_r (d t c' : Nat) : d * 2 ^ (c' + 3) * (4503599627370496 * 2 ^ t) = 2 * (d * 2 ^ t * 18014398509481984) * 2 ^ c' := by
  rw [Nat.pow_add]
  generalize 2 ^ t = P
  generalize 2 ^ c' = Q
  have e1 : d * (Q * 2 ^ 3) * (4503599627370496 * P) = d * Q * P * (8 * 4503599627370496) := by
    rw [show (2 : Nat) ^ 3 = 8 from rfl]; ac_rfl
  have e2 : 2 * (d * P * 18014398509481984) * Q = d * Q * P * (2 * 18014398509481984) := by ac_rfl
  rw [e1, e2]
set_option maxRecDepth 100000 in
theorem div_back (sg : Bool) (d t fr k F e0 q : Nat) (hk : k < 23) (ht : t ≤ 52) (hfr : fr < 4503599627370496) (hd : fr + 4503599627370496 = d * 2 ^ t) (hF : 1 ≤ F) (hF1 : F < 9007199254740992) (he0 : 1 ≤ e0) (hr : e0 ≤ 2046) (hn : 4503599627370496 ≤ F ∨ e0 = 1)
    (hq : (q = 2 ∧ (F ≠ 4503599627370496 ∨ e0 = 1)) ∨ (q = 1 ∧ F = 4503599627370496)) (h1 : (4 * F - q) * 2 ^ e0 * 10 ^ k ≤ d * 2 ^ 1077) (h2 : d * 2 ^ 1077 ≤ (4 * F + 2) * 2 ^ e0 * 10 ^ k)
    (h3 : F % 2 = 1 → (4 * F - q) * 2 ^ e0 * 10 ^ k < d * 2 ^ 1077 ∧ d * 2 ^ 1077 < (4 * F + 2) * 2 ^ e0 * 10 ^ k) :
    Ieee.double.div ((if sg then 9223372036854775808 else 0) + ((1075 - t) * 4503599627370496 + fr)) (f10Bits.getD k 0) = some (if sg then 9223372036854775808 + (F + (e0 - 1) * 4503599627370496) else F + (e0 - 1) * 4503599627370496) := by
  obtain ⟨M, p, hM, hMp, hM0, hM1, hp⟩ := f10_at k hk
  have hx := read_norm sg (1075 - t) fr (by omega) (by omega) hfr
  rw [show 4503599627370496 + fr = d * 2 ^ t by omega, show (((1075 - t : Nat) : Int) - 1075) = -(t : Int) by omega] at hx
  unfold Ieee.Format.div
  rw [hx, hM]
  have l1 := log52 (m := d * 2 ^ t) (by omega) (by omega)
  have l2 := log52 hM0 hM1
  have e1 : Ieee.double.fractionBits + 2 = 54 := rfl
  unfold Ieee.Datum.quotient
  simp only [if_neg (show ¬ M = 0 by omega), l1, l2, e1, Option.map_some, Bool.xor_false]
  refine congrArg some ?_
  obtain ⟨c', hc⟩ : ∃ c' : Nat, 1074 = c' := ⟨_, rfl⟩
  rw [show 1077 = c' + 3 by omega] at h1 h2 h3
  have hwid : ∃ A : Nat, A + c' = e0 + t + p := by
    have a1 := Nat.mul_le_mul_right (4503599627370496 * 2 ^ t) h2
    have s1 : (4 * F + 2) * 2 ^ e0 * 10 ^ k * (4503599627370496 * 2 ^ t) = (4 * F + 2) * M * 2 ^ (e0 + t + p) := by
      have := side_l (4 * F + 2) M p t e0 k (e0 + t + p) 0 4503599627370496 hMp (by omega)
      rw [this, Nat.pow_zero, Nat.mul_one, Nat.mul_assoc, Nat.mul_assoc, Nat.mul_comm M]
    rw [side_r, s1] at a1
    have a2 : (4 * F + 2) * M < 36028797018963968 * 9007199254740992 := Nat.mul_lt_mul'' (by omega) hM1
    have a3 : (4 * F + 2) * M * 2 ^ (e0 + t + p) < 36028797018963968 * 9007199254740992 * 2 ^ (e0 + t + p) := Nat.mul_lt_mul_of_pos_right a2 (Nat.two_pow_pos _)
    have a4 : 162259276829213363391578010288128 * 2 ^ c' ≤ 2 * (d * 2 ^ t * 18014398509481984) * 2 ^ c' := Nat.mul_le_mul_right _ (by omega)
    have a5 : 2 ^ (107 + c') < 2 ^ (108 + (e0 + t + p)) := by rw [Nat.pow_add 2 107, Nat.pow_add 2 108]; omega
    have := pow_lt_of a5
    exact ⟨e0 + t + p - c', by omega⟩
  obtain ⟨A, hA⟩ := hwid
  have W : 0 < 4503599627370496 * 2 ^ t := Nat.mul_pos (by omega) (Nat.two_pow_pos t)
  have Q := Nat.two_pow_pos c'
  have tr2 := side_r d t c'
  have le1 : ∀ x, x * 2 ^ e0 * 10 ^ k ≤ d * 2 ^ (c' + 3) → x * 2 ^ A * M ≤ 2 * (d * 2 ^ t * 18014398509481984) := fun x h => by
    have h5 := Nat.mul_le_mul_right (4503599627370496 * 2 ^ t) h
    rw [side_l x M p t e0 k A c' 4503599627370496 hMp hA, tr2] at h5
    exact Nat.le_of_mul_le_mul_right h5 Q
  have le2 : ∀ x, d * 2 ^ (c' + 3) ≤ x * 2 ^ e0 * 10 ^ k → 2 * (d * 2 ^ t * 18014398509481984) ≤ x * 2 ^ A * M := fun x h => by
    have h5 := Nat.mul_le_mul_right (4503599627370496 * 2 ^ t) h
    rw [side_l x M p t e0 k A c' 4503599627370496 hMp hA, tr2] at h5
    exact Nat.le_of_mul_le_mul_right h5 Q
  have lt1 : ∀ x, x * 2 ^ e0 * 10 ^ k < d * 2 ^ (c' + 3) → x * 2 ^ A * M < 2 * (d * 2 ^ t * 18014398509481984) := fun x h => by
    have h5 := Nat.mul_lt_mul_of_pos_right h W
    rw [side_l x M p t e0 k A c' 4503599627370496 hMp hA, tr2] at h5
    exact Nat.lt_of_mul_lt_mul_right h5
  have lt2 : ∀ x, d * 2 ^ (c' + 3) < x * 2 ^ e0 * 10 ^ k → 2 * (d * 2 ^ t * 18014398509481984) < x * 2 ^ A * M := fun x h => by
    have h5 := Nat.mul_lt_mul_of_pos_right h W
    rw [side_l x M p t e0 k A c' 4503599627370496 hMp hA, tr2] at h5
    exact Nat.lt_of_mul_lt_mul_right h5
  have g1 := le1 _ h1
  have g2 := le2 _ h2
  have g3 := fun ho => lt1 _ (h3 ho).1
  have g4 := fun ho => lt2 _ (h3 ho).2
  clear h1 h2 h3 le1 le2 lt1 lt2 tr2 hx hM l1 l2
  have hM2 : 0 < M := by omega
  have key := quot_within sg (d * 2 ^ t * 18014398509481984) M (-(t : Int) - ((p : Int) - 52) - 54 - 1) F e0 q A hM2 hF hF1 he0 hr hn hq (by omega) g1 g2 (fun ho => ⟨g3 ho, g4 ho⟩)
  rw [← key]
  clear key g1 g2 g3 g4
  have e54 : (d * 2 ^ t) <<< (54 + 52 - 52) = d * 2 ^ t * 18014398509481984 := by rw [Nat.shiftLeft_eq]
  have e55 : ((54 + 52 - 52 : Nat) : Int) = 54 := rfl
  rw [e54, e55]
  generalize 2 * (d * 2 ^ t * 18014398509481984 / M) + (d * 2 ^ t * 18014398509481984 % M != 0).toNat = m
  generalize -(t : Int) - ((p : Int) - 52) - 54 - 1 = pl
  rfl
set_option maxRecDepth 100000 in
theorem mul_back (sg : Bool) (d t fr k F e0 q : Nat) (hk : k < 23) (ht : t ≤ 52) (hfr : fr < 4503599627370496) (hd : fr + 4503599627370496 = d * 2 ^ t) (hF : 1 ≤ F) (hF1 : F < 9007199254740992) (he0 : 1 ≤ e0) (hr : e0 ≤ 2046) (hn : 4503599627370496 ≤ F ∨ e0 = 1)
    (hq : (q = 2 ∧ (F ≠ 4503599627370496 ∨ e0 = 1)) ∨ (q = 1 ∧ F = 4503599627370496)) (h1 : (4 * F - q) * 2 ^ e0 ≤ d * 10 ^ k * 2 ^ 1077) (h2 : d * 10 ^ k * 2 ^ 1077 ≤ (4 * F + 2) * 2 ^ e0)
    (h3 : F % 2 = 1 → (4 * F - q) * 2 ^ e0 < d * 10 ^ k * 2 ^ 1077 ∧ d * 10 ^ k * 2 ^ 1077 < (4 * F + 2) * 2 ^ e0) :
    Ieee.double.mul ((if sg then 9223372036854775808 else 0) + ((1075 - t) * 4503599627370496 + fr)) (f10Bits.getD k 0) = some (if sg then 9223372036854775808 + (F + (e0 - 1) * 4503599627370496) else F + (e0 - 1) * 4503599627370496) := by
  obtain ⟨M, p, hM, hMp, hM0, hM1, hp⟩ := f10_at k hk
  have hx := read_norm sg (1075 - t) fr (by omega) (by omega) hfr
  rw [show 4503599627370496 + fr = d * 2 ^ t by omega, show (((1075 - t : Nat) : Int) - 1075) = -(t : Int) by omega] at hx
  unfold Ieee.Format.mul
  rw [hx, hM]
  unfold Ieee.Datum.product
  simp only [Option.map_some, Bool.xor_false]
  refine congrArg some ?_
  obtain ⟨c', hc⟩ : ∃ c' : Nat, 1025 = c' := ⟨_, rfl⟩
  rw [show 1077 = 52 + c' by omega] at h1 h2 h3
  have W := Nat.two_pow_pos t
  have eL : ∀ x : Nat, x * 2 ^ e0 * 2 ^ t = x * 2 ^ (e0 + t) := fun x => by rw [Nat.pow_add, Nat.mul_assoc]
  have eR : d * 10 ^ k * 2 ^ (52 + c') * 2 ^ t = d * 2 ^ t * M * 2 ^ (p + c') := by
    rw [Nat.pow_add 2 52, Nat.pow_add 2 p, show (2 : Nat) ^ 52 = 4503599627370496 from rfl]
    have a1 : d * 10 ^ k * (4503599627370496 * 2 ^ c') * 2 ^ t = d * 2 ^ t * (10 ^ k * 4503599627370496) * 2 ^ c' := by
      generalize (10 : Nat) ^ k = T; generalize 2 ^ t = P; generalize 2 ^ c' = Q
      ac_rfl
    have a2 : d * 2 ^ t * M * (2 ^ p * 2 ^ c') = d * 2 ^ t * (M * 2 ^ p) * 2 ^ c' := by
      generalize 2 ^ t = P; generalize 2 ^ c' = Q; generalize 2 ^ p = R
      ac_rfl
    rw [a1, a2, hMp]
  have g1 := Nat.mul_le_mul_right (2 ^ t) h1
  have g2 := Nat.mul_le_mul_right (2 ^ t) h2
  have g3 := fun ho => Nat.mul_lt_mul_of_pos_right (h3 ho).1 W
  have g4 := fun ho => Nat.mul_lt_mul_of_pos_right (h3 ho).2 W
  rw [eL, eR] at g1 g2 g3 g4
  have hpos : 1 ≤ d * 2 ^ t * M := Nat.mul_pos (by omega) (by omega)
  have key := nearest_within sg (d * 2 ^ t * M) (-(t : Int) + ((p : Int) - 52)) F e0 q (e0 + t) (p + c') hpos hF hF1 he0 hr hn hq (by omega) g1 g2 (fun ho => ⟨g3 ho, g4 ho⟩)
  rw [← key]
  clear key g1 g2 g3 g4 h1 h2 h3 hx hM
  generalize d * 2 ^ t * M = m
  generalize -(t : Int) + ((p : Int) - 52) = pl
  rfl
end Go.Proofs.YtnibfebfgdhfgaaGreatDoor.Us
