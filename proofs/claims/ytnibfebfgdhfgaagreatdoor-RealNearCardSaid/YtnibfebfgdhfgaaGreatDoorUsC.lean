/- atof64exact over the translated program: a whole number by a power of ten. Conditions: the tables hold what start-up lays. -/
import Derived.Test.YtnibfebfgdhfgaaGreatDoorUsB
import Derived.Test.YtnibfebfgdhfgaaGreatDoorFwB
import Derived.Laws.FloatArith
import Derived.Test.YtnibfebfgdhfgaaGreatDoorRh1
namespace Go.Proofs.YtnibfebfgdhfgaaGreatDoor
open Go.ChangeShapes Go.WideShapes Go.ChangeAt Go.RowKit Go.Sort

set_option maxRecDepth 100000 in
theorem exact_div_pos (d k : Nat) (r : Nat) (hd9 : d < 4503599627370496) (hk0 : 1 ≤ k) (hk : k ≤ 22) (hdiv : Ieee.double.div (floatOfInt .f64 (d : Int)) (f10Bits.getD k 0) = some r) (w : World) (hc : RCtx w) :
    Calls Tryz.prog 82 #[.int .u64 d, .int .i64 (-(k : Int)), .bool false] w fun e w' => e = .returned (.tuple #[.float .f64 r, .bool true]) ∧ w = w' := by
  have hi := hc.info
  have hd0 : ((d : Int) / 4503599627370496 != 0) = false := by rw [bne_eq_false_iff_eq]; omega
  obtain ⟨R, o, cap, hs, hcell⟩ := hc.f10
  have hx := hcell k (by omega)
  have k0 : ((-(k : Int)) == 0) = false := by rw [beq_eq_false_iff_ne]; omega
  have k1 : decide (0 < -(k : Int)) = false := decide_eq_false (by omega)
  have k2 : decide (-(k : Int) < 0) = true := decide_eq_true (by omega)
  have k3 : decide (-22 ≤ -(k : Int)) = true := decide_eq_true (by omega)
  have k4 : (k : Int).toNat = k := by omega
  clear hc hcell
  generalize f10Bits.getD k 0 = y at *
  have hq := fun w' => run_float_arith (P := Tryz.prog) (w := w') .quo 24 .f64 (floatOfInt .f64 (d : Int)) y r hdiv
  go_enter Tryz.func82, Tryz.ntmps82
  go_wp2_with fail
  go_ret2
  exact ⟨rfl, rfl⟩
set_option maxRecDepth 100000 in
theorem exact_div_neg (d k : Nat) (r : Nat) (hd9 : d < 4503599627370496) (hk0 : 1 ≤ k) (hk : k ≤ 22) (hdiv : Ieee.double.div (Op.negFloat .f64 (floatOfInt .f64 (d : Int))) (f10Bits.getD k 0) = some r) (w : World) (hc : RCtx w) :
    Calls Tryz.prog 82 #[.int .u64 d, .int .i64 (-(k : Int)), .bool true] w fun e w' => e = .returned (.tuple #[.float .f64 r, .bool true]) ∧ w = w' := by
  have hi := hc.info
  have hd0 : ((d : Int) / 4503599627370496 != 0) = false := by rw [bne_eq_false_iff_eq]; omega
  obtain ⟨R, o, cap, hs, hcell⟩ := hc.f10
  have hx := hcell k (by omega)
  have k0 : ((-(k : Int)) == 0) = false := by rw [beq_eq_false_iff_ne]; omega
  have k1 : decide (0 < -(k : Int)) = false := decide_eq_false (by omega)
  have k2 : decide (-(k : Int) < 0) = true := decide_eq_true (by omega)
  have k3 : decide (-22 ≤ -(k : Int)) = true := decide_eq_true (by omega)
  have k4 : (k : Int).toNat = k := by omega
  clear hc hcell
  generalize f10Bits.getD k 0 = y at *
  have hq := fun w' => run_float_arith (P := Tryz.prog) (w := w') .quo 24 .f64 (Op.negFloat .f64 (floatOfInt .f64 (d : Int))) y r hdiv
  go_enter Tryz.func82, Tryz.ntmps82
  go_wp2_with fail
  go_ret2
  exact ⟨rfl, rfl⟩
set_option maxRecDepth 100000 in
theorem exact_mul_pos (d k : Nat) (r : Nat) (hd9 : d < 4503599627370496) (hk0 : 1 ≤ k) (hk : k ≤ 22) (hdiv : Ieee.double.mul (floatOfInt .f64 (d : Int)) (f10Bits.getD k 0) = some r) (w : World) (hc : RCtx w) :
    Calls Tryz.prog 82 #[.int .u64 d, .int .i64 (k : Int), .bool false] w fun e w' => (∃ f ok, e = .returned (.tuple #[.float .f64 f, .bool ok]) ∧ (ok = true → f = r)) ∧ w = w' := by
  have hi := hc.info
  have hd0 : ((d : Int) / 4503599627370496 != 0) = false := by rw [bne_eq_false_iff_eq]; omega
  obtain ⟨R, o, cap, hs, hcell⟩ := hc.f10
  have hx := hcell k (by omega)
  have k0 : ((k : Int) == 0) = false := by rw [beq_eq_false_iff_ne]; omega
  have k1 : decide (0 < (k : Int)) = true := decide_eq_true (by omega)
  have k2 : decide ((k : Int) ≤ 37) = true := decide_eq_true (by omega)
  have k3 : decide (22 < (k : Int)) = false := decide_eq_false (by omega)
  have k4 : (k : Int).toNat = k := by omega
  clear hc hcell
  generalize f10Bits.getD k 0 = y at *
  have hq := fun w' => run_float_arith (P := Tryz.prog) (w := w') .mul 24 .f64 (floatOfInt .f64 (d : Int)) y r hdiv
  go_enter Tryz.func82, Tryz.ntmps82
  go_wp2_with fail
  all_goals
    go_ret2
    first | exact ⟨⟨_, _, rfl, fun _ => rfl⟩, rfl⟩ | exact ⟨⟨_, _, rfl, fun h => by cases h⟩, rfl⟩
set_option maxRecDepth 100000 in
theorem exact_mul_neg (d k : Nat) (r : Nat) (hd9 : d < 4503599627370496) (hk0 : 1 ≤ k) (hk : k ≤ 22) (hdiv : Ieee.double.mul (Op.negFloat .f64 (floatOfInt .f64 (d : Int))) (f10Bits.getD k 0) = some r) (w : World) (hc : RCtx w) :
    Calls Tryz.prog 82 #[.int .u64 d, .int .i64 (k : Int), .bool true] w fun e w' => (∃ f ok, e = .returned (.tuple #[.float .f64 f, .bool ok]) ∧ (ok = true → f = r)) ∧ w = w' := by
  have hi := hc.info
  have hd0 : ((d : Int) / 4503599627370496 != 0) = false := by rw [bne_eq_false_iff_eq]; omega
  obtain ⟨R, o, cap, hs, hcell⟩ := hc.f10
  have hx := hcell k (by omega)
  have k0 : ((k : Int) == 0) = false := by rw [beq_eq_false_iff_ne]; omega
  have k1 : decide (0 < (k : Int)) = true := decide_eq_true (by omega)
  have k2 : decide ((k : Int) ≤ 37) = true := decide_eq_true (by omega)
  have k3 : decide (22 < (k : Int)) = false := decide_eq_false (by omega)
  have k4 : (k : Int).toNat = k := by omega
  clear hc hcell
  generalize f10Bits.getD k 0 = y at *
  have hq := fun w' => run_float_arith (P := Tryz.prog) (w := w') .mul 24 .f64 (Op.negFloat .f64 (floatOfInt .f64 (d : Int))) y r hdiv
  go_enter Tryz.func82, Tryz.ntmps82
  go_wp2_with fail
  all_goals
    go_ret2
    first | exact ⟨⟨_, _, rfl, fun _ => rfl⟩, rfl⟩ | exact ⟨⟨_, _, rfl, fun h => by cases h⟩, rfl⟩
end Go.Proofs.YtnibfebfgdhfgaaGreatDoor
/- Plain facts, of no program: a whole number's float, by powers of ten; what the model's product makes of it. No condition. -/
namespace Go.Proofs.YtnibfebfgdhfgaaGreatDoor.Us
open Go Go.Proofs.YtnibfebfgdhfgaaGreatDoor.Sh

theorem within_div {F e0 q d k : Nat} (hk : k ≤ 400) (h : Within F e0 q (d * 10 ^ (400 - k))) : (4 * F - q) * 2 ^ e0 * 10 ^ k ≤ d * 2 ^ 1077 ∧ d * 2 ^ 1077 ≤ (4 * F + 2) * 2 ^ e0 * 10 ^ k ∧ (F % 2 = 1 → (4 * F - q) * 2 ^ e0 * 10 ^ k < d * 2 ^ 1077 ∧ d * 2 ^ 1077 < (4 * F + 2) * 2 ^ e0 * 10 ^ k) := by
  have e := pow10_mul (a := k) (b := 400 - k) (c := 400) (by omega)
  have hp := pow10_pos (400 - k)
  unfold Within at h
  rw [← e] at h
  generalize (10 : Nat) ^ (400 - k) = T at *
  generalize (10 : Nat) ^ k = K at *
  generalize (2 : Nat) ^ 1077 = z at *
  generalize (2 : Nat) ^ e0 = y at *
  have a1 : ∀ x : Nat, x * y * (K * T) = x * y * K * T := fun x => by ac_rfl
  have a2 : d * T * z = d * z * T := by ac_rfl
  rw [a1, a1, a2] at h
  exact ⟨Nat.le_of_mul_le_mul_right h.1 hp, Nat.le_of_mul_le_mul_right h.2.1 hp, fun ho => ⟨Nat.lt_of_mul_lt_mul_right (h.2.2 ho).1, Nat.lt_of_mul_lt_mul_right (h.2.2 ho).2⟩⟩
theorem within_mul {F e0 q d k : Nat} (h : Within F e0 q (d * 10 ^ (k + 400))) : (4 * F - q) * 2 ^ e0 ≤ d * 10 ^ k * 2 ^ 1077 ∧ d * 10 ^ k * 2 ^ 1077 ≤ (4 * F + 2) * 2 ^ e0 ∧ (F % 2 = 1 → (4 * F - q) * 2 ^ e0 < d * 10 ^ k * 2 ^ 1077 ∧ d * 10 ^ k * 2 ^ 1077 < (4 * F + 2) * 2 ^ e0) := by
  have hp := pow10_pos 400
  unfold Within at h
  rw [Nat.pow_add 10 k 400] at h
  generalize (10 : Nat) ^ 400 = T at *
  generalize (10 : Nat) ^ k = K at *
  generalize (2 : Nat) ^ 1077 = z at *
  have a2 : d * (K * T) * z = d * K * z * T := by ac_rfl
  rw [a2] at h
  exact ⟨Nat.le_of_mul_le_mul_right h.1 hp, Nat.le_of_mul_le_mul_right h.2.1 hp, fun ho => ⟨Nat.lt_of_mul_lt_mul_right (h.2.2 ho).1, Nat.lt_of_mul_lt_mul_right (h.2.2 ho).2⟩⟩
/-- A whole number's float. -/
theorem word_of (d : Nat) (h1 : 1 ≤ d) (h2 : d < 4503599627370496) : ∃ t fr, t ≤ 52 ∧ fr < 4503599627370496 ∧ fr + 4503599627370496 = d * 2 ^ t ∧ floatOfInt .f64 (d : Int) = (1075 - t) * 4503599627370496 + fr ∧ Op.negFloat .f64 (floatOfInt .f64 (d : Int)) = 9223372036854775808 + ((1075 - t) * 4503599627370496 + fr) := by
  obtain ⟨r, hr, hw, hf, -⟩ := whole_float d h1 (by omega)
  rcases hw with ⟨t, ht, hx, hf2, he⟩ | ⟨-, -, h⟩
  · refine ⟨t, r % 4503599627370496, ht, hf2, he, by rw [hf]; omega, ?_⟩
    rw [hf, neg_flip r (by omega)]
    unfold flip
    rw [if_neg (by omega)]
    omega
  · omega
/-- Any whole number has a nearest float; above ten to the 15 that is greater than ten to the 15. -/
theorem round_exists (P : Nat) (h1 : 1 ≤ P) (h2 : P < 1298074214633706907132624082305024) : ∃ F e0 q, 1 ≤ F ∧ F < 9007199254740992 ∧ 1 ≤ e0 ∧ e0 ≤ 2046 ∧ (4503599627370496 ≤ F ∨ e0 = 1) ∧
    ((q = 2 ∧ (F ≠ 4503599627370496 ∨ e0 = 1)) ∨ (q = 1 ∧ F = 4503599627370496)) ∧ (4 * F - q) * 2 ^ e0 ≤ P * 2 ^ 1077 ∧ P * 2 ^ 1077 ≤ (4 * F + 2) * 2 ^ e0 ∧ (F % 2 = 1 → (4 * F - q) * 2 ^ e0 < P * 2 ^ 1077 ∧ P * 2 ^ 1077 < (4 * F + 2) * 2 ^ e0) ∧
    (1000000000000000 < P → 4831355200913801216 < F + (e0 - 1) * 4503599627370496) := by
  have l0 := Nat.log2_self_le (n := P) (by omega)
  have l1 : P < 2 ^ (P.log2 + 1) := Nat.lt_log2_self
  have l2 : P.log2 < 110 := (Nat.log2_lt (by omega)).2 (by omega)
  generalize hlog : P.log2 = l at *
  rcases Nat.lt_or_ge 52 l with hl | hl
  · -- cut to the nearest
    obtain ⟨s, rfl⟩ : ∃ s, l = s + 52 := ⟨l - 52, by omega⟩
    have hg := Nat.two_pow_pos s
    have hd := Nat.div_add_mod P (2 ^ s)
    have hm := Nat.mod_lt P hg
    have m0 : 4503599627370496 ≤ P / 2 ^ s := (Nat.le_div_iff_mul_le hg).2 (by rw [Nat.pow_add] at l0; omega)
    have m1 : P / 2 ^ s < 9007199254740992 := (Nat.div_lt_iff_lt_mul hg).2 (by rw [show s + 52 + 1 = s + 53 by omega, Nat.pow_add] at l1; omega)
    have key : ∀ F q : Nat, (4 * F - q) * 2 ^ s ≤ 4 * P → 4 * P ≤ (4 * F + 2) * 2 ^ s → (F % 2 = 1 → (4 * F - q) * 2 ^ s < 4 * P ∧ 4 * P < (4 * F + 2) * 2 ^ s) →
        (4 * F - q) * 2 ^ (1075 + s) ≤ P * 2 ^ 1077 ∧ P * 2 ^ 1077 ≤ (4 * F + 2) * 2 ^ (1075 + s) ∧ (F % 2 = 1 → (4 * F - q) * 2 ^ (1075 + s) < P * 2 ^ 1077 ∧ P * 2 ^ 1077 < (4 * F + 2) * 2 ^ (1075 + s)) := by
      intro F q a b c
      obtain ⟨z, hz⟩ := ex_eq (2 ^ 1075)
      have hzp := pow2_pos 1075
      rw [hz] at hzp
      have e1 := p2 (show 2 + 1075 = 1077 from rfl)
      rw [hz, show (2 : Nat) ^ 2 = 4 from rfl] at e1
      have e2 : ∀ x : Nat, x * 2 ^ (1075 + s) = x * 2 ^ s * z := fun x => by rw [Nat.pow_add, hz]; generalize 2 ^ s = y; ac_rfl
      have e3 : P * 2 ^ 1077 = 4 * P * z := by rw [e1]; ac_rfl
      rw [e2, e2, e3]
      exact ⟨Nat.mul_le_mul_right _ a, Nat.mul_le_mul_right _ b, fun ho => ⟨Nat.mul_lt_mul_of_pos_right (c ho).1 hzp, Nat.mul_lt_mul_of_pos_right (c ho).2 hzp⟩⟩
    have keyT : ∀ F q : Nat, (4 * F - q) * (2 * 2 ^ s) ≤ 4 * P → 4 * P ≤ (4 * F + 2) * (2 * 2 ^ s) → (F % 2 = 1 → (4 * F - q) * (2 * 2 ^ s) < 4 * P ∧ 4 * P < (4 * F + 2) * (2 * 2 ^ s)) →
        (4 * F - q) * 2 ^ (1076 + s) ≤ P * 2 ^ 1077 ∧ P * 2 ^ 1077 ≤ (4 * F + 2) * 2 ^ (1076 + s) ∧ (F % 2 = 1 → (4 * F - q) * 2 ^ (1076 + s) < P * 2 ^ 1077 ∧ P * 2 ^ 1077 < (4 * F + 2) * 2 ^ (1076 + s)) := by
      intro F q a b c
      obtain ⟨z, hz⟩ := ex_eq (2 ^ 1075)
      have hzp := pow2_pos 1075
      rw [hz] at hzp
      have e1 := p2 (show 2 + 1075 = 1077 from rfl)
      rw [hz, show (2 : Nat) ^ 2 = 4 from rfl] at e1
      have e2 : ∀ x : Nat, x * 2 ^ (1076 + s) = x * (2 * 2 ^ s) * z := fun x => by rw [show 1076 + s = 1075 + (1 + s) by omega, Nat.pow_add, hz, Nat.pow_add, Nat.pow_one]; generalize 2 ^ s = y; ac_rfl
      have e3 : P * 2 ^ 1077 = 4 * P * z := by rw [e1]; ac_rfl
      rw [e2, e2, e3]
      exact ⟨Nat.mul_le_mul_right _ a, Nat.mul_le_mul_right _ b, fun ho => ⟨Nat.mul_lt_mul_of_pos_right (c ho).1 hzp, Nat.mul_lt_mul_of_pos_right (c ho).2 hzp⟩⟩
    generalize hM : P / 2 ^ s = m at *
    generalize hR : P % 2 ^ s = R at *
    generalize hG : 2 ^ s = g at *
    have f1 : ∀ x : Nat, x * g = g * x := fun x => Nat.mul_comm x g
    have g1 : (4 * m - 1) * g + g = g * (4 * m) := by rw [f1, ← Nat.mul_succ]; congr 1; omega
    have g2 : (4 * m - 2) * g + 2 * g = g * (4 * m) := by
      rw [f1, Nat.mul_comm 2 g, ← Nat.mul_add]; congr 1; omega
    have g3 : (4 * m + 2) * g = g * (4 * m) + 2 * g := by rw [f1, Nat.mul_add, Nat.mul_comm g 2]
    have g4 : (4 * (m + 1) - 2) * g = g * (4 * m) + 2 * g := by rw [show 4 * (m + 1) - 2 = 4 * m + 2 by omega]; exact g3
    have g5 : (4 * (m + 1) + 2) * g = g * (4 * m) + 6 * g := by rw [f1, show 4 * (m + 1) + 2 = 4 * m + 6 by omega, Nat.mul_add, Nat.mul_comm g 6]
    have g6 : 4 * P = g * (4 * m) + 4 * R := by rw [← hd, Nat.mul_add, ← Nat.mul_assoc, Nat.mul_comm 4 g, Nat.mul_assoc]
    have g7 : m * g + R = P := by rw [f1]; exact hd
    by_cases hup : 2 * R < g ∨ (2 * R = g ∧ m % 2 = 0)
    · by_cases hp : m = 4503599627370496
      · refine ⟨m, 1075 + s, 1, by omega, by omega, by omega, by omega, .inl m0, .inr ⟨rfl, hp⟩, ?_⟩
        obtain ⟨a, b, c⟩ := key m 1 (by omega) (by omega) (fun ho => by omega)
        exact ⟨a, b, c, fun _ => by omega⟩
      · refine ⟨m, 1075 + s, 2, by omega, by omega, by omega, by omega, .inl m0, .inl ⟨rfl, .inl hp⟩, ?_⟩
        obtain ⟨a, b, c⟩ := key m 2 (by omega) (by omega) (fun ho => by omega)
        exact ⟨a, b, c, fun _ => by omega⟩
    · by_cases ht : m + 1 = 9007199254740992
      · obtain rfl : m = 9007199254740991 := by omega
        refine ⟨4503599627370496, 1076 + s, 1, by omega, by omega, by omega, by omega, .inl (Nat.le_refl _), .inr ⟨rfl, rfl⟩, ?_⟩
        obtain ⟨a, b, c⟩ := keyT 4503599627370496 1 (by omega) (by omega) (fun ho => by omega)
        exact ⟨a, b, c, fun _ => by omega⟩
      · refine ⟨m + 1, 1075 + s, 2, by omega, by omega, by omega, by omega, .inl (by omega), .inl ⟨rfl, .inl (by omega)⟩, ?_⟩
        obtain ⟨a, b, c⟩ := key (m + 1) 2 (by omega) (by omega) (fun ho => by omega)
        exact ⟨a, b, c, fun _ => by omega⟩
  · -- exact
    obtain ⟨t, ht⟩ : ∃ t, 52 - l = t := ⟨_, rfl⟩
    have a0 : 4503599627370496 ≤ P * 2 ^ t := by
      have : 2 ^ l * 2 ^ t = 4503599627370496 := by rw [← Nat.pow_add, show l + t = 52 by omega]
      rw [← this]
      exact Nat.mul_le_mul_right _ l0
    have a1 : P * 2 ^ t < 9007199254740992 := by
      have : 2 ^ (l + 1) * 2 ^ t = 9007199254740992 := by rw [← Nat.pow_add, show l + 1 + t = 53 by omega]
      rw [← this]
      exact Nat.mul_lt_mul_of_pos_right l1 (Nat.two_pow_pos _)
    have ht52 : t ≤ 52 := by omega
    have e : P * 2 ^ 1077 = 4 * (P * 2 ^ t) * 2 ^ (1075 - t) := by
      have e0 := p2 (show t + (1075 - t) = 1075 by omega)
      have e1 := p2 (show 1075 + 2 = 1077 from rfl)
      rw [e1, e0, show (2 : Nat) ^ 2 = 4 from rfl]
      generalize 2 ^ (1075 - t) = z
      generalize 2 ^ t = y
      ac_rfl
    have hz := Nat.two_pow_pos (1075 - t)
    have hfin : 1000000000000000 < P → 4831355200913801216 < P * 2 ^ t + (1075 - t - 1) * 4503599627370496 := by
      intro hP
      have h49 : 49 ≤ l := by
        rcases Nat.lt_or_ge l 49 with q | q
        · have := Nat.pow_le_pow_right (n := 2) (by omega) (show l + 1 ≤ 49 by omega)
          omega
        · exact q
      rcases (show t = 3 ∨ t ≤ 2 by omega) with rfl | q
      · omega
      · generalize P * 2 ^ t = F at *
        omega
    rw [e]
    generalize hF : P * 2 ^ t = F at *
    have mono : ∀ a b : Nat, a ≤ b → a * 2 ^ (1075 - t) ≤ b * 2 ^ (1075 - t) := fun a b h => Nat.mul_le_mul_right _ h
    have smono : ∀ a b : Nat, a < b → a * 2 ^ (1075 - t) < b * 2 ^ (1075 - t) := fun a b h => Nat.mul_lt_mul_of_pos_right h hz
    by_cases hp : F = 4503599627370496
    · exact ⟨F, 1075 - t, 1, by omega, by omega, by omega, by omega, .inl a0, .inr ⟨rfl, hp⟩, mono _ _ (by omega), mono _ _ (by omega), fun _ => ⟨smono _ _ (by omega), smono _ _ (by omega)⟩, hfin⟩
    · exact ⟨F, 1075 - t, 2, by omega, by omega, by omega, by omega, .inl a0, .inl ⟨rfl, .inl hp⟩, mono _ _ (by omega), mono _ _ (by omega), fun _ => ⟨smono _ _ (by omega), smono _ _ (by omega)⟩, hfin⟩
end Go.Proofs.YtnibfebfgdhfgaaGreatDoor.Us
