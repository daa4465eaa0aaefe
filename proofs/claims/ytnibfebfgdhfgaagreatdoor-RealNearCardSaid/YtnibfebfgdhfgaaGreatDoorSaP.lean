/- atof64exact at the digits of a number's text. Conditions: the tables hold what start-up lays. -/
import Derived.Test.YtnibfebfgdhfgaaGreatDoorUsC
import Derived.Test.YtnibfebfgdhfgaaGreatDoorSaN
import Derived.Test.YtnibfebfgdhfgaaGreatDoorFlN
namespace Go.Proofs.YtnibfebfgdhfgaaGreatDoor
open Go.ChangeShapes Go.WideShapes Go.ChangeAt Go.RowKit Go.Sort
open Sh Us

/-- What a number's digits lie within. -/
structure Num (F e0 q V r : Nat) : Prop where
  hr : F + (e0 - 1) * 4503599627370496 = r
  f1 : 1 ≤ F
  f2 : F < 9007199254740992
  g1 : 1 ≤ e0
  g2 : e0 ≤ 2046
  hn : 4503599627370496 ≤ F ∨ e0 = 1
  hq : (q = 2 ∧ (F ≠ 4503599627370496 ∨ e0 = 1)) ∨ (q = 1 ∧ F = 4503599627370496)
  hw : Within F e0 q V
def sg (neg : Bool) (r : Nat) : Nat := if neg then 9223372036854775808 + r else r
def ExPost (neg : Bool) (r : Nat) (w : World) (e : Ending) (w' : World) : Prop := (∃ f ok, e = .returned (.tuple #[.float .f64 f, .bool ok]) ∧ (ok = true → f = sg neg r)) ∧ w = w'
set_option maxRecDepth 100000 in
theorem exact_big (d : Nat) (E : Int) (b : Bool) (hd8 : 4503599627370496 ≤ d) (hd9 : d < 18446744073709551616) (w : World) (hc : RCtx w) :
    Calls Tryz.prog 82 #[.int .u64 d, .int .i64 E, .bool b] w fun e w' => e = .returned (.tuple #[.float .f64 0, .bool false]) ∧ w = w' := by
  have hi := hc.info
  have hd0 : ((d : Int) / 4503599627370496 != 0) = true := by rw [bne_iff_ne]; omega
  have H := Lib.hid hc
  clear hc
  go_enter Tryz.func82, Tryz.ntmps82
  go_wp2_with fail
  go_ret2
  exact ⟨rfl, rfl⟩
set_option maxRecDepth 100000 in
theorem exact_high (d : Nat) (E : Int) (b : Bool) (hE : 37 < E) (hd9 : d < 4503599627370496) (w : World) (hc : RCtx w) :
    Calls Tryz.prog 82 #[.int .u64 d, .int .i64 E, .bool b] w fun e w' => (∃ f, e = .returned (.tuple #[.float .f64 f, .bool false])) ∧ w = w' := by
  have hi := hc.info
  have hd0 : ((d : Int) / 4503599627370496 != 0) = false := by rw [bne_eq_false_iff_eq]; omega
  have k0 : (E == 0) = false := by rw [beq_eq_false_iff_ne]; omega
  have k1 : decide (0 < E) = true := decide_eq_true (by omega)
  have k2 : decide (E ≤ 37) = false := decide_eq_false (by omega)
  have k3 : decide (E < 0) = false := decide_eq_false (by omega)
  have H := Lib.hid hc
  clear hc
  cases b
  all_goals
    go_enter Tryz.func82, Tryz.ntmps82
    go_wp2_with fail
    go_ret2
    exact ⟨⟨_, rfl⟩, rfl⟩
set_option maxRecDepth 100000 in
theorem exact_low (d : Nat) (E : Int) (b : Bool) (hE : E < -22) (hd9 : d < 4503599627370496) (w : World) (hc : RCtx w) :
    Calls Tryz.prog 82 #[.int .u64 d, .int .i64 E, .bool b] w fun e w' => (∃ f, e = .returned (.tuple #[.float .f64 f, .bool false])) ∧ w = w' := by
  have hi := hc.info
  have hd0 : ((d : Int) / 4503599627370496 != 0) = false := by rw [bne_eq_false_iff_eq]; omega
  have k0 : (E == 0) = false := by rw [beq_eq_false_iff_ne]; omega
  have k1 : decide (0 < E) = false := decide_eq_false (by omega)
  have k2 : decide (-22 ≤ E) = false := decide_eq_false (by omega)
  have k3 : decide (E < 0) = true := decide_eq_true (by omega)
  have H := Lib.hid hc
  clear hc
  cases b
  all_goals
    go_enter Tryz.func82, Tryz.ntmps82
    go_wp2_with fail
    go_ret2
    exact ⟨⟨_, rfl⟩, rfl⟩
theorem gt_pos (a c : Nat) (h : c < a) (ha : a ≤ 9218868437227405312) : (FloatKind.f64.format.order a c == some .gt) = true := by
  rw [ord_pos a c ha (by omega), if_neg (by omega), if_neg (by omega)]
  rfl
theorem lt_neg (a c : Nat) (h : c < a) (ha : a ≤ 9218868437227405312) : (FloatKind.f64.format.order (9223372036854775808 + a) (9223372036854775808 + c) == some .lt) = true := by
  rw [fmt_order, Ord.order_eq _ _ (by omega) (by omega) (by unfold Ord.rung; omega) (by unfold Ord.rung; omega), Ord.cmpI]
  have e : ∀ x, x ≤ 9218868437227405312 → Ord.sr (9223372036854775808 + x) = -(x : Int) := fun x hx => by
    unfold Ord.sr Ord.neg Ord.rung
    rw [decide_eq_true (by omega), if_pos rfl]
    omega
  rw [e a ha, e c (by omega), if_pos (by omega)]
  rfl
set_option maxRecDepth 100000 in
/-- Two products, the first exact. -/
theorem exact_two (d j f r1 r : Nat) (b : Bool) (hd9 : d < 4503599627370496) (hj0 : 1 ≤ j) (hj : j ≤ 15) (hf : (if b then Op.negFloat .f64 (floatOfInt .f64 (d : Int)) else floatOfInt .f64 (d : Int)) = f)
    (hm1 : Ieee.double.mul f (f10Bits.getD j 0) = some r1) (hm2 : Ieee.double.mul r1 (f10Bits.getD 22 0) = some r) (w : World) (hc : RCtx w) :
    Calls Tryz.prog 82 #[.int .u64 d, .int .i64 ((j : Int) + 22), .bool b] w fun e w' => (∃ f ok, e = .returned (.tuple #[.float .f64 f, .bool ok]) ∧ (ok = true → f = r)) ∧ w = w' := by
  have hi := hc.info
  have hd0 : ((d : Int) / 4503599627370496 != 0) = false := by rw [bne_eq_false_iff_eq]; omega
  obtain ⟨R, o, cap, hs, hcell⟩ := hc.f10
  have hx := hcell j (by omega)
  have hx22 := hcell 22 (by omega)
  have k0 : ((j : Int) + 22 == 0) = false := by rw [beq_eq_false_iff_ne]; omega
  have k1 : decide (0 < (j : Int) + 22) = true := decide_eq_true (by omega)
  have k2 : decide ((j : Int) + 22 ≤ 37) = true := decide_eq_true (by omega)
  have k3 : decide (22 < (j : Int) + 22) = true := decide_eq_true (by omega)
  have k4 : (j : Int).toNat = j := by omega
  have k5 : (j : Int) + 22 - 22 = j := by omega
  have k6 : IntKind.i64.wrap (j : Int) = j := by rw [IntKind.wrap_i64]; omega
  clear hc hcell
  generalize f10Bits.getD j 0 = y at *
  generalize f10Bits.getD 22 0 = y2 at *
  have hq := fun w' => run_float_arith (P := Tryz.prog) (w := w') .mul 24 .f64 f y r1 hm1
  have hq2 := fun w' => run_float_arith (P := Tryz.prog) (w := w') .mul 24 .f64 r1 y2 r hm2
  cases b
  all_goals
    simp only [Bool.false_eq_true, if_false, if_true] at hf
    subst hf
    go_enter Tryz.func82, Tryz.ntmps82
    go_wp2_with fail
    all_goals
      go_ret2
      first | exact ⟨⟨_, _, rfl, fun _ => rfl⟩, rfl⟩ | exact ⟨⟨_, _, rfl, fun h => by cases h⟩, rfl⟩
set_option maxRecDepth 100000 in
/-- Two products, the first too great. -/
theorem exact_much (d j f r1 a : Nat) (b : Bool) (hd9 : d < 4503599627370496) (hj0 : 1 ≤ j) (hj : j ≤ 15) (hf : (if b then Op.negFloat .f64 (floatOfInt .f64 (d : Int)) else floatOfInt .f64 (d : Int)) = f)
    (hm1 : Ieee.double.mul f (f10Bits.getD j 0) = some r1) (hr : r1 = sg b a) (ha : 4831355200913801216 < a) (ha2 : a ≤ 9218868437227405312) (w : World) (hc : RCtx w) :
    Calls Tryz.prog 82 #[.int .u64 d, .int .i64 ((j : Int) + 22), .bool b] w fun e w' => (∃ f, e = .returned (.tuple #[.float .f64 f, .bool false])) ∧ w = w' := by
  have hi := hc.info
  have hd0 : ((d : Int) / 4503599627370496 != 0) = false := by rw [bne_eq_false_iff_eq]; omega
  obtain ⟨R, o, cap, hs, hcell⟩ := hc.f10
  have hx := hcell j (by omega)
  have k0 : ((j : Int) + 22 == 0) = false := by rw [beq_eq_false_iff_ne]; omega
  have k1 : decide (0 < (j : Int) + 22) = true := decide_eq_true (by omega)
  have k2 : decide ((j : Int) + 22 ≤ 37) = true := decide_eq_true (by omega)
  have k3 : decide (22 < (j : Int) + 22) = true := decide_eq_true (by omega)
  have k4 : (j : Int).toNat = j := by omega
  have k5 : (j : Int) + 22 - 22 = j := by omega
  have k6 : IntKind.i64.wrap (j : Int) = j := by rw [IntKind.wrap_i64]; omega
  have o1 := gt_pos a 4831355200913801216 ha ha2
  have o2 := lt_neg a 4831355200913801216 ha ha2
  simp only [Nat.reduceAdd] at o2
  clear hc hcell
  generalize f10Bits.getD j 0 = y at *
  have hq := fun w' => run_float_arith (P := Tryz.prog) (w := w') .mul 24 .f64 f y r1 hm1
  clear hm1
  cases b
  · obtain rfl : r1 = a := hr
    simp only [Bool.false_eq_true, if_false] at hf
    subst hf
    clear o2
    go_enter Tryz.func82, Tryz.ntmps82
    go_wp2_with fail
    go_ret2
    exact ⟨⟨_, rfl⟩, rfl⟩
  · rw [show sg true a = 9223372036854775808 + a from rfl] at hr
    rw [← hr] at o2
    simp only [if_true] at hf
    subst hf
    clear o1 hr
    go_enter Tryz.func82, Tryz.ntmps82
    go_wp2_with fail
    all_goals
      go_ret2
      exact ⟨⟨_, rfl⟩, rfl⟩
theorem val_mul {M V : Nat} {k : Nat} (h : M * 10 ^ (500 + (k : Int)).toNat = V * 10 ^ 100) : V = M * 10 ^ (k + 400) := by
  rw [show (500 + (k : Int)).toNat = k + 400 + 100 by omega, Nat.pow_add 10 (k + 400) 100, ← Nat.mul_assoc] at h
  exact (Nat.eq_of_mul_eq_mul_right (pow10_pos 100) h).symm
theorem val_div {M V : Nat} {k : Nat} (hk : k ≤ 400) (h : M * 10 ^ (500 + (-(k : Int))).toNat = V * 10 ^ 100) : V = M * 10 ^ (400 - k) := by
  rw [show (500 + (-(k : Int))).toNat = 400 - k + 100 by omega, Nat.pow_add 10 (400 - k) 100, ← Nat.mul_assoc] at h
  exact (Nat.eq_of_mul_eq_mul_right (pow10_pos 100) h).symm
/-- A whole number below 2 to the 52 as a float, at either sign. -/
theorem word_sg (d : Nat) (h1 : 1 ≤ d) (h2 : d < 4503599627370496) (neg : Bool) : ∃ t fr, t ≤ 52 ∧ fr < 4503599627370496 ∧ fr + 4503599627370496 = d * 2 ^ t ∧ (if neg then Op.negFloat .f64 (floatOfInt .f64 (d : Int)) else floatOfInt .f64 (d : Int)) = (if neg then 9223372036854775808 else 0) + ((1075 - t) * 4503599627370496 + fr) := by
  obtain ⟨t, fr, a, b, c, d1, d2⟩ := word_of d h1 h2
  refine ⟨t, fr, a, b, c, ?_⟩
  cases neg
  · rw [if_neg (by decide), if_neg (by decide), Nat.zero_add]; exact d1
  · rw [if_pos rfl, if_pos rfl]; exact d2
end Go.Proofs.YtnibfebfgdhfgaaGreatDoor
/- atof64exact at the digits of a number's text: the number, or nothing. Conditions: the tables hold what start-up lays. -/
namespace Go.Proofs.YtnibfebfgdhfgaaGreatDoor
open Go.ChangeShapes Go.WideShapes Go.ChangeAt Go.RowKit Go.Sort
open Sh Us
theorem sg_fin (neg : Bool) {F e0 r : Nat} (hr : F + (e0 - 1) * 4503599627370496 = r) : (if neg then 9223372036854775808 + (F + (e0 - 1) * 4503599627370496) else F + (e0 - 1) * 4503599627370496) = sg neg r := by rw [hr]; rfl
theorem exact_quo (neg : Bool) {M k F e0 q V r : Nat} (hN : Num F e0 q V r) (hM1 : 1 ≤ M) (hM : M < 4503599627370496) (hk0 : 1 ≤ k) (hk : k ≤ 22) (hV : V = M * 10 ^ (400 - k)) (w : World) (hc : RCtx w) :
    Calls Tryz.prog 82 #[.int .u64 M, .int .i64 (-(k : Int)), .bool neg] w (ExPost neg r w) := by
  obtain ⟨hr, f1, f2, g1, g2, hn, hq, hW⟩ := hN
  obtain ⟨t, fr, ht, hfr, hd, hf⟩ := word_sg M hM1 hM neg
  rw [hV] at hW
  obtain ⟨w1, w2, w3⟩ := within_div (by omega) hW
  have hdiv := div_back neg M t fr k F e0 q (by omega) ht hfr hd f1 f2 g1 g2 hn hq w1 w2 w3
  rw [sg_fin neg hr, ← hf] at hdiv
  clear w1 w2 w3 hW hf hfr hd
  cases neg
  all_goals simp only [Bool.false_eq_true, if_false, if_true] at hdiv
  · exact (exact_div_pos M k _ hM hk0 hk hdiv w hc).mono fun e w' ⟨a, b⟩ => ⟨⟨_, _, a, fun _ => rfl⟩, b⟩
  · exact (exact_div_neg M k _ hM hk0 hk hdiv w hc).mono fun e w' ⟨a, b⟩ => ⟨⟨_, _, a, fun _ => rfl⟩, b⟩
theorem whole_at {M F e0 q V r : Nat} (hN : Num F e0 q V r) (hM1 : 1 ≤ M) (hV : V = M * 10 ^ (0 + 400)) : floatOfInt .f64 (M : Int) = r := by
  obtain ⟨hr, f1, f2, g1, g2, hn, hq, hW⟩ := hN
  rw [hV] at hW
  obtain ⟨w1, w2, w3⟩ := within_mul hW
  rw [Nat.pow_zero, Nat.mul_one] at w1 w2 w3
  have hnf := nearest_within false M 0 F e0 q e0 1077 hM1 f1 f2 g1 g2 hn hq (by omega) w1 w2 w3
  clear w1 w2 w3 hW
  rw [if_neg (by decide), hr] at hnf
  rw [← hnf]
  show Ieee.double.nearest (decide ((M : Int) < 0)) (M : Int).natAbs 0 = _
  rw [decide_eq_false (by omega), Int.natAbs_natCast]
theorem exact_zero (neg : Bool) {M F e0 q V r : Nat} (hN : Num F e0 q V r) (hM1 : 1 ≤ M) (hM : M < 4503599627370496) (hV : V = M * 10 ^ (0 + 400)) (w : World) (hc : RCtx w) :
    Calls Tryz.prog 82 #[.int .u64 M, .int .i64 0, .bool neg] w (ExPost neg r w) := by
  have e1 := whole_at hN hM1 hV
  have hlt : r < 9223372036854775808 := by
    have := hN.hr; have := hN.f2; have := hN.g2
    omega
  cases neg
  · exact (exact_pos M hM w hc).mono fun e w' ⟨a, b⟩ => ⟨⟨_, _, a, fun _ => e1⟩, b⟩
  · refine (exact_neg M hM w hc).mono fun e w' ⟨a, b⟩ => ⟨⟨_, _, a, fun _ => ?_⟩, b⟩
    rw [e1, neg_flip r (by omega)]
    unfold flip sg
    rw [if_neg (by omega), if_pos rfl]
    omega
theorem exact_once (neg : Bool) {M k F e0 q V r : Nat} (hN : Num F e0 q V r) (hM1 : 1 ≤ M) (hM : M < 4503599627370496) (hk0 : 1 ≤ k) (hk : k ≤ 22) (hV : V = M * 10 ^ (k + 400)) (w : World) (hc : RCtx w) :
    Calls Tryz.prog 82 #[.int .u64 M, .int .i64 (k : Int), .bool neg] w (ExPost neg r w) := by
  obtain ⟨hr, f1, f2, g1, g2, hn, hq, hW⟩ := hN
  obtain ⟨t, fr, ht, hfr, hd, hf⟩ := word_sg M hM1 hM neg
  rw [hV] at hW
  obtain ⟨w1, w2, w3⟩ := within_mul hW
  have hm := mul_back neg M t fr k F e0 q (by omega) ht hfr hd f1 f2 g1 g2 hn hq w1 w2 w3
  rw [sg_fin neg hr, ← hf] at hm
  clear w1 w2 w3 hW hf hfr hd
  cases neg
  all_goals simp only [Bool.false_eq_true, if_false, if_true] at hm
  · exact exact_mul_pos M k _ hM hk0 hk hm w hc
  · exact exact_mul_neg M k _ hM hk0 hk hm w hc
theorem pow77 (P t : Nat) (ht : t ≤ 52) : P * 2 ^ 1077 = 4 * (P * 2 ^ t) * 2 ^ (1075 - t) := by
  have e0 := p2 (show t + (1075 - t) = 1075 by omega)
  have e1 := p2 (show 1075 + 2 = 1077 from rfl)
  rw [e1, e0, show (2 : Nat) ^ 2 = 4 from rfl]
  generalize 2 ^ (1075 - t) = z
  generalize 2 ^ t = y
  ac_rfl
/-- A whole number's product by a power of ten, where it is a float itself. -/
theorem mul_exact (neg : Bool) (M j t fr t1 fr1 : Nat) (hj : j ≤ 15) (ht : t ≤ 52) (hfr : fr < 4503599627370496) (hd : fr + 4503599627370496 = M * 2 ^ t) (ht1 : t1 ≤ 52) (hfr1 : fr1 < 4503599627370496) (hd1 : fr1 + 4503599627370496 = M * 10 ^ j * 2 ^ t1) :
    Ieee.double.mul ((if neg then 9223372036854775808 else 0) + ((1075 - t) * 4503599627370496 + fr)) (f10Bits.getD j 0) = some ((if neg then 9223372036854775808 else 0) + ((1075 - t1) * 4503599627370496 + fr1)) := by
  have hP2 := pow77 (M * 10 ^ j) t1 ht1
  have hz := pow2_pos (1075 - t1)
  obtain ⟨F1, hF1⟩ : ∃ F1, M * 10 ^ j * 2 ^ t1 = F1 := ⟨_, rfl⟩
  rw [hF1] at hP2 hd1
  obtain ⟨q1, hq1⟩ : ∃ q1, (q1 = 2 ∧ (F1 ≠ 4503599627370496 ∨ 1075 - t1 = 1)) ∨ (q1 = 1 ∧ F1 = 4503599627370496) := by
    by_cases h : F1 = 4503599627370496
    · exact ⟨1, .inr ⟨rfl, h⟩⟩
    · exact ⟨2, .inl ⟨rfl, .inl h⟩⟩
  have e1 : (4 * F1 - q1) * 2 ^ (1075 - t1) ≤ M * 10 ^ j * 2 ^ 1077 := Nat.le_trans (Nat.mul_le_mul_right _ (Nat.sub_le _ _)) (Nat.le_of_eq hP2.symm)
  have e2 : M * 10 ^ j * 2 ^ 1077 ≤ (4 * F1 + 2) * 2 ^ (1075 - t1) := Nat.le_trans (Nat.le_of_eq hP2) (Nat.mul_le_mul_right _ (Nat.le_add_right _ _))
  have e3 : F1 % 2 = 1 → (4 * F1 - q1) * 2 ^ (1075 - t1) < M * 10 ^ j * 2 ^ 1077 ∧ M * 10 ^ j * 2 ^ 1077 < (4 * F1 + 2) * 2 ^ (1075 - t1) := fun _ =>
    ⟨Nat.lt_of_lt_of_le (Nat.mul_lt_mul_of_pos_right (by clear e1 e2 hP2 hz; omega) hz) (Nat.le_of_eq hP2.symm), Nat.lt_of_le_of_lt (Nat.le_of_eq hP2) (Nat.mul_lt_mul_of_pos_right (by clear e1 e2 hP2 hz; omega) hz)⟩
  clear hP2 hz
  have hm := mul_back neg M t fr j F1 (1075 - t1) q1 (by omega) ht hfr hd (by clear e1 e2 e3; omega) (by clear e1 e2 e3; omega) (by omega) (by omega) (.inl (by clear e1 e2 e3; omega)) hq1 e1 e2 e3
  clear e1 e2 e3
  have e2 : (if neg then 9223372036854775808 + (F1 + (1075 - t1 - 1) * 4503599627370496) else F1 + (1075 - t1 - 1) * 4503599627370496) = (if neg then 9223372036854775808 else 0) + ((1075 - t1) * 4503599627370496 + fr1) := by
    cases neg
    · rw [if_neg (by decide), if_neg (by decide)]; omega
    · rw [if_pos rfl, if_pos rfl]; omega
  rw [e2] at hm
  exact hm
theorem exact_twice (neg : Bool) {M j F e0 q V r : Nat} (hN : Num F e0 q V r) (hM1 : 1 ≤ M) (hM : M < 4503599627370496) (hj0 : 1 ≤ j) (hj : j ≤ 15) (hV : V = M * 10 ^ (j + 22 + 400)) (w : World) (hc : RCtx w) :
    Calls Tryz.prog 82 #[.int .u64 M, .int .i64 ((j : Int) + 22), .bool neg] w (ExPost neg r w) := by
  obtain ⟨hr, f1, f2, g1, g2, hn, hq, hW⟩ := hN
  obtain ⟨t, fr, ht, hfr, hd, hf⟩ := word_sg M hM1 hM neg
  have hpj : (10 : Nat) ^ j ≤ 10 ^ 15 := Nat.pow_le_pow_right (by omega) (by omega)
  have hp15 : (10 : Nat) ^ 15 = 1000000000000000 := by decide
  rw [hp15] at hpj
  have hP1 : 1 ≤ M * 10 ^ j := Nat.mul_pos hM1 (Nat.pow_pos (by omega))
  have hP2 : M * 10 ^ j ≤ 4503599627370496 * 1000000000000000 := Nat.mul_le_mul (Nat.le_of_lt hM) hpj
  have hW2 : V = M * 10 ^ j * 10 ^ (22 + 400) := by rw [hV, Nat.mul_assoc, pow10_mul (a := j) (b := 22 + 400) (c := j + 22 + 400) (by omega)]
  clear hV hp15 hpj
  rw [hW2] at hW
  clear hW2
  obtain ⟨w1, w2, w3⟩ := within_mul hW
  clear hW
  rcases Nat.lt_or_ge 1000000000000000 (M * 10 ^ j) with hP | hP
  · clear w1 w2 w3
    obtain ⟨F1, e1, q1, a1, a2, a3, a4, a5, a6, a7, a8, a9, a10⟩ := round_exists (M * 10 ^ j) hP1 (by omega)
    have hm := mul_back neg M t fr j F1 e1 q1 (by omega) ht hfr hd a1 a2 a3 a4 a5 a6 a7 a8 a9
    rw [← hf] at hm
    clear a7 a8 a9
    exact (exact_much M j _ _ (F1 + (e1 - 1) * 4503599627370496) neg hM hj0 hj rfl hm rfl (a10 hP) (by omega) w hc).mono fun e w' ⟨⟨f, a⟩, b⟩ => ⟨⟨_, _, a, fun h => by cases h⟩, b⟩
  · obtain ⟨t1, fr1, ht1, hfr1, hd1, hf1⟩ := word_sg (M * 10 ^ j) hP1 (by omega) neg
    have hm := mul_exact neg M j t fr t1 fr1 hj ht hfr hd ht1 hfr1 hd1
    rw [← hf] at hm
    have hm2 := mul_back neg (M * 10 ^ j) t1 fr1 22 F e0 q (by omega) ht1 hfr1 hd1 f1 f2 g1 g2 hn hq w1 w2 w3
    rw [sg_fin neg hr] at hm2
    clear w1 w2 w3
    exact exact_two M j _ _ _ neg hM hj0 hj rfl hm hm2 w hc
/-- What atof64exact makes of the digits: the number, or nothing. -/
theorem exact_all (neg : Bool) {M : Nat} {E : Int} {F e0 q V r : Nat} (hN : Num F e0 q V r) (hM1 : 1 ≤ M) (hM2 : M < 18446744073709551616) (hv : M * 10 ^ (500 + E).toNat = V * 10 ^ 100) (w : World) (hc : RCtx w) :
    Calls Tryz.prog 82 #[.int .u64 M, .int .i64 E, .bool neg] w (ExPost neg r w) := by
  rcases Nat.lt_or_ge 4503599627370495 M with hM | hM
  · exact (exact_big M E neg hM hM2 w hc).mono fun e w' ⟨a, b⟩ => ⟨⟨_, _, a, fun h => by cases h⟩, b⟩
  have hM : M < 4503599627370496 := by omega
  rcases Int.lt_or_le 37 E with hE | hE
  · exact (exact_high M E neg hE hM w hc).mono fun e w' ⟨⟨f, a⟩, b⟩ => ⟨⟨_, _, a, fun h => by cases h⟩, b⟩
  rcases Int.lt_or_le E (-22) with hE2 | hE2
  · exact (exact_low M E neg hE2 hM w hc).mono fun e w' ⟨⟨f, a⟩, b⟩ => ⟨⟨_, _, a, fun h => by cases h⟩, b⟩
  rcases Int.lt_or_le E 0 with h0 | h0
  · obtain ⟨k, rfl⟩ : ∃ k : Nat, E = -(k : Int) := ⟨(-E).toNat, by omega⟩
    exact exact_quo neg hN hM1 hM (by omega) (by omega) (val_div (by omega) hv) w hc
  · obtain ⟨k, rfl⟩ : ∃ k : Nat, E = (k : Int) := ⟨E.toNat, by omega⟩
    have hV := val_mul hv
    rcases Nat.eq_zero_or_pos k with rfl | hk
    · exact exact_zero neg hN hM1 hM hV w hc
    · rcases Nat.lt_or_ge 22 k with hk2 | hk2
      · obtain ⟨j, rfl⟩ : ∃ j, k = j + 22 := ⟨k - 22, by omega⟩
        rw [show ((j + 22 : Nat) : Int) = (j : Int) + 22 by omega]
        exact exact_twice neg hN hM1 hM (by omega) (by omega) hV w hc
      · exact exact_once neg hN hM1 hM hk hk2 hV w hc
end Go.Proofs.YtnibfebfgdhfgaaGreatDoor
/- atof64 and Parse at every number's text. Conditions: the tables hold what start-up lays. -/
namespace Go.Proofs.YtnibfebfgdhfgaaGreatDoor
open Go.ChangeShapes Go.WideShapes Go.ChangeAt Go.RowKit Go.Sort
open Rf Sh Us

theorem num_hi : (2 : Nat) ^ 56 * 2 ^ 2046 * 10 ^ 400 < 10 ^ 709 * 2 ^ 1077 := by decide +kernel
theorem num_lo : (10 : Nat) ^ 72 * 2 ^ 1077 < 2 * 2 * 10 ^ 400 := by decide +kernel
theorem hi_no {T V z X Y c P Q : Nat} (h1 : T ≤ V) (h2 : V * z ≤ X * Y * c) (hX : X ≤ P) (hY : Y ≤ Q) (hn : P * Q * c < T * z) : False :=
  Nat.lt_irrefl _ (Nat.lt_of_le_of_lt (Nat.le_trans (Nat.mul_le_mul_right z h1) (Nat.le_trans h2 (Nat.mul_le_mul_right c (Nat.mul_le_mul hX hY)))) hn)
theorem lo_no {V z X Y c T : Nat} (h1 : V ≤ T) (h2 : X * Y * c ≤ V * z) (hX : 2 ≤ X) (hY : 2 ≤ Y) (hn : T * z < 2 * 2 * c) : False :=
  Nat.lt_irrefl _ (Nat.lt_of_le_of_lt (Nat.le_trans (Nat.mul_le_mul_right c (Nat.mul_le_mul hX hY)) (Nat.le_trans h2 (Nat.mul_le_mul_right z h1))) hn)
theorem le10 {a b : Nat} (h : a ≤ b) : (10 : Nat) ^ a ≤ 10 ^ b := Nat.pow_le_pow_right (by omega) h
theorem exp_hi {M : Nat} {E : Int} {F e0 q V r : Nat} (hN : Num F e0 q V r) (hM1 : 1 ≤ M) (hv : M * 10 ^ (500 + E).toNat = V * 10 ^ 100) : E ≤ 308 := by
  rcases Int.lt_or_le 308 E with h | h
  · obtain ⟨k, rfl⟩ : ∃ k : Nat, E = (k : Int) := ⟨E.toNat, by omega⟩
    have hV := val_mul hv
    have a := le10 (show 709 ≤ k + 400 by omega)
    have nh := num_hi
    obtain ⟨T, hT⟩ := ex_eq (10 ^ 709)
    rw [hT] at a nh
    clear hT
    have h1 := Nat.mul_le_mul hM1 a
    rw [Nat.one_mul, ← hV] at h1
    have hX : 4 * F + 2 ≤ 2 ^ 56 := by have := hN.f2; clear hv hV h1 a nh; omega
    have hY := le2 hN.g2
    exact (hi_no h1 hN.hw.2.1 hX hY nh).elim
  · exact h
theorem exp_lo {M : Nat} {E : Int} {F e0 q V r : Nat} (hN : Num F e0 q V r) (hM : 0 ≤ E ∨ M ≤ 144115188075855872) (hv : M * 10 ^ (500 + E).toNat = V * 10 ^ 100) : -345 ≤ E := by
  rcases Int.lt_or_le E (-345) with h | h
  · have hM2 : M ≤ 10 ^ 18 := by
      rcases hM with h2 | h2
      · omega
      · exact Nat.le_trans h2 (by decide)
    have a := le10 (show (500 + E).toNat ≤ 154 by omega)
    have b := Nat.mul_le_mul hM2 a
    rw [hv, pow10_mul (show 18 + 154 = 172 from rfl), ← pow10_mul (show 72 + 100 = 172 from rfl)] at b
    have h1 := Nat.le_of_mul_le_mul_right b (pow10_pos 100)
    have hX : 2 ≤ 4 * F - q := by have := hN.f1; have := hN.hq; clear hv a b h1; omega
    have hY : 2 ≤ 2 ^ e0 := by
      have := le2 hN.g1
      exact this
    exact (lo_no h1 hN.hw.1 hX hY num_lo).elim
  · exact h
def sgS (neg : Bool) : Nat := if neg then 9223372036854775808 else 0
theorem sg_eq (neg : Bool) (r : Nat) : sgS neg + r = sg neg r := by
  cases neg
  · exact Nat.zero_add r
  · rfl
/-- parseFloat64 at the digits of a number's text. -/
theorem parse_digits (neg : Bool) {M : Nat} {E : Int} {F e0 q V r : Nat} (hN : Num F e0 q V r) (hM1 : 1 ≤ M) (hM2 : M < 10000000000000000000) (hsm : M ≤ 144115188075855872 ∨ (0 ≤ E ∧ E ≤ 4)) (hv : M * 10 ^ (500 + E).toNat = V * 10 ^ 100) (hlo : -345 ≤ E) (hhi : E ≤ 308) (W : World) (hc : RCtx W) :
    Calls Tryz.prog 83 #[.int .u64 M, .int .i64 E, .int .u64 (sgS neg : Nat)] W fun e w' => e = .returned (.tuple #[.float .f64 (sg neg r), .nilIface]) ∧ Below W.heap.size W w' := by
  obtain ⟨i, hi⟩ : ∃ i, (E + 348).toNat = i := ⟨_, rfl⟩
  have hE : (i : Int) - 348 = E := by clear hv; omega
  have hi6 : i < 696 := by clear hv; omega
  have hV : V = M * 10 ^ (i + 52) := by
    rw [show (500 + E).toNat = i + 52 + 100 by clear hv; omega, Nat.pow_add 10 (i + 52) 100, ← Nat.mul_assoc] at hv
    exact (Nat.eq_of_mul_eq_mul_right (pow10_pos 100) hv).symm
  clear hv
  obtain ⟨hr, f1, f2, g1, g2, hn, hq, hW⟩ := hN
  rw [hV] at hW
  clear hV
  have hun : scaled i (pfS M i) (M * 2 ^ (64 - Lib.bitLen M)) = un (M * 2 ^ (64 - Lib.bitLen M) * num i) (den i * 2 ^ (128 + pfS M i)) := by
    rcases hsm with h | ⟨h1, h2⟩
    · exact un58 M i hM1 h hi6
    · obtain ⟨k, hk⟩ : ∃ k, i = 348 + k := ⟨i - 348, by clear hW; omega⟩
      subst hk
      exact unEven k _ _ (by clear hW; omega)
  have := Pk.parse_back (sgS neg) M i F e0 q (by unfold sgS; cases neg; exact .inl rfl; exact .inr rfl) hM1 hM2 hi6 hun f1 f2 g1 g2 hn hq hW W hc.toTCtx
  rw [hE, hr, sg_eq] at this
  exact this
set_option maxHeartbeats 1000000 in
set_option maxRecDepth 100000 in
/-- atof64, where the reader has read all and the digits are a number's. -/
theorem atof_gen (s : ByteArray) (neg : Bool) (k M : Nat) (E : Int) (z : Nat) (hM1 : 1 ≤ M) (hlo : -345 ≤ E) (hhi : E ≤ 308)
    (hS : ∀ w, Calls Tryz.prog 71 #[.string s] w fun e w' => e = .returned (.tuple #[.float .f64 0, .int .i64 0, .bool false]) ∧ w = w')
    (hR : ∀ w, Calls Tryz.prog 72 #[.string s] w fun e w' => e = .returned (.tuple #[.int .u64 M, .int .i64 E, .bool neg, .bool false, .bool false, .int .i64 k, .bool true]) ∧ w = w')
    (hX : ∀ w, RCtx w → Calls Tryz.prog 82 #[.int .u64 M, .int .i64 E, .bool neg] w fun e w' => (∃ f ok, e = .returned (.tuple #[.float .f64 f, .bool ok]) ∧ (ok = true → f = z)) ∧ w = w')
    (hP : ∀ w, RCtx w → Calls Tryz.prog 83 #[.int .u64 M, .int .i64 E, .int .u64 (sgS neg : Nat)] w fun e w' => e = .returned (.tuple #[.float .f64 z, .nilIface]) ∧ Below w.heap.size w w') (w : World) (hc : RCtx w) :
    Calls Tryz.prog 46 #[.string s] w fun e w' => e = .returned (.tuple #[.float .f64 z, .int .i64 k, .nilIface]) ∧ Below w.heap.size w w' := by
  have ho := hc.opt
  have H1 := Lib.hid hS
  have H2 := Lib.hid hR
  have H3 := Lib.hid (hX w hc)
  have H5 := Lib.hid (hP w hc)
  have H4 := Lib.hid bool2u
  have k0 : ((M : Int) == 0) = false := by rw [beq_eq_false_iff_ne]; omega
  have k1 : decide (310 < E) = false := decide_eq_false (by omega)
  have k2 : decide (E < -345) = false := decide_eq_false (by omega)
  have ef : b2n false = 0 := rfl
  have et : b2n true = 1 := rfl
  clear hS hR hX hP hc hlo hhi
  cases neg
  all_goals
    go_enter Tryz.func46, Tryz.ntmps46
    go_wp2_with fail
    refine (H1.out _).mono ?_; rintro en w' ⟨rfl, rfl⟩
    go_wp2_with fail
    refine (H2.out _).mono ?_; rintro en w' ⟨rfl, rfl⟩
    go_wp2_with fail
    refine (H4.out _ _).mono ?_; rintro en w' ⟨rfl, rfl⟩
    go_wp2_with fail
    refine H3.out.mono ?_; rintro en w' ⟨⟨f, ok, rfl, hok⟩, rfl⟩
    cases ok
    · go_wp2_with fail
      refine H5.out.mono ?_; rintro en w' ⟨rfl, hb⟩
      go_wp2_with fail
      go_ret3
      exact ⟨rfl, hb⟩
    · obtain rfl := hok rfl
      go_wp2_with fail
      go_ret3
      exact ⟨rfl, Below.refl _ _⟩
theorem special_body (neg : Bool) {t A B x : List UInt8} {pt : Bool} {E0 : Int} {M : Nat} {E : Int} {V : Nat} (h : Body t A B x pt E0 M E V) (w : World) :
    Calls Tryz.prog 71 #[.string ⟨(sgn neg ++ t).toArray⟩] w fun e w' => e = .returned (.tuple #[.float .f64 0, .int .i64 0, .bool false]) ∧ w = w' := by
  obtain ⟨ht, ha, hane, -, -, -, -, -, -, -, -, -, -, hlen⟩ := h
  have hsz := ba_size (sgn neg ++ t)
  cases A with
  | nil => exact absurd rfl hane
  | cons c l =>
    have hc := ha c (List.mem_cons_self ..)
    unfold Sh.digit at hc
    have hc := of_decide_eq_true hc
    obtain ⟨R, hR⟩ : ∃ R, t = c :: R := by
      rw [ht]
      cases pt
      · exact ⟨l ++ x, rfl⟩
      · exact ⟨(l ++ 46 :: B) ++ x, rfl⟩
    cases neg with
    | false =>
      obtain ⟨h0, h1⟩ := at_app (L := sgn false ++ t) (P := []) (Q := R) (c := c) hR
      have h1' : (⟨(sgn false ++ t).toArray⟩ : ByteArray)[0].toNat = c.toNat := h1
      exact special_none _ (Nat.succ_le_of_lt h0) (c.toNat : Int) (by rw [h1']) (by omega) (by omega) w
    | true =>
      obtain ⟨h0, h1⟩ := at_app (L := sgn true ++ t) (P := [45]) (Q := R) (c := c) (by rw [hR]; rfl)
      have h1' : (⟨(sgn true ++ t).toArray⟩ : ByteArray)[1].toNat = c.toNat := h1
      have hlt : (sgn true ++ t).length ≤ 25 := by rw [List.length_append]; show 1 + t.length ≤ 25; omega
      exact special_neg _ (Nat.succ_le_of_lt h0) (by rw [hsz]; omega) (c.toNat : Int) rfl (by rw [h1']) (by omega) w
theorem num_of (r : Nat) (h0 : 1 ≤ r) (h1 : r < 9218868437227405312) : ∃ F e0 q, Num F e0 q (valD (nth r)) r := by
  obtain ⟨F, e0, q, a, b, c, d, e, f, g, h⟩ := nth_in r h0 h1
  exact ⟨F, e0, q, ⟨a, b, c, d, e, f, g, h⟩⟩
theorem atof_body (neg : Bool) {t A B x : List UInt8} {pt : Bool} {E0 : Int} {M : Nat} {E : Int} {V F e0 q r : Nat} (h : Body t A B x pt E0 M E V) (hN : Num F e0 q V r) (w : World) (hc : RCtx w) :
    Calls Tryz.prog 46 #[.string ⟨(sgn neg ++ t).toArray⟩] w fun e w' => e = .returned (.tuple #[.float .f64 (sg neg r), .int .i64 ((sgn neg ++ t).length : Nat), .nilIface]) ∧ Below w.heap.size w w' := by
  have hM1 := h.m1
  have hv := h.val
  have hsm := h.sm
  have hhi := exp_hi hN hM1 hv
  have hM19 : M < 10000000000000000000 := by clear hv; omega
  have hlo := exp_lo (M := M) (E := E) hN (by clear hv; omega) hv
  exact atof_gen _ neg _ M E (sg neg r) hM1 hlo hhi (special_body neg h) (readFloat_body neg h) (fun w hc => exact_all neg hN hM1 (by clear hv; omega) hv w hc) (fun w hc => parse_digits neg hN hM1 hM19 (by clear hv; omega) hv hlo hhi w hc) w hc
end Go.Proofs.YtnibfebfgdhfgaaGreatDoor
/- RealNear. Conditions: the tables hold what start-up lays. -/
namespace Go.Proofs.YtnibfebfgdhfgaaGreatDoor
open Go.ChangeShapes Go.WideShapes Go.ChangeAt Go.RowKit Go.Sort
open Rf Sh Us

theorem bits_sg (b : Nat) (hb : b < 18446744073709551616) : sg (below b) (b % 9223372036854775808) = b := by
  unfold sg below
  by_cases h : 9223372036854775808 ≤ b
  · rw [decide_eq_true h, if_pos rfl]; omega
  · rw [decide_eq_false h, if_neg (by decide)]; omega
theorem body_word (neg : Bool) {t A B x : List UInt8} {pt : Bool} {E0 : Int} {M : Nat} {E : Int} {V : Nat} (h : Body t A B x pt E0 M E V) : ((⟨(sgn neg ++ t).toArray⟩ : ByteArray).toList == [105, 110, 102]) = false ∧ ((⟨(sgn neg ++ t).toArray⟩ : ByteArray).toList == [45, 105, 110, 102]) = false ∧ ((⟨(sgn neg ++ t).toArray⟩ : ByteArray).toList == [110, 97, 110]) = false := by
  obtain ⟨ht, ha, hane, -, -, -, -, -, -, -, -, -, -, hlen⟩ := h
  rw [Lib.toList_data]
  show ((sgn neg ++ t) == _) = false ∧ ((sgn neg ++ t) == _) = false ∧ ((sgn neg ++ t) == _) = false
  cases A with
  | nil => exact absurd rfl hane
  | cons c l =>
    have hc := ha c (List.mem_cons_self ..)
    unfold Sh.digit at hc
    have hc := of_decide_eq_true hc
    obtain ⟨R, rfl⟩ : ∃ R, t = c :: R := by
      rw [ht]
      cases pt
      · exact ⟨l ++ x, rfl⟩
      · exact ⟨(l ++ 46 :: B) ++ x, rfl⟩
    have h1 : c ≠ 105 := fun e => by subst e; exact absurd hc.2 (by decide)
    have h2 : c ≠ 110 := fun e => by subst e; exact absurd hc.2 (by decide)
    have h3 : c ≠ 45 := fun e => by subst e; exact absurd hc.1 (by decide)
    cases neg with
    | false =>
      refine ⟨beq_eq_false_iff_ne.2 fun e => ?_, beq_eq_false_iff_ne.2 fun e => ?_, beq_eq_false_iff_ne.2 fun e => ?_⟩
      · injection e with e _; exact h1 e
      · injection e with e _; exact h3 e
      · injection e with e _; exact h2 e
    | true =>
      refine ⟨beq_eq_false_iff_ne.2 fun e => ?_, beq_eq_false_iff_ne.2 fun e => ?_, beq_eq_false_iff_ne.2 fun e => ?_⟩
      · injection e with e _; exact absurd e (by decide)
      · injection e with _ e; injection e with e _; exact h1 e
      · injection e with e _; exact absurd e (by decide)
/-- A number's text is that number: real.Parse gives back what real.Text wrote. -/
theorem parse_text (b : Nat) (hb : b < 18446744073709551616) (hn : b % 9223372036854775808 ≤ 9218868437227405312) (w : World) (hc : RCtx w) :
    Calls Tryz.prog 9 #[.string ⟨(sgn (below b) ++ bodyText (b % 9223372036854775808)).toArray⟩] w fun e w' => e = .returned (.tuple #[.float .f64 b, .int .i64 0]) ∧ Below w.heap.size w w' := by
  have hsg := bits_sg b hb
  generalize below b = neg at *
  obtain ⟨r, hr⟩ : ∃ r, b % 9223372036854775808 = r := ⟨_, rfl⟩
  rw [hr] at hn hsg ⊢
  rcases Nat.lt_or_ge r 9218868437227405312 with h1 | h1
  · rcases Nat.eq_zero_or_pos r with h0 | h0
    · subst h0
      rw [body_zero, ← hsg]
      cases neg
      · exact parse_zero w hc
      · exact parse_m0 w hc
    · obtain ⟨A, B, x, pt, E0, M, E, hB⟩ := body_reads r h0 h1
      obtain ⟨F, e0, q, hN⟩ := num_of r h0 h1
      obtain ⟨e1, e2, e3⟩ := body_word neg hB
      have hl : (sgn neg ++ bodyText r).length ≤ 64 := by
        have := hB.len
        rw [List.length_append, Rf.sgn_len]
        cases neg <;> simp <;> omega
      have := realParse_okB _ e1 e2 e3 (by rw [ba_size]; exact hl) _ (ba_size _).symm (sg neg r) w hc (fun W => isDecimal_body neg hB W) (fun W hW => atof_body neg hB hN W hW)
      rw [hsg] at this
      exact this
  · obtain rfl : r = 9218868437227405312 := by omega
    rw [body_inf, ← hsg]
    cases neg
    · exact same_below (realParse_word _ 9218868437227405312 w (.inl ⟨by rw [Lib.toList_data]; rfl, rfl⟩))
    · exact same_below (realParse_word _ 18442240474082181120 w (.inr (.inl ⟨by rw [Lib.toList_data]; rfl, by rw [Lib.toList_data]; rfl, rfl⟩)))
/-- A number's text, whichever number. -/
def textN (b : Nat) : List UInt8 := if 9218868437227405312 < b % 9223372036854775808 then [110, 97, 110] else sgn (below b) ++ bodyText (b % 9223372036854775808)
theorem text_calls (b : Nat) (hb : b < 18446744073709551616) (w : World) (hc : RCtx w) :
    Calls Tryz.prog 7 #[.float .f64 b] w fun e w' => e = .returned (.string ⟨(textN b).toArray⟩) ∧ Below w.heap.size w w' := by
  unfold textN
  by_cases h : 9218868437227405312 < b % 9223372036854775808
  · rw [if_pos h]
    exact same_below (realText_special b hb _ w (.inl ⟨by unfold bitsN; rw [if_pos h], rfl⟩))
  · rw [if_neg h]
    exact realText_all b hb (by omega) w hc.toTCtx
theorem back_calls (b : Nat) (hb : b < 18446744073709551616) (w : World) (hc : RCtx w) :
    Calls Tryz.prog 9 #[.string ⟨(textN b).toArray⟩] w fun e w' => e = .returned (.tuple #[.float .f64 (bitsN b), .int .i64 0]) ∧ Below w.heap.size w w' := by
  unfold textN bitsN
  by_cases h : 9218868437227405312 < b % 9223372036854775808
  · rw [if_pos h, if_pos h]
    exact same_below (realParse_word _ 9221120237041090561 w (.inr (.inr ⟨by rw [Lib.toList_data]; rfl, by rw [Lib.toList_data]; rfl, by rw [Lib.toList_data]; rfl, rfl⟩)))
  · rw [if_neg h, if_neg h]
    exact parse_text b hb (by omega) w hc
theorem textN_len (b : Nat) : (textN b).length ≤ 25 := by
  unfold textN
  by_cases h : 9218868437227405312 < b % 9223372036854775808
  · rw [if_pos h]; decide
  · rw [if_neg h, List.length_append, Rf.sgn_len]
    have hb : (bodyText (b % 9223372036854775808)).length ≤ 24 := by
      rcases Nat.lt_or_ge (b % 9223372036854775808) 9218868437227405312 with h1 | h1
      · rcases Nat.eq_zero_or_pos (b % 9223372036854775808) with h0 | h0
        · rw [h0, body_zero]; decide
        · obtain ⟨A, B, x, pt, E0, M, E, hB⟩ := body_reads _ h0 h1
          exact hB.len
      · rw [show b % 9223372036854775808 = 9218868437227405312 by omega, body_inf]; decide
    split <;> omega
theorem bitsN_idem (b : Nat) : bitsN (bitsN b) = bitsN b := by
  unfold bitsN
  by_cases h : 9218868437227405312 < b % 9223372036854775808
  · rw [if_pos h]; decide
  · rw [if_neg h, if_neg h]
theorem textN_bits (b : Nat) : textN (bitsN b) = textN b := by
  unfold bitsN
  by_cases h : 9218868437227405312 < b % 9223372036854775808
  · rw [if_pos h]
    unfold textN
    rw [if_pos h, if_pos (by decide)]
  · rw [if_neg h]
theorem body_digit (r : Nat) (h : r ≤ 9218868437227405312) : ∃ c l, bodyText r = c :: l ∧ c ≠ 45 ∧ c ≠ 110 := by
  rcases Nat.lt_or_ge r 9218868437227405312 with h1 | h1
  · obtain ⟨c, l, e, hd⟩ := body_head r h1
    unfold Sh.digit at hd
    have hd := of_decide_eq_true hd
    refine ⟨c, l, e, fun q => ?_, fun q => ?_⟩
    · subst q; exact absurd hd.1 (by decide)
    · subst q; exact absurd hd.2 (by decide)
  · obtain rfl : r = 9218868437227405312 := by omega
    exact ⟨105, [110, 102], body_inf, by decide, by decide⟩
theorem sgn_body_inj {a b : Nat} (ha : a < 18446744073709551616) (hb : b < 18446744073709551616) (na : a % 9223372036854775808 ≤ 9218868437227405312) (nb : b % 9223372036854775808 ≤ 9218868437227405312) (h : sgn (below a) ++ bodyText (a % 9223372036854775808) = sgn (below b) ++ bodyText (b % 9223372036854775808)) : a = b := by
  obtain ⟨c, l, ea, ca, -⟩ := body_digit _ na
  obtain ⟨d, m, eb, cb, -⟩ := body_digit _ nb
  have sa := bits_sg a ha
  have sb := bits_sg b hb
  generalize below a = x at *
  generalize below b = y at *
  have hxy : x = y := by
    cases x <;> cases y
    · rfl
    · rw [ea] at h
      injection h with h _
      exact absurd h ca
    · rw [eb] at h
      injection h with h _
      exact absurd h.symm cb
    · rfl
  subst hxy
  have := body_inj na nb (List.append_cancel_left h)
  rw [this] at sa
  rw [← sa, sb]
theorem textN_inj {a b : Nat} (ha : a < 18446744073709551616) (hb : b < 18446744073709551616) : textN a = textN b ↔ bitsN a = bitsN b := by
  constructor
  · intro h
    unfold textN at h
    unfold bitsN
    by_cases h1 : 9218868437227405312 < a % 9223372036854775808
    · by_cases h2 : 9218868437227405312 < b % 9223372036854775808
      · rw [if_pos h1, if_pos h2]
      · rw [if_pos h1, if_neg h2] at h
        obtain ⟨d, m, eb, cb, db⟩ := body_digit (b % 9223372036854775808) (by omega)
        rw [eb] at h
        cases hy : below b
        · rw [hy] at h
          injection h with h _
          exact absurd h.symm db
        · rw [hy] at h
          injection h with h _
          exact absurd h (by decide)
    · by_cases h2 : 9218868437227405312 < b % 9223372036854775808
      · rw [if_neg h1, if_pos h2] at h
        obtain ⟨d, m, eb, cb, db⟩ := body_digit (a % 9223372036854775808) (by omega)
        rw [eb] at h
        cases hy : below a
        · rw [hy] at h
          injection h with h _
          exact absurd h db
        · rw [hy] at h
          injection h with h _
          exact absurd h (by decide)
      · rw [if_neg h1, if_neg h2] at h
        rw [if_neg h1, if_neg h2]
        exact sgn_body_inj ha hb (by omega) (by omega) h
  · intro h
    rw [← textN_bits a, ← textN_bits b, h]
set_option maxHeartbeats 2000000 in
set_option maxRecDepth 100000 in
theorem realNear (a : Nat) (ha : a < 18446744073709551616) (w : World) (hc : RCtx w) :
    Calls Tryz.prog 3 #[.int .u64 a] w fun e w' => e = .returned (.bool true) ∧ Below w.heap.size w w' := by
  have H6 := Lib.hid (alive_calls w hc)
  have Hc := Lib.hid hc
  obtain ⟨c, hcx, hcl⟩ : ∃ c : Nat, bits .xor .u64 (a : Int) 1 = (c : Int) ∧ c < 18446744073709551616 := by
    refine ⟨a ^^^ 1, ?_, Nat.xor_lt_two_pow (n := 64) ha (by decide)⟩
    have h1 : (BitVec.ofInt 64 (a : Int)).toNat = a := by
      rw [BitVec.ofInt_natCast, BitVec.toNat_ofNat]; exact Nat.mod_eq_of_lt ha
    have h2 : (BitVec.ofInt 64 1).toNat = 1 := by decide
    show IntKind.u64.wrap ((BitVec.ofInt 64 (a : Int) ^^^ BitVec.ofInt 64 1).toNat : Int) = _
    rw [BitVec.toNat_xor, h1, h2, IntKind.wrap_u64]
    have := Nat.xor_lt_two_pow (n := 64) (x := a) (y := 1) ha (by decide)
    omega
  have hta : ((a : Int)).toNat = a := by omega
  have htc : ((c : Int)).toNat = c := by omega
  have T1 := Lib.hid (fun W hW => text_calls a ha W hW)
  have T2 := Lib.hid (fun W hW => text_calls c hcl W hW)
  have P1 := Lib.hid (fun W hW => back_calls a ha W hW)
  have hbl : bitsN a < 18446744073709551616 := by unfold bitsN; split <;> omega
  have S1 := same_calls a c ha hcl
  have S2 := same_calls (bitsN a) a hbl ha
  have T3 := fun W hW => text_calls (bitsN a) hbl W hW
  rw [textN_bits] at T3
  rw [bitsN_idem, decide_eq_true rfl] at S2
  have hlen := textN_len a
  have hlen2 : (⟨(textN a).toArray⟩ : ByteArray).size ≤ 25 := by rw [ba_size]; exact hlen
  have hinj : ((⟨(textN a).toArray⟩ : ByteArray).toList == (⟨(textN c).toArray⟩ : ByteArray).toList) = decide (bitsN a = bitsN c) := by
    rw [Lib.toList_data, Lib.toList_data]
    show (textN a == textN c) = _
    by_cases h : bitsN a = bitsN c
    · rw [decide_eq_true h, (textN_inj ha hcl).2 h, beq_self_eq_true]
    · rw [decide_eq_false h]
      exact beq_eq_false_iff_ne.2 fun e => h ((textN_inj ha hcl).1 e)
  generalize (⟨(textN a).toArray⟩ : ByteArray) = s at *
  generalize (⟨(textN c).toArray⟩ : ByteArray) = u at *
  generalize bitsN a = a2 at *
  generalize decide (a2 = bitsN c) = sm at *
  have S1 := Lib.hid S1
  have S2 := Lib.hid S2
  have T3 := Lib.hid T3
  have hl3 : decide ((25 : Int) < (s.size : Int)) = false := decide_eq_false (by omega)
  clear hlen hc
  go_enter Tryz.func3, Tryz.ntmps3
  go_wp2_with fail
  refine H6.out.mono ?_; rintro en w1 ⟨rfl, hb1⟩
  have Hc1 := Lib.hid (Hc.out.below hb1)
  have HB1 := Lib.hid hb1
  clear hb1 H6
  go_wp2_with fail
  refine (T1.out _ Hc1.out).mono ?_; rintro en w2 ⟨rfl, hb2⟩
  have Hc2 := Lib.hid (Hc1.out.below hb2)
  have HB2 := Lib.hid (bstep HB1.out hb2)
  clear hb2
  go_wp2_with fail
  refine (T2.out _ Hc2.out).mono ?_; rintro en w3 ⟨rfl, hb3⟩
  have Hc3 := Lib.hid (Hc2.out.below hb3)
  have HB3 := Lib.hid (bstep HB2.out hb3)
  clear hb3
  go_wp2_with fail
  refine (S1.out _).mono ?_; rintro en w' ⟨rfl, rfl⟩
  have hx : ((s.toList == u.toList) != sm) = false := by rw [hinj]; cases sm <;> rfl
  have hx2 : (!((s.toList == u.toList) == sm)) = false := by rw [hinj]; cases sm <;> rfl
  go_wp2_with fail
  refine (P1.out _ Hc3.out).mono ?_; rintro en w4 ⟨rfl, hb4⟩
  have Hc4 := Lib.hid (Hc3.out.below hb4)
  have HB4 := Lib.hid (bstep HB3.out hb4)
  clear hb4
  go_wp2_with fail
  refine (S2.out _).mono ?_; rintro en w' ⟨rfl, rfl⟩
  go_wp2_with fail
  refine (T3.out _ Hc4.out).mono ?_; rintro en w5 ⟨rfl, hb5⟩
  have HB5 := Lib.hid (bstep HB4.out hb5)
  clear hb5
  have hself : (s.toList == s.toList) = true := beq_self_eq_true _
  go_wp2_with fail
  go_ret
  exact ⟨rfl, HB5.out⟩
end Go.Proofs.YtnibfebfgdhfgaaGreatDoor
