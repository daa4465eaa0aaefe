/- Package real's Add, Same and Order over the translated program. -/
import Derived.Test.YtnibfebfgdhfgaaGreatDoorFla
import Derived.Laws.FloatArith
import Derived.Test.YtnibfebfgdhfgaaGreatDoorFle
import Derived.Test.YtnibfebfgdhfgaaGreatDoorFe6
import Derived.Laws.FloatBits
namespace Go.Proofs.YtnibfebfgdhfgaaGreatDoor
open Go.ChangeShapes Go.WideShapes Go.ChangeAt Go.RowKit Go.Sort

theorem bitsN_lt (b : Nat) (hb : b < 18446744073709551616) : bitsN b < 18446744073709551616 := by
  unfold bitsN
  split <;> omega

def cmpN (x y : Nat) : Int := if x < y then -1 else if y < x then 1 else 0
/-- Bits that rise as the numbers do. -/
def rankN (b : Nat) : Nat := if 9223372036854775808 ≤ bitsN b then 18446744073709551615 - bitsN b else bitsN b + 9223372036854775808
theorem and_hi (x : Nat) (hx : x < 18446744073709551616) : bits .and .u64 (x : Int) 9223372036854775808 = if 9223372036854775808 ≤ x then 9223372036854775808 else 0 := by
  have h := bits_and_u64_nat x 9223372036854775808 hx (by omega)
  have e : x &&& 9223372036854775808 = if 9223372036854775808 ≤ x then 9223372036854775808 else 0 := by
    rw [show (9223372036854775808 : Nat) = 2 ^ 63 from by decide]
    refine Nat.eq_of_testBit_eq fun i => ?_
    rw [Nat.testBit_and, Nat.testBit_two_pow]
    by_cases hi : 63 = i
    · subst hi
      rw [Nat.testBit_eq_decide_div_mod_eq]
      by_cases hx2 : 2 ^ 63 ≤ x
      · rw [if_pos hx2, show x / 2 ^ 63 % 2 = 1 by omega, Nat.testBit_two_pow]; rfl
      · rw [if_neg hx2, show x / 2 ^ 63 % 2 = 0 by omega]; rfl
    · rw [decide_eq_false hi, Bool.and_false]
      by_cases hx2 : 2 ^ 63 ≤ x
      · rw [if_pos hx2, Nat.testBit_two_pow, decide_eq_false hi]
      · rw [if_neg hx2, Nat.zero_testBit]
  rw [e] at h
  split <;> simp_all
theorem or_hi (x : Nat) (hx : x < 9223372036854775808) : bits .or .u64 (x : Int) 9223372036854775808 = (x : Int) + 9223372036854775808 := by
  have h := bits_or_u64_nat x 9223372036854775808 (by omega) (by omega)
  have := Nat.two_pow_add_eq_or_of_lt (i := 63) (b := x) (by omega) 1
  rw [Nat.or_comm, show (9223372036854775808 : Nat) = 2 ^ 63 * 1 from by decide, ← this] at h
  rw [show ((2 ^ 63 * 1 : Nat) : Int) = 9223372036854775808 by decide] at h
  rw [h]
  omega

theorem xor_max (x : Nat) (hx : x < 18446744073709551616) : bits .xor .u64 IntKind.u64.max (x : Int) = ((18446744073709551615 - x : Nat) : Int) := by
  have h1 : (BitVec.ofInt 64 (x : Int)).toNat = x := by
    rw [BitVec.ofInt_natCast, BitVec.toNat_ofNat]; exact Nat.mod_eq_of_lt (by omega)
  have h2 : BitVec.ofInt 64 IntKind.u64.max = BitVec.allOnes 64 := by decide
  show IntKind.u64.wrap ((BitVec.ofInt 64 IntKind.u64.max ^^^ BitVec.ofInt 64 (x : Int)).toNat : Int) = _
  rw [h2, BitVec.allOnes_xor, BitVec.toNat_not, h1, IntKind.wrap_u64]
  omega

/-- Order on bits. -/
def orderN (a b : Nat) : Int := cmpN (rankN a) (rankN b)
/-- Add where the sum is a number (told by the model's own sum). -/
theorem add_ok (a b r : Nat) (hr : floatBits .add .f64 a b = some r) (hlt : r < 18446744073709551616) (hi : (bits .and .u64 (bitsN r : Int) 9218868437227405312 == 9218868437227405312) = false) (w : World) :
    Calls Tryz.prog 11 #[.float .f64 a, .float .f64 b] w fun e w' => e = .returned (.tuple #[.float .f64 r, .int .i64 0]) ∧ w = w' := by
  have hrun := run_float_arith (P := Tryz.prog) w .add 24 .f64 _ _ _ hr
  have HB := Lib.hid (realBits_calls r hlt)
  clear hr
  go_enter Tryz.func11, Tryz.ntmps11
  go_wp2_with fail
  refine (HB.out _).mono ?_; rintro en w' ⟨rfl, rfl⟩
  go_wp2_with fail
  go_ret2
  exact ⟨rfl, rfl⟩
theorem add_err (a b r : Nat) (hr : floatBits .add .f64 a b = some r) (hlt : r < 18446744073709551616) (hi : (bits .and .u64 (bitsN r : Int) 9218868437227405312 == 9218868437227405312) = true) (w : World) :
    Calls Tryz.prog 11 #[.float .f64 a, .float .f64 b] w fun e w' => e = .returned (.tuple #[.float .f64 0, .int .i64 21]) ∧ w = w' := by
  have hrun := run_float_arith (P := Tryz.prog) w .add 24 .f64 _ _ _ hr
  have HB := Lib.hid (realBits_calls r hlt)
  clear hr
  go_enter Tryz.func11, Tryz.ntmps11
  go_wp2_with fail
  refine (HB.out _).mono ?_; rintro en w' ⟨rfl, rfl⟩
  go_wp2_with fail
  go_ret2
  exact ⟨rfl, rfl⟩
end Go.Proofs.YtnibfebfgdhfgaaGreatDoor
/- The chapter's example, which each law of layer 2 asks first: 0.1 and 0.2 together, over the translated program. Conditions: the tables hold what start-up lays. -/
namespace Go.Proofs.YtnibfebfgdhfgaaGreatDoor
open Go.ChangeShapes Go.WideShapes Go.ChangeAt Go.RowKit Go.Sort

theorem dp_alive : shortDP 1021 900719925474100 = (30000000000000004, -17) := by decide +kernel
theorem nd_alive : Lib.nDigits 30000000000000004 = 17 := Lib.nDigits_unique 16 _ (by decide) (by decide)
theorem dec_alive : Lib.decDigits 30000000000000004 = [51, 48, 48, 48, 48, 48, 48, 48, 48, 48, 48, 48, 48, 48, 48, 48, 52] := by
  rw [Lib.decDigits_eq, nd_alive]
  decide +kernel
theorem fix_alive : fixText false 30000000000000004 (-17) = [48, 46, 51, 48, 48, 48, 48, 48, 48, 48, 48, 48, 48, 48, 48, 48, 48, 48, 52] := by
  unfold fixText digs
  rw [nd_alive, dec_alive]
  decide +kernel
theorem bits3_alive : Bits3 4599075939470750516 false 1021 900719925474100 := ⟨by decide, by decide, by decide +kernel, by decide +kernel, by decide, by decide⟩
theorem text_alive (w : World) (hc : RCtx w) :
    Calls Tryz.prog 7 #[.float .f64 4599075939470750516] w fun e w' => e = .returned (.string ⟨([48, 46, 51, 48, 48, 48, 48, 48, 48, 48, 48, 48, 48, 48, 48, 48, 48, 48, 52] : List UInt8).toArray⟩) ∧ Below w.heap.size w w' := by
  have h := realText_fix 4599075939470750516 false 1021 900719925474100 bits3_alive (by decide) (by decide) (by rw [dp_alive]; decide) (by decide) (by decide) (by decide +kernel) (by decide +kernel) w hc.toTCtx
  rw [dp_alive, fix_alive] at h
  exact h
theorem q1 : floatBits .quo .f64 (floatOfInt .f64 ((1 : Nat) : Int)) 4621819117588971520 = some 4591870180066957722 := by decide +kernel
theorem q2 : floatBits .quo .f64 (floatOfInt .f64 ((2 : Nat) : Int)) 4621819117588971520 = some 4596373779694328218 := by decide +kernel
theorem sum_alive : floatBits .add .f64 4591870180066957722 4596373779694328218 = some 4599075939470750516 := by decide +kernel
theorem parse_01 (w : World) (hc : RCtx w) :
    Calls Tryz.prog 9 #[.string ⟨#[48, 46, 49]⟩] w fun e w' => e = .returned (.tuple #[.float .f64 4591870180066957722, .int .i64 0]) ∧ Below w.heap.size w w' :=
  realParse_ok ⟨#[48, 46, 49]⟩ (by decide +kernel) (by decide +kernel) (by decide +kernel) (by decide) 3 (by decide) _ w hc (fun W => isDecimal_0d _ 1 (by decide) (by decide) (by decide) (by decide) (by decide) (by decide) (by decide) W)
    (fun W hW => atof_tenth _ 1 (by decide) (by decide) (by decide) (by decide) (by decide) (by decide) (by decide) _ q1 W hW)
theorem parse_02 (w : World) (hc : RCtx w) :
    Calls Tryz.prog 9 #[.string ⟨#[48, 46, 50]⟩] w fun e w' => e = .returned (.tuple #[.float .f64 4596373779694328218, .int .i64 0]) ∧ Below w.heap.size w w' :=
  realParse_ok ⟨#[48, 46, 50]⟩ (by decide +kernel) (by decide +kernel) (by decide +kernel) (by decide) 3 (by decide) _ w hc (fun W => isDecimal_0d _ 2 (by decide) (by decide) (by decide) (by decide) (by decide) (by decide) (by decide) W)
    (fun W hW => atof_tenth _ 2 (by decide) (by decide) (by decide) (by decide) (by decide) (by decide) (by decide) _ q2 W hW)
theorem add_alive (w : World) :
    Calls Tryz.prog 11 #[.float .f64 4591870180066957722, .float .f64 4596373779694328218] w fun e w' => e = .returned (.tuple #[.float .f64 4599075939470750516, .int .i64 0]) ∧ w = w' :=
  add_ok _ _ _ sum_alive (by decide) (by decide +kernel) w

set_option maxRecDepth 100000 in
theorem alive_calls (w : World) (hc : RCtx w) : Calls Tryz.prog 5 #[] w fun e w' => e = .returned (.bool true) ∧ Below w.heap.size w w' := by
  have H1 := Lib.hid parse_01
  have H2 := Lib.hid parse_02
  have H3 := Lib.hid add_alive
  have H4 := Lib.hid text_alive
  have Hc := Lib.hid hc
  clear hc
  go_enter Tryz.func5, Tryz.ntmps5
  go_wp2_with fail
  refine (H1.out _ Hc.out).mono ?_; rintro en w1 ⟨rfl, hb1⟩
  have Hc1 := Lib.hid (Hc.out.below hb1)
  go_wp2_with fail
  refine (H2.out _ Hc1.out).mono ?_; rintro en w2 ⟨rfl, hb2⟩
  have Hc2 := Lib.hid (Hc1.out.below hb2)
  have hb12 := bstep hb1 hb2
  clear hb1 hb2
  go_wp2_with fail
  refine (H3.out _).mono ?_; rintro en w' ⟨rfl, rfl⟩
  go_wp2_with fail
  refine (H4.out _ Hc2.out).mono ?_; rintro en w5 ⟨rfl, hb5⟩
  go_wp2_with fail
  go_ret
  exact ⟨rfl, bstep hb12 hb5⟩
end Go.Proofs.YtnibfebfgdhfgaaGreatDoor
/- The walk of the law RealNames: true. Conditions: the tables hold what start-up lays. -/
namespace Go.Proofs.YtnibfebfgdhfgaaGreatDoor
open Go.ChangeShapes Go.WideShapes Go.ChangeAt Go.RowKit Go.Sort

theorem parse_minf (w : World) : Calls Tryz.prog 9 #[.string ⟨#[45, 105, 110, 102]⟩] w fun e w' => e = .returned (.tuple #[.float .f64 18442240474082181120, .int .i64 0]) ∧ w = w' :=
  realParse_word _ _ w (.inr (.inl ⟨by decide +kernel, by decide +kernel, rfl⟩))
theorem parse_nan (w : World) : Calls Tryz.prog 9 #[.string ⟨#[110, 97, 110]⟩] w fun e w' => e = .returned (.tuple #[.float .f64 9221120237041090561, .int .i64 0]) ∧ w = w' :=
  realParse_word _ _ w (.inr (.inr ⟨by decide +kernel, by decide +kernel, by decide +kernel, rfl⟩))
theorem parse_m0 (w : World) (hc : RCtx w) :
    Calls Tryz.prog 9 #[.string ⟨#[45, 48]⟩] w fun e w' => e = .returned (.tuple #[.float .f64 9223372036854775808, .int .i64 0]) ∧ Below w.heap.size w w' :=
  realParse_ok ⟨#[45, 48]⟩ (by decide +kernel) (by decide +kernel) (by decide +kernel) (by decide) 2 (by decide) _ w hc (fun W => isDecimal_m0 _ (by decide) (by decide) (by decide) (by decide) W)
    (fun W hW => atof_m0 _ (by decide) (by decide) (by decide) (by decide) W hW)
theorem parse_1e (w : World) (hc : RCtx w) :
    Calls Tryz.prog 9 #[.string ⟨#[49, 101, 57, 57, 57]⟩] w fun e w' => e = .returned (.tuple #[.float .f64 0, .int .i64 21]) ∧ Below w.heap.size w w' :=
  realParse_rng ⟨#[49, 101, 57, 57, 57]⟩ (by decide +kernel) (by decide +kernel) (by decide +kernel) (by decide) 5 (by decide) _ w hc (fun W => isDecimal_1e _ (by decide) (by decide) (by decide) (by decide) (by decide) (by decide) (by decide) W)
    (fun W hW => atof_1e _ (by decide) (by decide) (by decide) (by decide) (by decide) (by decide) (by decide) W hW)
theorem sum_inf : floatBits .add .f64 18442240474082181120 4607182418800017408 = some 18442240474082181120 := by decide +kernel
theorem add_inf (w : World) : Calls Tryz.prog 11 #[.float .f64 18442240474082181120, .float .f64 4607182418800017408] w fun e w' => e = .returned (.tuple #[.float .f64 0, .int .i64 21]) ∧ w = w' :=
  add_err _ _ _ sum_inf (by decide) (by decide +kernel) w
theorem text_minf (w : World) : Calls Tryz.prog 7 #[.float .f64 18442240474082181120] w fun e w' => e = .returned (.string ⟨([45, 105, 110, 102] : List UInt8).toArray⟩) ∧ w = w' :=
  realText_special _ (by decide) _ w (.inr (.inr ⟨by decide, rfl⟩))
theorem text_nan (w : World) : Calls Tryz.prog 7 #[.float .f64 9221120237041090561] w fun e w' => e = .returned (.string ⟨([110, 97, 110] : List UInt8).toArray⟩) ∧ w = w' :=
  realText_special _ (by decide) _ w (.inl ⟨by decide, rfl⟩)
theorem text_m0 (w : World) : Calls Tryz.prog 7 #[.float .f64 9223372036854775808] w fun e w' => e = .returned (.string ⟨([45, 48] : List UInt8).toArray⟩) ∧ Below w.heap.size w w' :=
  realText_zero _ true (.inr ⟨rfl, rfl⟩) w
theorem bits_nan (w : World) : Calls Tryz.prog 12 #[.float .f64 9221120237041090561] w fun e w' => e = .returned (.int .u64 9221120237041090561) ∧ w = w' := realBits_calls _ (by decide) w
theorem same_nan (w : World) : Calls Tryz.prog 8 #[.float .f64 9221120237041090561, .float .f64 9221120237041090561] w fun e w' => e = .returned (.bool true) ∧ w = w' := same_calls _ _ (by decide) (by decide) w
theorem same_m0 (w : World) : Calls Tryz.prog 8 #[.float .f64 9223372036854775808, .float .f64 0] w fun e w' => e = .returned (.bool false) ∧ w = w' := same_calls _ _ (by decide) (by decide) w
theorem ret_true {p : Bool} (h : p = true) : Ending.returned (.bool p) = .returned (.bool true) := by rw [h]
theorem orderN_anti (a b : Nat) : orderN a b = -orderN b a := by
  unfold orderN cmpN
  by_cases h : rankN a < rankN b
  · rw [if_pos h, if_neg (by omega), if_pos h]
  · rw [if_neg h]
    by_cases k : rankN b < rankN a
    · rw [if_pos k, if_pos k]; rfl
    · rw [if_neg k, if_neg k, if_neg h]; rfl
theorem orderN_self (a : Nat) : orderN a a = 0 := by
  unfold orderN cmpN
  rw [if_neg (by omega), if_neg (by omega)]
theorem rankN_inj {a b : Nat} (ha : bitsN a < 18446744073709551616) (hb : bitsN b < 18446744073709551616) : rankN a = rankN b ↔ bitsN a = bitsN b := by
  unfold rankN
  split <;> split <;> omega
theorem orderN_zero (a b : Nat) (ha : a < 18446744073709551616) (hb : b < 18446744073709551616) : orderN a b = 0 ↔ bitsN a = bitsN b := by
  rw [← rankN_inj (bitsN_lt a ha) (bitsN_lt b hb)]
  unfold orderN cmpN
  split
  · constructor
    · intro h; cases h
    · intro h; omega
  · split
    · constructor
      · intro h; cases h
      · intro h; omega
    · constructor
      · intro _; omega
      · intro _; rfl
theorem orderN_le (a b : Nat) : orderN a b ≤ 0 ↔ rankN a ≤ rankN b := by
  unfold orderN cmpN
  split
  · constructor <;> intro _ <;> omega
  · split
    · constructor <;> intro _ <;> omega
    · constructor <;> intro _ <;> omega
theorem orderN_bd (a b : Nat) : -1 ≤ orderN a b ∧ orderN a b ≤ 1 := by
  unfold orderN cmpN
  split
  · omega
  · split <;> omega

end Go.Proofs.YtnibfebfgdhfgaaGreatDoor
/- The walk of the law RealSums: true, at any two numbers' bits. Conditions: the tables hold what start-up lays. -/
namespace Go.Proofs.YtnibfebfgdhfgaaGreatDoor
open Go.ChangeShapes Go.WideShapes Go.ChangeAt Go.RowKit Go.Sort

/-- The bits that the tape chooses for a sum that is none. -/
def nanOf (a b : Nat) (w : World) : Nat := Question.cut (.nanBits .f64 a b) (w.tape w.drawn (.nanBits .f64 a b))
theorem nanOf_lt (a b : Nat) (w : World) : nanOf a b w < 18446744073709551616 ∧ 9218868437227405312 < nanOf a b w % 9223372036854775808 := by
  unfold nanOf Question.cut
  simp only []
  generalize w.tape w.drawn (.nanBits .f64 a b) = t
  have h1 : t / 2 % (2 ^ 52 - 1) < 2 ^ 52 - 1 := Nat.mod_lt _ (by decide)
  generalize t / 2 % (2 ^ 52 - 1) = x at *
  rcases (show t % 2 = 0 ∨ t % 2 = 1 by omega) with h2 | h2
  · rw [h2]; omega
  · rw [h2]; omega
theorem run_add_nan (a b : Nat) (h : floatBits .add .f64 a b = none) (w : World) :
    (binOp .add 24 (.float .f64 a) (.float .f64 b)).run Tryz.prog w = .ok (.float .f64 (nanOf a b w)) w.drew := by
  unfold floatBits at h
  simp only at h
  simp [binOp, Op.floatArith, h, choose, nanOf]
  rfl

/-- What Add answers of a sum: the number, and the error. -/
def addFin (r : Nat) : Nat × Int := if 9218868437227405312 ≤ r % 9223372036854775808 then (0, 21) else (r, 0)
theorem and_mid (y : Nat) : y &&& (2 ^ 52 * (2 ^ 11 - 1)) = 2 ^ 52 * (y / 2 ^ 52 % 2 ^ 11) := by
  refine Nat.eq_of_testBit_eq fun i => ?_
  rw [Nat.testBit_and, Nat.testBit_two_pow_mul, Nat.testBit_two_pow_mul, Nat.testBit_two_pow_sub_one, Nat.testBit_mod_two_pow, Nat.testBit_div_two_pow]
  by_cases h : 52 ≤ i
  · rw [decide_eq_true h, show i - 52 + 52 = i by omega, Bool.true_and, Bool.true_and, Bool.and_comm]
  · rw [decide_eq_false h]; simp
theorem and_inf (x : Nat) (hx : x < 18446744073709551616) : (bits .and .u64 (bitsN x : Int) 9218868437227405312 == 9218868437227405312) = decide (9218868437227405312 ≤ x % 9223372036854775808) := by
  have h := bits_and_u64_nat (bitsN x) 9218868437227405312 (bitsN_lt x hx) (by omega)
  rw [show (9218868437227405312 : Nat) = 2 ^ 52 * (2 ^ 11 - 1) from by decide, and_mid] at h
  rw [show (9218868437227405312 : Int) = ((2 ^ 52 * (2 ^ 11 - 1) : Nat) : Int) from by decide, h]
  have hb := bitsN_lt x hx
  have key : (2 ^ 52 * (bitsN x / 2 ^ 52 % 2 ^ 11) = 2 ^ 52 * (2 ^ 11 - 1)) ↔ 9218868437227405312 ≤ x % 9223372036854775808 := by
    unfold bitsN at *
    split <;> omega
  by_cases c : 9218868437227405312 ≤ x % 9223372036854775808
  · rw [decide_eq_true c, beq_iff_eq, key.2 c]
  · rw [decide_eq_false c, beq_eq_false_iff_ne]
    intro e
    exact c (key.1 (Int.ofNat.inj e))

set_option maxRecDepth 100000 in
theorem realAdd_calls (a b r : Nat) (hr : floatBits .add .f64 a b = some r) (w : World) :
    Calls Tryz.prog 11 #[.float .f64 a, .float .f64 b] w fun e w' => e = .returned (.tuple #[.float .f64 (addFin r).1, .int .i64 (addFin r).2]) ∧ w = w' := by
  have hlt : r < 18446744073709551616 := by
    have := FloatKind.f64.format.add_lt hr
    exact this
  have hi := and_inf r hlt
  unfold addFin
  by_cases c : 9218868437227405312 ≤ r % 9223372036854775808
  · rw [decide_eq_true c] at hi
    rw [if_pos c]
    exact add_err a b r hr hlt hi w
  · rw [decide_eq_false c] at hi
    rw [if_neg c]
    exact add_ok a b r hr hlt hi w
set_option maxRecDepth 100000 in
theorem realAdd_nan (a b : Nat) (hr : floatBits .add .f64 a b = none) (w : World) :
    Calls Tryz.prog 11 #[.float .f64 a, .float .f64 b] w fun e w' => e = .returned (.tuple #[.float .f64 0, .int .i64 21]) ∧ ∃ n, w' = w.drewN n := by
  have hrun := run_add_nan a b hr w
  obtain ⟨hlt, hn⟩ := nanOf_lt a b w
  generalize nanOf a b w = r at *
  have hi := and_inf r hlt
  rw [decide_eq_true (by omega)] at hi
  have HB := Lib.hid (realBits_calls r hlt)
  clear hr
  go_enter Tryz.func11, Tryz.ntmps11
  go_wp2_with fail
  refine (HB.out _).mono ?_; rintro en w' ⟨rfl, rfl⟩
  go_wp2_with fail
  go_ret2
  exact ⟨rfl, 1, rfl⟩

theorem bits_three (r : Nat) (hlt : r < 18446744073709551616) (c : 9218868437227405312 ≤ r % 9223372036854775808) : bitsN r = 9221120237041090561 ∨ bitsN r = 9218868437227405312 ∨ bitsN r = 18442240474082181120 := by
  unfold bitsN
  split <;> omega
theorem bits_none (r : Nat) (c : ¬ 9218868437227405312 ≤ r % 9223372036854775808) : bitsN r ≠ 9221120237041090561 ∧ bitsN r ≠ 9218868437227405312 ∧ bitsN r ≠ 18442240474082181120 := by
  unfold bitsN
  rw [if_neg (by omega)]
  omega

theorem order_num (a b : Nat) (ha : a < 18446744073709551616) (hb : b < 18446744073709551616) (na : a % 9223372036854775808 ≤ 9218868437227405312) (nb : b % 9223372036854775808 ≤ 9218868437227405312) (hab : a ≠ b) :
    orderN a b = if Ord.sr a < Ord.sr b ∨ (Ord.sr a = Ord.sr b ∧ 9223372036854775808 ≤ a) then -1 else 1 := by
  have h1 : rankN a < rankN b ↔ (Ord.sr a < Ord.sr b ∨ (Ord.sr a = Ord.sr b ∧ 9223372036854775808 ≤ a)) := by
    unfold rankN
    rw [bitsN_num a na, bitsN_num b nb]
    unfold Ord.sr Ord.neg Ord.rung
    by_cases sa : 9223372036854775808 ≤ a <;> by_cases sb : 9223372036854775808 ≤ b <;> simp only [sa, sb, decide_true, decide_false, if_true, if_false, Bool.false_eq_true, and_true, and_false, or_false] <;> omega
  have h2 : rankN b < rankN a ↔ ¬ (Ord.sr a < Ord.sr b ∨ (Ord.sr a = Ord.sr b ∧ 9223372036854775808 ≤ a)) := by
    unfold rankN
    rw [bitsN_num a na, bitsN_num b nb]
    unfold Ord.sr Ord.neg Ord.rung
    by_cases sa : 9223372036854775808 ≤ a <;> by_cases sb : 9223372036854775808 ≤ b <;> simp only [sa, sb, decide_true, decide_false, if_true, if_false, Bool.false_eq_true, and_true, and_false, or_false] <;> omega
  unfold orderN cmpN
  by_cases P : Ord.sr a < Ord.sr b ∨ (Ord.sr a = Ord.sr b ∧ 9223372036854775808 ≤ a)
  · rw [if_pos (h1.2 P), if_pos P]
  · rw [if_neg (fun h => P (h1.1 h)), if_pos (h2.2 P), if_neg P]
theorem order_nan1 (a b : Nat) (hb : b < 18446744073709551616) (hx : bitsN a = 9221120237041090561) (hne : bitsN a ≠ bitsN b) : orderN a b = 1 := by
  have r1 : rankN a = 18444492273895866369 := by unfold rankN; rw [hx]; decide
  have nb : b % 9223372036854775808 ≤ 9218868437227405312 := by
    rcases Nat.lt_or_ge 9218868437227405312 (b % 9223372036854775808) with h | h
    · exact absurd (by rw [hx]; unfold bitsN; rw [if_pos h]) hne
    · exact h
  have r2 : rankN b < 18444492273895866369 := by
    unfold rankN
    rw [bitsN_num b nb]
    split <;> omega
  unfold orderN cmpN
  rw [r1, if_neg (by omega), if_pos r2]
theorem order_nan2 (a b : Nat) (ha : a < 18446744073709551616) (hx : bitsN b = 9221120237041090561) (hne : bitsN a ≠ bitsN b) : orderN a b = -1 := by
  rw [orderN_anti, order_nan1 b a ha hx (fun h => hne h.symm)]

end Go.Proofs.YtnibfebfgdhfgaaGreatDoor
/- Numbers and their bits, with the other sign: what RealSigns asks of the order. No condition. -/
namespace Go.Proofs.YtnibfebfgdhfgaaGreatDoor
open Go.ChangeShapes Go.WideShapes Go.ChangeAt Go.RowKit Go.Sort

/-- The number with the other sign. -/
def flip (b : Nat) : Nat := if 9223372036854775808 ≤ b then b - 9223372036854775808 else b + 9223372036854775808
theorem xor_hi (x : Nat) (hx : x < 18446744073709551616) : bits .xor .u64 (x : Int) 9223372036854775808 = (flip x : Int) := by
  have h1 : (BitVec.ofInt 64 (x : Int)).toNat = x := by
    rw [BitVec.ofInt_natCast, BitVec.toNat_ofNat]; exact Nat.mod_eq_of_lt (by omega)
  have h2 : (BitVec.ofInt 64 9223372036854775808).toNat = 2 ^ 63 := by decide
  show IntKind.u64.wrap ((BitVec.ofInt 64 (x : Int) ^^^ BitVec.ofInt 64 9223372036854775808).toNat : Int) = _
  rw [BitVec.toNat_xor, h1, h2, IntKind.wrap_u64]
  have e : x ^^^ 2 ^ 63 = flip x := by
    unfold flip
    refine Nat.eq_of_testBit_eq fun i => ?_
    rw [Nat.testBit_xor, Nat.testBit_two_pow]
    by_cases hi : 63 = i
    · subst hi
      by_cases hs : 9223372036854775808 ≤ x
      · rw [if_pos hs]
        simp only [Nat.testBit_eq_decide_div_mod_eq]
        rw [decide_eq_true (show x / 2 ^ 63 % 2 = 1 by omega), decide_eq_false (show ¬(x - 9223372036854775808) / 2 ^ 63 % 2 = 1 by omega)]
        rfl
      · rw [if_neg hs]
        simp only [Nat.testBit_eq_decide_div_mod_eq]
        rw [decide_eq_false (show ¬x / 2 ^ 63 % 2 = 1 by omega), decide_eq_true (show (x + 9223372036854775808) / 2 ^ 63 % 2 = 1 by omega)]
        rfl
    · rw [decide_eq_false hi, Bool.xor_false]
      have key : ∀ y, y < 2 ^ 63 → (y + 2 ^ 63).testBit i = y.testBit i := by
        intro y hy
        have := Nat.two_pow_add_eq_or_of_lt (i := 63) (b := y) hy 1
        rw [Nat.mul_one] at this
        rw [Nat.add_comm, this, Nat.testBit_or, Nat.testBit_two_pow, decide_eq_false hi, Bool.false_or]
      by_cases hs : 9223372036854775808 ≤ x
      · rw [if_pos hs]
        have := key (x - 9223372036854775808) (by omega)
        rw [show x - 9223372036854775808 + 2 ^ 63 = x by omega] at this
        exact this
      · rw [if_neg hs]
        exact (key x (by omega)).symm
  rw [e]
  unfold flip
  split <;> omega
theorem flip_lt (b : Nat) (hb : b < 18446744073709551616) : flip b < 18446744073709551616 := by unfold flip; split <;> omega
theorem flip_rung (b : Nat) (hb : b < 18446744073709551616) : flip b % 9223372036854775808 = b % 9223372036854775808 := by unfold flip; split <;> omega
theorem flip_below (b : Nat) (hb : b < 18446744073709551616) : below (flip b) = !below b := by
  unfold below flip
  by_cases h : 9223372036854775808 ≤ b
  · rw [if_pos h, decide_eq_true h, decide_eq_false (by omega)]; rfl
  · rw [if_neg h, decide_eq_false h, decide_eq_true (by omega)]; rfl
theorem flip_rank (b : Nat) (hb : b < 18446744073709551616) (hn : b % 9223372036854775808 ≤ 9218868437227405312) : rankN (flip b) = 18446744073709551615 - rankN b := by
  have h1 := bitsN_num b hn
  have h2 := bitsN_num (flip b) (by rw [flip_rung b hb]; exact hn)
  unfold rankN
  rw [h1, h2]
  unfold flip
  by_cases h : 9223372036854775808 ≤ b
  · rw [if_pos h, if_pos h, if_neg (by omega)]; omega
  · rw [if_neg h, if_neg h, if_pos (by omega)]
theorem flip_order (a b : Nat) (ha : a < 18446744073709551616) (hb : b < 18446744073709551616) (na : a % 9223372036854775808 ≤ 9218868437227405312) (nb : b % 9223372036854775808 ≤ 9218868437227405312) : orderN (flip a) (flip b) = -orderN a b := by
  rw [← orderN_anti b a]
  unfold orderN
  rw [flip_rank a ha na, flip_rank b hb nb]
  have la : rankN a < 18446744073709551616 := by unfold rankN; rw [bitsN_num a na]; split <;> omega
  have lb : rankN b < 18446744073709551616 := by unfold rankN; rw [bitsN_num b nb]; split <;> omega
  generalize rankN a = x at *
  generalize rankN b = y at *
  unfold cmpN
  by_cases h1 : x < y
  · rw [if_neg (show ¬18446744073709551615 - x < 18446744073709551615 - y by omega), if_pos (show 18446744073709551615 - y < 18446744073709551615 - x by omega), if_neg (show ¬y < x by omega), if_pos h1]
  · by_cases h2 : y < x
    · rw [if_pos (show 18446744073709551615 - x < 18446744073709551615 - y by omega), if_pos h2]
    · rw [if_neg (show ¬18446744073709551615 - x < 18446744073709551615 - y by omega), if_neg (show ¬18446744073709551615 - y < 18446744073709551615 - x by omega), if_neg h2, if_neg h1]

end Go.Proofs.YtnibfebfgdhfgaaGreatDoor
