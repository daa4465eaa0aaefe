/- Parse at whole numbers' texts: from the digits to the number. Conditions: the tables hold what start-up lays. -/
import Derived.Test.YtnibfebfgdhfgaaGreatDoorFw6
import Derived.Test.YtnibfebfgdhfgaaGreatDoorFlN
import Derived.Test.YtnibfebfgdhfgaaGreatDoorFlc
namespace Go.Proofs.YtnibfebfgdhfgaaGreatDoor
open Go.ChangeShapes Go.WideShapes Go.ChangeAt Go.RowKit Go.Sort

set_option maxRecDepth 100000 in
theorem special_neg (s : ByteArray) (h0 : 2 ≤ s.size) (h1 : s.size ≤ 100) (c : Int) (c0 : (s[0].toNat : Int) = 45) (c1 : (s[1].toNat : Int) = c) (hc2 : c ≤ 57) (w : World) :
    Calls Tryz.prog 71 #[.string s] w fun e w' => e = .returned (.tuple #[.float .f64 0, .int .i64 0, .bool false]) ∧ w = w' := by
  have hne : ¬ s = ByteArray.empty := by intro h; rw [h] at h0; simp at h0
  have hne2 : decide (s = ByteArray.empty) = false := by simp [hne]
  have hxs : (s.extract 1 s.size).size = s.size - 1 := by simp
  have hx0 : ((s.extract 1 s.size)[0]'(by omega)).toNat = s[1].toNat := by rw [ByteArray.getElem_extract]
  have hp := prefix_zero (s.extract 1 s.size) ⟨#[105, 110, 102, 105, 110, 105, 116, 121]⟩ (by omega) (by omega) (by decide) (by decide) c 105 (by rw [hx0]; exact c1) rfl (by omega) (by omega)
  have HP := Lib.hid hp
  clear hp hxs hx0 c1
  go_enter Tryz.func71, Tryz.ntmps71
  go_wp2_with fail
  refine (HP.out _).mono ?_; rintro en w' ⟨rfl, rfl⟩
  go_wp2_with fail
  go_ret3
  exact ⟨rfl, rfl⟩

set_option maxRecDepth 100000 in
theorem exact_pos (d : Nat) (hd9 : d < 4503599627370496) (w : World) (hc : RCtx w) :
    Calls Tryz.prog 82 #[.int .u64 d, .int .i64 0, .bool false] w fun e w' => e = .returned (.tuple #[.float .f64 (floatOfInt .f64 (d : Int)), .bool true]) ∧ w = w' := by
  have hi := hc.info
  have hd0 : ((d : Int) / 4503599627370496 != 0) = false := by rw [bne_eq_false_iff_eq]; omega
  have H := Lib.hid hc
  clear hc
  go_enter Tryz.func82, Tryz.ntmps82
  go_wp2_with fail
  go_ret2
  exact ⟨rfl, rfl⟩
@[go_sem] theorem unary_neg_float (b : Nat) : Op.unary .neg (.float .f64 b) = pure (.float .f64 (Op.negFloat .f64 b)) := rfl
set_option maxRecDepth 100000 in
theorem exact_neg (d : Nat) (hd9 : d < 4503599627370496) (w : World) (hc : RCtx w) :
    Calls Tryz.prog 82 #[.int .u64 d, .int .i64 0, .bool true] w fun e w' => e = .returned (.tuple #[.float .f64 (Op.negFloat .f64 (floatOfInt .f64 (d : Int))), .bool true]) ∧ w = w' := by
  have hi := hc.info
  have hd0 : ((d : Int) / 4503599627370496 != 0) = false := by rw [bne_eq_false_iff_eq]; omega
  have H := Lib.hid hc
  clear hc
  go_enter Tryz.func82, Tryz.ntmps82
  go_wp2_with fail
  go_ret2
  exact ⟨rfl, rfl⟩
theorem neg_flip (x : Nat) (hx : x < 18446744073709551616) : Op.negFloat .f64 x = flip x := by
  have h := xor_hi x hx
  have h1 : (BitVec.ofInt 64 (x : Int)).toNat = x := by
    rw [BitVec.ofInt_natCast, BitVec.toNat_ofNat]; exact Nat.mod_eq_of_lt (by omega)
  have h2 : (BitVec.ofInt 64 9223372036854775808).toNat = 2 ^ 63 := by decide
  have h3 : IntKind.u64.wrap ((BitVec.ofInt 64 (x : Int) ^^^ BitVec.ofInt 64 9223372036854775808).toNat : Int) = (flip x : Int) := h
  rw [BitVec.toNat_xor, h1, h2, IntKind.wrap_u64] at h3
  have h4 : x ^^^ 2 ^ 63 < 2 ^ 64 := Nat.xor_lt_two_pow (by omega) (by omega)
  show x ^^^ 2 ^ 63 = flip x
  generalize x ^^^ 2 ^ 63 = q at *
  omega

set_option maxHeartbeats 1000000 in
set_option maxRecDepth 100000 in
/-- atof64 at digits of a number below 2 to the 52. -/
theorem atof_pos (s : ByteArray) (k V : Nat) (hk : s.size = k) (h0 : 1 ≤ k) (h1 : k ≤ 17) (hd : ∀ j, 0 ≤ j → j < k → isDig s j) (h48 : ∀ hh : 0 < s.size, 48 < s[0].toNat) (hv : 1 ≤ V) (hV : valAt s 0 (k - 0) = V) (hV2 : V < 4503599627370496) (w : World) (hc : RCtx w) :
    Calls Tryz.prog 46 #[.string s] w fun e w' => e = .returned (.tuple #[.float .f64 (floatOfInt .f64 (V : Int)), .int .i64 k, .nilIface]) ∧ w = w' := by
  have ho := hc.opt
  obtain ⟨x, y, z⟩ := hd 0 (by omega) (by omega)
  have H1 := Lib.hid (special_none s (by omega) s[0].toNat rfl (by omega) (by omega))
  have H2 := readFloat_pos s k hk h0 h1 hd h48 (by rw [hV]; exact hv)
  rw [hV] at H2
  have H2 := Lib.hid H2
  have H3 := Lib.hid (exact_pos V hV2 w hc)
  have H4 := Lib.hid bool2u
  have k0 : ((V : Int) == 0) = false := by rw [beq_eq_false_iff_ne]; omega
  have ef : b2n false = 0 := rfl
  clear hd h48 hV hk hc x y z
  go_enter Tryz.func46, Tryz.ntmps46
  go_wp2_with fail
  refine (H1.out _).mono ?_; rintro en w' ⟨rfl, rfl⟩
  go_wp2_with fail
  refine (H2.out _).mono ?_; rintro en w' ⟨rfl, rfl⟩
  go_wp2_with fail
  refine (H4.out _ _).mono ?_; rintro en w' ⟨rfl, rfl⟩
  go_wp2_with fail
  refine H3.out.mono ?_; rintro en w' ⟨rfl, rfl⟩
  go_wp2_with fail
  go_ret3
  exact ⟨rfl, rfl⟩
set_option maxHeartbeats 1000000 in
set_option maxRecDepth 100000 in
theorem atof_neg (s : ByteArray) (k V : Nat) (hk : s.size = k) (h0 : 2 ≤ k) (h1 : k ≤ 17) (c0 : ∀ hh : 0 < s.size, (s[0].toNat : Int) = 45) (hd : ∀ j, 1 ≤ j → j < k → isDig s j) (h48 : ∀ hh : 1 < s.size, 48 < s[1].toNat) (hv : 1 ≤ V) (hV : valAt s 1 (k - 1) = V) (hV2 : V < 4503599627370496) (w : World) (hc : RCtx w) :
    Calls Tryz.prog 46 #[.string s] w fun e w' => e = .returned (.tuple #[.float .f64 (Op.negFloat .f64 (floatOfInt .f64 (V : Int))), .int .i64 k, .nilIface]) ∧ w = w' := by
  have ho := hc.opt
  obtain ⟨x, y, z⟩ := hd 1 (by omega) (by omega)
  have H1 := Lib.hid (special_neg s (by omega) (by omega) s[1].toNat (c0 (by omega)) rfl (by omega))
  have H2 := readFloat_neg s k hk h0 h1 c0 hd h48 (by rw [hV]; exact hv)
  rw [hV] at H2
  have H2 := Lib.hid H2
  have H3 := Lib.hid (exact_neg V hV2 w hc)
  have H4 := Lib.hid bool2u
  have k0 : ((V : Int) == 0) = false := by rw [beq_eq_false_iff_ne]; omega
  have et : b2n true = 1 := rfl
  clear hd h48 hV hk hc x y z c0
  go_enter Tryz.func46, Tryz.ntmps46
  go_wp2_with fail
  refine (H1.out _).mono ?_; rintro en w' ⟨rfl, rfl⟩
  go_wp2_with fail
  refine (H2.out _).mono ?_; rintro en w' ⟨rfl, rfl⟩
  go_wp2_with fail
  refine (H4.out _ _).mono ?_; rintro en w' ⟨rfl, rfl⟩
  go_wp2_with fail
  refine H3.out.mono ?_; rintro en w' ⟨rfl, rfl⟩
  go_wp2_with fail
  go_ret3
  exact ⟨rfl, rfl⟩
end Go.Proofs.YtnibfebfgdhfgaaGreatDoor
/- Parse at whole numbers' texts: from 2 to the 52 on. Conditions: the tables hold what start-up lays. -/
namespace Go.Proofs.YtnibfebfgdhfgaaGreatDoor
open Go.ChangeShapes Go.WideShapes Go.ChangeAt Go.RowKit Go.Sort

theorem and52 (m : Nat) (hm : m < 18446744073709551616) (h : m / 4503599627370496 % 2 = 1) : bits .and .u64 (m : Int) 4503599627370496 = 4503599627370496 := by
  have e := bits_and_u64_nat m 4503599627370496 hm (by omega)
  have e2 : m &&& 4503599627370496 = 4503599627370496 := by
    rw [show (4503599627370496 : Nat) = 2 ^ 52 from by decide]
    refine Nat.eq_of_testBit_eq fun i => ?_
    rw [Nat.testBit_and, Nat.testBit_two_pow]
    by_cases hi : 52 = i
    · subst hi
      rw [Nat.testBit_eq_decide_div_mod_eq, decide_eq_true (show m / 2 ^ 52 % 2 = 1 from h)]
      rfl
    · rw [decide_eq_false hi, Bool.and_false]
  rw [e2] at e
  exact e
theorem mask52 (i : Nat) (h : i < 64) : (18446744073709551615 - 4503599627370496 : Nat).testBit i = decide (i ≠ 52) := by
  have : ∀ j : Fin 64, (18446744073709551615 - 4503599627370496 : Nat).testBit j.val = decide (j.val ≠ 52) := by decide +kernel
  exact this ⟨i, h⟩
theorem top_or (fr : Nat) (hf : fr < 4503599627370496) : 4503599627370496 + fr = 2 ^ 52 ||| fr := by
  have := Nat.two_pow_add_eq_or_of_lt (i := 52) (b := fr) (by omega) 1
  rw [Nat.mul_one] at this
  exact this
theorem sign_or (x : Nat) (hx : x < 9223372036854775808) : 9223372036854775808 + x = 2 ^ 63 ||| x := by
  have := Nat.two_pow_add_eq_or_of_lt (i := 63) (b := x) (by omega) 1
  rw [Nat.mul_one] at this
  exact this
theorem drop52 (S fr : Nat) (hS : S = 0 ∨ S = 9223372036854775808) (hf : fr < 4503599627370496) : (S + (4503599627370496 + fr)) &&& (18446744073709551615 - 4503599627370496) = S + fr := by
  refine Nat.eq_of_testBit_eq fun i => ?_
  rw [Nat.testBit_and]
  by_cases hi : i < 64
  · rw [mask52 i hi]
    by_cases h5 : i = 52
    · subst h5
      rw [Nat.testBit_eq_decide_div_mod_eq, Nat.testBit_eq_decide_div_mod_eq]
      rw [decide_eq_false (show ¬(52 ≠ 52) by omega), Bool.and_false, decide_eq_false]
      rcases hS with rfl | rfl <;> omega
    · rw [decide_eq_true h5, Bool.and_true]
      rcases hS with rfl | rfl
      · rw [Nat.zero_add, Nat.zero_add, top_or fr hf, Nat.testBit_or, Nat.testBit_two_pow, decide_eq_false (show ¬52 = i by omega), Bool.false_or]
      · rw [sign_or _ (by omega), sign_or _ (by omega), top_or fr hf, Nat.testBit_or, Nat.testBit_or, Nat.testBit_or, Nat.testBit_two_pow, Nat.testBit_two_pow, decide_eq_false (show ¬52 = i by omega), Bool.false_or]
  · have h1 : (S + fr) < 2 ^ i := Nat.lt_of_lt_of_le (show S + fr < 2 ^ 64 by rcases hS with rfl | rfl <;> omega) (Nat.pow_le_pow_right (by omega) (by omega))
    have h2 : (18446744073709551615 - 4503599627370496 : Nat) < 2 ^ i := Nat.lt_of_lt_of_le (show _ < 2 ^ 64 by decide) (Nat.pow_le_pow_right (by omega) (by omega))
    rw [Nat.testBit_lt_two_pow h1, Nat.testBit_lt_two_pow h2, Bool.and_false]
theorem andnot52 (S fr : Nat) (hS : S = 0 ∨ S = 9223372036854775808) (hf : fr < 4503599627370496) : bits .andNot .u64 ((S + (4503599627370496 + fr) : Nat) : Int) 4503599627370496 = ((S + fr : Nat) : Int) := by
  have hlt : S + (4503599627370496 + fr) < 18446744073709551616 := by rcases hS with rfl | rfl <;> omega
  have h1 : (BitVec.ofInt 64 ((S + (4503599627370496 + fr) : Nat) : Int)).toNat = S + (4503599627370496 + fr) := by
    rw [BitVec.ofInt_natCast, BitVec.toNat_ofNat]; exact Nat.mod_eq_of_lt hlt
  have h2 : (~~~ (BitVec.ofInt 64 4503599627370496)).toNat = 18446744073709551615 - 4503599627370496 := by decide
  show IntKind.u64.wrap ((BitVec.ofInt 64 ((S + (4503599627370496 + fr) : Nat) : Int) &&& ~~~ (BitVec.ofInt 64 4503599627370496)).toNat : Int) = _
  rw [BitVec.toNat_and, h1, h2, drop52 S fr hS hf, IntKind.wrap_u64]
  omega
theorem orexp (S fr : Nat) (hS : S = 0 ∨ S = 9223372036854775808) (hf : fr < 4503599627370496) : bits .or .u64 ((S + fr : Nat) : Int) 4841369599423283200 = ((S + (4841369599423283200 + fr) : Nat) : Int) := by
  have h := bits_or_u64_nat (S + fr) 4841369599423283200 (by rcases hS with rfl | rfl <;> omega) (by omega)
  have k := Nat.two_pow_add_eq_or_of_lt (i := 52) (b := fr) (by omega) 1075
  rw [show (2 : Nat) ^ 52 * 1075 = 4841369599423283200 from by decide] at k
  have e : (S + fr) ||| 4841369599423283200 = S + (4841369599423283200 + fr) := by
    rcases hS with rfl | rfl
    · rw [Nat.zero_add, Nat.zero_add, Nat.or_comm, k]
    · rw [sign_or _ (by omega), sign_or _ (by omega), k, Nat.or_assoc, Nat.or_comm fr]
  rw [e] at h
  exact h

set_option maxRecDepth 100000 in
/-- pack64 of a whole number from 2 to the 52 on. -/
theorem pack_whole (S fr : Nat) (hS : S = 0 ∨ S = 9223372036854775808) (hf : fr < 4503599627370496) (w : World) :
    Calls Tryz.prog 96 #[.int .u64 (S + (4503599627370496 + fr) : Nat), .int .i64 0] w fun e w' => e = .returned (.tuple #[.float .f64 (S + (4841369599423283200 + fr)), .nilIface]) ∧ w = w' := by
  have a := and52 (S + (4503599627370496 + fr)) (by rcases hS with rfl | rfl <;> omega) (by rcases hS with rfl | rfl <;> omega)
  have b := andnot52 S fr hS hf
  have c := orexp S fr hS hf
  have hlt : S + (4841369599423283200 + fr) < 18446744073709551616 := by rcases hS with rfl | rfl <;> omega
  have hlt2 : S + (4503599627370496 + fr) < 18446744073709551616 := by rcases hS with rfl | rfl <;> omega
  have hlt3 : S + fr < 18446744073709551616 := by omega
  generalize S + (4503599627370496 + fr) = m at *
  generalize S + (4841369599423283200 + fr) = r at *
  generalize S + fr = q at *
  have t : ((r : Int)).toNat = r := by omega
  go_enter Tryz.func96, Tryz.ntmps96
  go_wp2_with fail
  go_ret2
  exact ⟨rfl, rfl⟩
end Go.Proofs.YtnibfebfgdhfgaaGreatDoor
/- parseFloat64 at whole numbers from 2 to the 52 on. Conditions: the tables hold what start-up lays. -/
namespace Go.Proofs.YtnibfebfgdhfgaaGreatDoor
open Go.ChangeShapes Go.WideShapes Go.ChangeAt Go.RowKit Go.Sort

set_option maxHeartbeats 1000000 in
set_option maxRecDepth 100000 in
theorem parse_core (S d sd r U : Nat) (hU : U = 4 * d) (hD0 : 4503599627370496 ≤ d) (hD1 : d < 9007199254740992)
    (hSd : bits .or .u64 (S : Int) (d : Int) = (sd : Int))
    (HK : ∀ w, Calls Tryz.prog 96 #[.int .u64 sd, .int .i64 0] w fun e w' => e = .returned (.tuple #[.float .f64 r, .nilIface]) ∧ w = w') (w : World) (hc : RCtx w) :
    Calls Tryz.prog 83 #[.int .u64 d, .int .i64 0, .int .u64 S] w fun e w' => e = .returned (.tuple #[.float .f64 r, .nilIface]) ∧ Below w.heap.size w w' := by
  have h1 := len53 d hD0 hD1
  have h2 := log2Pow10 0 (by omega) (by omega)
  rw [show l2p10 0 = 0 from rfl] at h2
  have h3 := prescale_calls (-11) 0 348 (by omega) rfl (by omega) (by omega) 0 (by omega) (by omega) w.heap.size 90 (.int .u64 0) (.int .u64 0) (.int .i64 0) w rfl hc.toTCtx
  simp only [row_one] at h3
  have h4 := fun W => uscale_calls (d * 2048) 9223372036854775808 0 8 (by omega) (by omega) (by omega) (by omega) w.heap.size W
  rw [us_one (d * 2048) (by omega) (by omega), show d * 2048 / 512 = U by omega] at h4
  have h5 := unmin_calls 9007199254740992 (by omega) (by omega)
  have h7 := uround U (by omega)
  rw [show (U + 1 + U / 4 % 2) / 4 = d by omega] at h7
  have ea : bits .and .u64 (U : Int) 1 = 0 := by
    have h := bits_and_u64_nat U 1 (by omega) (by omega)
    rw [Nat.and_one_is_mod, show U % 2 = 0 by omega] at h
    exact h
  have eo : bits .or .u64 (U : Int) 0 = (U : Int) := by
    have h := bits_or_u64_nat U 0 (by omega) (by omega)
    rw [Nat.or_zero] at h
    exact h
  have hmin : min (1074 : Int) 0 = 0 := by decide
  have ef : b2n false = 0 := rfl
  have hU2 : U ≤ 36028797018963964 := by omega
  have hdec : decide ((36028797018963966 : Int) ≤ (U : Int)) = false := decide_eq_false (by omega)
  clear hU
  have H1 := Lib.hid h1
  have H2 := Lib.hid h2
  have H3 := Lib.hid h3
  have H4 := Lib.hid h4
  have H5 := Lib.hid h5
  have H6 := Lib.hid bool2i
  have H7 := Lib.hid h7
  have HK := Lib.hid HK
  clear h1 h2 h3 h4 h5 h7 hc
  go_enter Tryz.func83, Tryz.ntmps83
  go_wp2_with fail
  refine (H1.out _).mono ?_; rintro en w' ⟨rfl, rfl⟩
  go_wp2_with fail
  refine (H2.out _).mono ?_; rintro en w' ⟨rfl, rfl⟩
  go_wp2_with fail
  refine H3.out.mono ?_; rintro en w' ⟨rfl, rfl⟩
  go_wp2_with fail
  refine (H4.out _ (cell3 _ _ _ _ _ 0 _ rfl) (cell3 _ _ _ _ _ 1 _ rfl) (cell3 _ _ _ _ _ 2 _ rfl)).mono ?_; rintro en w' ⟨rfl, n1, rfl⟩
  go_wp2_with fail
  refine (H5.out _).mono ?_; rintro en w' ⟨rfl, rfl⟩
  go_wp2_with fail
  refine (H6.out _ _).mono ?_; rintro en w' ⟨rfl, rfl⟩
  go_wp2_with fail
  refine (H7.out _).mono ?_; rintro en w' ⟨rfl, rfl⟩
  go_wp2_with fail
  refine (HK.out _).mono ?_; rintro en w' ⟨rfl, rfl⟩
  go_wp2_with fail
  go_ret2
  exact ⟨rfl, below_pre _ _ _⟩
end Go.Proofs.YtnibfebfgdhfgaaGreatDoor
/- parseFloat64 at 2 to the 53. Conditions: the tables hold what start-up lays. -/
namespace Go.Proofs.YtnibfebfgdhfgaaGreatDoor
open Go.ChangeShapes Go.WideShapes Go.ChangeAt Go.RowKit Go.Sort

set_option maxRecDepth 100000 in
theorem pack53_pos (w : World) :
    Calls Tryz.prog 96 #[.int .u64 4503599627370496, .int .i64 1] w fun e w' => e = .returned (.tuple #[.float .f64 4845873199050653696, .nilIface]) ∧ w = w' := by
  have a : bits .and .u64 4503599627370496 4503599627370496 = 4503599627370496 := by decide
  have b : bits .andNot .u64 4503599627370496 4503599627370496 = 0 := by decide
  have c : bits .or .u64 0 4845873199050653696 = 4845873199050653696 := by decide
  go_enter Tryz.func96, Tryz.ntmps96
  go_wp2_with fail
  go_ret2
  exact ⟨rfl, rfl⟩

set_option maxHeartbeats 1000000 in
set_option maxRecDepth 100000 in
theorem parse53_pos (w : World) (hc : RCtx w) :
    Calls Tryz.prog 83 #[.int .u64 9007199254740992, .int .i64 0, .int .u64 0] w fun e w' => e = .returned (.tuple #[.float .f64 4845873199050653696, .nilIface]) ∧ Below w.heap.size w w' := by
  have h1 : ∀ w : World, Calls Tryz.prog 35 #[.int .u64 9007199254740992] w fun e w' => e = .returned (.int .i64 54) ∧ w = w' := by
    intro w
    have h := Any.bits_Len64 Tryz.lays129 9007199254740992 w (by omega) (by omega)
    rw [show Lib.bitLen ((9007199254740992 : Int)).toNat = 54 by decide] at h
    exact h.mono fun _ _ ⟨a, b⟩ => ⟨a, b.symm⟩
  have h2 := log2Pow10 0 (by omega) (by omega)
  rw [show l2p10 0 = 0 from rfl] at h2
  have h3 := prescale_calls (-11) 0 348 (by omega) rfl (by omega) (by omega) 0 (by omega) (by omega) w.heap.size 90 (.int .u64 0) (.int .u64 0) (.int .i64 0) w rfl hc.toTCtx
  simp only [row_one] at h3
  have h4 := fun W => uscale_calls 9223372036854775808 9223372036854775808 0 8 (by omega) (by omega) (by omega) (by omega) w.heap.size W
  rw [us_one 9223372036854775808 (by omega) (by omega), show 9223372036854775808 / 512 = 18014398509481984 by decide] at h4
  have h5 := unmin_calls 9007199254740992 (by omega) (by omega)
  have h7 := uround 18014398509481984 (by omega)
  rw [show (18014398509481984 + 1 + 18014398509481984 / 4 % 2) / 4 = 4503599627370496 by decide] at h7
  have ea : bits .and .u64 18014398509481984 1 = 0 := by decide
  have eo : bits .or .u64 18014398509481984 0 = 18014398509481984 := by decide
  have eS : bits .or .u64 0 4503599627370496 = 4503599627370496 := by decide
  have hmin : min (1074 : Int) (-1) = -1 := by decide
  have ef : b2n false = 0 := rfl
  have hdec : decide ((36028797018963966 : Int) ≤ 18014398509481984) = false := by decide
  have HK := Lib.hid pack53_pos
  have H1 := Lib.hid h1
  have H2 := Lib.hid h2
  have H3 := Lib.hid h3
  have H4 := Lib.hid h4
  have H5 := Lib.hid h5
  have H6 := Lib.hid bool2i
  have H7 := Lib.hid h7
  clear h1 h2 h3 h4 h5 h7 hc
  go_enter Tryz.func83, Tryz.ntmps83
  go_wp2_with fail
  refine (H1.out _).mono ?_; rintro en w' ⟨rfl, rfl⟩
  go_wp2_with fail
  refine (H2.out _).mono ?_; rintro en w' ⟨rfl, rfl⟩
  go_wp2_with fail
  refine H3.out.mono ?_; rintro en w' ⟨rfl, rfl⟩
  go_wp2_with fail
  refine (H4.out _ (cell3 _ _ _ _ _ 0 _ rfl) (cell3 _ _ _ _ _ 1 _ rfl) (cell3 _ _ _ _ _ 2 _ rfl)).mono ?_; rintro en w' ⟨rfl, n1, rfl⟩
  go_wp2_with fail
  refine (H5.out _).mono ?_; rintro en w' ⟨rfl, rfl⟩
  go_wp2_with fail
  refine (H6.out _ _).mono ?_; rintro en w' ⟨rfl, rfl⟩
  go_wp2_with fail
  refine (H7.out _).mono ?_; rintro en w' ⟨rfl, rfl⟩
  go_wp2_with fail
  refine (HK.out _).mono ?_; rintro en w' ⟨rfl, rfl⟩
  go_wp2_with fail
  go_ret2
  exact ⟨rfl, below_pre _ _ _⟩

set_option maxRecDepth 100000 in
theorem pack53_neg (w : World) :
    Calls Tryz.prog 96 #[.int .u64 9227875636482146304, .int .i64 1] w fun e w' => e = .returned (.tuple #[.float .f64 14069245235905429504, .nilIface]) ∧ w = w' := by
  have a : bits .and .u64 9227875636482146304 4503599627370496 = 4503599627370496 := by decide
  have b : bits .andNot .u64 9227875636482146304 4503599627370496 = 9223372036854775808 := by decide
  have c : bits .or .u64 9223372036854775808 4845873199050653696 = 14069245235905429504 := by decide
  go_enter Tryz.func96, Tryz.ntmps96
  go_wp2_with fail
  go_ret2
  exact ⟨rfl, rfl⟩

set_option maxHeartbeats 1000000 in
set_option maxRecDepth 100000 in
theorem parse53_neg (w : World) (hc : RCtx w) :
    Calls Tryz.prog 83 #[.int .u64 9007199254740992, .int .i64 0, .int .u64 9223372036854775808] w fun e w' => e = .returned (.tuple #[.float .f64 14069245235905429504, .nilIface]) ∧ Below w.heap.size w w' := by
  have h1 : ∀ w : World, Calls Tryz.prog 35 #[.int .u64 9007199254740992] w fun e w' => e = .returned (.int .i64 54) ∧ w = w' := by
    intro w
    have h := Any.bits_Len64 Tryz.lays129 9007199254740992 w (by omega) (by omega)
    rw [show Lib.bitLen ((9007199254740992 : Int)).toNat = 54 by decide] at h
    exact h.mono fun _ _ ⟨a, b⟩ => ⟨a, b.symm⟩
  have h2 := log2Pow10 0 (by omega) (by omega)
  rw [show l2p10 0 = 0 from rfl] at h2
  have h3 := prescale_calls (-11) 0 348 (by omega) rfl (by omega) (by omega) 0 (by omega) (by omega) w.heap.size 90 (.int .u64 0) (.int .u64 0) (.int .i64 0) w rfl hc.toTCtx
  simp only [row_one] at h3
  have h4 := fun W => uscale_calls 9223372036854775808 9223372036854775808 0 8 (by omega) (by omega) (by omega) (by omega) w.heap.size W
  rw [us_one 9223372036854775808 (by omega) (by omega), show 9223372036854775808 / 512 = 18014398509481984 by decide] at h4
  have h5 := unmin_calls 9007199254740992 (by omega) (by omega)
  have h7 := uround 18014398509481984 (by omega)
  rw [show (18014398509481984 + 1 + 18014398509481984 / 4 % 2) / 4 = 4503599627370496 by decide] at h7
  have ea : bits .and .u64 18014398509481984 1 = 0 := by decide
  have eo : bits .or .u64 18014398509481984 0 = 18014398509481984 := by decide
  have eS : bits .or .u64 9223372036854775808 4503599627370496 = 9227875636482146304 := by decide
  have hmin : min (1074 : Int) (-1) = -1 := by decide
  have ef : b2n false = 0 := rfl
  have hdec : decide ((36028797018963966 : Int) ≤ 18014398509481984) = false := by decide
  have HK := Lib.hid pack53_neg
  have H1 := Lib.hid h1
  have H2 := Lib.hid h2
  have H3 := Lib.hid h3
  have H4 := Lib.hid h4
  have H5 := Lib.hid h5
  have H6 := Lib.hid bool2i
  have H7 := Lib.hid h7
  clear h1 h2 h3 h4 h5 h7 hc
  go_enter Tryz.func83, Tryz.ntmps83
  go_wp2_with fail
  refine (H1.out _).mono ?_; rintro en w' ⟨rfl, rfl⟩
  go_wp2_with fail
  refine (H2.out _).mono ?_; rintro en w' ⟨rfl, rfl⟩
  go_wp2_with fail
  refine H3.out.mono ?_; rintro en w' ⟨rfl, rfl⟩
  go_wp2_with fail
  refine (H4.out _ (cell3 _ _ _ _ _ 0 _ rfl) (cell3 _ _ _ _ _ 1 _ rfl) (cell3 _ _ _ _ _ 2 _ rfl)).mono ?_; rintro en w' ⟨rfl, n1, rfl⟩
  go_wp2_with fail
  refine (H5.out _).mono ?_; rintro en w' ⟨rfl, rfl⟩
  go_wp2_with fail
  refine (H6.out _ _).mono ?_; rintro en w' ⟨rfl, rfl⟩
  go_wp2_with fail
  refine (H7.out _).mono ?_; rintro en w' ⟨rfl, rfl⟩
  go_wp2_with fail
  refine (HK.out _).mono ?_; rintro en w' ⟨rfl, rfl⟩
  go_wp2_with fail
  go_ret2
  exact ⟨rfl, below_pre _ _ _⟩
end Go.Proofs.YtnibfebfgdhfgaaGreatDoor
/- atof64 at whole numbers from 2 to the 52 on. Conditions: the tables hold what start-up lays. -/
namespace Go.Proofs.YtnibfebfgdhfgaaGreatDoor
open Go.ChangeShapes Go.WideShapes Go.ChangeAt Go.RowKit Go.Sort

set_option maxRecDepth 100000 in
theorem exact_no (d : Nat) (b : Bool) (hd8 : 4503599627370496 ≤ d) (hd9 : d ≤ 9007199254740992) (w : World) (hc : RCtx w) :
    Calls Tryz.prog 82 #[.int .u64 d, .int .i64 0, .bool b] w fun e w' => e = .returned (.tuple #[.float .f64 0, .bool false]) ∧ w = w' := by
  have hi := hc.info
  have hd0 : ((d : Int) / 4503599627370496 != 0) = true := by rw [bne_iff_ne]; omega
  have H := Lib.hid hc
  clear hc
  go_enter Tryz.func82, Tryz.ntmps82
  go_wp2_with fail
  go_ret2
  exact ⟨rfl, rfl⟩

set_option maxHeartbeats 1000000 in
set_option maxRecDepth 100000 in
/-- atof64 at digits of a number from 2 to the 52 on. -/
theorem atof_bigpos (s : ByteArray) (k V : Nat) (hk : s.size = k) (h0 : 1 ≤ k) (h1 : k ≤ 17) (hd : ∀ j, 0 ≤ j → j < k → isDig s j) (h48 : ∀ hh : 0 < s.size, 48 < s[0].toNat) (hv : 1 ≤ V) (hV : valAt s 0 (k - 0) = V) (hV2 : 4503599627370496 ≤ V) (hV3 : V ≤ 9007199254740992) (r : Nat) (hP : ∀ W, RCtx W → Calls Tryz.prog 83 #[.int .u64 V, .int .i64 0, .int .u64 0] W fun e w' => e = .returned (.tuple #[.float .f64 r, .nilIface]) ∧ Below W.heap.size W w') (w : World) (hc : RCtx w) :
    Calls Tryz.prog 46 #[.string s] w fun e w' => e = .returned (.tuple #[.float .f64 r, .int .i64 k, .nilIface]) ∧ Below w.heap.size w w' := by
  have ho := hc.opt
  obtain ⟨x, y, z⟩ := hd 0 (by omega) (by omega)
  have H1 := Lib.hid (special_none s (by omega) s[0].toNat rfl (by omega) (by omega))
  have H2 := readFloat_pos s k hk h0 h1 hd h48 (by rw [hV]; exact hv)
  rw [hV] at H2
  have H2 := Lib.hid H2
  have H3 := Lib.hid (exact_no V false hV2 hV3 w hc)
  have H5 := Lib.hid (hP w hc)
  have H4 := Lib.hid bool2u
  have k0 : ((V : Int) == 0) = false := by rw [beq_eq_false_iff_ne]; omega
  have ef : b2n false = 0 := rfl
  clear hP hd h48 hV hk hc x y z
  go_enter Tryz.func46, Tryz.ntmps46
  go_wp2_with fail
  refine (H1.out _).mono ?_; rintro en w' ⟨rfl, rfl⟩
  go_wp2_with fail
  refine (H2.out _).mono ?_; rintro en w' ⟨rfl, rfl⟩
  go_wp2_with fail
  refine (H4.out _ _).mono ?_; rintro en w' ⟨rfl, rfl⟩
  go_wp2_with fail
  refine H3.out.mono ?_; rintro en w' ⟨rfl, rfl⟩
  go_wp2_with fail
  refine H5.out.mono ?_; rintro en w' ⟨rfl, hb⟩
  go_wp2_with fail
  go_ret3
  exact ⟨rfl, hb⟩
set_option maxHeartbeats 1000000 in
set_option maxRecDepth 100000 in
theorem atof_bigneg (s : ByteArray) (k V : Nat) (hk : s.size = k) (h0 : 2 ≤ k) (h1 : k ≤ 17) (c0 : ∀ hh : 0 < s.size, (s[0].toNat : Int) = 45) (hd : ∀ j, 1 ≤ j → j < k → isDig s j) (h48 : ∀ hh : 1 < s.size, 48 < s[1].toNat) (hv : 1 ≤ V) (hV : valAt s 1 (k - 1) = V) (hV2 : 4503599627370496 ≤ V) (hV3 : V ≤ 9007199254740992) (r : Nat) (hP : ∀ W, RCtx W → Calls Tryz.prog 83 #[.int .u64 V, .int .i64 0, .int .u64 9223372036854775808] W fun e w' => e = .returned (.tuple #[.float .f64 r, .nilIface]) ∧ Below W.heap.size W w') (w : World) (hc : RCtx w) :
    Calls Tryz.prog 46 #[.string s] w fun e w' => e = .returned (.tuple #[.float .f64 r, .int .i64 k, .nilIface]) ∧ Below w.heap.size w w' := by
  have ho := hc.opt
  obtain ⟨x, y, z⟩ := hd 1 (by omega) (by omega)
  have H1 := Lib.hid (special_neg s (by omega) (by omega) s[1].toNat (c0 (by omega)) rfl (by omega))
  have H2 := readFloat_neg s k hk h0 h1 c0 hd h48 (by rw [hV]; exact hv)
  rw [hV] at H2
  have H2 := Lib.hid H2
  have H3 := Lib.hid (exact_no V true hV2 hV3 w hc)
  have H5 := Lib.hid (hP w hc)
  have H4 := Lib.hid bool2u
  have k0 : ((V : Int) == 0) = false := by rw [beq_eq_false_iff_ne]; omega
  have et : b2n true = 1 := rfl
  clear hP hd h48 hV hk hc x y z c0
  go_enter Tryz.func46, Tryz.ntmps46
  go_wp2_with fail
  refine (H1.out _).mono ?_; rintro en w' ⟨rfl, rfl⟩
  go_wp2_with fail
  refine (H2.out _).mono ?_; rintro en w' ⟨rfl, rfl⟩
  go_wp2_with fail
  refine (H4.out _ _).mono ?_; rintro en w' ⟨rfl, rfl⟩
  go_wp2_with fail
  refine H3.out.mono ?_; rintro en w' ⟨rfl, rfl⟩
  go_wp2_with fail
  refine H5.out.mono ?_; rintro en w' ⟨rfl, hb⟩
  go_wp2_with fail
  go_ret3
  exact ⟨rfl, hb⟩
end Go.Proofs.YtnibfebfgdhfgaaGreatDoor
/- readFloat and atof64 at '0'. Conditions: the tables hold what start-up lays. -/
namespace Go.Proofs.YtnibfebfgdhfgaaGreatDoor
open Go.ChangeShapes Go.WideShapes Go.ChangeAt Go.RowKit Go.Sort

set_option maxHeartbeats 1000000 in
set_option maxRecDepth 100000 in
theorem readFloat_0 (s : ByteArray) (h0 : 1 ≤ s.size) (h1 : s.size ≤ 1) (c0 : (s[0].toNat : Int) = 48) (w : World) :
    Calls Tryz.prog 72 #[.string s] w fun e w' => e = .returned (.tuple #[.int .u64 0, .int .i64 0, .bool false, .bool false, .bool false, .int .i64 1, .bool true]) ∧ w = w' := by
  have hne : ¬ s = ByteArray.empty := by intro h; rw [h] at h0; simp at h0
  have hne2 : decide (s = ByteArray.empty) = false := by simp [hne]
  go_enter Tryz.func72, Tryz.ntmps72
  go_wp2_with fail
  go_step3
  go_wp2_with fail
  go_step3
  go_wp2_with fail
  refine wp_loop_rounds 2 ?_
  rw [rounds_succ]
  go_wp2_with fail
  rw [rounds_succ]
  go_wp2_with fail
  exact bodyPost_ret (v := .tuple #[.int .u64 0, .int .i64 0, .bool false, .bool false, .bool false, .int .i64 1, .bool true]) (by simp [results, Tryz.results72, go_sem]) rfl ⟨rfl, rfl⟩

set_option maxRecDepth 100000 in
theorem atof_0 (s : ByteArray) (h0 : 1 ≤ s.size) (h1 : s.size ≤ 1) (c0 : (s[0].toNat : Int) = 48) (w : World) (hc : RCtx w) :
    Calls Tryz.prog 46 #[.string s] w fun e w' => e = .returned (.tuple #[.float .f64 0, .int .i64 1, .nilIface]) ∧ w = w' := by
  have ho := hc.opt
  have H1 := Lib.hid (special_none s h0 48 c0 (by omega) (by omega))
  have H2 := Lib.hid (readFloat_0 s h0 h1 c0)
  have H4 := Lib.hid bool2u
  have ef : b2n false = 0 := rfl
  have eo : bits .or .u64 0 0 = 0 := by decide
  clear c0 hc
  go_enter Tryz.func46, Tryz.ntmps46
  go_wp2_with fail
  refine (H1.out _).mono ?_; rintro en w' ⟨rfl, rfl⟩
  go_wp2_with fail
  refine (H2.out _).mono ?_; rintro en w' ⟨rfl, rfl⟩
  go_wp2_with fail
  refine (H4.out _ _).mono ?_; rintro en w' ⟨rfl, rfl⟩
  go_wp2_with fail
  go_ret3
  exact ⟨rfl, rfl⟩
end Go.Proofs.YtnibfebfgdhfgaaGreatDoor
/- Package real's Parse where the library's reader makes memory of its own. Conditions: the tables hold what start-up lays. -/
namespace Go.Proofs.YtnibfebfgdhfgaaGreatDoor
open Go.ChangeShapes Go.WideShapes Go.ChangeAt Go.RowKit Go.Sort

theorem iparseB (s : ByteArray) (n : Nat) (hn : n = s.size) (b : Nat) (er : Value) (w : World)
    (h : Calls Tryz.prog 46 #[.string s] w fun e w' => e = .returned (.tuple #[.float .f64 b, .int .i64 n, er]) ∧ Below w.heap.size w w') :
    Calls Tryz.prog 21 #[.string s, .int .i64 64] w fun e w' => e = .returned (.tuple #[.float .f64 b, er]) ∧ Below w.heap.size w w' := by
  have H := Lib.hid h
  have hk : ((n : Int) != (s.size : Int)) = false := by rw [bne_eq_false_iff_eq]; omega
  clear h hn
  have hp : Calls Tryz.prog 25 #[.string s, .int .i64 64] w fun e w' => e = .returned (.tuple #[.float .f64 b, .int .i64 n, er]) ∧ Below w.heap.size w w' := by
    go_enter Tryz.func25, Tryz.ntmps25
    go_wp2_with fail
    refine H.out.mono ?_; rintro en w' ⟨rfl, hb⟩
    go_wp2_with fail
    go_ret3
    exact ⟨rfl, hb⟩
  have HP := Lib.hid hp
  clear hp
  go_enter Tryz.func21, Tryz.ntmps21
  go_wp2_with fail
  refine HP.out.mono ?_; rintro en w' ⟨rfl, hb⟩
  go_wp2_with fail
  go_ret2
  exact ⟨rfl, hb⟩
theorem parseFloat_okB (s : ByteArray) (n : Nat) (hn : n = s.size) (b : Nat) (w : World)
    (h : Calls Tryz.prog 46 #[.string s] w fun e w' => e = .returned (.tuple #[.float .f64 b, .int .i64 n, .nilIface]) ∧ Below w.heap.size w w') :
    Calls Tryz.prog 16 #[.string s, .int .i64 64] w fun e w' => e = .returned (.tuple #[.float .f64 b, .nilIface]) ∧ Below w.heap.size w w' := by
  have HP := Lib.hid (iparseB s n hn b .nilIface w h)
  clear h hn
  go_enter Tryz.func16, Tryz.ntmps16
  go_wp2_with fail
  refine HP.out.mono ?_; rintro en w' ⟨rfl, hb⟩
  go_wp2_with fail
  go_ret2
  exact ⟨rfl, hb⟩
set_option maxRecDepth 100000 in
/-- real.Parse at a text that is decimal, and no number's own word. -/
theorem realParse_okB (s : ByteArray) (e1 : (s.toList == [105, 110, 102]) = false) (e2 : (s.toList == [45, 105, 110, 102]) = false) (e3 : (s.toList == [110, 97, 110]) = false) (hs : s.size ≤ 64) (n : Nat) (hn : n = s.size) (b : Nat) (w : World) (hc : RCtx w)
    (hd : ∀ W, Calls Tryz.prog 15 #[.string s] W fun e w' => e = .returned (.bool true) ∧ ∃ n, w' = W.drewN n)
    (h : ∀ W, RCtx W → Calls Tryz.prog 46 #[.string s] W fun e w' => e = .returned (.tuple #[.float .f64 b, .int .i64 n, .nilIface]) ∧ Below W.heap.size W w') :
    Calls Tryz.prog 9 #[.string s] w fun e w' => e = .returned (.tuple #[.float .f64 b, .int .i64 0]) ∧ Below w.heap.size w w' := by
  have HD := Lib.hid hd
  have HP := Lib.hid (fun W hW => parseFloat_okB s n hn b W (h W hW))
  have Hc := Lib.hid hc
  clear hd h hn hc
  go_enter Tryz.func9, Tryz.ntmps9
  go_wp2_with fail
  refine (HD.out _).mono ?_; rintro en w' ⟨rfl, n1, rfl⟩
  go_wp2_with fail
  refine (HP.out _ (Hc.out.below (below_drewN _ _))).mono ?_; rintro en w' ⟨rfl, hb⟩
  go_wp2_with fail
  go_ret2
  exact ⟨rfl, bstep (below_drewN w n1) hb⟩
theorem same_below {P : Program} {f : FuncId} {args : Array Value} {w : World} {v : Value} (h : Calls P f args w fun e w' => e = .returned v ∧ w = w') : Calls P f args w fun e w' => e = .returned v ∧ Below w.heap.size w w' :=
  h.mono fun _ _ ⟨a, b⟩ => ⟨a, by subst b; exact Below.refl _ _⟩
end Go.Proofs.YtnibfebfgdhfgaaGreatDoor
/- Package real's Parse and Text at whole numbers up to 2 to the 53. Conditions: the tables hold what start-up lays. -/
namespace Go.Proofs.YtnibfebfgdhfgaaGreatDoor
open Go.ChangeShapes Go.WideShapes Go.ChangeAt Go.RowKit Go.Sort

theorem dec_dig (u : Nat) : ∀ c ∈ Lib.decDigits u, 48 ≤ c.toNat ∧ c.toNat ≤ 57 := by
  induction u using Nat.strongRecOn with
  | _ u ih =>
    rw [Lib.decDigits]
    have d : ∀ k : Fin 10, 48 ≤ (UInt8.ofNat (48 + k.val)).toNat ∧ (UInt8.ofNat (48 + k.val)).toNat ≤ 57 := by decide
    by_cases h : u < 10
    · rw [dif_pos h]
      intro c hc
      rw [List.mem_singleton.1 hc]
      exact d ⟨u, h⟩
    · rw [dif_neg h]
      intro c hc
      rcases List.mem_append.1 hc with h1 | h1
      · exact ih (u / 10) (by omega) c h1
      · rw [List.mem_singleton.1 h1]
        exact d ⟨u % 10, by omega⟩
theorem dec_first (u : Nat) (hu : 1 ≤ u) : ∃ c l, Lib.decDigits u = c :: l ∧ 48 < c.toNat := by
  induction u using Nat.strongRecOn with
  | _ u ih =>
    rw [Lib.decDigits]
    have d : ∀ k : Fin 10, 1 ≤ k.val → 48 < (UInt8.ofNat (48 + k.val)).toNat := by decide
    by_cases h : u < 10
    · rw [dif_pos h]
      exact ⟨_, _, rfl, d ⟨u, h⟩ hu⟩
    · rw [dif_neg h]
      obtain ⟨c, l, e, hc⟩ := ih (u / 10) (by omega) (by omega)
      exact ⟨c, l ++ _, by rw [e]; rfl, hc⟩
theorem nDig_le : ∀ (m u : Nat), u < 10 ^ m → 1 ≤ m → Lib.nDigits u ≤ m
  | 0, _, _, h => absurd h (by omega)
  | m + 1, u, hu, _ => by
    rw [Lib.nDigits]
    by_cases h : u < 10
    · rw [dif_pos h]; omega
    · rw [dif_neg h]
      have h1 : u / 10 < 10 ^ m := by rw [Nat.pow_succ] at hu; omega
      rcases Nat.eq_zero_or_pos m with rfl | hm
      · simp at h1; omega
      · have := nDig_le m (u / 10) h1 hm
        omega
/-- The text of digits behind a few bytes. -/
theorem dig_at (p : List UInt8) (u j : Nat) (h0 : p.length ≤ j) (h1 : j < p.length + (Lib.decDigits u).length) : isDig ⟨(p ++ Lib.decDigits u).toArray⟩ j := by
  have hsz : (⟨(p ++ Lib.decDigits u).toArray⟩ : ByteArray).size = p.length + (Lib.decDigits u).length := by
    show (p ++ Lib.decDigits u).toArray.size = _
    simp
  refine ⟨by rw [hsz]; exact h1, ?_⟩
  have e : (⟨(p ++ Lib.decDigits u).toArray⟩ : ByteArray)[j]'(by rw [hsz]; exact h1) = (Lib.decDigits u)[j - p.length]'(by omega) := by
    show ((p ++ Lib.decDigits u).toArray)[j]'_ = _
    simp only [List.getElem_toArray]
    rw [List.getElem_append_right h0]
  rw [e]
  exact dec_dig u _ (List.getElem_mem _)
theorem whole_float (n : Nat) (h1 : 1 ≤ n) (h2 : n ≤ 9007199254740992) : ∃ r, r < 9223372036854775808 ∧ wholeBits (r / 4503599627370496) (r % 4503599627370496) n ∧ floatOfInt .f64 (n : Int) = r ∧ floatOfInt .f64 (-(n : Int)) = 9223372036854775808 + r := by
  obtain ⟨r, a, b, c⟩ := nearest_whole n h1 h2
  refine ⟨r, a, b, ?_, ?_⟩
  · have := c false
    rw [if_neg (by decide)] at this
    rw [← this]
    show Ieee.double.nearest (decide ((n : Int) < 0)) (n : Int).natAbs 0 = _
    rw [decide_eq_false (by omega), Int.natAbs_natCast]
  · have := c true
    rw [if_pos rfl] at this
    rw [← this]
    show Ieee.double.nearest (decide (-(n : Int) < 0)) (-(n : Int)).natAbs 0 = _
    rw [decide_eq_true (by omega), Int.natAbs_neg, Int.natAbs_natCast]
theorem whole_hi {r n : Nat} (hw : wholeBits (r / 4503599627370496) (r % 4503599627370496) n) (h : 4503599627370496 ≤ n) (hn : n < 9007199254740992) : r = 4841369599423283200 + (n - 4503599627370496) := by
  rcases hw with ⟨t, t1, t2, t3, t4⟩ | ⟨h1, h2, h3⟩
  · rcases Nat.eq_zero_or_pos t with rfl | ht
    · rw [Nat.pow_zero, Nat.mul_one] at t4
      omega
    · have : n * 2 ≤ n * 2 ^ t := Nat.mul_le_mul_left n (by
        have := Nat.pow_le_pow_right (n := 2) (by omega) ht
        omega)
      omega
  · omega
theorem or_whole (S d : Nat) (hS : S = 0 ∨ S = 9223372036854775808) (hd : d < 9223372036854775808) : bits .or .u64 (S : Int) (d : Int) = ((S + d : Nat) : Int) := by
  have h := bits_or_u64_nat S d (by rcases hS with rfl | rfl <;> omega) (by omega)
  have e : S ||| d = S + d := by
    rcases hS with rfl | rfl
    · rw [Nat.zero_or, Nat.zero_add]
    · rw [sign_or d hd]
  rw [e] at h
  exact h
set_option maxRecDepth 100000 in
theorem parse_pos (n : Nat) (h1 : 1 ≤ n) (h2 : n ≤ 9007199254740992) (w : World) (hc : RCtx w) :
    Calls Tryz.prog 9 #[.string ⟨(Lib.decDigits n).toArray⟩] w fun e w' => e = .returned (.tuple #[.float .f64 (floatOfInt .f64 (n : Int)), .int .i64 0]) ∧ Below w.heap.size w w' := by
  obtain ⟨r, hr, hw, hf, -⟩ := whole_float n h1 h2
  have hlen : (Lib.decDigits n).length ≤ 17 := by rw [Lib.decDigits_length]; exact nDig_le 17 n (Nat.lt_of_le_of_lt h2 (by decide)) (by omega)
  obtain ⟨c, l, ec, hc48⟩ := dec_first n h1
  have hpos : 1 ≤ (Lib.decDigits n).length := by rw [ec]; exact Nat.succ_le_succ (Nat.zero_le _)
  have hsz : (⟨(Lib.decDigits n).toArray⟩ : ByteArray).size = (Lib.decDigits n).length := by show (Lib.decDigits n).toArray.size = _; simp
  have hdig : ∀ j, 0 ≤ j → j < (Lib.decDigits n).length → isDig ⟨(Lib.decDigits n).toArray⟩ j := fun j _ hj => by
    have := dig_at [] n j (Nat.zero_le _) (by simpa using hj)
    simpa using this
  have h48 : ∀ hh : 0 < (⟨(Lib.decDigits n).toArray⟩ : ByteArray).size, 48 < (⟨(Lib.decDigits n).toArray⟩ : ByteArray)[0].toNat := fun hh => by
    have e : (⟨(Lib.decDigits n).toArray⟩ : ByteArray)[0] = (Lib.decDigits n)[0]'(by omega) := by
      show (Lib.decDigits n).toArray[0]'_ = _
      simp only [List.getElem_toArray]
    rw [e]
    simp only [ec, List.getElem_cons_zero]
    exact hc48
  have hV : valAt ⟨(Lib.decDigits n).toArray⟩ 0 ((Lib.decDigits n).length - 0) = n := by
    unfold valAt
    simp only [Nat.sub_zero, List.drop_zero, List.take_length]
    exact valN_dec n
  have htl : (⟨(Lib.decDigits n).toArray⟩ : ByteArray).toList = Lib.decDigits n := by rw [Lib.toList_data]
  have hno : ∀ (x : UInt8) (y : List UInt8), (x.toNat < 48 ∨ 57 < x.toNat) → ((Lib.decDigits n) == x :: y) = false := fun x y hx => by
    rw [beq_eq_false_iff_ne]
    intro e
    have := dec_dig n x (by rw [e]; exact List.mem_cons_self ..)
    omega
  have e1 : ((⟨(Lib.decDigits n).toArray⟩ : ByteArray).toList == [105, 110, 102]) = false := by rw [htl]; exact hno _ _ (by decide)
  have e2 : ((⟨(Lib.decDigits n).toArray⟩ : ByteArray).toList == [45, 105, 110, 102]) = false := by rw [htl]; exact hno _ _ (by decide)
  have e3 : ((⟨(Lib.decDigits n).toArray⟩ : ByteArray).toList == [110, 97, 110]) = false := by rw [htl]; exact hno _ _ (by decide)
  generalize (⟨(Lib.decDigits n).toArray⟩ : ByteArray) = s at *
  generalize (Lib.decDigits n).length = k at *
  refine realParse_okB s e1 e2 e3 (by omega) k hsz.symm _ w hc (fun W => isDecimal_pos s k hsz hpos (by omega) (fun j hj => hdig j (Nat.zero_le _) hj) W) fun W hW => ?_
  by_cases hb : n < 4503599627370496
  · exact same_below (atof_pos s k n hsz hpos hlen hdig h48 h1 hV hb W hW)
  · rw [hf]
    refine atof_bigpos s k n hsz hpos hlen hdig h48 h1 hV (by omega) h2 r (fun W hW => ?_) W hW
    by_cases h53 : n = 9007199254740992
    · subst h53
      have := parse53_pos W hW
      have er : r = 4845873199050653696 := by
        rcases hw with ⟨t, t1, t2, t3, t4⟩ | ⟨h1, h2, -⟩
        · have := Nat.two_pow_pos t
          have : 9007199254740992 * 1 ≤ 9007199254740992 * 2 ^ t := Nat.mul_le_mul_left _ this
          omega
        · omega
      rw [er]; exact this
    · have er := whole_hi hw (by omega) (by omega)
      refine parse_core 0 n (0 + n) r (4 * n) rfl (by omega) (by omega) (or_whole 0 n (.inl rfl) (by omega)) (fun w => ?_) W hW
      have := pack_whole 0 (n - 4503599627370496) (.inl rfl) (by omega) w
      rw [show 0 + (4503599627370496 + (n - 4503599627370496)) = 0 + n by omega, show 0 + (4841369599423283200 + (n - 4503599627370496)) = r by omega] at this
      exact this
set_option maxRecDepth 100000 in
theorem parse_neg (n : Nat) (h1 : 1 ≤ n) (h2 : n ≤ 9007199254740992) (w : World) (hc : RCtx w) :
    Calls Tryz.prog 9 #[.string ⟨(45 :: Lib.decDigits n).toArray⟩] w fun e w' => e = .returned (.tuple #[.float .f64 (floatOfInt .f64 (-(n : Int))), .int .i64 0]) ∧ Below w.heap.size w w' := by
  obtain ⟨r, hr, hw, hf, hg⟩ := whole_float n h1 h2
  have hlen : (Lib.decDigits n).length ≤ 16 := by rw [Lib.decDigits_length]; exact nDig_le 16 n (Nat.lt_of_le_of_lt h2 (by decide)) (by omega)
  obtain ⟨c, l, ec, hc48⟩ := dec_first n h1
  have hpos : 1 ≤ (Lib.decDigits n).length := by rw [ec]; exact Nat.succ_le_succ (Nat.zero_le _)
  have hsz : (⟨(45 :: Lib.decDigits n).toArray⟩ : ByteArray).size = (Lib.decDigits n).length + 1 := by show (45 :: Lib.decDigits n).toArray.size = _; simp
  have hdig : ∀ j, 1 ≤ j → j < (Lib.decDigits n).length + 1 → isDig ⟨(45 :: Lib.decDigits n).toArray⟩ j := fun j h0 hj => by
    have := dig_at [45] n j h0 (by simp; omega)
    simpa using this
  have c0 : ∀ hh : 0 < (⟨(45 :: Lib.decDigits n).toArray⟩ : ByteArray).size, ((⟨(45 :: Lib.decDigits n).toArray⟩ : ByteArray)[0].toNat : Int) = 45 := fun hh => by
    have e : (⟨(45 :: Lib.decDigits n).toArray⟩ : ByteArray)[0] = (45 : UInt8) := by
      show (45 :: Lib.decDigits n).toArray[0]'(by simp) = _
      simp
    rw [e]; rfl
  have h48 : ∀ hh : 1 < (⟨(45 :: Lib.decDigits n).toArray⟩ : ByteArray).size, 48 < (⟨(45 :: Lib.decDigits n).toArray⟩ : ByteArray)[1].toNat := fun hh => by
    have e : (⟨(45 :: Lib.decDigits n).toArray⟩ : ByteArray)[1] = (Lib.decDigits n)[0]'(by omega) := by
      show (45 :: Lib.decDigits n).toArray[1]'(by simp; omega) = _
      simp
    rw [e]
    simp only [ec, List.getElem_cons_zero]
    exact hc48
  have hV : valAt ⟨(45 :: Lib.decDigits n).toArray⟩ 1 ((Lib.decDigits n).length + 1 - 1) = n := by
    unfold valAt
    simp only [Nat.add_sub_cancel, List.drop_succ_cons, List.drop_zero, List.take_length]
    exact valN_dec n
  have htl : (⟨(45 :: Lib.decDigits n).toArray⟩ : ByteArray).toList = 45 :: Lib.decDigits n := by rw [Lib.toList_data]
  have e1 : ((⟨(45 :: Lib.decDigits n).toArray⟩ : ByteArray).toList == [105, 110, 102]) = false := by
    rw [htl, beq_eq_false_iff_ne]
    intro e
    injection e with e _
    exact absurd e (by decide)
  have e2 : ((⟨(45 :: Lib.decDigits n).toArray⟩ : ByteArray).toList == [45, 105, 110, 102]) = false := by
    rw [htl, beq_eq_false_iff_ne]
    intro e
    injection e with _ e
    have := dec_dig n 105 (by rw [e]; exact List.mem_cons_self ..)
    exact absurd this.2 (by decide)
  have e3 : ((⟨(45 :: Lib.decDigits n).toArray⟩ : ByteArray).toList == [110, 97, 110]) = false := by
    rw [htl, beq_eq_false_iff_ne]
    intro e
    injection e with e _
    exact absurd e (by decide)
  generalize (⟨(45 :: Lib.decDigits n).toArray⟩ : ByteArray) = s at *
  generalize (Lib.decDigits n).length = k at *
  refine realParse_okB s e1 e2 e3 (by omega) (k + 1) hsz.symm _ w hc (fun W => isDecimal_neg s (k + 1) hsz (by omega) (by omega) (c0 (by omega)) (fun j h0 hj => hdig j h0 hj) W) fun W hW => ?_
  by_cases hb : n < 4503599627370496
  · have := same_below (atof_neg s (k + 1) n hsz (by omega) (by omega) c0 hdig h48 h1 hV hb W hW)
    rw [hf, neg_flip r (by omega), show flip r = 9223372036854775808 + r from by unfold flip; rw [if_neg (by omega)]; omega, ← hg] at this
    exact this
  · rw [hg]
    refine atof_bigneg s (k + 1) n hsz (by omega) (by omega) c0 hdig h48 h1 hV (by omega) h2 (9223372036854775808 + r) (fun W hW => ?_) W hW
    by_cases h53 : n = 9007199254740992
    · subst h53
      have := parse53_neg W hW
      have er : r = 4845873199050653696 := by
        rcases hw with ⟨t, t1, t2, t3, t4⟩ | ⟨h1, h2, -⟩
        · have := Nat.two_pow_pos t
          have : 9007199254740992 * 1 ≤ 9007199254740992 * 2 ^ t := Nat.mul_le_mul_left _ this
          omega
        · omega
      rw [er]; exact this
    · have er := whole_hi hw (by omega) (by omega)
      refine parse_core 9223372036854775808 n (9223372036854775808 + n) (9223372036854775808 + r) (4 * n) rfl (by omega) (by omega) (or_whole 9223372036854775808 n (.inr rfl) (by omega)) (fun w => ?_) W hW
      have := pack_whole 9223372036854775808 (n - 4503599627370496) (.inr rfl) (by omega) w
      rw [show 9223372036854775808 + (4503599627370496 + (n - 4503599627370496)) = 9223372036854775808 + n by omega, show 9223372036854775808 + (4841369599423283200 + (n - 4503599627370496)) = 9223372036854775808 + r by omega] at this
      exact this
set_option maxRecDepth 100000 in
theorem parse_zero (w : World) (hc : RCtx w) :
    Calls Tryz.prog 9 #[.string ⟨#[48]⟩] w fun e w' => e = .returned (.tuple #[.float .f64 0, .int .i64 0]) ∧ Below w.heap.size w w' :=
  realParse_okB ⟨#[48]⟩ (by rw [Lib.toList_data]; decide) (by rw [Lib.toList_data]; decide) (by rw [Lib.toList_data]; decide) (by decide) 1 rfl 0 w hc (fun W => isDecimal_pos ⟨#[48]⟩ 1 rfl (by omega) (by omega) (fun j hj => by
    obtain rfl : j = 0 := by omega
    exact ⟨by decide, by decide, by decide⟩) W) (fun W hW => same_below (atof_0 ⟨#[48]⟩ (by decide) (by decide) rfl W hW))
/-- What Parse and Text say of a whole number. -/
theorem whole_said (n : Int) (h0 : -9007199254740992 ≤ n) (h1 : n ≤ 9007199254740992) : ∃ b, b < 18446744073709551616 ∧ b % 9223372036854775808 ≤ 9218868437227405312 ∧ floatOfInt .f64 n = b ∧
    (∀ w, RCtx w → Calls Tryz.prog 9 #[.string ⟨(Lib.itoa n).toArray⟩] w fun e w' => e = .returned (.tuple #[.float .f64 b, .int .i64 0]) ∧ Below w.heap.size w w') ∧
    (∀ w, RCtx w → Calls Tryz.prog 7 #[.float .f64 b] w fun e w' => e = .returned (.string ⟨(Lib.itoa n).toArray⟩) ∧ Below w.heap.size w w') := by
  rcases Int.lt_trichotomy n 0 with hn | rfl | hn
  · obtain ⟨m, rfl⟩ : ∃ m : Nat, n = -(m : Int) := ⟨n.natAbs, by omega⟩
    obtain ⟨r, hr, hw, hf, hg⟩ := whole_float m (by omega) (by omega)
    have hr2 : r ≤ 9218868437227405312 := by rcases hw with ⟨t, t1, t2, t3, t4⟩ | ⟨h1, h2, -⟩ <;> omega
    have e : Lib.itoa (-(m : Int)) = 45 :: Lib.decDigits m := Lib.itoa_neg m (by omega)
    refine ⟨9223372036854775808 + r, by omega, by omega, hg, fun w hc => ?_, fun w hc => ?_⟩
    · have := parse_neg m (by omega) (by omega) w hc
      rw [hg] at this
      rw [e]; exact this
    · have := realText_all (9223372036854775808 + r) (by omega) (by omega) w hc.toTCtx
      rw [show (9223372036854775808 + r) % 9223372036854775808 = r by omega, body_whole r m hw, show below (9223372036854775808 + r) = true from decide_eq_true (by omega)] at this
      rw [e]; exact this
  · have e : Lib.itoa 0 = [48] := by
      rw [show (0 : Int) = ((0 : Nat) : Int) from rfl, Lib.itoa_nonneg, Lib.decDigits_one (by omega)]
      rfl
    refine ⟨0, by omega, by omega, by decide +kernel, fun w hc => by rw [e]; exact parse_zero w hc, fun w hc => ?_⟩
    have := realText_all 0 (by omega) (by omega) w hc.toTCtx
    rw [show (0 : Nat) % 9223372036854775808 = 0 from rfl, show bodyText 0 = [48] from by unfold bodyText; rw [if_neg (by omega), if_pos rfl], show below 0 = false from decide_eq_false (by omega)] at this
    rw [e]; exact this
  · obtain ⟨m, rfl⟩ : ∃ m : Nat, n = (m : Int) := ⟨n.natAbs, by omega⟩
    obtain ⟨r, hr, hw, hf, hg⟩ := whole_float m (by omega) (by omega)
    have hr2 : r ≤ 9218868437227405312 := by rcases hw with ⟨t, t1, t2, t3, t4⟩ | ⟨h1, h2, -⟩ <;> omega
    have e : Lib.itoa (m : Int) = Lib.decDigits m := Lib.itoa_nonneg m
    refine ⟨r, by omega, by omega, hf, fun w hc => ?_, fun w hc => ?_⟩
    · have := parse_pos m (by omega) (by omega) w hc
      rw [hf] at this
      rw [e]; exact this
    · have := realText_all r (by omega) (by omega) w hc.toTCtx
      rw [show r % 9223372036854775808 = r by omega, body_whole r m hw, show below r = false from decide_eq_false (by omega)] at this
      rw [e]; exact this
end Go.Proofs.YtnibfebfgdhfgaaGreatDoor
