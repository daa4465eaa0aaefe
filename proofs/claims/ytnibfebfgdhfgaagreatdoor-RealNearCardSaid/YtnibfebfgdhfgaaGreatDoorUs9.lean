/- pack64 at any number, and parseFloat64 of digits within a number's interval: that number. Conditions: the tables hold what start-up lays. -/
import Derived.Test.YtnibfebfgdhfgaaGreatDoorUs8
namespace Go.Proofs.YtnibfebfgdhfgaaGreatDoor.Pk
open Go Sh Go.ChangeShapes Go.WideShapes Go.ChangeAt Go.RowKit Go.Sort Us

theorem and52 (m : Nat) (hm : m < 18446744073709551616) (h : m / 4503599627370496 % 2 = 1) : bits .and .u64 (m : Int) 4503599627370496 = 4503599627370496 := by
  have e := bits_and_u64_nat m 4503599627370496 hm (by omega)
  have e2 : m &&& 4503599627370496 = 4503599627370496 := by
    rw [show (4503599627370496 : Nat) = 2 ^ 52 from by decide]
    refine Nat.eq_of_testBit_eq fun i => ?_
    rw [Nat.testBit_and, Nat.testBit_two_pow]
    by_cases hi : 52 = i
    · subst hi
      rw [Nat.testBit_eq_decide_div_mod_eq, decide_eq_true (show m / 2 ^ 52 % 2 = 1 from h)]
      rfl
    · rw [decide_eq_false hi, Bool.and_false]
  rw [e2] at e
  exact e
theorem mask52 (i : Nat) (h : i < 64) : (18446744073709551615 - 4503599627370496 : Nat).testBit i = decide (i ≠ 52) := by
  have : ∀ j : Fin 64, (18446744073709551615 - 4503599627370496 : Nat).testBit j.val = decide (j.val ≠ 52) := by decide +kernel
  exact this ⟨i, h⟩
theorem top_or (fr : Nat) (hf : fr < 4503599627370496) : 4503599627370496 + fr = 2 ^ 52 ||| fr := by
  have := Nat.two_pow_add_eq_or_of_lt (i := 52) (b := fr) (by omega) 1
  rw [Nat.mul_one] at this
  exact this
theorem sign_or (x : Nat) (hx : x < 9223372036854775808) : 9223372036854775808 + x = 2 ^ 63 ||| x := by
  have := Nat.two_pow_add_eq_or_of_lt (i := 63) (b := x) (by omega) 1
  rw [Nat.mul_one] at this
  exact this
theorem drop52 (S fr : Nat) (hS : S = 0 ∨ S = 9223372036854775808) (hf : fr < 4503599627370496) : (S + (4503599627370496 + fr)) &&& (18446744073709551615 - 4503599627370496) = S + fr := by
  refine Nat.eq_of_testBit_eq fun i => ?_
  rw [Nat.testBit_and]
  by_cases hi : i < 64
  · rw [mask52 i hi]
    by_cases h5 : i = 52
    · subst h5
      rw [Nat.testBit_eq_decide_div_mod_eq, Nat.testBit_eq_decide_div_mod_eq]
      rw [decide_eq_false (show ¬(52 ≠ 52) by omega), Bool.and_false, decide_eq_false]
      rcases hS with rfl | rfl <;> omega
    · rw [decide_eq_true h5, Bool.and_true]
      rcases hS with rfl | rfl
      · rw [Nat.zero_add, Nat.zero_add, top_or fr hf, Nat.testBit_or, Nat.testBit_two_pow, decide_eq_false (show ¬52 = i by omega), Bool.false_or]
      · rw [sign_or _ (by omega), sign_or _ (by omega), top_or fr hf, Nat.testBit_or, Nat.testBit_or, Nat.testBit_or, Nat.testBit_two_pow, Nat.testBit_two_pow, decide_eq_false (show ¬52 = i by omega), Bool.false_or]
  · have h1 : (S + fr) < 2 ^ i := Nat.lt_of_lt_of_le (show S + fr < 2 ^ 64 by rcases hS with rfl | rfl <;> omega) (Nat.pow_le_pow_right (by omega) (by omega))
    have h2 : (18446744073709551615 - 4503599627370496 : Nat) < 2 ^ i := Nat.lt_of_lt_of_le (show _ < 2 ^ 64 by decide) (Nat.pow_le_pow_right (by omega) (by omega))
    rw [Nat.testBit_lt_two_pow h1, Nat.testBit_lt_two_pow h2, Bool.and_false]
theorem andnot52 (S fr : Nat) (hS : S = 0 ∨ S = 9223372036854775808) (hf : fr < 4503599627370496) : bits .andNot .u64 ((S + (4503599627370496 + fr) : Nat) : Int) 4503599627370496 = ((S + fr : Nat) : Int) := by
  have hlt : S + (4503599627370496 + fr) < 18446744073709551616 := by rcases hS with rfl | rfl <;> omega
  have h1 : (BitVec.ofInt 64 ((S + (4503599627370496 + fr) : Nat) : Int)).toNat = S + (4503599627370496 + fr) := by
    rw [BitVec.ofInt_natCast, BitVec.toNat_ofNat]; exact Nat.mod_eq_of_lt hlt
  have h2 : (~~~ (BitVec.ofInt 64 4503599627370496)).toNat = 18446744073709551615 - 4503599627370496 := by decide
  show IntKind.u64.wrap ((BitVec.ofInt 64 ((S + (4503599627370496 + fr) : Nat) : Int) &&& ~~~ (BitVec.ofInt 64 4503599627370496)).toNat : Int) = _
  rw [BitVec.toNat_and, h1, h2, drop52 S fr hS hf, IntKind.wrap_u64]
  omega
theorem orexp (S fr x : Nat) (hS : S = 0 ∨ S = 9223372036854775808) (hf : fr < 4503599627370496) (hx : x ≤ 2046) : bits .or .u64 ((S + fr : Nat) : Int) ((x * 4503599627370496 : Nat) : Int) = ((S + (x * 4503599627370496 + fr) : Nat) : Int) := by
  have h := bits_or_u64_nat (S + fr) (x * 4503599627370496) (by rcases hS with rfl | rfl <;> omega) (by omega)
  have k := Nat.two_pow_add_eq_or_of_lt (i := 52) (b := fr) (by omega) x
  rw [show (2 : Nat) ^ 52 * x = x * 4503599627370496 by omega] at k
  have e : (S + fr) ||| (x * 4503599627370496) = S + (x * 4503599627370496 + fr) := by
    rcases hS with rfl | rfl
    · rw [Nat.zero_add, Nat.zero_add, Nat.or_comm, k]
    · rw [sign_or _ (by omega), sign_or _ (by omega), k, Nat.or_assoc, Nat.or_comm fr]
  rw [e] at h
  exact h
theorem no52 (m : Nat) (hm : m < 18446744073709551616) (h : m / 4503599627370496 % 2 = 0) : bits .and .u64 (m : Int) 4503599627370496 = 0 := by
  have e := bits_and_u64_nat m 4503599627370496 hm (by omega)
  have e2 : m &&& 4503599627370496 = 0 := by
    rw [show (4503599627370496 : Nat) = 2 ^ 52 from by decide]
    refine Nat.eq_of_testBit_eq fun i => ?_
    rw [Nat.testBit_and, Nat.testBit_two_pow, Nat.zero_testBit]
    by_cases hi : 52 = i
    · subst hi
      rw [Nat.testBit_eq_decide_div_mod_eq, decide_eq_false (show ¬ m / 2 ^ 52 % 2 = 1 from fun h1 => by rw [show (2 : Nat) ^ 52 = 4503599627370496 from by decide] at h1; omega)]
      rfl
    · rw [decide_eq_false hi, Bool.and_false]
  rw [e2] at e
  exact e
set_option maxRecDepth 100000 in
theorem pack_norm (S fr x : Nat) (k : Int) (hS : S = 0 ∨ S = 9223372036854775808) (hf : fr < 4503599627370496) (hx0 : 1 ≤ x) (hx : x ≤ 2046) (hk : k = (x : Int) - 1075) (w : World) :
    Calls Tryz.prog 96 #[.int .u64 (S + (4503599627370496 + fr) : Nat), .int .i64 k] w fun e w' => e = .returned (.tuple #[.float .f64 (S + (x * 4503599627370496 + fr)), .nilIface]) ∧ w = w' := by
  have a := and52 (S + (4503599627370496 + fr)) (by rcases hS with rfl | rfl <;> omega) (by rcases hS with rfl | rfl <;> omega)
  have b := andnot52 S fr hS hf
  have c := orexp S fr x hS hf hx
  have hlt : S + (x * 4503599627370496 + fr) < 18446744073709551616 := by rcases hS with rfl | rfl <;> omega
  have hlt2 : S + (4503599627370496 + fr) < 18446744073709551616 := by rcases hS with rfl | rfl <;> omega
  have hlt3 : S + fr < 18446744073709551616 := by omega
  rw [show ((x * 4503599627370496 : Nat) : Int) = (1075 + ((x : Int) - 1075)) * 4503599627370496 by omega] at c
  have hdk : decide ((972 : Int) ≤ (x : Int) - 1075) = false := decide_eq_false (by omega)
  have hk0 : -1075 ≤ k := by omega
  have hk1 : k ≤ 971 := by omega
  generalize S + (4503599627370496 + fr) = m at *
  generalize S + (x * 4503599627370496 + fr) = r at *
  generalize S + fr = q at *
  have t : ((r : Int)).toNat = r := by omega
  go_enter Tryz.func96, Tryz.ntmps96
  go_wp2_with fail
  go_ret2
  exact ⟨rfl, rfl⟩
set_option maxRecDepth 100000 in
theorem pack_sub (S F : Nat) (k : Int) (hS : S = 0 ∨ S = 9223372036854775808) (hF : F < 4503599627370496) (w : World) :
    Calls Tryz.prog 96 #[.int .u64 (S + F : Nat), .int .i64 k] w fun e w' => e = .returned (.tuple #[.float .f64 (S + F), .nilIface]) ∧ w = w' := by
  have a := no52 (S + F) (by rcases hS with rfl | rfl <;> omega) (by rcases hS with rfl | rfl <;> omega)
  have hlt : S + F < 18446744073709551616 := by rcases hS with rfl | rfl <;> omega
  generalize S + F = m at *
  have t : ((m : Int)).toNat = m := by omega
  go_enter Tryz.func96, Tryz.ntmps96
  go_wp2_with fail
  go_ret2
  exact ⟨rfl, rfl⟩

/-- parseFloat64 gives back the number within whose rounding interval the digits lie. -/
theorem parse_back (S d i F e0 q : Nat) (hS : S = 0 ∨ S = 9223372036854775808) (hd0 : 1 ≤ d) (hd : d < 10000000000000000000) (hi : i < 696)
    (hun : scaled i (pfS d i) (d * 2 ^ (64 - Lib.bitLen d)) = un (d * 2 ^ (64 - Lib.bitLen d) * num i) (den i * 2 ^ (128 + pfS d i))) (hF : 1 ≤ F) (hF1 : F < 9007199254740992) (he0 : 1 ≤ e0) (hr : e0 ≤ 2046) (hn : 4503599627370496 ≤ F ∨ e0 = 1)
    (hq : (q = 2 ∧ (F ≠ 4503599627370496 ∨ e0 = 1)) ∨ (q = 1 ∧ F = 4503599627370496)) (hV : Within F e0 q (d * 10 ^ (i + 52))) (W : World) (hc : TCtx W) :
    Calls Tryz.prog 83 #[.int .u64 d, .int .i64 ((i : Int) - 348), .int .u64 S] W fun e w' => e = .returned (.tuple #[.float .f64 (S + (F + (e0 - 1) * 4503599627370496)), .nilIface]) ∧ Below W.heap.size W w' := by
  obtain ⟨h1, h2, hs64⟩ := pf_within d i F e0 q hd0 hd hi hun hF hF1 he0 hn hq hV hr
  obtain ⟨b1, b2, b3⟩ := bitLen_bounds d hd0 (by omega)
  have hb57 : Lib.bitLen d ≤ 64 := Lib.bitLen_le d 64 (by omega) (by omega)
  obtain ⟨hbal, l0, l1⟩ := bal_at i hi
  clear hbal
  have hT1 : pfT d i = 0 ∨ pfT d i = 1 := by unfold pfT; split <;> simp
  have hE : pfE d i = min 1074 (53 - (64 - ((64 - Lib.bitLen d : Nat) : Int)) - lpI i) := by unfold pfE; omega
  have hSd : (pfS d i : Int) = -(pfE d i - ((64 - Lib.bitLen d : Nat) : Int) + lpI i + 3) := by unfold pfS; omega
  have hsd : bits .or .u64 (S : Int) (F : Int) = ((S + F : Nat) : Int) := by
    have h := bits_or_u64_nat S F (by rcases hS with rfl | rfl <;> omega) (by omega)
    have e : S ||| F = S + F := by
      rcases hS with rfl | rfl
      · rw [Nat.zero_or, Nat.zero_add]
      · rw [sign_or F (by omega)]
    rw [e] at h
    exact h
  have hx : d * 2 ^ (64 - Lib.bitLen d) < 18446744073709551616 := by
    have h1 : d * 2 ^ (64 - Lib.bitLen d) < 2 ^ Lib.bitLen d * 2 ^ (64 - Lib.bitLen d) := Nat.mul_lt_mul_of_pos_right b3 (Nat.two_pow_pos _)
    rw [← Nat.pow_add, show Lib.bitLen d + (64 - Lib.bitLen d) = 64 by omega] at h1
    omega
  obtain ⟨pa, pb, pc⟩ := p10_all i hi
  have hU1 : pfU d i < 4611686018427387904 := by
    have := uscaleN_le (d * 2 ^ (64 - Lib.bitLen d)) (p10Row i).1 (p10Row i).2 (pfS d i) hx pb (by omega)
    unfold pfU
    omega
  have HK : ∀ w, Calls Tryz.prog 96 #[.int .u64 (S + F : Nat), .int .i64 (-(pfE d i - (pfT d i : Int)))] w fun e w' => e = .returned (.tuple #[.float .f64 (S + (F + (e0 - 1) * 4503599627370496)), .nilIface]) ∧ w = w' := by
    intro w
    rcases Nat.lt_or_ge F 4503599627370496 with hlt | hge
    · obtain rfl : e0 = 1 := by omega
      have h := pack_sub S F (-(pfE d i - (pfT d i : Int))) hS hlt w
      rw [show S + (F + (1 - 1) * 4503599627370496) = S + F by omega]
      exact h
    · obtain ⟨fr, rfl⟩ : ∃ fr, F = 4503599627370496 + fr := ⟨F - 4503599627370496, by omega⟩
      have h := pack_norm S fr e0 (-(pfE d i - (pfT d i : Int))) hS (by omega) he0 hr (by omega) w
      rw [show S + (4503599627370496 + fr + (e0 - 1) * 4503599627370496) = S + (e0 * 4503599627370496 + fr) by omega]
      exact h
  exact parse_gen S d i (64 - Lib.bitLen d) (pfS d i) (pfU d i) (pfT d i) F (S + F) (pfE d i) (lpI i) _ hi hd0 hd rfl (by omega) rfl l0 l1 hE.symm (by omega) hSd.symm hs64 hx rfl hU1 rfl h1 hsd HK W hc
end Go.Proofs.YtnibfebfgdhfgaaGreatDoor.Pk
