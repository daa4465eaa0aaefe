/- parseFloat64 at 2 to the 53. Conditions: the tables hold what start-up lays. -/
import Derived.Test.YtnibfebfgdhfgaaGreatDoorFw8
namespace Go.Proofs.YtnibfebfgdhfgaaGreatDoor
open Go.ChangeShapes Go.WideShapes Go.ChangeAt Go.RowKit Go.Sort

set_option maxRecDepth 100000 in
theorem pack53_pos (w : World) :
    Calls Tryz.prog 96 #[.int .u64 4503599627370496, .int .i64 1] w fun e w' => e = .returned (.tuple #[.float .f64 4845873199050653696, .nilIface]) ∧ w = w' := by
  have a : bits .and .u64 4503599627370496 4503599627370496 = 4503599627370496 := by decide
  have b : bits .andNot .u64 4503599627370496 4503599627370496 = 0 := by decide
  have c : bits .or .u64 0 4845873199050653696 = 4845873199050653696 := by decide
  go_enter Tryz.func96, Tryz.ntmps96
  go_wp2_with fail
  go_ret2
  exact ⟨rfl, rfl⟩

set_option maxHeartbeats 1000000 in
set_option maxRecDepth 100000 in
theorem parse53_pos (w : World) (hc : RCtx w) :
    Calls Tryz.prog 83 #[.int .u64 9007199254740992, .int .i64 0, .int .u64 0] w fun e w' => e = .returned (.tuple #[.float .f64 4845873199050653696, .nilIface]) ∧ Below w.heap.size w w' := by
  have h1 : ∀ w : World, Calls Tryz.prog 35 #[.int .u64 9007199254740992] w fun e w' => e = .returned (.int .i64 54) ∧ w = w' := by
    intro w
    have h := Any.bits_Len64 Tryz.lays129 9007199254740992 w (by omega) (by omega)
    rw [show Lib.bitLen ((9007199254740992 : Int)).toNat = 54 by decide] at h
    exact h.mono fun _ _ ⟨a, b⟩ => ⟨a, b.symm⟩
  have h2 := log2Pow10 0 (by omega) (by omega)
  rw [show l2p10 0 = 0 from rfl] at h2
  have h3 := prescale_calls (-11) 0 348 (by omega) rfl (by omega) (by omega) 0 (by omega) (by omega) w.heap.size 90 (.int .u64 0) (.int .u64 0) (.int .i64 0) w rfl hc.toTCtx
  simp only [row_one] at h3
  have h4 := fun W => uscale_calls 9223372036854775808 9223372036854775808 0 8 (by omega) (by omega) (by omega) (by omega) w.heap.size W
  rw [us_one 9223372036854775808 (by omega) (by omega), show 9223372036854775808 / 512 = 18014398509481984 by decide] at h4
  have h5 := unmin_calls 9007199254740992 (by omega) (by omega)
  have h7 := uround 18014398509481984 (by omega)
  rw [show (18014398509481984 + 1 + 18014398509481984 / 4 % 2) / 4 = 4503599627370496 by decide] at h7
  have ea : bits .and .u64 18014398509481984 1 = 0 := by decide
  have eo : bits .or .u64 18014398509481984 0 = 18014398509481984 := by decide
  have eS : bits .or .u64 0 4503599627370496 = 4503599627370496 := by decide
  have hmin : min (1074 : Int) (-1) = -1 := by decide
  have ef : b2n false = 0 := rfl
  have hdec : decide ((36028797018963966 : Int) ≤ 18014398509481984) = false := by decide
  have HK := Lib.hid pack53_pos
  have H1 := Lib.hid h1
  have H2 := Lib.hid h2
  have H3 := Lib.hid h3
  have H4 := Lib.hid h4
  have H5 := Lib.hid h5
  have H6 := Lib.hid bool2i
  have H7 := Lib.hid h7
  clear h1 h2 h3 h4 h5 h7 hc
  go_enter Tryz.func83, Tryz.ntmps83
  go_wp2_with fail
  refine (H1.out _).mono ?_; rintro en w' ⟨rfl, rfl⟩
  go_wp2_with fail
  refine (H2.out _).mono ?_; rintro en w' ⟨rfl, rfl⟩
  go_wp2_with fail
  refine H3.out.mono ?_; rintro en w' ⟨rfl, rfl⟩
  go_wp2_with fail
  refine (H4.out _ (cell3 _ _ _ _ _ 0 _ rfl) (cell3 _ _ _ _ _ 1 _ rfl) (cell3 _ _ _ _ _ 2 _ rfl)).mono ?_; rintro en w' ⟨rfl, n1, rfl⟩
  go_wp2_with fail
  refine (H5.out _).mono ?_; rintro en w' ⟨rfl, rfl⟩
  go_wp2_with fail
  refine (H6.out _ _).mono ?_; rintro en w' ⟨rfl, rfl⟩
  go_wp2_with fail
  refine (H7.out _).mono ?_; rintro en w' ⟨rfl, rfl⟩
  go_wp2_with fail
  refine (HK.out _).mono ?_; rintro en w' ⟨rfl, rfl⟩
  go_wp2_with fail
  go_ret2
  exact ⟨rfl, below_pre _ _ _⟩

set_option maxRecDepth 100000 in
theorem pack53_neg (w : World) :
    Calls Tryz.prog 96 #[.int .u64 9227875636482146304, .int .i64 1] w fun e w' => e = .returned (.tuple #[.float .f64 14069245235905429504, .nilIface]) ∧ w = w' := by
  have a : bits .and .u64 9227875636482146304 4503599627370496 = 4503599627370496 := by decide
  have b : bits .andNot .u64 9227875636482146304 4503599627370496 = 9223372036854775808 := by decide
  have c : bits .or .u64 9223372036854775808 4845873199050653696 = 14069245235905429504 := by decide
  go_enter Tryz.func96, Tryz.ntmps96
  go_wp2_with fail
  go_ret2
  exact ⟨rfl, rfl⟩

set_option maxHeartbeats 1000000 in
set_option maxRecDepth 100000 in
theorem parse53_neg (w : World) (hc : RCtx w) :
    Calls Tryz.prog 83 #[.int .u64 9007199254740992, .int .i64 0, .int .u64 9223372036854775808] w fun e w' => e = .returned (.tuple #[.float .f64 14069245235905429504, .nilIface]) ∧ Below w.heap.size w w' := by
  have h1 : ∀ w : World, Calls Tryz.prog 35 #[.int .u64 9007199254740992] w fun e w' => e = .returned (.int .i64 54) ∧ w = w' := by
    intro w
    have h := Any.bits_Len64 Tryz.lays129 9007199254740992 w (by omega) (by omega)
    rw [show Lib.bitLen ((9007199254740992 : Int)).toNat = 54 by decide] at h
    exact h.mono fun _ _ ⟨a, b⟩ => ⟨a, b.symm⟩
  have h2 := log2Pow10 0 (by omega) (by omega)
  rw [show l2p10 0 = 0 from rfl] at h2
  have h3 := prescale_calls (-11) 0 348 (by omega) rfl (by omega) (by omega) 0 (by omega) (by omega) w.heap.size 90 (.int .u64 0) (.int .u64 0) (.int .i64 0) w rfl hc.toTCtx
  simp only [row_one] at h3
  have h4 := fun W => uscale_calls 9223372036854775808 9223372036854775808 0 8 (by omega) (by omega) (by omega) (by omega) w.heap.size W
  rw [us_one 9223372036854775808 (by omega) (by omega), show 9223372036854775808 / 512 = 18014398509481984 by decide] at h4
  have h5 := unmin_calls 9007199254740992 (by omega) (by omega)
  have h7 := uround 18014398509481984 (by omega)
  rw [show (18014398509481984 + 1 + 18014398509481984 / 4 % 2) / 4 = 4503599627370496 by decide] at h7
  have ea : bits .and .u64 18014398509481984 1 = 0 := by decide
  have eo : bits .or .u64 18014398509481984 0 = 18014398509481984 := by decide
  have eS : bits .or .u64 9223372036854775808 4503599627370496 = 9227875636482146304 := by decide
  have hmin : min (1074 : Int) (-1) = -1 := by decide
  have ef : b2n false = 0 := rfl
  have hdec : decide ((36028797018963966 : Int) ≤ 18014398509481984) = false := by decide
  have HK := Lib.hid pack53_neg
  have H1 := Lib.hid h1
  have H2 := Lib.hid h2
  have H3 := Lib.hid h3
  have H4 := Lib.hid h4
  have H5 := Lib.hid h5
  have H6 := Lib.hid bool2i
  have H7 := Lib.hid h7
  clear h1 h2 h3 h4 h5 h7 hc
  go_enter Tryz.func83, Tryz.ntmps83
  go_wp2_with fail
  refine (H1.out _).mono ?_; rintro en w' ⟨rfl, rfl⟩
  go_wp2_with fail
  refine (H2.out _).mono ?_; rintro en w' ⟨rfl, rfl⟩
  go_wp2_with fail
  refine H3.out.mono ?_; rintro en w' ⟨rfl, rfl⟩
  go_wp2_with fail
  refine (H4.out _ (cell3 _ _ _ _ _ 0 _ rfl) (cell3 _ _ _ _ _ 1 _ rfl) (cell3 _ _ _ _ _ 2 _ rfl)).mono ?_; rintro en w' ⟨rfl, n1, rfl⟩
  go_wp2_with fail
  refine (H5.out _).mono ?_; rintro en w' ⟨rfl, rfl⟩
  go_wp2_with fail
  refine (H6.out _ _).mono ?_; rintro en w' ⟨rfl, rfl⟩
  go_wp2_with fail
  refine (H7.out _).mono ?_; rintro en w' ⟨rfl, rfl⟩
  go_wp2_with fail
  refine (HK.out _).mono ?_; rintro en w' ⟨rfl, rfl⟩
  go_wp2_with fail
  go_ret2
  exact ⟨rfl, below_pre _ _ _⟩
end Go.Proofs.YtnibfebfgdhfgaaGreatDoor
