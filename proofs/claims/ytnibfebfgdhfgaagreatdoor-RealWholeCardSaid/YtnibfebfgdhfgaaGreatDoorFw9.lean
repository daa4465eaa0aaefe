/- parseFloat64 at whole numbers from 2 to the 52 on. Conditions: the tables hold what start-up lays. -/
import Derived.Test.YtnibfebfgdhfgaaGreatDoorFw8
namespace Go.Proofs.YtnibfebfgdhfgaaGreatDoor
open Go.ChangeShapes Go.WideShapes Go.ChangeAt Go.RowKit Go.Sort

set_option maxHeartbeats 1000000 in
set_option maxRecDepth 100000 in
theorem parse_core (S d sd r U : Nat) (hU : U = 4 * d) (hD0 : 4503599627370496 ≤ d) (hD1 : d < 9007199254740992)
    (hSd : bits .or .u64 (S : Int) (d : Int) = (sd : Int))
    (HK : ∀ w, Calls Tryz.prog 96 #[.int .u64 sd, .int .i64 0] w fun e w' => e = .returned (.tuple #[.float .f64 r, .nilIface]) ∧ w = w') (w : World) (hc : RCtx w) :
    Calls Tryz.prog 83 #[.int .u64 d, .int .i64 0, .int .u64 S] w fun e w' => e = .returned (.tuple #[.float .f64 r, .nilIface]) ∧ Below w.heap.size w w' := by
  have h1 := len53 d hD0 hD1
  have h2 := log2Pow10 0 (by omega) (by omega)
  rw [show l2p10 0 = 0 from rfl] at h2
  have h3 := prescale_calls (-11) 0 348 (by omega) rfl (by omega) (by omega) 0 (by omega) (by omega) w.heap.size 90 (.int .u64 0) (.int .u64 0) (.int .i64 0) w rfl hc.toTCtx
  simp only [row_one] at h3
  have h4 := fun W => uscale_calls (d * 2048) 9223372036854775808 0 8 (by omega) (by omega) (by omega) (by omega) w.heap.size W
  rw [us_one (d * 2048) (by omega) (by omega), show d * 2048 / 512 = U by omega] at h4
  have h5 := unmin_calls 9007199254740992 (by omega) (by omega)
  have h7 := uround U (by omega)
  rw [show (U + 1 + U / 4 % 2) / 4 = d by omega] at h7
  have ea : bits .and .u64 (U : Int) 1 = 0 := by
    have h := bits_and_u64_nat U 1 (by omega) (by omega)
    rw [Nat.and_one_is_mod, show U % 2 = 0 by omega] at h
    exact h
  have eo : bits .or .u64 (U : Int) 0 = (U : Int) := by
    have h := bits_or_u64_nat U 0 (by omega) (by omega)
    rw [Nat.or_zero] at h
    exact h
  have hmin : min (1074 : Int) 0 = 0 := by decide
  have ef : b2n false = 0 := rfl
  have hU2 : U ≤ 36028797018963964 := by omega
  have hdec : decide ((36028797018963966 : Int) ≤ (U : Int)) = false := decide_eq_false (by omega)
  clear hU
  have H1 := Lib.hid h1
  have H2 := Lib.hid h2
  have H3 := Lib.hid h3
  have H4 := Lib.hid h4
  have H5 := Lib.hid h5
  have H6 := Lib.hid bool2i
  have H7 := Lib.hid h7
  have HK := Lib.hid HK
  clear h1 h2 h3 h4 h5 h7 hc
  go_enter Tryz.func83, Tryz.ntmps83
  go_wp2_with fail
  refine (H1.out _).mono ?_; rintro en w' ⟨rfl, rfl⟩
  go_wp2_with fail
  refine (H2.out _).mono ?_; rintro en w' ⟨rfl, rfl⟩
  go_wp2_with fail
  refine H3.out.mono ?_; rintro en w' ⟨rfl, rfl⟩
  go_wp2_with fail
  refine (H4.out _ (cell3 _ _ _ _ _ 0 _ rfl) (cell3 _ _ _ _ _ 1 _ rfl) (cell3 _ _ _ _ _ 2 _ rfl)).mono ?_; rintro en w' ⟨rfl, n1, rfl⟩
  go_wp2_with fail
  refine (H5.out _).mono ?_; rintro en w' ⟨rfl, rfl⟩
  go_wp2_with fail
  refine (H6.out _ _).mono ?_; rintro en w' ⟨rfl, rfl⟩
  go_wp2_with fail
  refine (H7.out _).mono ?_; rintro en w' ⟨rfl, rfl⟩
  go_wp2_with fail
  refine (HK.out _).mono ?_; rintro en w' ⟨rfl, rfl⟩
  go_wp2_with fail
  go_ret2
  exact ⟨rfl, below_pre _ _ _⟩
end Go.Proofs.YtnibfebfgdhfgaaGreatDoor
