/- Parse at texts that are written out: from the digits to the number, over the translated program. Conditions: the tables hold what start-up lays. -/
import Derived.Test.YtnibfebfgdhfgaaGreatDoorFlb
import Derived.Laws.FloatArith
namespace Go.Proofs.YtnibfebfgdhfgaaGreatDoor
open Go.ChangeShapes Go.WideShapes Go.ChangeAt Go.RowKit Go.Sort

set_option maxRecDepth 100000 in
theorem exact_tenth (d : Nat) (hd : 1 ≤ d) (hd9 : d ≤ 9) (b : Nat) (hq : floatBits .quo .f64 (floatOfInt .f64 (d : Int)) 4621819117588971520 = some b) (w : World) (hc : RCtx w) :
    Calls Tryz.prog 82 #[.int .u64 d, .int .i64 (-1), .bool false] w fun e w' => e = .returned (.tuple #[.float .f64 b, .bool true]) ∧ w = w' := by
  have hi := hc.info
  obtain ⟨R, o, cap, hs, hf⟩ := hc.f10
  have hf1 := hf 1 (by omega)
  rw [show f10Bits.getD 1 0 = 4621819117588971520 from rfl] at hf1
  have hd0 : ((d : Int) / 4503599627370496 != 0) = false := by rw [bne_eq_false_iff_eq]; omega
  have hrun := run_float_arith (P := Tryz.prog) w .quo 24 .f64 _ _ _ hq
  have H := Lib.hid hc
  clear hc hf hq
  go_enter Tryz.func82, Tryz.ntmps82
  go_wp2_with fail
  go_ret2
  exact ⟨rfl, rfl⟩

set_option maxRecDepth 100000 in
theorem atof_tenth (s : ByteArray) (d : Nat) (hd : 1 ≤ d) (hd9 : d ≤ 9) (h0 : 3 ≤ s.size) (h1 : s.size ≤ 3) (c0 : (s[0].toNat : Int) = 48) (c1 : (s[1].toNat : Int) = 46) (c2 : (s[2].toNat : Int) = (d : Int) + 48)
    (b : Nat) (hq : floatBits .quo .f64 (floatOfInt .f64 (d : Int)) 4621819117588971520 = some b) (w : World) (hc : RCtx w) :
    Calls Tryz.prog 46 #[.string s] w fun e w' => e = .returned (.tuple #[.float .f64 b, .int .i64 3, .nilIface]) ∧ w = w' := by
  have ho := hc.opt
  have H1 := Lib.hid (special_none s (by omega) 48 c0 (by omega) (by omega))
  have H2 := Lib.hid (readFloat_0d s d hd hd9 h0 h1 c0 c1 c2)
  have H3 := Lib.hid (exact_tenth d hd hd9 b hq w hc)
  have H4 := Lib.hid bool2u
  have k0 : ((d : Int) == 0) = false := by rw [beq_eq_false_iff_ne]; omega
  have ef : b2n false = 0 := rfl
  clear c0 c1 c2 hq hc
  go_enter Tryz.func46, Tryz.ntmps46
  go_wp2_with fail
  refine (H1.out _).mono ?_; rintro en w' ⟨rfl, rfl⟩
  go_wp2_with fail
  refine (H2.out _).mono ?_; rintro en w' ⟨rfl, rfl⟩
  go_wp2_with fail
  refine (H4.out _ _).mono ?_; rintro en w' ⟨rfl, rfl⟩
  go_wp2_with fail
  refine H3.out.mono ?_; rintro en w' ⟨rfl, rfl⟩
  go_wp2_with fail
  go_ret3
  exact ⟨rfl, rfl⟩

set_option maxRecDepth 100000 in
theorem atof_m0 (s : ByteArray) (h0 : 2 ≤ s.size) (h1 : s.size ≤ 2) (c0 : (s[0].toNat : Int) = 45) (c1 : (s[1].toNat : Int) = 48) (w : World) (hc : RCtx w) :
    Calls Tryz.prog 46 #[.string s] w fun e w' => e = .returned (.tuple #[.float .f64 9223372036854775808, .int .i64 2, .nilIface]) ∧ w = w' := by
  have ho := hc.opt
  have H1 := Lib.hid (special_m0 s h0 h1 c0 c1)
  have H2 := Lib.hid (readFloat_m0 s h0 h1 c0 c1)
  have H4 := Lib.hid bool2u
  have et : b2n true = 1 := rfl
  have eo : bits .or .u64 9223372036854775808 0 = 9223372036854775808 := by decide
  clear c0 c1 hc
  go_enter Tryz.func46, Tryz.ntmps46
  go_wp2_with fail
  refine (H1.out _).mono ?_; rintro en w' ⟨rfl, rfl⟩
  go_wp2_with fail
  refine (H2.out _).mono ?_; rintro en w' ⟨rfl, rfl⟩
  go_wp2_with fail
  refine (H4.out _ _).mono ?_; rintro en w' ⟨rfl, rfl⟩
  go_wp2_with fail
  go_ret3
  exact ⟨rfl, rfl⟩

set_option maxRecDepth 100000 in
theorem atof_1e (s : ByteArray) (h0 : 5 ≤ s.size) (h1 : s.size ≤ 5) (c0 : (s[0].toNat : Int) = 49) (c1 : (s[1].toNat : Int) = 101) (c2 : (s[2].toNat : Int) = 57) (c3 : (s[3].toNat : Int) = 57) (c4 : (s[4].toNat : Int) = 57) (w : World) (hc : RCtx w) :
    Calls Tryz.prog 46 #[.string s] w fun e w' => e = .returned (.tuple #[.float .f64 9218868437227405312, .int .i64 5, .iface 53 (.int .i64 1)]) ∧ w = w' := by
  have ho := hc.opt
  have H1 := Lib.hid (special_none s (by omega) 49 c0 (by omega) (by omega))
  have H2 := Lib.hid (readFloat_1e s h0 h1 c0 c1 c2 c3 c4)
  have H4 := Lib.hid bool2u
  have ef : b2n false = 0 := rfl
  have eo : bits .or .u64 0 9218868437227405312 = 9218868437227405312 := by decide
  clear c0 c1 c2 c3 c4 hc
  go_enter Tryz.func46, Tryz.ntmps46
  go_wp2_with fail
  refine (H1.out _).mono ?_; rintro en w' ⟨rfl, rfl⟩
  go_wp2_with fail
  refine (H2.out _).mono ?_; rintro en w' ⟨rfl, rfl⟩
  go_wp2_with fail
  refine (H4.out _ _).mono ?_; rintro en w' ⟨rfl, rfl⟩
  go_wp2_with fail
  go_ret3
  exact ⟨rfl, rfl⟩
end Go.Proofs.YtnibfebfgdhfgaaGreatDoor
