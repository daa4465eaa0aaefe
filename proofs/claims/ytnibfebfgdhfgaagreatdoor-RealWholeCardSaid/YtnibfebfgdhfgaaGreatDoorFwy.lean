/- atof64 at whole numbers from 2 to the 52 on. Conditions: the tables hold what start-up lays. -/
import Derived.Test.YtnibfebfgdhfgaaGreatDoorFw9
import Derived.Test.YtnibfebfgdhfgaaGreatDoorFwx
namespace Go.Proofs.YtnibfebfgdhfgaaGreatDoor
open Go.ChangeShapes Go.WideShapes Go.ChangeAt Go.RowKit Go.Sort

set_option maxRecDepth 100000 in
theorem exact_no (d : Nat) (b : Bool) (hd8 : 4503599627370496 ≤ d) (hd9 : d ≤ 9007199254740992) (w : World) (hc : RCtx w) :
    Calls Tryz.prog 82 #[.int .u64 d, .int .i64 0, .bool b] w fun e w' => e = .returned (.tuple #[.float .f64 0, .bool false]) ∧ w = w' := by
  have hi := hc.info
  have hd0 : ((d : Int) / 4503599627370496 != 0) = true := by rw [bne_iff_ne]; omega
  have H := Lib.hid hc
  clear hc
  go_enter Tryz.func82, Tryz.ntmps82
  go_wp2_with fail
  go_ret2
  exact ⟨rfl, rfl⟩

set_option maxHeartbeats 1000000 in
set_option maxRecDepth 100000 in
/-- atof64 at digits of a number from 2 to the 52 on. -/
theorem atof_bigpos (s : ByteArray) (k V : Nat) (hk : s.size = k) (h0 : 1 ≤ k) (h1 : k ≤ 17) (hd : ∀ j, 0 ≤ j → j < k → isDig s j) (h48 : ∀ hh : 0 < s.size, 48 < s[0].toNat) (hv : 1 ≤ V) (hV : valAt s 0 (k - 0) = V) (hV2 : 4503599627370496 ≤ V) (hV3 : V ≤ 9007199254740992) (r : Nat) (hP : ∀ W, RCtx W → Calls Tryz.prog 83 #[.int .u64 V, .int .i64 0, .int .u64 0] W fun e w' => e = .returned (.tuple #[.float .f64 r, .nilIface]) ∧ Below W.heap.size W w') (w : World) (hc : RCtx w) :
    Calls Tryz.prog 46 #[.string s] w fun e w' => e = .returned (.tuple #[.float .f64 r, .int .i64 k, .nilIface]) ∧ Below w.heap.size w w' := by
  have ho := hc.opt
  obtain ⟨x, y, z⟩ := hd 0 (by omega) (by omega)
  have H1 := Lib.hid (special_none s (by omega) s[0].toNat rfl (by omega) (by omega))
  have H2 := readFloat_pos s k hk h0 h1 hd h48 (by rw [hV]; exact hv)
  rw [hV] at H2
  have H2 := Lib.hid H2
  have H3 := Lib.hid (exact_no V false hV2 hV3 w hc)
  have H5 := Lib.hid (hP w hc)
  have H4 := Lib.hid bool2u
  have k0 : ((V : Int) == 0) = false := by rw [beq_eq_false_iff_ne]; omega
  have ef : b2n false = 0 := rfl
  clear hP hd h48 hV hk hc x y z
  go_enter Tryz.func46, Tryz.ntmps46
  go_wp2_with fail
  refine (H1.out _).mono ?_; rintro en w' ⟨rfl, rfl⟩
  go_wp2_with fail
  refine (H2.out _).mono ?_; rintro en w' ⟨rfl, rfl⟩
  go_wp2_with fail
  refine (H4.out _ _).mono ?_; rintro en w' ⟨rfl, rfl⟩
  go_wp2_with fail
  refine H3.out.mono ?_; rintro en w' ⟨rfl, rfl⟩
  go_wp2_with fail
  refine H5.out.mono ?_; rintro en w' ⟨rfl, hb⟩
  go_wp2_with fail
  go_ret3
  exact ⟨rfl, hb⟩
set_option maxHeartbeats 1000000 in
set_option maxRecDepth 100000 in
theorem atof_bigneg (s : ByteArray) (k V : Nat) (hk : s.size = k) (h0 : 2 ≤ k) (h1 : k ≤ 17) (c0 : ∀ hh : 0 < s.size, (s[0].toNat : Int) = 45) (hd : ∀ j, 1 ≤ j → j < k → isDig s j) (h48 : ∀ hh : 1 < s.size, 48 < s[1].toNat) (hv : 1 ≤ V) (hV : valAt s 1 (k - 1) = V) (hV2 : 4503599627370496 ≤ V) (hV3 : V ≤ 9007199254740992) (r : Nat) (hP : ∀ W, RCtx W → Calls Tryz.prog 83 #[.int .u64 V, .int .i64 0, .int .u64 9223372036854775808] W fun e w' => e = .returned (.tuple #[.float .f64 r, .nilIface]) ∧ Below W.heap.size W w') (w : World) (hc : RCtx w) :
    Calls Tryz.prog 46 #[.string s] w fun e w' => e = .returned (.tuple #[.float .f64 r, .int .i64 k, .nilIface]) ∧ Below w.heap.size w w' := by
  have ho := hc.opt
  obtain ⟨x, y, z⟩ := hd 1 (by omega) (by omega)
  have H1 := Lib.hid (special_neg s (by omega) (by omega) s[1].toNat (c0 (by omega)) rfl (by omega))
  have H2 := readFloat_neg s k hk h0 h1 c0 hd h48 (by rw [hV]; exact hv)
  rw [hV] at H2
  have H2 := Lib.hid H2
  have H3 := Lib.hid (exact_no V true hV2 hV3 w hc)
  have H5 := Lib.hid (hP w hc)
  have H4 := Lib.hid bool2u
  have k0 : ((V : Int) == 0) = false := by rw [beq_eq_false_iff_ne]; omega
  have et : b2n true = 1 := rfl
  clear hP hd h48 hV hk hc x y z c0
  go_enter Tryz.func46, Tryz.ntmps46
  go_wp2_with fail
  refine (H1.out _).mono ?_; rintro en w' ⟨rfl, rfl⟩
  go_wp2_with fail
  refine (H2.out _).mono ?_; rintro en w' ⟨rfl, rfl⟩
  go_wp2_with fail
  refine (H4.out _ _).mono ?_; rintro en w' ⟨rfl, rfl⟩
  go_wp2_with fail
  refine H3.out.mono ?_; rintro en w' ⟨rfl, rfl⟩
  go_wp2_with fail
  refine H5.out.mono ?_; rintro en w' ⟨rfl, hb⟩
  go_wp2_with fail
  go_ret3
  exact ⟨rfl, hb⟩
end Go.Proofs.YtnibfebfgdhfgaaGreatDoor
