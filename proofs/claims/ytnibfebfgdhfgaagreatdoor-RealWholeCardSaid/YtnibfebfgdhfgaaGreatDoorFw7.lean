/- Parse at whole numbers' texts: from the digits to the number. Conditions: the tables hold what start-up lays. -/
import Derived.Test.YtnibfebfgdhfgaaGreatDoorFw6
import Derived.Test.YtnibfebfgdhfgaaGreatDoorFe8
namespace Go.Proofs.YtnibfebfgdhfgaaGreatDoor
open Go.ChangeShapes Go.WideShapes Go.ChangeAt Go.RowKit Go.Sort

set_option maxRecDepth 100000 in
theorem special_neg (s : ByteArray) (h0 : 2 ≤ s.size) (h1 : s.size ≤ 100) (c : Int) (c0 : (s[0].toNat : Int) = 45) (c1 : (s[1].toNat : Int) = c) (hc2 : c ≤ 57) (w : World) :
    Calls Tryz.prog 71 #[.string s] w fun e w' => e = .returned (.tuple #[.float .f64 0, .int .i64 0, .bool false]) ∧ w = w' := by
  have hne : ¬ s = ByteArray.empty := by intro h; rw [h] at h0; simp at h0
  have hne2 : decide (s = ByteArray.empty) = false := by simp [hne]
  have hxs : (s.extract 1 s.size).size = s.size - 1 := by simp
  have hx0 : ((s.extract 1 s.size)[0]'(by omega)).toNat = s[1].toNat := by rw [ByteArray.getElem_extract]
  have hp := prefix_zero (s.extract 1 s.size) ⟨#[105, 110, 102, 105, 110, 105, 116, 121]⟩ (by omega) (by omega) (by decide) (by decide) c 105 (by rw [hx0]; exact c1) rfl (by omega) (by omega)
  have HP := Lib.hid hp
  clear hp hxs hx0 c1
  go_enter Tryz.func71, Tryz.ntmps71
  go_wp2_with fail
  refine (HP.out _).mono ?_; rintro en w' ⟨rfl, rfl⟩
  go_wp2_with fail
  go_ret3
  exact ⟨rfl, rfl⟩

set_option maxRecDepth 100000 in
theorem exact_pos (d : Nat) (hd9 : d < 4503599627370496) (w : World) (hc : RCtx w) :
    Calls Tryz.prog 82 #[.int .u64 d, .int .i64 0, .bool false] w fun e w' => e = .returned (.tuple #[.float .f64 (floatOfInt .f64 (d : Int)), .bool true]) ∧ w = w' := by
  have hi := hc.info
  have hd0 : ((d : Int) / 4503599627370496 != 0) = false := by rw [bne_eq_false_iff_eq]; omega
  have H := Lib.hid hc
  clear hc
  go_enter Tryz.func82, Tryz.ntmps82
  go_wp2_with fail
  go_ret2
  exact ⟨rfl, rfl⟩
@[go_sem] theorem unary_neg_float (b : Nat) : Op.unary .neg (.float .f64 b) = pure (.float .f64 (Op.negFloat .f64 b)) := rfl
set_option maxRecDepth 100000 in
theorem exact_neg (d : Nat) (hd9 : d < 4503599627370496) (w : World) (hc : RCtx w) :
    Calls Tryz.prog 82 #[.int .u64 d, .int .i64 0, .bool true] w fun e w' => e = .returned (.tuple #[.float .f64 (Op.negFloat .f64 (floatOfInt .f64 (d : Int))), .bool true]) ∧ w = w' := by
  have hi := hc.info
  have hd0 : ((d : Int) / 4503599627370496 != 0) = false := by rw [bne_eq_false_iff_eq]; omega
  have H := Lib.hid hc
  clear hc
  go_enter Tryz.func82, Tryz.ntmps82
  go_wp2_with fail
  go_ret2
  exact ⟨rfl, rfl⟩
theorem neg_flip (x : Nat) (hx : x < 18446744073709551616) : Op.negFloat .f64 x = flip x := by
  have h := xor_hi x hx
  have h1 : (BitVec.ofInt 64 (x : Int)).toNat = x := by
    rw [BitVec.ofInt_natCast, BitVec.toNat_ofNat]; exact Nat.mod_eq_of_lt (by omega)
  have h2 : (BitVec.ofInt 64 9223372036854775808).toNat = 2 ^ 63 := by decide
  have h3 : IntKind.u64.wrap ((BitVec.ofInt 64 (x : Int) ^^^ BitVec.ofInt 64 9223372036854775808).toNat : Int) = (flip x : Int) := h
  rw [BitVec.toNat_xor, h1, h2, IntKind.wrap_u64] at h3
  have h4 : x ^^^ 2 ^ 63 < 2 ^ 64 := Nat.xor_lt_two_pow (by omega) (by omega)
  show x ^^^ 2 ^ 63 = flip x
  generalize x ^^^ 2 ^ 63 = q at *
  omega

set_option maxHeartbeats 1000000 in
set_option maxRecDepth 100000 in
/-- atof64 at digits of a number below 2 to the 52. -/
theorem atof_pos (s : ByteArray) (k V : Nat) (hk : s.size = k) (h0 : 1 ≤ k) (h1 : k ≤ 17) (hd : ∀ j, 0 ≤ j → j < k → isDig s j) (h48 : ∀ hh : 0 < s.size, 48 < s[0].toNat) (hv : 1 ≤ V) (hV : valAt s 0 (k - 0) = V) (hV2 : V < 4503599627370496) (w : World) (hc : RCtx w) :
    Calls Tryz.prog 46 #[.string s] w fun e w' => e = .returned (.tuple #[.float .f64 (floatOfInt .f64 (V : Int)), .int .i64 k, .nilIface]) ∧ w = w' := by
  have ho := hc.opt
  obtain ⟨x, y, z⟩ := hd 0 (by omega) (by omega)
  have H1 := Lib.hid (special_none s (by omega) s[0].toNat rfl (by omega) (by omega))
  have H2 := readFloat_pos s k hk h0 h1 hd h48 (by rw [hV]; exact hv)
  rw [hV] at H2
  have H2 := Lib.hid H2
  have H3 := Lib.hid (exact_pos V hV2 w hc)
  have H4 := Lib.hid bool2u
  have k0 : ((V : Int) == 0) = false := by rw [beq_eq_false_iff_ne]; omega
  have ef : b2n false = 0 := rfl
  clear hd h48 hV hk hc x y z
  go_enter Tryz.func46, Tryz.ntmps46
  go_wp2_with fail
  refine (H1.out _).mono ?_; rintro en w' ⟨rfl, rfl⟩
  go_wp2_with fail
  refine (H2.out _).mono ?_; rintro en w' ⟨rfl, rfl⟩
  go_wp2_with fail
  refine (H4.out _ _).mono ?_; rintro en w' ⟨rfl, rfl⟩
  go_wp2_with fail
  refine H3.out.mono ?_; rintro en w' ⟨rfl, rfl⟩
  go_wp2_with fail
  go_ret3
  exact ⟨rfl, rfl⟩
set_option maxHeartbeats 1000000 in
set_option maxRecDepth 100000 in
theorem atof_neg (s : ByteArray) (k V : Nat) (hk : s.size = k) (h0 : 2 ≤ k) (h1 : k ≤ 17) (c0 : ∀ hh : 0 < s.size, (s[0].toNat : Int) = 45) (hd : ∀ j, 1 ≤ j → j < k → isDig s j) (h48 : ∀ hh : 1 < s.size, 48 < s[1].toNat) (hv : 1 ≤ V) (hV : valAt s 1 (k - 1) = V) (hV2 : V < 4503599627370496) (w : World) (hc : RCtx w) :
    Calls Tryz.prog 46 #[.string s] w fun e w' => e = .returned (.tuple #[.float .f64 (Op.negFloat .f64 (floatOfInt .f64 (V : Int))), .int .i64 k, .nilIface]) ∧ w = w' := by
  have ho := hc.opt
  obtain ⟨x, y, z⟩ := hd 1 (by omega) (by omega)
  have H1 := Lib.hid (special_neg s (by omega) (by omega) s[1].toNat (c0 (by omega)) rfl (by omega))
  have H2 := readFloat_neg s k hk h0 h1 c0 hd h48 (by rw [hV]; exact hv)
  rw [hV] at H2
  have H2 := Lib.hid H2
  have H3 := Lib.hid (exact_neg V hV2 w hc)
  have H4 := Lib.hid bool2u
  have k0 : ((V : Int) == 0) = false := by rw [beq_eq_false_iff_ne]; omega
  have et : b2n true = 1 := rfl
  clear hd h48 hV hk hc x y z c0
  go_enter Tryz.func46, Tryz.ntmps46
  go_wp2_with fail
  refine (H1.out _).mono ?_; rintro en w' ⟨rfl, rfl⟩
  go_wp2_with fail
  refine (H2.out _).mono ?_; rintro en w' ⟨rfl, rfl⟩
  go_wp2_with fail
  refine (H4.out _ _).mono ?_; rintro en w' ⟨rfl, rfl⟩
  go_wp2_with fail
  refine H3.out.mono ?_; rintro en w' ⟨rfl, rfl⟩
  go_wp2_with fail
  go_ret3
  exact ⟨rfl, rfl⟩
end Go.Proofs.YtnibfebfgdhfgaaGreatDoor
