/- Parse at texts that are written out: readFloat and what stands round it, over the translated program. Conditions: the tables hold what start-up lays. -/
import Derived.Test.YtnibfebfgdhfgaaGreatDoorFla
namespace Go.Proofs.YtnibfebfgdhfgaaGreatDoor
open Go.ChangeShapes Go.WideShapes Go.ChangeAt Go.RowKit Go.Sort

theorem lower_calls (c : Int) (w : World) : Calls Tryz.prog 52 #[.int .u8 c] w fun e w' => e = .returned (.int .u8 (bits .or .u8 c 32)) ∧ w = w' := by
  go_enter Tryz.func52, Tryz.ntmps52
  go_wp2
  go_ret
  exact ⟨rfl, rfl⟩

set_option maxHeartbeats 1000000 in
set_option maxRecDepth 100000 in
/-- readFloat at '0.d'. -/
theorem readFloat_0d (s : ByteArray) (d : Nat) (hd : 1 ≤ d) (hd9 : d ≤ 9) (h0 : 3 ≤ s.size) (h1 : s.size ≤ 3) (c0 : (s[0].toNat : Int) = 48) (c1 : (s[1].toNat : Int) = 46) (c2 : (s[2].toNat : Int) = (d : Int) + 48) (w : World) :
    Calls Tryz.prog 72 #[.string s] w fun e w' => e = .returned (.tuple #[.int .u64 d, .int .i64 (-1), .bool false, .bool false, .bool false, .int .i64 3, .bool true]) ∧ w = w' := by
  have hne : ¬ s = ByteArray.empty := by intro h; rw [h] at h0; simp at h0
  have hne2 : decide (s = ByteArray.empty) = false := by simp [hne]
  have e46 : bits .or .u8 46 32 = 46 := by decide
  have HL := Lib.hid (lower_calls 46)
  go_enter Tryz.func72, Tryz.ntmps72
  go_wp2_with fail
  go_step3
  go_wp2_with fail
  refine (HL.out _).mono ?_; rintro en w' ⟨rfl, rfl⟩
  go_wp2_with fail
  go_step3
  go_wp2_with fail
  refine wp_loop_rounds 4 ?_
  rw [rounds_succ]
  go_wp2_with fail
  rw [rounds_succ]
  go_wp2_with fail
  rw [rounds_succ]
  go_wp2_with fail
  rw [rounds_succ]
  go_wp2_with fail
  exact bodyPost_ret (v := .tuple #[.int .u64 d, .int .i64 (-1), .bool false, .bool false, .bool false, .int .i64 3, .bool true]) (by simp [results, Tryz.results72, go_sem]) rfl ⟨rfl, rfl⟩

set_option maxHeartbeats 1000000 in
set_option maxRecDepth 100000 in
/-- readFloat at '-0'. -/
theorem readFloat_m0 (s : ByteArray) (h0 : 2 ≤ s.size) (h1 : s.size ≤ 2) (c0 : (s[0].toNat : Int) = 45) (c1 : (s[1].toNat : Int) = 48) (w : World) :
    Calls Tryz.prog 72 #[.string s] w fun e w' => e = .returned (.tuple #[.int .u64 0, .int .i64 0, .bool true, .bool false, .bool false, .int .i64 2, .bool true]) ∧ w = w' := by
  have hne : ¬ s = ByteArray.empty := by intro h; rw [h] at h0; simp at h0
  have hne2 : decide (s = ByteArray.empty) = false := by simp [hne]
  go_enter Tryz.func72, Tryz.ntmps72
  go_wp2_with fail
  go_step3
  go_wp2_with fail
  go_step3
  go_wp2_with fail
  refine wp_loop_rounds 2 ?_
  rw [rounds_succ]
  go_wp2_with fail
  rw [rounds_succ]
  go_wp2_with fail
  exact bodyPost_ret (v := .tuple #[.int .u64 0, .int .i64 0, .bool true, .bool false, .bool false, .int .i64 2, .bool true]) (by simp [results, Tryz.results72, go_sem]) rfl ⟨rfl, rfl⟩

set_option maxHeartbeats 1000000 in
set_option maxRecDepth 100000 in
/-- readFloat at '1e999'. -/
theorem readFloat_1e (s : ByteArray) (h0 : 5 ≤ s.size) (h1 : s.size ≤ 5) (c0 : (s[0].toNat : Int) = 49) (c1 : (s[1].toNat : Int) = 101) (c2 : (s[2].toNat : Int) = 57) (c3 : (s[3].toNat : Int) = 57) (c4 : (s[4].toNat : Int) = 57) (w : World) :
    Calls Tryz.prog 72 #[.string s] w fun e w' => e = .returned (.tuple #[.int .u64 1, .int .i64 999, .bool false, .bool false, .bool false, .int .i64 5, .bool true]) ∧ w = w' := by
  have hne : ¬ s = ByteArray.empty := by intro h; rw [h] at h0; simp at h0
  have hne2 : decide (s = ByteArray.empty) = false := by simp [hne]
  have e101 : bits .or .u8 101 32 = 101 := by decide
  have HL := Lib.hid (lower_calls 101)
  go_enter Tryz.func72, Tryz.ntmps72
  go_wp2_with fail
  go_step3
  go_wp2_with fail
  go_step3
  go_wp2_with fail
  refine wp_loop_rounds 2 ?_
  rw [rounds_succ]
  go_wp2_with fail
  rw [rounds_succ]
  go_wp2_with fail
  refine (HL.out _).mono ?_; rintro en w' ⟨rfl, rfl⟩
  go_wp2_with fail
  refine wp_loop_rounds 4 ?_
  rw [rounds_succ]
  go_wp2_with fail
  rw [rounds_succ]
  go_wp2_with fail
  rw [rounds_succ]
  go_wp2_with fail
  rw [rounds_succ]
  go_wp2_with fail
  exact bodyPost_ret (v := .tuple #[.int .u64 1, .int .i64 999, .bool false, .bool false, .bool false, .int .i64 5, .bool true]) (by simp [results, Tryz.results72, go_sem]) rfl ⟨rfl, rfl⟩

set_option maxRecDepth 100000 in
theorem special_none (s : ByteArray) (h0 : 1 ≤ s.size) (c : Int) (c0 : (s[0].toNat : Int) = c) (hc : 48 ≤ c) (hc2 : c ≤ 57) (w : World) :
    Calls Tryz.prog 71 #[.string s] w fun e w' => e = .returned (.tuple #[.float .f64 0, .int .i64 0, .bool false]) ∧ w = w' := by
  have hne : ¬ s = ByteArray.empty := by intro h; rw [h] at h0; simp at h0
  have hne2 : decide (s = ByteArray.empty) = false := by simp [hne]
  have k1 : (c == 43) = false := by rw [beq_eq_false_iff_ne]; omega
  have k2 : (c == 45) = false := by rw [beq_eq_false_iff_ne]; omega
  have k3 : (c == 105) = false := by rw [beq_eq_false_iff_ne]; omega
  have k4 : (c == 73) = false := by rw [beq_eq_false_iff_ne]; omega
  have k5 : (c == 110) = false := by rw [beq_eq_false_iff_ne]; omega
  have k6 : (c == 78) = false := by rw [beq_eq_false_iff_ne]; omega
  go_enter Tryz.func71, Tryz.ntmps71
  go_wp2_with fail
  go_ret3
  exact ⟨rfl, rfl⟩

set_option maxRecDepth 100000 in
theorem prefix_zero (s t : ByteArray) (h0 : 1 ≤ s.size) (h1 : s.size ≤ 100) (k0 : 1 ≤ t.size) (k1 : t.size ≤ 100) (c d : Int) (c0 : (s[0].toNat : Int) = c) (d0 : (t[0].toNat : Int) = d) (hc : c < 65) (hcd : c ≠ d) (w : World) :
    Calls Tryz.prog 90 #[.string s, .string t] w fun e w' => e = .returned (.int .i64 0) ∧ w = w' := by
  have hmin : min (t.size : Int) (s.size : Int) ≥ 1 := by omega
  obtain ⟨m, hm⟩ : ∃ m : Nat, min (t.size : Int) (s.size : Int) = (m : Int) := ⟨min t.size s.size, by omega⟩
  have hm1 : 1 ≤ m := by omega
  have kcd : (c != d) = true := by rw [bne_iff_ne]; exact hcd
  go_enter Tryz.func90, Tryz.ntmps90
  go_wp2_with fail
  refine wp_loop_rounds 1 ?_
  rw [rounds_succ]
  go_wp2_with fail
  go_ret
  exact ⟨rfl, rfl⟩

set_option maxRecDepth 100000 in
theorem special_m0 (s : ByteArray) (h0 : 2 ≤ s.size) (h1 : s.size ≤ 2) (c0 : (s[0].toNat : Int) = 45) (c1 : (s[1].toNat : Int) = 48) (w : World) :
    Calls Tryz.prog 71 #[.string s] w fun e w' => e = .returned (.tuple #[.float .f64 0, .int .i64 0, .bool false]) ∧ w = w' := by
  have hne : ¬ s = ByteArray.empty := by intro h; rw [h] at h0; simp at h0
  have hne2 : decide (s = ByteArray.empty) = false := by simp [hne]
  have hxs : (s.extract 1 s.size).size = s.size - 1 := by simp
  have hx0 : ((s.extract 1 s.size)[0]'(by omega)).toNat = s[1].toNat := by rw [ByteArray.getElem_extract]
  have hp := prefix_zero (s.extract 1 s.size) ⟨#[105, 110, 102, 105, 110, 105, 116, 121]⟩ (by omega) (by omega) (by decide) (by decide) 48 105 (by rw [hx0]; exact c1) rfl (by omega) (by omega)
  have HP := Lib.hid hp
  clear hp hxs hx0
  go_enter Tryz.func71, Tryz.ntmps71
  go_wp2_with fail
  refine (HP.out _).mono ?_; rintro en w' ⟨rfl, rfl⟩
  go_wp2_with fail
  go_ret3
  exact ⟨rfl, rfl⟩
end Go.Proofs.YtnibfebfgdhfgaaGreatDoor
