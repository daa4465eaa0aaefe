/- Parse at whole numbers' texts: isDecimal. Conditions: none. -/
import Derived.Test.YtnibfebfgdhfgaaGreatDoorFle
namespace Go.Proofs.YtnibfebfgdhfgaaGreatDoor
open Go.ChangeShapes Go.WideShapes Go.ChangeAt Go.RowKit Go.Sort

set_option maxHeartbeats 1000000 in
set_option maxRecDepth 100000 in
theorem isDecimal_pos (s : ByteArray) (k : Nat) (hk : s.size = k) (h0 : 1 ≤ k) (h1 : k ≤ 64) (hd : ∀ j, j < k → isDig s j) (w : World) :
    Calls Tryz.prog 15 #[.string s] w fun e w' => e = .returned (.bool true) ∧ ∃ n, w' = w.drewN n := by
  obtain ⟨x, y, z⟩ := hd 0 (by omega)
  have A1 := Lib.hid (after_miss s ⟨#[45]⟩ 0 (by omega) (by omega) (by decide) (by decide) s[0].toNat 45 rfl rfl (by omega))
  have D1 := Lib.hid (digits_calls s 0 k (by omega) (by omega) (by omega) (fun j a b => hd j b) (isDig_end s k (by omega)))
  have A2 := Lib.hid (after_end s ⟨#[46]⟩ k (by omega) (by omega) (by omega) (by decide) (by decide))
  have A3 := Lib.hid (after_end s ⟨#[101]⟩ k (by omega) (by omega) (by omega) (by decide) (by decide))
  have hl : ((k : Int) == (s.size : Int)) = true := by rw [beq_iff_eq]; omega
  have hk0 : decide ((0 : Int) < (k : Int)) = true := decide_eq_true (by omega)
  have Hd := Lib.hid hd
  clear hd x y z
  go_enter Tryz.func15, Tryz.ntmps15
  go_wp2_with fail
  refine (A1.out _).mono ?_; rintro en w' ⟨rfl, n1, rfl⟩
  go_wp2_with fail
  refine (D1.out _).mono ?_; rintro en w' ⟨rfl, rfl⟩
  go_wp2_with fail
  refine (A2.out _).mono ?_; rintro en w' ⟨rfl, n2, rfl⟩
  go_wp2_with fail
  refine (A3.out _).mono ?_; rintro en w' ⟨rfl, n3, rfl⟩
  go_wp2_with fail
  go_ret
  exact ⟨rfl, _, rfl⟩

set_option maxHeartbeats 1000000 in
set_option maxRecDepth 100000 in
theorem isDecimal_neg (s : ByteArray) (k : Nat) (hk : s.size = k) (h0 : 2 ≤ k) (h1 : k ≤ 64) (c0 : (s[0].toNat : Int) = 45) (hd : ∀ j, 1 ≤ j → j < k → isDig s j) (w : World) :
    Calls Tryz.prog 15 #[.string s] w fun e w' => e = .returned (.bool true) ∧ ∃ n, w' = w.drewN n := by
  have A1 := Lib.hid (after_hit s ⟨#[45]⟩ 0 (by omega) (by omega) (by decide) (by decide) 45 c0 rfl)
  have D1 := Lib.hid (digits_calls s 1 k (by omega) (by omega) (by omega) (fun j a b => hd j a b) (isDig_end s k (by omega)))
  have A2 := Lib.hid (after_end s ⟨#[46]⟩ k (by omega) (by omega) (by omega) (by decide) (by decide))
  have A3 := Lib.hid (after_end s ⟨#[101]⟩ k (by omega) (by omega) (by omega) (by decide) (by decide))
  have hl : ((k : Int) == (s.size : Int)) = true := by rw [beq_iff_eq]; omega
  have hk0 : decide ((1 : Int) < (k : Int)) = true := decide_eq_true (by omega)
  have Hd := Lib.hid hd
  clear hd c0
  go_enter Tryz.func15, Tryz.ntmps15
  go_wp2_with fail
  refine (A1.out _).mono ?_; rintro en w' ⟨rfl, n1, rfl⟩
  go_wp2_with fail
  refine (D1.out _).mono ?_; rintro en w' ⟨rfl, rfl⟩
  go_wp2_with fail
  refine (A2.out _).mono ?_; rintro en w' ⟨rfl, n2, rfl⟩
  go_wp2_with fail
  refine (A3.out _).mono ?_; rintro en w' ⟨rfl, n3, rfl⟩
  go_wp2_with fail
  go_ret
  exact ⟨rfl, _, rfl⟩
end Go.Proofs.YtnibfebfgdhfgaaGreatDoor
