/- The checking package's hex and one. No condition. -/
import Derived.Test.YtenhgjpoigkdgaaGreatDoorLb1
import Derived.Test.YtenhgjpoigkdgaaGreatDoorLw1
namespace Go.Proofs.YtenhgjpoigkdgaaGreatDoor.Ln
open Go.ChangeShapes Go.WideShapes Go.ChangeAt Go.RowKit
set_option maxHeartbeats 4000000 in
set_option maxRecDepth 1000000 in
theorem rhex_calls (w : World) (c : UInt8) : Calls Tryz.prog 48 #[.int .u8 (c.toNat : Int)] w fun e w' => e = .returned (.int .u8 (Lw.hexN c : Int)) ∧ w' = w := by
  have c256 : (c.toNat : Int) < 256 := by have := UInt8.toNat_lt c; omega
  generalize hz : Lw.hexN c = z at *
  have HZ := Lib.hid hz
  clear hz
  go_enter Tryz.func48, Tryz.ntmps48
  by_cases h1a : (48 : Int) ≤ (c.toNat : Int) <;> by_cases h1b : (c.toNat : Int) ≤ 57 <;> by_cases h2a : (97 : Int) ≤ (c.toNat : Int) <;> by_cases h2b : (c.toNat : Int) ≤ 102 <;> by_cases h3a : (65 : Int) ≤ (c.toNat : Int) <;> by_cases h3b : (c.toNat : Int) ≤ 70 <;> first | omega | skip
  all_goals
    have e : (z : Int) = if 48 ≤ (c.toNat : Int) ∧ (c.toNat : Int) ≤ 57 then (c.toNat : Int) - 48 else if 97 ≤ (c.toNat : Int) ∧ (c.toNat : Int) ≤ 102 then (c.toNat : Int) - 97 + 10 else if 65 ≤ (c.toNat : Int) ∧ (c.toNat : Int) ≤ 70 then (c.toNat : Int) - 65 + 10 else 16 := by
      rw [← HZ.out]; unfold Lw.hexN
      split <;> split <;> (try split) <;> (try split) <;> (try split) <;> omega
    have E := Lib.hid e
    clear e
    go_wp2_with fail
    go_ret
    refine ⟨?_, by first | rfl | trivial⟩
    have e := E.out
    simp only [*] at e
    first
      | exact congrArg (fun k => Ending.returned (.int .u8 k)) e.symm
      | (simp at e ⊢; omega)
set_option maxHeartbeats 4000000 in
set_option maxRecDepth 1000000 in
theorem rone_calls (w : World) (c : UInt8) : Calls Tryz.prog 24 #[.int .u8 (c.toNat : Int)] w fun e w' => e = .returned (.string ⟨#[c]⟩) ∧ Below w.heap.size w w' := by
  have hconv : (convert 22 9 (.slice (some ⟨w.heap.size, 0, none⟩) 1 1)).run Tryz.prog (w.alloc (.cells #[.int .u8 (c.toNat : Int)] 5)) = .ok (.string ⟨#[c]⟩) (w.alloc (.cells #[.int .u8 (c.toNat : Int)] 5)) :=
    conv_bytes _ (some ⟨w.heap.size, 0, none⟩) 1 [c] (fun i hi => ⟨_, rfl, by
      have hi : i < 1 := hi
      obtain rfl : i = 0 := by omega
      rw [Addr.add_lit, Nat.zero_add, World.cell?_alloc_new]; rfl⟩)
  go_enter Tryz.func24, Tryz.ntmps24
  go_wp2_with fail
  go_ret
  exact ⟨rfl, (Below.refl _ _).alloc (Nat.le_refl _) _⟩
end Go.Proofs.YtenhgjpoigkdgaaGreatDoor.Ln
