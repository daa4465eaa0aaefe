/- Items held against each other: item.Same, the checking package's Same. No condition. -/
import Derived.Test.YtmjlhmohglbecaaGreatDoorIb1
import Derived.Laws.StructEq
import Derived.BigQuiet
namespace Go.Proofs.YtmjlhmohglbecaaGreatDoor.Ia
open Go.ChangeShapes Go.WideShapes Go.ChangeAt Go.RowKit
theorem neqF (w : World) (x y z t : ByteArray) : (binOp .neq 69 (.agg #[.string x, .string y]) (.agg #[.string z, .string t])).run Tryz.prog w = .ok (.bool (!((x.toList == z.toList) && (y.toList == t.toList)))) w := by
  have hS : Tryz.prog.underlying 69 = some (.struct (Tryz.prog.fieldsOf 69)) := by kernel_rfl
  have hp : Tryz.prog.stoodInHeld 69 = false := by kernel_rfl
  rw [run_neq_struct, show (10000 : Nat) = 9999 + 1 from rfl, run_equalIn_agg w 9999 69 _ _ hS hp]
  have u1 : Tryz.prog.underlying 9 = some .string := by kernel_rfl
  have uM := Tryz.underlying69
  simp only [Program.fieldsOf, uM]
  go_simp
  by_cases h1 : x.toList = z.toList <;> by_cases h2 : y.toList = t.toList <;> simp [h1, h2]
theorem same_take {l r : List Fd} {j : Nat} (hl : j < l.length) (hr : j < r.length) (h : l.take j = r.take j) (he : l[j] = r[j]) : l.take (j + 1) = r.take (j + 1) := by
  rw [← List.take_append_getElem hl, ← List.take_append_getElem hr, h, he]
theorem same_not {l r : List Fd} {j : Nat} (hl : j < l.length) (hr : j < r.length) (he : l[j] ≠ r[j]) : l ≠ r := fun h => he (by subst h; rfl)
theorem fd_eq {x y z t : ByteArray} (h : ((x.toList == z.toList) && (y.toList == t.toList)) = true) : (x, y) = (z, t) := by
  simp only [Bool.and_eq_true, beq_iff_eq] at h
  rw [ba_eq h.1, ba_eq h.2]
theorem fd_ne {x y z t : ByteArray} (h : ((x.toList == z.toList) && (y.toList == t.toList)) = false) : (x, y) ≠ (z, t) := by
  rintro ⟨⟩
  simp at h
end Go.Proofs.YtmjlhmohglbecaaGreatDoor.Ia
