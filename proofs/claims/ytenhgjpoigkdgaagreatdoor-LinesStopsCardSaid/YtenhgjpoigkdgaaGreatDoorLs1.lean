/- The walk of the law LinesParses: true. Conditions: what start-up lays ('PCtx'); the variable MaxLen holds some int; how the slice lies. -/
import Derived.Test.YtenhgjpoigkdgaaGreatDoorLr8
import Derived.Test.YtenhgjpoigkdgaaGreatDoorLo2
import Derived.Test.YtenhgjpoigkdgaaGreatDoorLq4
namespace Go.Proofs.YtenhgjpoigkdgaaGreatDoor.Ln
open Go.ChangeShapes Go.WideShapes Go.ChangeAt Go.RowKit
/-- The words, the bytes, the error's number of an answer of Parse. -/
def pW : Lw.R (List (List UInt8)) → List (List UInt8)
  | .got ws _ => ws
  | _ => []
def pU : Lw.R (List (List UInt8)) → Nat
  | .got _ u => u
  | _ => 0
def pE : Lw.R (List (List UInt8)) → Int
  | .bad => 61
  | _ => 0
def xW : Option (List (List UInt8)) → List (List UInt8)
  | some ws => ws
  | none => []
def xE : Option (List (List UInt8)) → Int
  | some _ => 0
  | none => 61
theorem ParseAns.plain {o : Lw.R (List (List UInt8))} {w w' : World} {e : Ending} (h : ParseAns o w e w') :
    Below w.heap.size w w' ∧ ∃ a c, e = .returned (.tuple #[.slice a (pW o).length c, .int .i64 (pU o : Nat), .int .i64 (pE o)]) ∧ (pW o).length ≤ c ∧ c ≤ 9223372036854775807 ∧ InS w' a (pW o) := by
  obtain ⟨hb, ⟨rfl, rfl⟩ | ⟨rfl, rfl⟩ | ⟨ws, u, v, rfl, rfl, hS⟩⟩ := h
  · exact ⟨hb, none, 0, rfl, Nat.le_refl _, by omega, fun i hi => absurd hi (Nat.not_lt_zero _)⟩
  · exact ⟨hb, none, 0, rfl, Nat.le_refl _, by omega, fun i hi => absurd hi (Nat.not_lt_zero _)⟩
  · obtain ⟨a, c, rfl, h1, h2, h3⟩ := (Lie.of hS).facts
    exact ⟨hb, a, c, rfl, h1, h2, h3⟩
theorem WordsAns.plain {o : Option (List (List UInt8))} {w w' : World} {e : Ending} (h : WordsAns o w e w') :
    Below w.heap.size w w' ∧ ∃ a c, e = .returned (.tuple #[.slice a (xW o).length c, .int .i64 (xE o)]) ∧ (xW o).length ≤ c ∧ c ≤ 9223372036854775807 ∧ InS w' a (xW o) := by
  obtain ⟨hb, ⟨rfl, rfl⟩ | ⟨ws, v, rfl, rfl, hS⟩⟩ := h
  · exact ⟨hb, none, 0, rfl, Nat.le_refl _, by omega, fun i hi => absurd hi (Nat.not_lt_zero _)⟩
  · obtain ⟨a, c, rfl, h1, h2, h3⟩ := (Lie.of hS).facts
    exact ⟨hb, a, c, rfl, h1, h2, h3⟩
theorem pW_len (l : List UInt8) : (pW (Lw.parseR l)).length ≤ 64 := by
  cases h : Lw.parseR l with
  | bad => simp [pW]
  | short => simp [pW]
  | got ws u => exact (Lw.parseR_got h).2.2.1
theorem xW_len (l : List UInt8) : (xW (Lw.wrun (.gap []) l)).length ≤ 64 := by
  cases h : Lw.wrun (.gap []) l with
  | none => simp [xW]
  | some ws => exact (Lw.wrun_some _ _ _ _ (Nat.le_refl _) h).1
end Go.Proofs.YtenhgjpoigkdgaaGreatDoor.Ln
