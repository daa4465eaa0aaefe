/- Acts that came in; the statements' great. No condition. -/
import Derived.Test.YtmjlhmohglbecaaGreatDoorTaD
namespace Go.Proofs.YtmjlhmohglbecaaGreatDoor.Ta
open Go.ChangeShapes Go.WideShapes Go.ChangeAt Go.RowKit
/-- An act: its kind, its key, its number. -/
structure Ac where
  k : Int
  s : ByteArray
  n : Int
/-- Acts as they lie. -/
def InA (W : World) (a : Option Addr) (l : List Ac) : Prop := 0 < l.length → ∃ b o, a = some ⟨b, o, none⟩ ∧ b < W.heap.size ∧ ∀ i (h : i < l.length), W.cell? ⟨b, o + i * 3, none⟩ = some (.int .i64 l[i].k) ∧ W.cell? ⟨b, o + i * 3 + 1, none⟩ = some (.string l[i].s) ∧ W.cell? ⟨b, o + i * 3 + 2, none⟩ = some (.int .i64 l[i].n)
theorem InA.below {B : Nat} {w w' : World} {a : Option Addr} {l : List Ac} (h : InA w a l) (hB : w.heap.size ≤ B) (hb : Below B w w') : InA w' a l := fun hp => by
  obtain ⟨b, o, rfl, hlt, hc⟩ := h hp
  refine ⟨b, o, rfl, Nat.lt_of_lt_of_le hlt hb.size, fun i hi => ?_⟩
  have e : ∀ j, w'.cell? ⟨b, j, none⟩ = w.cell? ⟨b, j, none⟩ := fun j => hb.cell (p := ⟨b, j, none⟩) (Nat.lt_of_lt_of_le hlt hB)
  rw [e, e, e]
  exact hc i hi
/-- Acts that are looked at. -/
def okA (l : List Ac) : Prop := l.length ≤ 150 ∧ ∀ i (h : i < l.length), l[i].s.size ≤ 100
end Go.Proofs.YtmjlhmohglbecaaGreatDoor.Ta
