/- Rows of marks as they lie; the checking package's Get of layer 7, at any row of marks. No condition but bounds. -/
import Derived.Test.YtnmncjeplfkdpaaRows
import Derived.WalkKit
import Derived.ProofKit
import Derived.OpenShut
import Derived.WalkSmall
import Derived.WalkSpells
import Derived.WalkLawsBesides
import Derived.Outline
import Derived.Lib.Hide
import Derived.Deep.RegionWith
import Derived.Deep.LoopGhost
import Derived.OwnWalk
import Derived.IntWalk
import Derived.Laws.AppendOwn
import Derived.Laws.IdiomStrings
import Derived.Lib.Strings
namespace Go.Proofs.Ytnmncjeplfkdpaa.Pa
open Go.ChangeShapes Go.WideShapes Go.ChangeAt Go.RowKit
theorem bstep {a b c : World} (h : Below a.heap.size a b) (k : Below b.heap.size b c) : Below a.heap.size a c := h.trans (k.mono h.size)
theorem bbox {w : World} (o : Obj) : Below w.heap.size w (w.alloc o) := (Below.refl _ _).alloc (Nat.le_refl _) o
/-- A mark: its key, its number. -/
abbrev Mk : Type := ByteArray × Int
/-- The marks l lie at a. -/
def InM (w : World) (a : Option Addr) (l : List Mk) : Prop := ∀ i (hi : i < l.length), ∃ g, a = some ⟨g, 0, none⟩ ∧ w.cell? ⟨g, i * 2, none⟩ = some (.string l[i].1) ∧ w.cell? ⟨g, i * 2 + 1, none⟩ = some (.int .i64 l[i].2)
theorem InM.below {w w' : World} {a : Option Addr} {l : List Mk} (h : InM w a l) (hb : Below w.heap.size w w') : InM w' a l := fun i hi => by
  obtain ⟨g, e, h1, h2⟩ := h i hi
  exact ⟨g, e, (hb.cell (p := ⟨g, i * 2, none⟩) (World.block_lt_of_cell? w _ h1)).trans h1, (hb.cell (p := ⟨g, i * 2 + 1, none⟩) (World.block_lt_of_cell? w _ h2)).trans h2⟩
def getM (l : List Mk) (k : ByteArray) : Option Int := (l.find? fun m => m.1.toList == k.toList).map (·.2)
theorem getM_take {l : List Mk} {k : ByteArray} {j : Nat} (hj : j < l.length) (h : ∀ m ∈ l.take j, (m.1.toList == k.toList) = false) (he : (l[j].1.toList == k.toList) = true) : getM l k = some l[j].2 := by
  unfold getM
  have e : l = l.take j ++ l[j] :: l.drop (j + 1) := by rw [← List.drop_eq_getElem_cons hj, List.take_append_drop]
  generalize hq : l[j] = q at *
  rw [e, List.find?_append, List.find?_eq_none.2 (fun m hm => by rw [h m hm]; decide), Option.none_or, List.find?_cons, he]
  rfl
theorem getM_none {l : List Mk} {k : ByteArray} (h : ∀ m ∈ l.take l.length, (m.1.toList == k.toList) = false) : getM l k = none := by
  rw [List.take_length] at h
  unfold getM
  rw [List.find?_eq_none.2 (fun m hm => by rw [h m hm]; decide)]
  rfl
end Go.Proofs.Ytnmncjeplfkdpaa.Pa
