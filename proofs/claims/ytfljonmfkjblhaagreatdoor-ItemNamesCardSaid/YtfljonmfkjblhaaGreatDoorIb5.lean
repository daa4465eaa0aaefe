/- The checking package's Put of layer 9 where nothing is put; both Appends; the checking package's Get and Drop of a text. No condition but bounds. -/
import Derived.Test.YtfljonmfkjblhaaGreatDoorIb1
namespace Go.Proofs.YtfljonmfkjblhaaGreatDoor.Ia
open Go.ChangeShapes Go.WideShapes Go.ChangeAt Go.RowKit
/-- Behind a store of an item into a box of the call's own. -/
theorem ItV.sets3 {wa w : World} {v : Value} {i : It} (h : ItV wa v i) (hb : Below wa.heap.size wa w) {b : Nat} (h1 : wa.heap.size ≤ b) (x y z : Value) :
    ItV (((w.setCell ⟨b, 0, none⟩ x).setCell ⟨b, 1, none⟩ y).setCell ⟨b, 2, none⟩ z) v i ∧ Below wa.heap.size wa (((w.setCell ⟨b, 0, none⟩ x).setCell ⟨b, 1, none⟩ y).setCell ⟨b, 2, none⟩ z) := by
  have hB := ((hb.setCell (p := ⟨b, 0, none⟩) h1 x).setCell (p := ⟨b, 1, none⟩) h1 y).setCell (p := ⟨b, 2, none⟩) h1 z
  exact ⟨h.below hB, hB⟩
theorem itv_mk {w : World} {a : Option Addr} {c : Nat} {k : Int} {t : ByteArray} {l : List Fd} (hcap : l.length ≤ c) (hcap2 : c ≤ 9223372036854775807) (hI : InF w a l) : ItV w (.agg #[.int .i64 k, .string t, .slice a l.length c]) ⟨k, t, l⟩ := ⟨a, c, rfl, hcap, hcap2, hI⟩
end Go.Proofs.YtfljonmfkjblhaaGreatDoor.Ia
