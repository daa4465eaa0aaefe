/- Rows of marks as they lie; the checking package's Get of layer 7, at any row of marks. No condition but bounds. -/
import Derived.Test.YtjfcdkmnccafaaaRows
import Derived.WalkKit
import Derived.ProofKit
import Derived.OpenShut
import Derived.WalkSmall
import Derived.WalkSpells
import Derived.WalkLawsBesides
import Derived.Outline
import Derived.Lib.Hide
import Derived.Deep.RegionWith
import Derived.Deep.LoopGhost
import Derived.OwnWalk
import Derived.IntWalk
import Derived.Laws.AppendOwn
import Derived.Laws.IdiomStrings
import Derived.Lib.Strings
namespace Go.Proofs.Ytjfcdkmnccafaaa.Pa
open Go.ChangeShapes Go.WideShapes Go.ChangeAt Go.RowKit
theorem bstep {a b c : World} (h : Below a.heap.size a b) (k : Below b.heap.size b c) : Below a.heap.size a c := h.trans (k.mono h.size)
theorem bbox {w : World} (o : Obj) : Below w.heap.size w (w.alloc o) := (Below.refl _ _).alloc (Nat.le_refl _) o
/-- A mark: its key, its number. -/
abbrev Mk : Type := ByteArray × Int
/-- The marks l lie at a. -/
def InM (w : World) (a : Option Addr) (l : List Mk) : Prop := ∀ i (hi : i < l.length), ∃ g, a = some ⟨g, 0, none⟩ ∧ w.cell? ⟨g, i * 2, none⟩ = some (.string l[i].1) ∧ w.cell? ⟨g, i * 2 + 1, none⟩ = some (.int .i64 l[i].2)
theorem InM.below {w w' : World} {a : Option Addr} {l : List Mk} (h : InM w a l) (hb : Below w.heap.size w w') : InM w' a l := fun i hi => by
  obtain ⟨g, e, h1, h2⟩ := h i hi
  exact ⟨g, e, (hb.cell (p := ⟨g, i * 2, none⟩) (World.block_lt_of_cell? w _ h1)).trans h1, (hb.cell (p := ⟨g, i * 2 + 1, none⟩) (World.block_lt_of_cell? w _ h2)).trans h2⟩
def getM (l : List Mk) (k : ByteArray) : Option Int := (l.find? fun m => m.1.toList == k.toList).map (·.2)
theorem getM_take {l : List Mk} {k : ByteArray} {j : Nat} (hj : j < l.length) (h : ∀ m ∈ l.take j, (m.1.toList == k.toList) = false) (he : (l[j].1.toList == k.toList) = true) : getM l k = some l[j].2 := by
  unfold getM
  have e : l = l.take j ++ l[j] :: l.drop (j + 1) := by rw [← List.drop_eq_getElem_cons hj, List.take_append_drop]
  generalize hq : l[j] = q at *
  rw [e, List.find?_append, List.find?_eq_none.2 (fun m hm => by rw [h m hm]; decide), Option.none_or, List.find?_cons, he]
  rfl
theorem getM_none {l : List Mk} {k : ByteArray} (h : ∀ m ∈ l.take l.length, (m.1.toList == k.toList) = false) : getM l k = none := by
  rw [List.take_length] at h
  unfold getM
  rw [List.find?_eq_none.2 (fun m hm => by rw [h m hm]; decide)]
  rfl
set_option maxHeartbeats 4000000 in
set_option maxRecDepth 100000 in
theorem refGet_calls (w : World) (a : Option Addr) (c : Nat) (l : List Mk) (hl : l.length ≤ c) (hc : c ≤ 9223372036854775807) (hI : InM w a l) (k : ByteArray) :
    Calls Try.prog 15 #[.slice a l.length c, .string k] w fun e w' => e = .returned (.tuple #[.int .i64 ((getM l k).getD 0), .bool (getM l k).isSome]) ∧ Below w.heap.size w w' := by
  have HI := Lib.hid hI
  clear hI
  go_enter Try.func15, Try.ntmps15
  go_wp2_with fail
  go_loopg [7, 10] (l.length + 1) (fun g _ vi wr => ∃ j : Nat, vi = .int .i64 j ∧ j ≤ l.length ∧ l.length - j ≤ g ∧ Hid (Below w.heap.size w wr) ∧ Hid (∀ m ∈ l.take j, (m.1.toList == k.toList) = false))
  case atStart => exact ⟨0, rfl, by omega, by omega, Lib.hid (Below.refl _ _), Lib.hid (fun m hm => by cases hm)⟩
  case round =>
    obtain ⟨j, rfl, hj, hg, HB, HN⟩ := hrel
    by_cases hjl : j < l.length
    case neg =>
      obtain rfl : j = l.length := by omega
      have HZ := Lib.hid (getM_none HN.out)
      go_wp2_with fail
      go_ret2
      exact ⟨by rw [HZ.out]; rfl, HB.out⟩
    case pos =>
      obtain ⟨g, rfl, h1, h2⟩ := (HI.out.below HB.out) j hjl
      have HT := Lib.hid (getM_take hjl HN.out)
      have HS : Hid ((l[j].1.toList == k.toList) = false → ∀ m ∈ l.take (j + 1), (m.1.toList == k.toList) = false) := Lib.hid (fun he m hm => by
        rw [← List.take_append_getElem hjl, List.mem_append] at hm
        rcases hm with hm | hm
        · exact HN.out m hm
        · rw [List.mem_singleton] at hm; subst hm; exact he)
      have HBx := Lib.hid (fun o => bstep HB.out (bbox (w := wr) o))
      generalize l[j] = q at *
      obtain ⟨x, z⟩ := q
      have h1 : wr.cell? ⟨g, j * 2, none⟩ = some (.string x) := h1
      have h2 : wr.cell? ⟨g, j * 2 + 1, none⟩ = some (.int .i64 z) := h2
      have hjc : (j : Int) < (l.length : Int) := by omega
      cases he : (x.toList == k.toList)
      case true =>
        have HZ := Lib.hid (HT.out he)
        go_wp2_with fail
        go_ret2
        exact ⟨by rw [HZ.out]; rfl, HBx.out _⟩
      case false =>
        have HZ := Lib.hid (HS.out he)
        go_wp2_with fail
        go_roundg (gk - 1)
        case measure => omega
        case rel => exact ⟨j + 1, by go_num, by omega, by omega, Lib.hid (HBx.out _), HZ⟩
end Go.Proofs.Ytjfcdkmnccafaaa.Pa
