/- What a row's listed variables give a walk ('Ctx'), and a world that meets them (the witness). -/
import Derived.Test.YtiggkcicgmkjoaaDoorWalks
import Derived.Test.YtiggkcicgmkjoaaDoorCards
import Derived.Test.YtiggkcicgmkjoaaDoorTie
import Derived.Deep.DeepHandedRow
import Derived.ChangeMaps
import Derived.SizedLaws
namespace Go.Proofs.YtiggkcicgmkjoaaDoor
open Go.ChangeShapes Go.WideShapes Go.ChangeAt Go.RowKit

theorem i64_bounds {n : Int} (h : (Lit.int .i64 n).wf = true) : -9223372036854775808 ≤ n ∧ n ≤ 9223372036854775807 := by
  have e1 : IntKind.i64.min = -9223372036854775808 := rfl
  have e2 : IntKind.i64.max = 9223372036854775807 := rfl
  simpa [Lit.wf, e1, e2] using h

theorem own : ownKnob Tryd.prog.godebug = none := by kernel_rfl
theorem gTab : Tryd.prog.globalNamed "internal/strconv.uint64pow10" = some 2 := by kernel_rfl
theorem gTabType : (Tryd.prog.globals[2]?).map (·.type) = some 67 := by kernel_rfl
theorem gSyn : Tryd.prog.globalNamed "strconv.ErrSyntax" = some 0 := by kernel_rfl
theorem gSynType : (Tryd.prog.globals[0]?).map (·.type) = some 39 := by kernel_rfl
theorem gRng : Tryd.prog.globalNamed "strconv.ErrRange" = some 1 := by kernel_rfl
theorem gRngType : (Tryd.prog.globals[1]?).map (·.type) = some 39 := by kernel_rfl
theorem cellsTab : Tryd.prog.cellsOf 67 = 20 := by kernel_rfl
theorem cellsU64 : Tryd.prog.cellsOf 45 = 1 := by kernel_rfl
theorem cellsErr : Tryd.prog.cellsOf 75 = 1 := by kernel_rfl
theorem cellsStr : Tryd.prog.cellsOf 9 = 1 := by kernel_rfl
theorem starErr : "*errors.errorString" = "*" ++ "errors.errorString" := by decide
theorem rowErr (u : TypeId) (h : Tryd.prog.typeName? 3 u = some "*errors.errorString") : u = 73 :=
  typeName_ptr_named (nm := "errors.errorString") (by rw [← starErr]; kernel_rfl) (by kernel_rfl) (by decide) u (by rw [← starErr]; exact h)
theorem tabEq : (Rows.laid_internal_strconv_uint64pow10 : DataW Unit) = Lib.tabData .u64 Lib.pow10Tab := by kernel_rfl

/-- The variables that a row lists. -/
def vars : List (String × DataW Unit) := [("math/bits.deBruijn32tab", Rows.laid_math_bits_deBruijn32tab), ("math/bits.deBruijn64tab", Rows.laid_math_bits_deBruijn64tab), ("internal/strconv.uint64pow10", Rows.laid_internal_strconv_uint64pow10), ("strconv.ErrRange", Rows.laid_strconv_ErrRange), ("strconv.ErrSyntax", Rows.laid_strconv_ErrSyntax)]

theorem ctx_of_laid {W : World} (h0 : laidMetH Tryd.prog vars W) : Ctx W := by
  have h : laidMet Tryd.prog vars W := h0
  unfold vars at h
  have h2 := h.tail.tail
  rw [tabEq] at h2
  obtain ⟨a1, s1, e1, -⟩ := laid_sentinel h.tail.tail.tail gRng gRngType Tryd.underlying39 rowErr Tryd.underlying73 Tryd.underlying75 rfl rfl Tryd.underlying9 cellsErr cellsStr
  obtain ⟨a2, s2, e2, -⟩ := laid_sentinel h.tail.tail.tail.tail gSyn gSynType Tryd.underlying39 rowErr Tryd.underlying73 Tryd.underlying75 rfl rfl Tryd.underlying9 cellsErr cellsStr
  exact ⟨Lib.tabIs_of_head gTab gTabType Tryd.underlying67 Tryd.underlying45 cellsU64 cellsTab h2, ⟨_, _, e2⟩, ⟨_, _, e1⟩⟩

def tabCells {H : Type} : DataW H → Array Value
  | .agg ds => (ds.map fun | .lit (.int k n) => Value.int k n | _ => Value.bool false).toArray
  | _ => #[]
def synText : ByteArray := { data := #[105, 110, 118, 97, 108, 105, 100, 32, 115, 121, 110, 116, 97, 120] }
def rngText : ByteArray := { data := #[118, 97, 108, 117, 101, 32, 111, 117, 116, 32, 111, 102, 32, 114, 97, 110, 103, 101] }
noncomputable def low : Nat := (World.holding Tryd.prog default ⟨#[], #[], []⟩).heap.size
def lay (cs : Array Value) : Obj → Obj
  | .cells _ t frozen => .cells cs t frozen
  | o => o
/-- A world that meets the rows' conditions: the settled one, the variables' cells laid as start-up lays them. -/
noncomputable def laidWorld (os : Os) : World :=
  let w0 := World.holding Tryd.prog os ⟨#[.cells #[.string synText] 75, .cells #[.string rngText] 75], #[], []⟩
  let h0 := w0.heap
  let h1 := h0.modify 0 (lay #[.iface 73 (.pointer (some ⟨low, 0, none⟩))])
  let h2 := h1.modify 1 (lay #[.iface 73 (.pointer (some ⟨low + 1, 0, none⟩))])
  let h3 := h2.modify 2 (lay (tabCells (H := Unit) Rows.laid_internal_strconv_uint64pow10))
  let h4 := h3.modify 3 (lay (tabCells (H := Unit) Rows.laid_math_bits_deBruijn32tab))
  let h5 := h4.modify 4 (lay (tabCells (H := Unit) Rows.laid_math_bits_deBruijn64tab))
  { w0 with heap := h5 }
set_option maxRecDepth 100000 in
theorem laid_met (os : Os) (args : Array Value) : laidMet Tryd.prog vars ((laidWorld os).forCall (fun _ _ => 0) ⟨#[], args, []⟩).memory :=
  laidMet_of_run' 8 (by kernel_rfl) (by kernel_rfl)
end Go.Proofs.YtiggkcicgmkjoaaDoor
