/-
  No cell of these rows narrows 'for every input' (looked for: loops, veiled, ifaces, maps, wideKeys, modest, calm, conditions, laid).
  DERIVED. THE GIVEN ROWS OF THIS SEAT. 3 by the template 'for every input the law returns true; each argument reads behind the call as it read before'; 0 by the template 'total and deterministic' (their statements: YtnmncjeplfkdpaaTotals.lean).
  GIVEN WITH THE SEED: the statements are not yours to turn. If you find one false, say at which input.
  Laid BY PROGRAM, IN A SANDBOX (cutbox-rows.mjs): the forced cells as the released guide's own fill.sh prints them over the translation 4389f06d9a18e7cd… (all of the seat's roots in one cut). By AI agents, Wed Nov 11 2026. No macro, syntax, notation, axiom, sorry.
-/
import Derived.Test.YtnmncjeplfkdpaaChecked
import GoSem.Claim
import GoSem.ClaimJoined
import GoSem.ClaimMapViews
import Derived.JoinedTies
import Derived.KernelRfl
namespace Go.Proofs.Ytnmncjeplfkdpaa
/- THE CELL 'sum', in the pinned program and in every row, IS THE sha256 OF THE DUMP (.gsa) THAT YtnmncjeplfkdpaaProg.lean LOADS. Nothing in Lean hashes anything: it is a label: what it is worth is what the hold of that sum in a sandbox is worth. -/
noncomputable def Try.pinned : Pinned := { name := "ytnmncjeplfkdpaa", sum := "4389f06d9a18e7cd9f5671e988039147cf1bf4e412a56fd45bc6074551a4c314", checked := Try.checked }
namespace Rows
def none {H : Type} : Left H := { results := [], args := [] }

/-- 'nearhandlaw15.PrefixRuns': WHATEVER THE INPUT: true; the input reads as it did. -/
def prefixRunsSpec : ChangeSpec := { name := "prefixRuns", fn := fun _ => fun
  | [d1, d2] => { results := [.lit (.bool true)], args := [d1, d2] }
  | _ => none }
def prefixRunsRow : OpenClaim := { program := "ytnmncjeplfkdpaa", sum := "4389f06d9a18e7cd9f5671e988039147cf1bf4e412a56fd45bc6074551a4c314", func := "nearhand/nearhandlaw15.PrefixRuns", spec := "prefixRuns", inPlace := ["slices.overlaps[int]", "slices.overlaps[*nearhand/radix.node]"], unfollowed := true, recurses := true, apart := false }
def PrefixRunsSaid : Prop := prefixRunsRow.holds Try.pinned (OpenSpec.ofChange prefixRunsSpec)

/-- ITS FALSE NEIGHBOUR: 'it returns false'. Refute it at one input. -/
def prefixRunsWrong : ChangeSpec := { name := "prefixRuns", fn := fun _ => fun
  | [d1, d2] => { results := [.lit (.bool false)], args := [d1, d2] }
  | _ => none }
def PrefixRunsWrongFalsely : Prop := prefixRunsRow.holds Try.pinned (OpenSpec.ofChange prefixRunsWrong)

/-- 'nearhandlaw15.PrefixLeaves': WHATEVER THE INPUT: true; the input reads as it did. -/
def prefixLeavesSpec : ChangeSpec := { name := "prefixLeaves", fn := fun _ => fun
  | [d1, d2] => { results := [.lit (.bool true)], args := [d1, d2] }
  | _ => none }
def prefixLeavesRow : OpenClaim := { program := "ytnmncjeplfkdpaa", sum := "4389f06d9a18e7cd9f5671e988039147cf1bf4e412a56fd45bc6074551a4c314", func := "nearhand/nearhandlaw15.PrefixLeaves", spec := "prefixLeaves", inPlace := ["slices.overlaps[int]", "slices.overlaps[*nearhand/radix.node]"], unfollowed := true, recurses := true, apart := false }
def PrefixLeavesSaid : Prop := prefixLeavesRow.holds Try.pinned (OpenSpec.ofChange prefixLeavesSpec)

/-- ITS FALSE NEIGHBOUR: 'it returns false'. Refute it at one input. -/
def prefixLeavesWrong : ChangeSpec := { name := "prefixLeaves", fn := fun _ => fun
  | [d1, d2] => { results := [.lit (.bool false)], args := [d1, d2] }
  | _ => none }
def PrefixLeavesWrongFalsely : Prop := prefixLeavesRow.holds Try.pinned (OpenSpec.ofChange prefixLeavesWrong)

/-- 'nearhandlaw15.PrefixOrders': WHATEVER THE INPUT: true; the input reads as it did. -/
def prefixOrdersSpec : ChangeSpec := { name := "prefixOrders", fn := fun _ => fun
  | [d1, d2, d3] => { results := [.lit (.bool true)], args := [d1, d2, d3] }
  | _ => none }
def prefixOrdersRow : OpenClaim := { program := "ytnmncjeplfkdpaa", sum := "4389f06d9a18e7cd9f5671e988039147cf1bf4e412a56fd45bc6074551a4c314", func := "nearhand/nearhandlaw15.PrefixOrders", spec := "prefixOrders", inPlace := ["slices.overlaps[int]", "slices.overlaps[*nearhand/radix.node]"], unfollowed := true, recurses := true, apart := false }
def PrefixOrdersSaid : Prop := prefixOrdersRow.holds Try.pinned (OpenSpec.ofChange prefixOrdersSpec)

/-- ITS FALSE NEIGHBOUR: 'it returns false'. Refute it at one input. -/
def prefixOrdersWrong : ChangeSpec := { name := "prefixOrders", fn := fun _ => fun
  | [d1, d2, d3] => { results := [.lit (.bool false)], args := [d1, d2, d3] }
  | _ => none }
def PrefixOrdersWrongFalsely : Prop := prefixOrdersRow.holds Try.pinned (OpenSpec.ofChange prefixOrdersWrong)

/- THE SECOND FORM. 'bulk': how many values and letters a reading holds, each counted each time it is reached (what is shared counts as often as it is met; a slice's spare places count too). A statement '..UptoSaid' is the law's where the arguments, and the package variables that the reading takes, are together of bulk at most 1048576: NARROWER than '..Said'. Prove '..Said' where nothing that the law and all that it calls make is longer than what came in: it says more and counts as full. Else prove '..UptoSaid'. A law counts once. -/
mutual
def uptoBulk {H : Type} : DataW H → Nat
  | .lit (.string bytes) => bytes.length + 1
  | .lit _ => 1
  | .nil => 1
  | .ptr d => uptoBulk d + 1
  | .slice elems spare => uptoBulkAll elems + uptoBulkAll spare + 1
  | .agg parts => uptoBulkAll parts + 1
  | .iface _ d => uptoBulk d + 1
  | .map entries => uptoBulkEntries entries + 1
  | .held _ => 1
def uptoBulkAll {H : Type} : List (DataW H) → Nat
  | [] => 0
  | d :: r => uptoBulk d + uptoBulkAll r
def uptoBulkEntries {H : Type} : List (Lit × DataW H) → Nat
  | [] => 0
  | x :: r => uptoBulkEntry x + uptoBulkEntries r
def uptoBulkEntry {H : Type} : Lit × DataW H → Nat
  | (.string bytes, d) => bytes.length + uptoBulk d + 1
  | (_, d) => uptoBulk d + 1
 end
def uptoSmall : (H : Type) → List (DataW H) → Bool := fun _ ds => decide (uptoBulkAll ds ≤ 1048576)
def OpenSpec.upto (s : _root_.Go.ChangeSpec) : _root_.Go.OpenSpec := { _root_.Go.OpenSpec.ofChange s with cond := some uptoSmall }

/-- 'nearhandlaw15.PrefixRuns', WHERE WHAT IT READS IS OF BULK AT MOST 1048576: true; the input reads as it did. -/
def prefixRunsUptoRow : OpenClaim := { program := "ytnmncjeplfkdpaa", sum := "4389f06d9a18e7cd9f5671e988039147cf1bf4e412a56fd45bc6074551a4c314", func := "nearhand/nearhandlaw15.PrefixRuns", spec := "prefixRuns", inPlace := ["slices.overlaps[int]", "slices.overlaps[*nearhand/radix.node]"], unfollowed := true, recurses := true, apart := false, narrowed := true }
def PrefixRunsUptoSaid : Prop := prefixRunsUptoRow.holds Try.pinned (OpenSpec.upto prefixRunsSpec)

/-- 'nearhandlaw15.PrefixLeaves', WHERE WHAT IT READS IS OF BULK AT MOST 1048576: true; the input reads as it did. -/
def prefixLeavesUptoRow : OpenClaim := { program := "ytnmncjeplfkdpaa", sum := "4389f06d9a18e7cd9f5671e988039147cf1bf4e412a56fd45bc6074551a4c314", func := "nearhand/nearhandlaw15.PrefixLeaves", spec := "prefixLeaves", inPlace := ["slices.overlaps[int]", "slices.overlaps[*nearhand/radix.node]"], unfollowed := true, recurses := true, apart := false, narrowed := true }
def PrefixLeavesUptoSaid : Prop := prefixLeavesUptoRow.holds Try.pinned (OpenSpec.upto prefixLeavesSpec)

/-- 'nearhandlaw15.PrefixOrders', WHERE WHAT IT READS IS OF BULK AT MOST 1048576: true; the input reads as it did. -/
def prefixOrdersUptoRow : OpenClaim := { program := "ytnmncjeplfkdpaa", sum := "4389f06d9a18e7cd9f5671e988039147cf1bf4e412a56fd45bc6074551a4c314", func := "nearhand/nearhandlaw15.PrefixOrders", spec := "prefixOrders", inPlace := ["slices.overlaps[int]", "slices.overlaps[*nearhand/radix.node]"], unfollowed := true, recurses := true, apart := false, narrowed := true }
def PrefixOrdersUptoSaid : Prop := prefixOrdersUptoRow.holds Try.pinned (OpenSpec.upto prefixOrdersSpec)

end Rows
end Go.Proofs.Ytnmncjeplfkdpaa
