/-
  No cell of these rows narrows 'for every input' (looked for: loops, veiled, ifaces, maps, wideKeys, modest, calm, conditions, laid).
  DERIVED. THE GIVEN ROWS OF THIS SEAT. 4 by the template 'for every input the law returns true; each argument reads behind the call as it read before'; 0 by the template 'total and deterministic' (their statements: YtedpbngfjjofhaaTotals.lean).
  GIVEN WITH THE SEED: the statements are not yours to turn. If you find one false, say at which input.
  Laid BY PROGRAM, IN A SANDBOX (cutbox-rows.mjs): the forced cells as the released guide's own fill.sh prints them over the translation 164cbe498a77886e… (all of the seat's roots in one cut). By AI agents, Wed Nov 11 2026. No macro, syntax, notation, axiom, sorry.
-/
import Derived.Test.YtedpbngfjjofhaaChecked
import GoSem.Claim
import GoSem.ClaimJoined
import GoSem.ClaimMapViews
import Derived.JoinedTies
import Derived.KernelRfl
namespace Go.Proofs.Ytedpbngfjjofhaa
/- THE CELL 'sum', in the pinned program and in every row, IS THE sha256 OF THE DUMP (.gsa) THAT YtedpbngfjjofhaaProg.lean LOADS. Nothing in Lean hashes anything: it is a label: what it is worth is what the hold of that sum in a sandbox is worth. -/
noncomputable def Try.pinned : Pinned := { name := "ytedpbngfjjofhaa", sum := "164cbe498a77886ed94381563c2e58ba57ff86012888ebaf79e61e0a1e7ececf", checked := Try.checked }
namespace Rows
def none {H : Type} : Left H := { results := [], args := [] }

/-- 'nearhandlaw07.RadixRuns': WHATEVER THE INPUT: true; the input reads as it did. -/
def radixRunsSpec : ChangeSpec := { name := "radixRuns", fn := fun _ => fun
  | [d1, d2] => { results := [.lit (.bool true)], args := [d1, d2] }
  | _ => none }
def radixRunsRow : OpenClaim := { program := "ytedpbngfjjofhaa", sum := "164cbe498a77886ed94381563c2e58ba57ff86012888ebaf79e61e0a1e7ececf", func := "nearhand/nearhandlaw07.RadixRuns", spec := "radixRuns", inPlace := ["slices.overlaps[*nearhand/radix.node]"], unfollowed := true, recurses := true, apart := false }
def RadixRunsSaid : Prop := radixRunsRow.holds Try.pinned (OpenSpec.ofChange radixRunsSpec)

/-- ITS FALSE NEIGHBOUR: 'it returns false'. Refute it at one input. -/
def radixRunsWrong : ChangeSpec := { name := "radixRuns", fn := fun _ => fun
  | [d1, d2] => { results := [.lit (.bool false)], args := [d1, d2] }
  | _ => none }
def RadixRunsWrongFalsely : Prop := radixRunsRow.holds Try.pinned (OpenSpec.ofChange radixRunsWrong)

/-- 'nearhandlaw07.RadixOrders': WHATEVER THE INPUT: true; the input reads as it did. -/
def radixOrdersSpec : ChangeSpec := { name := "radixOrders", fn := fun _ => fun
  | [d1, d2] => { results := [.lit (.bool true)], args := [d1, d2] }
  | _ => none }
def radixOrdersRow : OpenClaim := { program := "ytedpbngfjjofhaa", sum := "164cbe498a77886ed94381563c2e58ba57ff86012888ebaf79e61e0a1e7ececf", func := "nearhand/nearhandlaw07.RadixOrders", spec := "radixOrders", inPlace := ["slices.overlaps[*nearhand/radix.node]"], unfollowed := true, recurses := true, apart := false }
def RadixOrdersSaid : Prop := radixOrdersRow.holds Try.pinned (OpenSpec.ofChange radixOrdersSpec)

/-- ITS FALSE NEIGHBOUR: 'it returns false'. Refute it at one input. -/
def radixOrdersWrong : ChangeSpec := { name := "radixOrders", fn := fun _ => fun
  | [d1, d2] => { results := [.lit (.bool false)], args := [d1, d2] }
  | _ => none }
def RadixOrdersWrongFalsely : Prop := radixOrdersRow.holds Try.pinned (OpenSpec.ofChange radixOrdersWrong)

/-- 'nearhandlaw07.RadixParts': WHATEVER THE INPUT: true; the input reads as it did. -/
def radixPartsSpec : ChangeSpec := { name := "radixParts", fn := fun _ => fun
  | [d] => { results := [.lit (.bool true)], args := [d] }
  | _ => none }
def radixPartsRow : OpenClaim := { program := "ytedpbngfjjofhaa", sum := "164cbe498a77886ed94381563c2e58ba57ff86012888ebaf79e61e0a1e7ececf", func := "nearhand/nearhandlaw07.RadixParts", spec := "radixParts", inPlace := ["slices.overlaps[*nearhand/radix.node]"], unfollowed := true, recurses := true, apart := false }
def RadixPartsSaid : Prop := radixPartsRow.holds Try.pinned (OpenSpec.ofChange radixPartsSpec)

/-- ITS FALSE NEIGHBOUR: 'it returns false'. Refute it at one input. -/
def radixPartsWrong : ChangeSpec := { name := "radixParts", fn := fun _ => fun
  | [d] => { results := [.lit (.bool false)], args := [d] }
  | _ => none }
def RadixPartsWrongFalsely : Prop := radixPartsRow.holds Try.pinned (OpenSpec.ofChange radixPartsWrong)

/-- 'nearhandlaw07.RadixWalks': WHATEVER THE INPUT: true; the input reads as it did. -/
def radixWalksSpec : ChangeSpec := { name := "radixWalks", fn := fun _ => fun
  | [d1, d2, d3] => { results := [.lit (.bool true)], args := [d1, d2, d3] }
  | _ => none }
def radixWalksRow : OpenClaim := { program := "ytedpbngfjjofhaa", sum := "164cbe498a77886ed94381563c2e58ba57ff86012888ebaf79e61e0a1e7ececf", func := "nearhand/nearhandlaw07.RadixWalks", spec := "radixWalks", inPlace := ["slices.overlaps[*nearhand/radix.node]"], unfollowed := true, recurses := true, apart := false }
def RadixWalksSaid : Prop := radixWalksRow.holds Try.pinned (OpenSpec.ofChange radixWalksSpec)

/-- ITS FALSE NEIGHBOUR: 'it returns false'. Refute it at one input. -/
def radixWalksWrong : ChangeSpec := { name := "radixWalks", fn := fun _ => fun
  | [d1, d2, d3] => { results := [.lit (.bool false)], args := [d1, d2, d3] }
  | _ => none }
def RadixWalksWrongFalsely : Prop := radixWalksRow.holds Try.pinned (OpenSpec.ofChange radixWalksWrong)

/- THE SECOND FORM. 'bulk': how many values and letters a reading holds, each counted each time it is reached (what is shared counts as often as it is met; a slice's spare places count too). A statement '..UptoSaid' is the law's where the arguments, and the package variables that the reading takes, are together of bulk at most 1048576: NARROWER than '..Said'. Prove '..Said' where nothing that the law and all that it calls make is longer than what came in: it says more and counts as full. Else prove '..UptoSaid'. A law counts once. -/
mutual
def uptoBulk {H : Type} : DataW H → Nat
  | .lit (.string bytes) => bytes.length + 1
  | .lit _ => 1
  | .nil => 1
  | .ptr d => uptoBulk d + 1
  | .slice elems spare => uptoBulkAll elems + uptoBulkAll spare + 1
  | .agg parts => uptoBulkAll parts + 1
  | .iface _ d => uptoBulk d + 1
  | .map entries => uptoBulkEntries entries + 1
  | .held _ => 1
def uptoBulkAll {H : Type} : List (DataW H) → Nat
  | [] => 0
  | d :: r => uptoBulk d + uptoBulkAll r
def uptoBulkEntries {H : Type} : List (Lit × DataW H) → Nat
  | [] => 0
  | x :: r => uptoBulkEntry x + uptoBulkEntries r
def uptoBulkEntry {H : Type} : Lit × DataW H → Nat
  | (.string bytes, d) => bytes.length + uptoBulk d + 1
  | (_, d) => uptoBulk d + 1
 end
def uptoSmall : (H : Type) → List (DataW H) → Bool := fun _ ds => decide (uptoBulkAll ds ≤ 1048576)
def OpenSpec.upto (s : _root_.Go.ChangeSpec) : _root_.Go.OpenSpec := { _root_.Go.OpenSpec.ofChange s with cond := some uptoSmall }

/-- 'nearhandlaw07.RadixRuns', WHERE WHAT IT READS IS OF BULK AT MOST 1048576: true; the input reads as it did. -/
def radixRunsUptoRow : OpenClaim := { program := "ytedpbngfjjofhaa", sum := "164cbe498a77886ed94381563c2e58ba57ff86012888ebaf79e61e0a1e7ececf", func := "nearhand/nearhandlaw07.RadixRuns", spec := "radixRuns", inPlace := ["slices.overlaps[*nearhand/radix.node]"], unfollowed := true, recurses := true, apart := false, narrowed := true }
def RadixRunsUptoSaid : Prop := radixRunsUptoRow.holds Try.pinned (OpenSpec.upto radixRunsSpec)

/-- 'nearhandlaw07.RadixOrders', WHERE WHAT IT READS IS OF BULK AT MOST 1048576: true; the input reads as it did. -/
def radixOrdersUptoRow : OpenClaim := { program := "ytedpbngfjjofhaa", sum := "164cbe498a77886ed94381563c2e58ba57ff86012888ebaf79e61e0a1e7ececf", func := "nearhand/nearhandlaw07.RadixOrders", spec := "radixOrders", inPlace := ["slices.overlaps[*nearhand/radix.node]"], unfollowed := true, recurses := true, apart := false, narrowed := true }
def RadixOrdersUptoSaid : Prop := radixOrdersUptoRow.holds Try.pinned (OpenSpec.upto radixOrdersSpec)

/-- 'nearhandlaw07.RadixParts', WHERE WHAT IT READS IS OF BULK AT MOST 1048576: true; the input reads as it did. -/
def radixPartsUptoRow : OpenClaim := { program := "ytedpbngfjjofhaa", sum := "164cbe498a77886ed94381563c2e58ba57ff86012888ebaf79e61e0a1e7ececf", func := "nearhand/nearhandlaw07.RadixParts", spec := "radixParts", inPlace := ["slices.overlaps[*nearhand/radix.node]"], unfollowed := true, recurses := true, apart := false, narrowed := true }
def RadixPartsUptoSaid : Prop := radixPartsUptoRow.holds Try.pinned (OpenSpec.upto radixPartsSpec)

/-- 'nearhandlaw07.RadixWalks', WHERE WHAT IT READS IS OF BULK AT MOST 1048576: true; the input reads as it did. -/
def radixWalksUptoRow : OpenClaim := { program := "ytedpbngfjjofhaa", sum := "164cbe498a77886ed94381563c2e58ba57ff86012888ebaf79e61e0a1e7ececf", func := "nearhand/nearhandlaw07.RadixWalks", spec := "radixWalks", inPlace := ["slices.overlaps[*nearhand/radix.node]"], unfollowed := true, recurses := true, apart := false, narrowed := true }
def RadixWalksUptoSaid : Prop := radixWalksUptoRow.holds Try.pinned (OpenSpec.upto radixWalksSpec)

end Rows
end Go.Proofs.Ytedpbngfjjofhaa
