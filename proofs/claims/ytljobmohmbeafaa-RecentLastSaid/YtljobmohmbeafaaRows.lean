/-
  No cell of these rows narrows 'for every input' (looked for: loops, veiled, ifaces, maps, wideKeys, modest, calm, conditions, laid).
  DERIVED. THE GIVEN ROWS OF THIS SEAT. 3 by the template 'for every input the law returns true; each argument reads behind the call as it read before'; 0 by the template 'total and deterministic' (their statements: YtljobmohmbeafaaTotals.lean).
  GIVEN WITH THE SEED: the statements are not yours to turn. If you find one false, say at which input.
  Laid BY PROGRAM, IN A SANDBOX (cutbox-rows.mjs): the forced cells as the released guide's own fill.sh prints them over the translation 5bd92b867ff28f95… (all of the seat's roots in one cut). By AI agents, Wed Nov 11 2026. No macro, syntax, notation, axiom, sorry.
-/
import Derived.Test.YtljobmohmbeafaaChecked
import GoSem.Claim
import GoSem.ClaimJoined
import GoSem.ClaimMapViews
import Derived.JoinedTies
import Derived.KernelRfl
namespace Go.Proofs.Ytljobmohmbeafaa
/- THE CELL 'sum', in the pinned program and in every row, IS THE sha256 OF THE DUMP (.gsa) THAT YtljobmohmbeafaaProg.lean LOADS. Nothing in Lean hashes anything: it is a label: what it is worth is what the hold of that sum in a sandbox is worth. -/
noncomputable def Try.pinned : Pinned := { name := "ytljobmohmbeafaa", sum := "5bd92b867ff28f95ce0c4dc16be6bed5a3e644f00164936fc54b64190bc8fea7", checked := Try.checked }
namespace Rows
def none {H : Type} : Left H := { results := [], args := [] }

/-- 'nearhandlaw10.RecentRuns': WHATEVER THE INPUT: true; the input reads as it did. -/
def recentRunsSpec : ChangeSpec := { name := "recentRuns", fn := fun _ => fun
  | [d1, d2] => { results := [.lit (.bool true)], args := [d1, d2] }
  | _ => none }
def recentRunsRow : OpenClaim := { program := "ytljobmohmbeafaa", sum := "5bd92b867ff28f95ce0c4dc16be6bed5a3e644f00164936fc54b64190bc8fea7", func := "nearhand/nearhandlaw10.RecentRuns", spec := "recentRuns", apart := false }
def RecentRunsSaid : Prop := recentRunsRow.holds Try.pinned (OpenSpec.ofChange recentRunsSpec)

/-- ITS FALSE NEIGHBOUR: 'it returns false'. Refute it at one input. -/
def recentRunsWrong : ChangeSpec := { name := "recentRuns", fn := fun _ => fun
  | [d1, d2] => { results := [.lit (.bool false)], args := [d1, d2] }
  | _ => none }
def RecentRunsWrongFalsely : Prop := recentRunsRow.holds Try.pinned (OpenSpec.ofChange recentRunsWrong)

/-- 'nearhandlaw10.RecentLast': WHATEVER THE INPUT: true; the input reads as it did. -/
def recentLastSpec : ChangeSpec := { name := "recentLast", fn := fun _ => fun
  | [d] => { results := [.lit (.bool true)], args := [d] }
  | _ => none }
def recentLastRow : OpenClaim := { program := "ytljobmohmbeafaa", sum := "5bd92b867ff28f95ce0c4dc16be6bed5a3e644f00164936fc54b64190bc8fea7", func := "nearhand/nearhandlaw10.RecentLast", spec := "recentLast", apart := false }
def RecentLastSaid : Prop := recentLastRow.holds Try.pinned (OpenSpec.ofChange recentLastSpec)

/-- ITS FALSE NEIGHBOUR: 'it returns false'. Refute it at one input. -/
def recentLastWrong : ChangeSpec := { name := "recentLast", fn := fun _ => fun
  | [d] => { results := [.lit (.bool false)], args := [d] }
  | _ => none }
def RecentLastWrongFalsely : Prop := recentLastRow.holds Try.pinned (OpenSpec.ofChange recentLastWrong)

/-- 'nearhandlaw10.RecentTwo': WHATEVER THE INPUT: true; the input reads as it did. -/
def recentTwoSpec : ChangeSpec := { name := "recentTwo", fn := fun _ => fun
  | [d1, d2] => { results := [.lit (.bool true)], args := [d1, d2] }
  | _ => none }
def recentTwoRow : OpenClaim := { program := "ytljobmohmbeafaa", sum := "5bd92b867ff28f95ce0c4dc16be6bed5a3e644f00164936fc54b64190bc8fea7", func := "nearhand/nearhandlaw10.RecentTwo", spec := "recentTwo", apart := false }
def RecentTwoSaid : Prop := recentTwoRow.holds Try.pinned (OpenSpec.ofChange recentTwoSpec)

/-- ITS FALSE NEIGHBOUR: 'it returns false'. Refute it at one input. -/
def recentTwoWrong : ChangeSpec := { name := "recentTwo", fn := fun _ => fun
  | [d1, d2] => { results := [.lit (.bool false)], args := [d1, d2] }
  | _ => none }
def RecentTwoWrongFalsely : Prop := recentTwoRow.holds Try.pinned (OpenSpec.ofChange recentTwoWrong)

/- THE SECOND FORM. 'bulk': how many values and letters a reading holds, each counted each time it is reached (what is shared counts as often as it is met; a slice's spare places count too). A statement '..UptoSaid' is the law's where the arguments, and the package variables that the reading takes, are together of bulk at most 1048576: NARROWER than '..Said'. Prove '..Said' where nothing that the law and all that it calls make is longer than what came in: it says more and counts as full. Else prove '..UptoSaid'. A law counts once. -/
mutual
def uptoBulk {H : Type} : DataW H → Nat
  | .lit (.string bytes) => bytes.length + 1
  | .lit _ => 1
  | .nil => 1
  | .ptr d => uptoBulk d + 1
  | .slice elems spare => uptoBulkAll elems + uptoBulkAll spare + 1
  | .agg parts => uptoBulkAll parts + 1
  | .iface _ d => uptoBulk d + 1
  | .map entries => uptoBulkEntries entries + 1
  | .held _ => 1
def uptoBulkAll {H : Type} : List (DataW H) → Nat
  | [] => 0
  | d :: r => uptoBulk d + uptoBulkAll r
def uptoBulkEntries {H : Type} : List (Lit × DataW H) → Nat
  | [] => 0
  | x :: r => uptoBulkEntry x + uptoBulkEntries r
def uptoBulkEntry {H : Type} : Lit × DataW H → Nat
  | (.string bytes, d) => bytes.length + uptoBulk d + 1
  | (_, d) => uptoBulk d + 1
 end
def uptoSmall : (H : Type) → List (DataW H) → Bool := fun _ ds => decide (uptoBulkAll ds ≤ 1048576)
def OpenSpec.upto (s : _root_.Go.ChangeSpec) : _root_.Go.OpenSpec := { _root_.Go.OpenSpec.ofChange s with cond := some uptoSmall }

/-- 'nearhandlaw10.RecentRuns', WHERE WHAT IT READS IS OF BULK AT MOST 1048576: true; the input reads as it did. -/
def recentRunsUptoRow : OpenClaim := { program := "ytljobmohmbeafaa", sum := "5bd92b867ff28f95ce0c4dc16be6bed5a3e644f00164936fc54b64190bc8fea7", func := "nearhand/nearhandlaw10.RecentRuns", spec := "recentRuns", apart := false, narrowed := true }
def RecentRunsUptoSaid : Prop := recentRunsUptoRow.holds Try.pinned (OpenSpec.upto recentRunsSpec)

/-- 'nearhandlaw10.RecentLast', WHERE WHAT IT READS IS OF BULK AT MOST 1048576: true; the input reads as it did. -/
def recentLastUptoRow : OpenClaim := { program := "ytljobmohmbeafaa", sum := "5bd92b867ff28f95ce0c4dc16be6bed5a3e644f00164936fc54b64190bc8fea7", func := "nearhand/nearhandlaw10.RecentLast", spec := "recentLast", apart := false, narrowed := true }
def RecentLastUptoSaid : Prop := recentLastUptoRow.holds Try.pinned (OpenSpec.upto recentLastSpec)

/-- 'nearhandlaw10.RecentTwo', WHERE WHAT IT READS IS OF BULK AT MOST 1048576: true; the input reads as it did. -/
def recentTwoUptoRow : OpenClaim := { program := "ytljobmohmbeafaa", sum := "5bd92b867ff28f95ce0c4dc16be6bed5a3e644f00164936fc54b64190bc8fea7", func := "nearhand/nearhandlaw10.RecentTwo", spec := "recentTwo", apart := false, narrowed := true }
def RecentTwoUptoSaid : Prop := recentTwoUptoRow.holds Try.pinned (OpenSpec.upto recentTwoSpec)

end Rows
end Go.Proofs.Ytljobmohmbeafaa
