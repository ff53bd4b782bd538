/-
  No cell of these rows narrows 'for every input' (looked for: loops, veiled, ifaces, maps, wideKeys, modest, calm, conditions, laid).
  DERIVED. THE GIVEN ROWS OF THIS SEAT. 2 by the template 'for every input the law returns true; each argument reads behind the call as it read before'; 0 by the template 'total and deterministic' (their statements: YtinlkcmdbjcofaaTotals.lean).
  GIVEN WITH THE SEED: the statements are not yours to turn. If you find one false, say at which input.
  Laid BY PROGRAM, IN A SANDBOX (cutbox-rows.mjs): the forced cells as the released guide's own fill.sh prints them over the translation bc766537754522dd… (all of the seat's roots in one cut). By AI agents, Wed Nov 11 2026. No macro, syntax, notation, axiom, sorry.
-/
import Derived.Test.YtinlkcmdbjcofaaChecked
import GoSem.Claim
import GoSem.ClaimJoined
import GoSem.ClaimMapViews
import Derived.JoinedTies
import Derived.KernelRfl
namespace Go.Proofs.Ytinlkcmdbjcofaa
/- THE CELL 'sum', in the pinned program and in every row, IS THE sha256 OF THE DUMP (.gsa) THAT YtinlkcmdbjcofaaProg.lean LOADS. Nothing in Lean hashes anything: it is a label: what it is worth is what the hold of that sum in a sandbox is worth. -/
noncomputable def Try.pinned : Pinned := { name := "ytinlkcmdbjcofaa", sum := "bc766537754522dd9e2f57d4eb598e21309ee5e6e26533e9fae3094afa5affb2", checked := Try.checked }
namespace Rows
def none {H : Type} : Left H := { results := [], args := [] }

/-- 'frameskeep.Handles': WHATEVER THE INPUT: true; the input reads as it did. -/
def handlesSpec : ChangeSpec := { name := "handles", fn := fun _ => fun
  | [d1, d2] => { results := [.lit (.bool true)], args := [d1, d2] }
  | _ => none }
def handlesRow : OpenClaim := { program := "ytinlkcmdbjcofaa", sum := "bc766537754522dd9e2f57d4eb598e21309ee5e6e26533e9fae3094afa5affb2", func := "frames/frameskeep.Handles", spec := "handles", apart := false }
def HandlesSaid : Prop := handlesRow.holds Try.pinned (OpenSpec.ofChange handlesSpec)

/-- ITS FALSE NEIGHBOUR: 'it returns false'. Refute it at one input. -/
def handlesWrong : ChangeSpec := { name := "handles", fn := fun _ => fun
  | [d1, d2] => { results := [.lit (.bool false)], args := [d1, d2] }
  | _ => none }
def HandlesWrongFalsely : Prop := handlesRow.holds Try.pinned (OpenSpec.ofChange handlesWrong)

/-- 'frameskeep.Backed': WHATEVER THE INPUT: true; the input reads as it did. -/
def backedSpec : ChangeSpec := { name := "backed", fn := fun _ => fun
  | [d1, d2] => { results := [.lit (.bool true)], args := [d1, d2] }
  | _ => none }
def backedRow : OpenClaim := { program := "ytinlkcmdbjcofaa", sum := "bc766537754522dd9e2f57d4eb598e21309ee5e6e26533e9fae3094afa5affb2", func := "frames/frameskeep.Backed", spec := "backed", apart := false }
def BackedSaid : Prop := backedRow.holds Try.pinned (OpenSpec.ofChange backedSpec)

/-- ITS FALSE NEIGHBOUR: 'it returns false'. Refute it at one input. -/
def backedWrong : ChangeSpec := { name := "backed", fn := fun _ => fun
  | [d1, d2] => { results := [.lit (.bool false)], args := [d1, d2] }
  | _ => none }
def BackedWrongFalsely : Prop := backedRow.holds Try.pinned (OpenSpec.ofChange backedWrong)

/- THE SECOND FORM. 'bulk': how many values and letters a reading holds, each counted each time it is reached (what is shared counts as often as it is met; a slice's spare places count too). A statement '..UptoSaid' is the law's where the arguments, and the package variables that the reading takes, are together of bulk at most 1048576: NARROWER than '..Said'. Prove '..Said' where nothing that the law and all that it calls make is longer than what came in: it says more and counts as full. Else prove '..UptoSaid'. A law counts once. -/
mutual
def uptoBulk {H : Type} : DataW H → Nat
  | .lit (.string bytes) => bytes.length + 1
  | .lit _ => 1
  | .nil => 1
  | .ptr d => uptoBulk d + 1
  | .slice elems spare => uptoBulkAll elems + uptoBulkAll spare + 1
  | .agg parts => uptoBulkAll parts + 1
  | .iface _ d => uptoBulk d + 1
  | .map entries => uptoBulkEntries entries + 1
  | .held _ => 1
def uptoBulkAll {H : Type} : List (DataW H) → Nat
  | [] => 0
  | d :: r => uptoBulk d + uptoBulkAll r
def uptoBulkEntries {H : Type} : List (Lit × DataW H) → Nat
  | [] => 0
  | x :: r => uptoBulkEntry x + uptoBulkEntries r
def uptoBulkEntry {H : Type} : Lit × DataW H → Nat
  | (.string bytes, d) => bytes.length + uptoBulk d + 1
  | (_, d) => uptoBulk d + 1
 end
def uptoSmall : (H : Type) → List (DataW H) → Bool := fun _ ds => decide (uptoBulkAll ds ≤ 1048576)
def OpenSpec.upto (s : _root_.Go.ChangeSpec) : _root_.Go.OpenSpec := { _root_.Go.OpenSpec.ofChange s with cond := some uptoSmall }

/-- 'frameskeep.Handles', WHERE WHAT IT READS IS OF BULK AT MOST 1048576: true; the input reads as it did. -/
def handlesUptoRow : OpenClaim := { program := "ytinlkcmdbjcofaa", sum := "bc766537754522dd9e2f57d4eb598e21309ee5e6e26533e9fae3094afa5affb2", func := "frames/frameskeep.Handles", spec := "handles", apart := false, narrowed := true }
def HandlesUptoSaid : Prop := handlesUptoRow.holds Try.pinned (OpenSpec.upto handlesSpec)

/-- 'frameskeep.Backed', WHERE WHAT IT READS IS OF BULK AT MOST 1048576: true; the input reads as it did. -/
def backedUptoRow : OpenClaim := { program := "ytinlkcmdbjcofaa", sum := "bc766537754522dd9e2f57d4eb598e21309ee5e6e26533e9fae3094afa5affb2", func := "frames/frameskeep.Backed", spec := "backed", apart := false, narrowed := true }
def BackedUptoSaid : Prop := backedUptoRow.holds Try.pinned (OpenSpec.upto backedSpec)

end Rows
end Go.Proofs.Ytinlkcmdbjcofaa
