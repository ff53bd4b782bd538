/-
  No cell of these rows narrows 'for every input' (looked for: loops, veiled, ifaces, maps, wideKeys, modest, calm, conditions, laid).
  DERIVED. THE GIVEN ROWS OF THIS SEAT. 4 by the template 'for every input the law returns true; each argument reads behind the call as it read before'; 0 by the template 'total and deterministic' (their statements: YtkonobbhohfjlaaTotals.lean).
  GIVEN WITH THE SEED: the statements are not yours to turn. If you find one false, say at which input.
  Laid BY PROGRAM, IN A SANDBOX (cutbox-rows.mjs): the forced cells as the released guide's own fill.sh prints them over the translation a3fe4483c5f42da3… (all of the seat's roots in one cut). By AI agents, Wed Nov 11 2026. No macro, syntax, notation, axiom, sorry.
-/
import Derived.Test.YtkonobbhohfjlaaChecked
import GoSem.Claim
import GoSem.ClaimJoined
import GoSem.ClaimMapViews
import Derived.JoinedTies
import Derived.KernelRfl
namespace Go.Proofs.Ytkonobbhohfjlaa
/- THE CELL 'sum', in the pinned program and in every row, IS THE sha256 OF THE DUMP (.gsa) THAT YtkonobbhohfjlaaProg.lean LOADS. Nothing in Lean hashes anything: it is a label: what it is worth is what the hold of that sum in a sandbox is worth. -/
noncomputable def Try.pinned : Pinned := { name := "ytkonobbhohfjlaa", sum := "a3fe4483c5f42da3c9f27397483ab17b77335414bdfd652ab8bfe402e92e8e59", checked := Try.checked }
namespace Rows
def none {H : Type} : Left H := { results := [], args := [] }

/-- 'frameslaw.News': WHATEVER THE INPUT: true; the input reads as it did. -/
def newsSpec : ChangeSpec := { name := "news", fn := fun _ => fun
  | [d] => { results := [.lit (.bool true)], args := [d] }
  | _ => none }
def newsRow : OpenClaim := { program := "ytkonobbhohfjlaa", sum := "a3fe4483c5f42da3c9f27397483ab17b77335414bdfd652ab8bfe402e92e8e59", func := "frames/frameslaw.News", spec := "news", apart := false }
def NewsSaid : Prop := newsRow.holds Try.pinned (OpenSpec.ofChange newsSpec)

/-- ITS FALSE NEIGHBOUR: 'it returns false'. Refute it at one input. -/
def newsWrong : ChangeSpec := { name := "news", fn := fun _ => fun
  | [d] => { results := [.lit (.bool false)], args := [d] }
  | _ => none }
def NewsWrongFalsely : Prop := newsRow.holds Try.pinned (OpenSpec.ofChange newsWrong)

/-- 'frameslaw.Grants': WHATEVER THE INPUT: true; the input reads as it did. -/
def grantsSpec : ChangeSpec := { name := "grants", fn := fun _ => fun
  | [d] => { results := [.lit (.bool true)], args := [d] }
  | _ => none }
def grantsRow : OpenClaim := { program := "ytkonobbhohfjlaa", sum := "a3fe4483c5f42da3c9f27397483ab17b77335414bdfd652ab8bfe402e92e8e59", func := "frames/frameslaw.Grants", spec := "grants", apart := false }
def GrantsSaid : Prop := grantsRow.holds Try.pinned (OpenSpec.ofChange grantsSpec)

/-- ITS FALSE NEIGHBOUR: 'it returns false'. Refute it at one input. -/
def grantsWrong : ChangeSpec := { name := "grants", fn := fun _ => fun
  | [d] => { results := [.lit (.bool false)], args := [d] }
  | _ => none }
def GrantsWrongFalsely : Prop := grantsRow.holds Try.pinned (OpenSpec.ofChange grantsWrong)

/-- 'frameslaw.Listed': WHATEVER THE INPUT: true; the input reads as it did. -/
def listedSpec : ChangeSpec := { name := "listed", fn := fun _ => fun
  | [d] => { results := [.lit (.bool true)], args := [d] }
  | _ => none }
def listedRow : OpenClaim := { program := "ytkonobbhohfjlaa", sum := "a3fe4483c5f42da3c9f27397483ab17b77335414bdfd652ab8bfe402e92e8e59", func := "frames/frameslaw.Listed", spec := "listed", apart := false }
def ListedSaid : Prop := listedRow.holds Try.pinned (OpenSpec.ofChange listedSpec)

/-- ITS FALSE NEIGHBOUR: 'it returns false'. Refute it at one input. -/
def listedWrong : ChangeSpec := { name := "listed", fn := fun _ => fun
  | [d] => { results := [.lit (.bool false)], args := [d] }
  | _ => none }
def ListedWrongFalsely : Prop := listedRow.holds Try.pinned (OpenSpec.ofChange listedWrong)

/-- 'frameskeep.Handles': WHATEVER THE INPUT: true; the input reads as it did. -/
def handlesSpec : ChangeSpec := { name := "handles", fn := fun _ => fun
  | [d1, d2] => { results := [.lit (.bool true)], args := [d1, d2] }
  | _ => none }
def handlesRow : OpenClaim := { program := "ytkonobbhohfjlaa", sum := "a3fe4483c5f42da3c9f27397483ab17b77335414bdfd652ab8bfe402e92e8e59", func := "frames/frameskeep.Handles", spec := "handles", apart := false }
def HandlesSaid : Prop := handlesRow.holds Try.pinned (OpenSpec.ofChange handlesSpec)

/-- ITS FALSE NEIGHBOUR: 'it returns false'. Refute it at one input. -/
def handlesWrong : ChangeSpec := { name := "handles", fn := fun _ => fun
  | [d1, d2] => { results := [.lit (.bool false)], args := [d1, d2] }
  | _ => none }
def HandlesWrongFalsely : Prop := handlesRow.holds Try.pinned (OpenSpec.ofChange handlesWrong)

/- THE SECOND FORM. 'bulk': how many values and letters a reading holds, each counted each time it is reached (what is shared counts as often as it is met; a slice's spare places count too). A statement '..UptoSaid' is the law's where the arguments, and the package variables that the reading takes, are together of bulk at most 1048576: NARROWER than '..Said'. Prove '..Said' where nothing that the law and all that it calls make is longer than what came in: it says more and counts as full. Else prove '..UptoSaid'. A law counts once. -/
mutual
def uptoBulk {H : Type} : DataW H → Nat
  | .lit (.string bytes) => bytes.length + 1
  | .lit _ => 1
  | .nil => 1
  | .ptr d => uptoBulk d + 1
  | .slice elems spare => uptoBulkAll elems + uptoBulkAll spare + 1
  | .agg parts => uptoBulkAll parts + 1
  | .iface _ d => uptoBulk d + 1
  | .map entries => uptoBulkEntries entries + 1
  | .held _ => 1
def uptoBulkAll {H : Type} : List (DataW H) → Nat
  | [] => 0
  | d :: r => uptoBulk d + uptoBulkAll r
def uptoBulkEntries {H : Type} : List (Lit × DataW H) → Nat
  | [] => 0
  | x :: r => uptoBulkEntry x + uptoBulkEntries r
def uptoBulkEntry {H : Type} : Lit × DataW H → Nat
  | (.string bytes, d) => bytes.length + uptoBulk d + 1
  | (_, d) => uptoBulk d + 1
 end
def uptoSmall : (H : Type) → List (DataW H) → Bool := fun _ ds => decide (uptoBulkAll ds ≤ 1048576)
def OpenSpec.upto (s : _root_.Go.ChangeSpec) : _root_.Go.OpenSpec := { _root_.Go.OpenSpec.ofChange s with cond := some uptoSmall }

/-- 'frameslaw.News', WHERE WHAT IT READS IS OF BULK AT MOST 1048576: true; the input reads as it did. -/
def newsUptoRow : OpenClaim := { program := "ytkonobbhohfjlaa", sum := "a3fe4483c5f42da3c9f27397483ab17b77335414bdfd652ab8bfe402e92e8e59", func := "frames/frameslaw.News", spec := "news", apart := false, narrowed := true }
def NewsUptoSaid : Prop := newsUptoRow.holds Try.pinned (OpenSpec.upto newsSpec)

/-- 'frameslaw.Grants', WHERE WHAT IT READS IS OF BULK AT MOST 1048576: true; the input reads as it did. -/
def grantsUptoRow : OpenClaim := { program := "ytkonobbhohfjlaa", sum := "a3fe4483c5f42da3c9f27397483ab17b77335414bdfd652ab8bfe402e92e8e59", func := "frames/frameslaw.Grants", spec := "grants", apart := false, narrowed := true }
def GrantsUptoSaid : Prop := grantsUptoRow.holds Try.pinned (OpenSpec.upto grantsSpec)

/-- 'frameslaw.Listed', WHERE WHAT IT READS IS OF BULK AT MOST 1048576: true; the input reads as it did. -/
def listedUptoRow : OpenClaim := { program := "ytkonobbhohfjlaa", sum := "a3fe4483c5f42da3c9f27397483ab17b77335414bdfd652ab8bfe402e92e8e59", func := "frames/frameslaw.Listed", spec := "listed", apart := false, narrowed := true }
def ListedUptoSaid : Prop := listedUptoRow.holds Try.pinned (OpenSpec.upto listedSpec)

/-- 'frameskeep.Handles', WHERE WHAT IT READS IS OF BULK AT MOST 1048576: true; the input reads as it did. -/
def handlesUptoRow : OpenClaim := { program := "ytkonobbhohfjlaa", sum := "a3fe4483c5f42da3c9f27397483ab17b77335414bdfd652ab8bfe402e92e8e59", func := "frames/frameskeep.Handles", spec := "handles", apart := false, narrowed := true }
def HandlesUptoSaid : Prop := handlesUptoRow.holds Try.pinned (OpenSpec.upto handlesSpec)

end Rows
end Go.Proofs.Ytkonobbhohfjlaa
