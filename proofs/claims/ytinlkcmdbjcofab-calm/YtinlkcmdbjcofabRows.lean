/-
  No cell of these rows narrows 'for every input' (looked for: loops, veiled, ifaces, maps, wideKeys, modest, calm, conditions, laid).
  DERIVED. THE GIVEN ROWS OF THIS SEAT. 6 by the template 'for every input the law returns true; each argument reads behind the call as it read before'; 0 by the template 'total and deterministic' (their statements: YtinlkcmdbjcofabTotals.lean).
  GIVEN WITH THE SEED: the statements are not yours to turn. If you find one false, say at which input.
  Laid BY PROGRAM, IN A SANDBOX (cutbox-rows.mjs): the forced cells as the released guide's own fill.sh prints them over the translation 8c519b4b4c352963… (all of the seat's roots in one cut). By AI agents, Wed Nov 11 2026. No macro, syntax, notation, axiom, sorry.
-/
import Derived.Test.YtinlkcmdbjcofabChecked
import GoSem.Claim
import GoSem.ClaimJoined
import GoSem.ClaimMapViews
import Derived.JoinedTies
import Derived.KernelRfl
namespace Go.Proofs.Ytinlkcmdbjcofab
/- THE CELL 'sum', in the pinned program and in every row, IS THE sha256 OF THE DUMP (.gsa) THAT YtinlkcmdbjcofabProg.lean LOADS. Nothing in Lean hashes anything: it is a label: what it is worth is what the hold of that sum in a sandbox is worth. -/
noncomputable def Try.pinned : Pinned := { name := "ytinlkcmdbjcofab", sum := "8c519b4b4c3529632d37bf6724a72ef5fb87d6c3cb4af83abbf99cde7ccb7f2e", checked := Try.checked }
namespace Rows
def none {H : Type} : Left H := { results := [], args := [] }

/-- 'frameskeep.Fresh': WHATEVER THE INPUT: true; the input reads as it did. -/
def freshSpec : ChangeSpec := { name := "fresh", fn := fun _ => fun
  | [d1, d2] => { results := [.lit (.bool true)], args := [d1, d2] }
  | _ => none }
def freshRow : OpenClaim := { program := "ytinlkcmdbjcofab", sum := "8c519b4b4c3529632d37bf6724a72ef5fb87d6c3cb4af83abbf99cde7ccb7f2e", func := "frames/frameskeep.Fresh", spec := "fresh", apart := false }
def FreshSaid : Prop := freshRow.holds Try.pinned (OpenSpec.ofChange freshSpec)

/-- ITS FALSE NEIGHBOUR: 'it returns false'. Refute it at one input. -/
def freshWrong : ChangeSpec := { name := "fresh", fn := fun _ => fun
  | [d1, d2] => { results := [.lit (.bool false)], args := [d1, d2] }
  | _ => none }
def FreshWrongFalsely : Prop := freshRow.holds Try.pinned (OpenSpec.ofChange freshWrong)

/-- 'frameskeep.Sealed': WHATEVER THE INPUT: true; the input reads as it did. -/
def sealedSpec : ChangeSpec := { name := "sealed", fn := fun _ => fun
  | [d1, d2] => { results := [.lit (.bool true)], args := [d1, d2] }
  | _ => none }
def sealedRow : OpenClaim := { program := "ytinlkcmdbjcofab", sum := "8c519b4b4c3529632d37bf6724a72ef5fb87d6c3cb4af83abbf99cde7ccb7f2e", func := "frames/frameskeep.Sealed", spec := "sealed", apart := false }
def SealedSaid : Prop := sealedRow.holds Try.pinned (OpenSpec.ofChange sealedSpec)

/-- ITS FALSE NEIGHBOUR: 'it returns false'. Refute it at one input. -/
def sealedWrong : ChangeSpec := { name := "sealed", fn := fun _ => fun
  | [d1, d2] => { results := [.lit (.bool false)], args := [d1, d2] }
  | _ => none }
def SealedWrongFalsely : Prop := sealedRow.holds Try.pinned (OpenSpec.ofChange sealedWrong)

/-- 'frameskeep.Shared': WHATEVER THE INPUT: true; the input reads as it did. -/
def sharedSpec : ChangeSpec := { name := "shared", fn := fun _ => fun
  | [d1, d2, d3, d4, d5] => { results := [.lit (.bool true)], args := [d1, d2, d3, d4, d5] }
  | _ => none }
def sharedRow : OpenClaim := { program := "ytinlkcmdbjcofab", sum := "8c519b4b4c3529632d37bf6724a72ef5fb87d6c3cb4af83abbf99cde7ccb7f2e", func := "frames/frameskeep.Shared", spec := "shared", apart := false }
def SharedSaid : Prop := sharedRow.holds Try.pinned (OpenSpec.ofChange sharedSpec)

/-- ITS FALSE NEIGHBOUR: 'it returns false'. Refute it at one input. -/
def sharedWrong : ChangeSpec := { name := "shared", fn := fun _ => fun
  | [d1, d2, d3, d4, d5] => { results := [.lit (.bool false)], args := [d1, d2, d3, d4, d5] }
  | _ => none }
def SharedWrongFalsely : Prop := sharedRow.holds Try.pinned (OpenSpec.ofChange sharedWrong)

/-- 'frameskeep.Flat': WHATEVER THE INPUT: true; the input reads as it did. -/
def flatSpec : ChangeSpec := { name := "flat", fn := fun _ => fun
  | [d1, d2, d3, d4] => { results := [.lit (.bool true)], args := [d1, d2, d3, d4] }
  | _ => none }
def flatRow : OpenClaim := { program := "ytinlkcmdbjcofab", sum := "8c519b4b4c3529632d37bf6724a72ef5fb87d6c3cb4af83abbf99cde7ccb7f2e", func := "frames/frameskeep.Flat", spec := "flat", apart := false }
def FlatSaid : Prop := flatRow.holds Try.pinned (OpenSpec.ofChange flatSpec)

/-- ITS FALSE NEIGHBOUR: 'it returns false'. Refute it at one input. -/
def flatWrong : ChangeSpec := { name := "flat", fn := fun _ => fun
  | [d1, d2, d3, d4] => { results := [.lit (.bool false)], args := [d1, d2, d3, d4] }
  | _ => none }
def FlatWrongFalsely : Prop := flatRow.holds Try.pinned (OpenSpec.ofChange flatWrong)

/-- 'frameskeep.Calm': WHATEVER THE INPUT: true; the input reads as it did. -/
def calmSpec : ChangeSpec := { name := "calm", fn := fun _ => fun
  | [d1, d2, d3, d4] => { results := [.lit (.bool true)], args := [d1, d2, d3, d4] }
  | _ => none }
def calmRow : OpenClaim := { program := "ytinlkcmdbjcofab", sum := "8c519b4b4c3529632d37bf6724a72ef5fb87d6c3cb4af83abbf99cde7ccb7f2e", func := "frames/frameskeep.Calm", spec := "calm", apart := false }
def CalmSaid : Prop := calmRow.holds Try.pinned (OpenSpec.ofChange calmSpec)

/-- ITS FALSE NEIGHBOUR: 'it returns false'. Refute it at one input. -/
def calmWrong : ChangeSpec := { name := "calm", fn := fun _ => fun
  | [d1, d2, d3, d4] => { results := [.lit (.bool false)], args := [d1, d2, d3, d4] }
  | _ => none }
def CalmWrongFalsely : Prop := calmRow.holds Try.pinned (OpenSpec.ofChange calmWrong)

/-- 'frameskeep.Marked': WHATEVER THE INPUT: true; the input reads as it did. -/
def markedSpec : ChangeSpec := { name := "marked", fn := fun _ => fun
  | [d1, d2, d3, d4] => { results := [.lit (.bool true)], args := [d1, d2, d3, d4] }
  | _ => none }
def markedRow : OpenClaim := { program := "ytinlkcmdbjcofab", sum := "8c519b4b4c3529632d37bf6724a72ef5fb87d6c3cb4af83abbf99cde7ccb7f2e", func := "frames/frameskeep.Marked", spec := "marked", apart := false }
def MarkedSaid : Prop := markedRow.holds Try.pinned (OpenSpec.ofChange markedSpec)

/-- ITS FALSE NEIGHBOUR: 'it returns false'. Refute it at one input. -/
def markedWrong : ChangeSpec := { name := "marked", fn := fun _ => fun
  | [d1, d2, d3, d4] => { results := [.lit (.bool false)], args := [d1, d2, d3, d4] }
  | _ => none }
def MarkedWrongFalsely : Prop := markedRow.holds Try.pinned (OpenSpec.ofChange markedWrong)

/- THE SECOND FORM. 'bulk': how many values and letters a reading holds, each counted each time it is reached (what is shared counts as often as it is met; a slice's spare places count too). A statement '..UptoSaid' is the law's where the arguments, and the package variables that the reading takes, are together of bulk at most 1048576: NARROWER than '..Said'. Prove '..Said' where nothing that the law and all that it calls make is longer than what came in: it says more and counts as full. Else prove '..UptoSaid'. A law counts once. -/
mutual
def uptoBulk {H : Type} : DataW H → Nat
  | .lit (.string bytes) => bytes.length + 1
  | .lit _ => 1
  | .nil => 1
  | .ptr d => uptoBulk d + 1
  | .slice elems spare => uptoBulkAll elems + uptoBulkAll spare + 1
  | .agg parts => uptoBulkAll parts + 1
  | .iface _ d => uptoBulk d + 1
  | .map entries => uptoBulkEntries entries + 1
  | .held _ => 1
def uptoBulkAll {H : Type} : List (DataW H) → Nat
  | [] => 0
  | d :: r => uptoBulk d + uptoBulkAll r
def uptoBulkEntries {H : Type} : List (Lit × DataW H) → Nat
  | [] => 0
  | x :: r => uptoBulkEntry x + uptoBulkEntries r
def uptoBulkEntry {H : Type} : Lit × DataW H → Nat
  | (.string bytes, d) => bytes.length + uptoBulk d + 1
  | (_, d) => uptoBulk d + 1
 end
def uptoSmall : (H : Type) → List (DataW H) → Bool := fun _ ds => decide (uptoBulkAll ds ≤ 1048576)
def OpenSpec.upto (s : _root_.Go.ChangeSpec) : _root_.Go.OpenSpec := { _root_.Go.OpenSpec.ofChange s with cond := some uptoSmall }

/-- 'frameskeep.Fresh', WHERE WHAT IT READS IS OF BULK AT MOST 1048576: true; the input reads as it did. -/
def freshUptoRow : OpenClaim := { program := "ytinlkcmdbjcofab", sum := "8c519b4b4c3529632d37bf6724a72ef5fb87d6c3cb4af83abbf99cde7ccb7f2e", func := "frames/frameskeep.Fresh", spec := "fresh", apart := false, narrowed := true }
def FreshUptoSaid : Prop := freshUptoRow.holds Try.pinned (OpenSpec.upto freshSpec)

/-- 'frameskeep.Sealed', WHERE WHAT IT READS IS OF BULK AT MOST 1048576: true; the input reads as it did. -/
def sealedUptoRow : OpenClaim := { program := "ytinlkcmdbjcofab", sum := "8c519b4b4c3529632d37bf6724a72ef5fb87d6c3cb4af83abbf99cde7ccb7f2e", func := "frames/frameskeep.Sealed", spec := "sealed", apart := false, narrowed := true }
def SealedUptoSaid : Prop := sealedUptoRow.holds Try.pinned (OpenSpec.upto sealedSpec)

/-- 'frameskeep.Shared', WHERE WHAT IT READS IS OF BULK AT MOST 1048576: true; the input reads as it did. -/
def sharedUptoRow : OpenClaim := { program := "ytinlkcmdbjcofab", sum := "8c519b4b4c3529632d37bf6724a72ef5fb87d6c3cb4af83abbf99cde7ccb7f2e", func := "frames/frameskeep.Shared", spec := "shared", apart := false, narrowed := true }
def SharedUptoSaid : Prop := sharedUptoRow.holds Try.pinned (OpenSpec.upto sharedSpec)

/-- 'frameskeep.Flat', WHERE WHAT IT READS IS OF BULK AT MOST 1048576: true; the input reads as it did. -/
def flatUptoRow : OpenClaim := { program := "ytinlkcmdbjcofab", sum := "8c519b4b4c3529632d37bf6724a72ef5fb87d6c3cb4af83abbf99cde7ccb7f2e", func := "frames/frameskeep.Flat", spec := "flat", apart := false, narrowed := true }
def FlatUptoSaid : Prop := flatUptoRow.holds Try.pinned (OpenSpec.upto flatSpec)

/-- 'frameskeep.Calm', WHERE WHAT IT READS IS OF BULK AT MOST 1048576: true; the input reads as it did. -/
def calmUptoRow : OpenClaim := { program := "ytinlkcmdbjcofab", sum := "8c519b4b4c3529632d37bf6724a72ef5fb87d6c3cb4af83abbf99cde7ccb7f2e", func := "frames/frameskeep.Calm", spec := "calm", apart := false, narrowed := true }
def CalmUptoSaid : Prop := calmUptoRow.holds Try.pinned (OpenSpec.upto calmSpec)

/-- 'frameskeep.Marked', WHERE WHAT IT READS IS OF BULK AT MOST 1048576: true; the input reads as it did. -/
def markedUptoRow : OpenClaim := { program := "ytinlkcmdbjcofab", sum := "8c519b4b4c3529632d37bf6724a72ef5fb87d6c3cb4af83abbf99cde7ccb7f2e", func := "frames/frameskeep.Marked", spec := "marked", apart := false, narrowed := true }
def MarkedUptoSaid : Prop := markedUptoRow.holds Try.pinned (OpenSpec.upto markedSpec)

end Rows
end Go.Proofs.Ytinlkcmdbjcofab
