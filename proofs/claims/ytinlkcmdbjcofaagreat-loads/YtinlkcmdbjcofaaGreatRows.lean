/-
  No cell of these rows narrows 'for every input' (looked for: loops, veiled, ifaces, maps, wideKeys, modest, calm, conditions, laid).
  DERIVED. THE GIVEN ROWS OF THIS SEAT. 10 by the template 'for every input the law returns true; each argument reads behind the call as it read before'; 0 by the template 'total and deterministic' (their statements: YtinlkcmdbjcofaaGreatTotals.lean).
  GIVEN WITH THE SEED: the statements are not yours to turn. If you find one false, say at which input.
  Laid BY PROGRAM, IN A SANDBOX (cutbox-rows.mjs): the forced cells as the released guide's own fill.sh prints them over the translation 1a1529b6b2a8be6d… (all of the seat's roots in one cut). By AI agents, Wed Nov 11 2026. No macro, syntax, notation, axiom, sorry.
-/
import Derived.Test.YtinlkcmdbjcofaaGreatChecked
import GoSem.Claim
import GoSem.ClaimJoined
import GoSem.ClaimMapViews
import Derived.JoinedTies
import Derived.KernelRfl
namespace Go.Proofs.YtinlkcmdbjcofaaGreat
/- THE CELL 'sum', in the pinned program and in every row, IS THE sha256 OF THE DUMP (.gsa) THAT YtinlkcmdbjcofaaGreatProg.lean LOADS. Nothing in Lean hashes anything: it is a label: what it is worth is what the hold of that sum in a sandbox is worth. -/
noncomputable def Tryz.pinned : Pinned := { name := "ytinlkcmdbjcofaagreat", sum := "1a1529b6b2a8be6dc9a3f77dae00e9a151125b704b0d3a0f13609dfa991c4018", checked := Tryz.checked }
namespace Rows
def none {H : Type} : Left H := { results := [], args := [] }

/-- 'frameslaw.News': WHATEVER THE INPUT: true; the input reads as it did. -/
def newsSpec : ChangeSpec := { name := "news", fn := fun _ => fun
  | [d] => { results := [.lit (.bool true)], args := [d] }
  | _ => none }
def newsRow : OpenClaim := { program := "ytinlkcmdbjcofaagreat", sum := "1a1529b6b2a8be6dc9a3f77dae00e9a151125b704b0d3a0f13609dfa991c4018", func := "frames/frameslaw.News", spec := "news", apart := false }
def NewsSaid : Prop := newsRow.holds Tryz.pinned (OpenSpec.ofChange newsSpec)

/-- ITS FALSE NEIGHBOUR: 'it returns false'. Refute it at one input. -/
def newsWrong : ChangeSpec := { name := "news", fn := fun _ => fun
  | [d] => { results := [.lit (.bool false)], args := [d] }
  | _ => none }
def NewsWrongFalsely : Prop := newsRow.holds Tryz.pinned (OpenSpec.ofChange newsWrong)

/-- 'frameslaw.Grants': WHATEVER THE INPUT: true; the input reads as it did. -/
def grantsSpec : ChangeSpec := { name := "grants", fn := fun _ => fun
  | [d] => { results := [.lit (.bool true)], args := [d] }
  | _ => none }
def grantsRow : OpenClaim := { program := "ytinlkcmdbjcofaagreat", sum := "1a1529b6b2a8be6dc9a3f77dae00e9a151125b704b0d3a0f13609dfa991c4018", func := "frames/frameslaw.Grants", spec := "grants", apart := false }
def GrantsSaid : Prop := grantsRow.holds Tryz.pinned (OpenSpec.ofChange grantsSpec)

/-- ITS FALSE NEIGHBOUR: 'it returns false'. Refute it at one input. -/
def grantsWrong : ChangeSpec := { name := "grants", fn := fun _ => fun
  | [d] => { results := [.lit (.bool false)], args := [d] }
  | _ => none }
def GrantsWrongFalsely : Prop := grantsRow.holds Tryz.pinned (OpenSpec.ofChange grantsWrong)

/-- 'frameslaw.Listed': WHATEVER THE INPUT: true; the input reads as it did. -/
def listedSpec : ChangeSpec := { name := "listed", fn := fun _ => fun
  | [d] => { results := [.lit (.bool true)], args := [d] }
  | _ => none }
def listedRow : OpenClaim := { program := "ytinlkcmdbjcofaagreat", sum := "1a1529b6b2a8be6dc9a3f77dae00e9a151125b704b0d3a0f13609dfa991c4018", func := "frames/frameslaw.Listed", spec := "listed", apart := false }
def ListedSaid : Prop := listedRow.holds Tryz.pinned (OpenSpec.ofChange listedSpec)

/-- ITS FALSE NEIGHBOUR: 'it returns false'. Refute it at one input. -/
def listedWrong : ChangeSpec := { name := "listed", fn := fun _ => fun
  | [d] => { results := [.lit (.bool false)], args := [d] }
  | _ => none }
def ListedWrongFalsely : Prop := listedRow.holds Tryz.pinned (OpenSpec.ofChange listedWrong)

/-- 'frameslaw.Maps': WHATEVER THE INPUT: true; the input reads as it did. -/
def mapsSpec : ChangeSpec := { name := "maps", fn := fun _ => fun
  | [d] => { results := [.lit (.bool true)], args := [d] }
  | _ => none }
def mapsRow : OpenClaim := { program := "ytinlkcmdbjcofaagreat", sum := "1a1529b6b2a8be6dc9a3f77dae00e9a151125b704b0d3a0f13609dfa991c4018", func := "frames/frameslaw.Maps", spec := "maps", apart := false }
def MapsSaid : Prop := mapsRow.holds Tryz.pinned (OpenSpec.ofChange mapsSpec)

/-- ITS FALSE NEIGHBOUR: 'it returns false'. Refute it at one input. -/
def mapsWrong : ChangeSpec := { name := "maps", fn := fun _ => fun
  | [d] => { results := [.lit (.bool false)], args := [d] }
  | _ => none }
def MapsWrongFalsely : Prop := mapsRow.holds Tryz.pinned (OpenSpec.ofChange mapsWrong)

/-- 'frameslaw.Loads': WHATEVER THE INPUT: true; the input reads as it did. -/
def loadsSpec : ChangeSpec := { name := "loads", fn := fun _ => fun
  | [d] => { results := [.lit (.bool true)], args := [d] }
  | _ => none }
def loadsRow : OpenClaim := { program := "ytinlkcmdbjcofaagreat", sum := "1a1529b6b2a8be6dc9a3f77dae00e9a151125b704b0d3a0f13609dfa991c4018", func := "frames/frameslaw.Loads", spec := "loads", apart := false }
def LoadsSaid : Prop := loadsRow.holds Tryz.pinned (OpenSpec.ofChange loadsSpec)

/-- ITS FALSE NEIGHBOUR: 'it returns false'. Refute it at one input. -/
def loadsWrong : ChangeSpec := { name := "loads", fn := fun _ => fun
  | [d] => { results := [.lit (.bool false)], args := [d] }
  | _ => none }
def LoadsWrongFalsely : Prop := loadsRow.holds Tryz.pinned (OpenSpec.ofChange loadsWrong)

/-- 'frameslaw.Tables': WHATEVER THE INPUT: true; the input reads as it did. -/
def tablesSpec : ChangeSpec := { name := "tables", fn := fun _ => fun
  | [d] => { results := [.lit (.bool true)], args := [d] }
  | _ => none }
def tablesRow : OpenClaim := { program := "ytinlkcmdbjcofaagreat", sum := "1a1529b6b2a8be6dc9a3f77dae00e9a151125b704b0d3a0f13609dfa991c4018", func := "frames/frameslaw.Tables", spec := "tables", apart := false }
def TablesSaid : Prop := tablesRow.holds Tryz.pinned (OpenSpec.ofChange tablesSpec)

/-- ITS FALSE NEIGHBOUR: 'it returns false'. Refute it at one input. -/
def tablesWrong : ChangeSpec := { name := "tables", fn := fun _ => fun
  | [d] => { results := [.lit (.bool false)], args := [d] }
  | _ => none }
def TablesWrongFalsely : Prop := tablesRow.holds Tryz.pinned (OpenSpec.ofChange tablesWrong)

/-- 'frameslaw.Keeps': WHATEVER THE INPUT: true; the input reads as it did. -/
def keepsSpec : ChangeSpec := { name := "keeps", fn := fun _ => fun
  | [d] => { results := [.lit (.bool true)], args := [d] }
  | _ => none }
def keepsRow : OpenClaim := { program := "ytinlkcmdbjcofaagreat", sum := "1a1529b6b2a8be6dc9a3f77dae00e9a151125b704b0d3a0f13609dfa991c4018", func := "frames/frameslaw.Keeps", spec := "keeps", apart := false }
def KeepsSaid : Prop := keepsRow.holds Tryz.pinned (OpenSpec.ofChange keepsSpec)

/-- ITS FALSE NEIGHBOUR: 'it returns false'. Refute it at one input. -/
def keepsWrong : ChangeSpec := { name := "keeps", fn := fun _ => fun
  | [d] => { results := [.lit (.bool false)], args := [d] }
  | _ => none }
def KeepsWrongFalsely : Prop := keepsRow.holds Tryz.pinned (OpenSpec.ofChange keepsWrong)

/-- 'frameslaw.Counted': WHATEVER THE INPUT: true; the input reads as it did. -/
def countedSpec : ChangeSpec := { name := "counted", fn := fun _ => fun
  | [d] => { results := [.lit (.bool true)], args := [d] }
  | _ => none }
def countedRow : OpenClaim := { program := "ytinlkcmdbjcofaagreat", sum := "1a1529b6b2a8be6dc9a3f77dae00e9a151125b704b0d3a0f13609dfa991c4018", func := "frames/frameslaw.Counted", spec := "counted", apart := false }
def CountedSaid : Prop := countedRow.holds Tryz.pinned (OpenSpec.ofChange countedSpec)

/-- ITS FALSE NEIGHBOUR: 'it returns false'. Refute it at one input. -/
def countedWrong : ChangeSpec := { name := "counted", fn := fun _ => fun
  | [d] => { results := [.lit (.bool false)], args := [d] }
  | _ => none }
def CountedWrongFalsely : Prop := countedRow.holds Tryz.pinned (OpenSpec.ofChange countedWrong)

/-- 'frameslaw.Dirties': WHATEVER THE INPUT: true; the input reads as it did. -/
def dirtiesSpec : ChangeSpec := { name := "dirties", fn := fun _ => fun
  | [d] => { results := [.lit (.bool true)], args := [d] }
  | _ => none }
def dirtiesRow : OpenClaim := { program := "ytinlkcmdbjcofaagreat", sum := "1a1529b6b2a8be6dc9a3f77dae00e9a151125b704b0d3a0f13609dfa991c4018", func := "frames/frameslaw.Dirties", spec := "dirties", apart := false }
def DirtiesSaid : Prop := dirtiesRow.holds Tryz.pinned (OpenSpec.ofChange dirtiesSpec)

/-- ITS FALSE NEIGHBOUR: 'it returns false'. Refute it at one input. -/
def dirtiesWrong : ChangeSpec := { name := "dirties", fn := fun _ => fun
  | [d] => { results := [.lit (.bool false)], args := [d] }
  | _ => none }
def DirtiesWrongFalsely : Prop := dirtiesRow.holds Tryz.pinned (OpenSpec.ofChange dirtiesWrong)

/-- 'frameslaw.All': WHATEVER THE INPUT: true; the input reads as it did. -/
def allSpec : ChangeSpec := { name := "all", fn := fun _ => fun
  | [d] => { results := [.lit (.bool true)], args := [d] }
  | _ => none }
def allRow : OpenClaim := { program := "ytinlkcmdbjcofaagreat", sum := "1a1529b6b2a8be6dc9a3f77dae00e9a151125b704b0d3a0f13609dfa991c4018", func := "frames/frameslaw.All", spec := "all", apart := false }
def AllSaid : Prop := allRow.holds Tryz.pinned (OpenSpec.ofChange allSpec)

/-- ITS FALSE NEIGHBOUR: 'it returns false'. Refute it at one input. -/
def allWrong : ChangeSpec := { name := "all", fn := fun _ => fun
  | [d] => { results := [.lit (.bool false)], args := [d] }
  | _ => none }
def AllWrongFalsely : Prop := allRow.holds Tryz.pinned (OpenSpec.ofChange allWrong)

/- THE SECOND FORM. 'bulk': how many values and letters a reading holds, each counted each time it is reached (what is shared counts as often as it is met; a slice's spare places count too). A statement '..UptoSaid' is the law's where the arguments, and the package variables that the reading takes, are together of bulk at most 1048576: NARROWER than '..Said'. Prove '..Said' where nothing that the law and all that it calls make is longer than what came in: it says more and counts as full. Else prove '..UptoSaid'. A law counts once. -/
mutual
def uptoBulk {H : Type} : DataW H → Nat
  | .lit (.string bytes) => bytes.length + 1
  | .lit _ => 1
  | .nil => 1
  | .ptr d => uptoBulk d + 1
  | .slice elems spare => uptoBulkAll elems + uptoBulkAll spare + 1
  | .agg parts => uptoBulkAll parts + 1
  | .iface _ d => uptoBulk d + 1
  | .map entries => uptoBulkEntries entries + 1
  | .held _ => 1
def uptoBulkAll {H : Type} : List (DataW H) → Nat
  | [] => 0
  | d :: r => uptoBulk d + uptoBulkAll r
def uptoBulkEntries {H : Type} : List (Lit × DataW H) → Nat
  | [] => 0
  | x :: r => uptoBulkEntry x + uptoBulkEntries r
def uptoBulkEntry {H : Type} : Lit × DataW H → Nat
  | (.string bytes, d) => bytes.length + uptoBulk d + 1
  | (_, d) => uptoBulk d + 1
 end
def uptoSmall : (H : Type) → List (DataW H) → Bool := fun _ ds => decide (uptoBulkAll ds ≤ 1048576)
def OpenSpec.upto (s : _root_.Go.ChangeSpec) : _root_.Go.OpenSpec := { _root_.Go.OpenSpec.ofChange s with cond := some uptoSmall }

/-- 'frameslaw.News', WHERE WHAT IT READS IS OF BULK AT MOST 1048576: true; the input reads as it did. -/
def newsUptoRow : OpenClaim := { program := "ytinlkcmdbjcofaagreat", sum := "1a1529b6b2a8be6dc9a3f77dae00e9a151125b704b0d3a0f13609dfa991c4018", func := "frames/frameslaw.News", spec := "news", apart := false, narrowed := true }
def NewsUptoSaid : Prop := newsUptoRow.holds Tryz.pinned (OpenSpec.upto newsSpec)

/-- 'frameslaw.Grants', WHERE WHAT IT READS IS OF BULK AT MOST 1048576: true; the input reads as it did. -/
def grantsUptoRow : OpenClaim := { program := "ytinlkcmdbjcofaagreat", sum := "1a1529b6b2a8be6dc9a3f77dae00e9a151125b704b0d3a0f13609dfa991c4018", func := "frames/frameslaw.Grants", spec := "grants", apart := false, narrowed := true }
def GrantsUptoSaid : Prop := grantsUptoRow.holds Tryz.pinned (OpenSpec.upto grantsSpec)

/-- 'frameslaw.Listed', WHERE WHAT IT READS IS OF BULK AT MOST 1048576: true; the input reads as it did. -/
def listedUptoRow : OpenClaim := { program := "ytinlkcmdbjcofaagreat", sum := "1a1529b6b2a8be6dc9a3f77dae00e9a151125b704b0d3a0f13609dfa991c4018", func := "frames/frameslaw.Listed", spec := "listed", apart := false, narrowed := true }
def ListedUptoSaid : Prop := listedUptoRow.holds Tryz.pinned (OpenSpec.upto listedSpec)

/-- 'frameslaw.Maps', WHERE WHAT IT READS IS OF BULK AT MOST 1048576: true; the input reads as it did. -/
def mapsUptoRow : OpenClaim := { program := "ytinlkcmdbjcofaagreat", sum := "1a1529b6b2a8be6dc9a3f77dae00e9a151125b704b0d3a0f13609dfa991c4018", func := "frames/frameslaw.Maps", spec := "maps", apart := false, narrowed := true }
def MapsUptoSaid : Prop := mapsUptoRow.holds Tryz.pinned (OpenSpec.upto mapsSpec)

/-- 'frameslaw.Loads', WHERE WHAT IT READS IS OF BULK AT MOST 1048576: true; the input reads as it did. -/
def loadsUptoRow : OpenClaim := { program := "ytinlkcmdbjcofaagreat", sum := "1a1529b6b2a8be6dc9a3f77dae00e9a151125b704b0d3a0f13609dfa991c4018", func := "frames/frameslaw.Loads", spec := "loads", apart := false, narrowed := true }
def LoadsUptoSaid : Prop := loadsUptoRow.holds Tryz.pinned (OpenSpec.upto loadsSpec)

/-- 'frameslaw.Tables', WHERE WHAT IT READS IS OF BULK AT MOST 1048576: true; the input reads as it did. -/
def tablesUptoRow : OpenClaim := { program := "ytinlkcmdbjcofaagreat", sum := "1a1529b6b2a8be6dc9a3f77dae00e9a151125b704b0d3a0f13609dfa991c4018", func := "frames/frameslaw.Tables", spec := "tables", apart := false, narrowed := true }
def TablesUptoSaid : Prop := tablesUptoRow.holds Tryz.pinned (OpenSpec.upto tablesSpec)

/-- 'frameslaw.Keeps', WHERE WHAT IT READS IS OF BULK AT MOST 1048576: true; the input reads as it did. -/
def keepsUptoRow : OpenClaim := { program := "ytinlkcmdbjcofaagreat", sum := "1a1529b6b2a8be6dc9a3f77dae00e9a151125b704b0d3a0f13609dfa991c4018", func := "frames/frameslaw.Keeps", spec := "keeps", apart := false, narrowed := true }
def KeepsUptoSaid : Prop := keepsUptoRow.holds Tryz.pinned (OpenSpec.upto keepsSpec)

/-- 'frameslaw.Counted', WHERE WHAT IT READS IS OF BULK AT MOST 1048576: true; the input reads as it did. -/
def countedUptoRow : OpenClaim := { program := "ytinlkcmdbjcofaagreat", sum := "1a1529b6b2a8be6dc9a3f77dae00e9a151125b704b0d3a0f13609dfa991c4018", func := "frames/frameslaw.Counted", spec := "counted", apart := false, narrowed := true }
def CountedUptoSaid : Prop := countedUptoRow.holds Tryz.pinned (OpenSpec.upto countedSpec)

/-- 'frameslaw.Dirties', WHERE WHAT IT READS IS OF BULK AT MOST 1048576: true; the input reads as it did. -/
def dirtiesUptoRow : OpenClaim := { program := "ytinlkcmdbjcofaagreat", sum := "1a1529b6b2a8be6dc9a3f77dae00e9a151125b704b0d3a0f13609dfa991c4018", func := "frames/frameslaw.Dirties", spec := "dirties", apart := false, narrowed := true }
def DirtiesUptoSaid : Prop := dirtiesUptoRow.holds Tryz.pinned (OpenSpec.upto dirtiesSpec)

/-- 'frameslaw.All', WHERE WHAT IT READS IS OF BULK AT MOST 1048576: true; the input reads as it did. -/
def allUptoRow : OpenClaim := { program := "ytinlkcmdbjcofaagreat", sum := "1a1529b6b2a8be6dc9a3f77dae00e9a151125b704b0d3a0f13609dfa991c4018", func := "frames/frameslaw.All", spec := "all", apart := false, narrowed := true }
def AllUptoSaid : Prop := allUptoRow.holds Tryz.pinned (OpenSpec.upto allSpec)

end Rows
end Go.Proofs.YtinlkcmdbjcofaaGreat
