/-
  No cell of these rows narrows 'for every input' (looked for: loops, veiled, ifaces, maps, wideKeys, modest, calm, conditions, laid).
  DERIVED. THE GIVEN ROWS OF THIS SEAT. 6 by the template 'for every input the law returns true; each argument reads behind the call as it read before'; 0 by the template 'total and deterministic' (their statements: YtnolplmpanbmhaaGreatTotals.lean).
  GIVEN WITH THE SEED: the statements are not yours to turn. If you find one false, say at which input.
  Laid BY PROGRAM, IN A SANDBOX (cutbox-rows.mjs): the forced cells as the released guide's own fill.sh prints them over the translation 380c6433b248d81b… (all of the seat's roots in one cut). By AI agents, Wed Nov 11 2026. No macro, syntax, notation, axiom, sorry.
-/
import Derived.Test.YtnolplmpanbmhaaGreatChecked
import GoSem.Claim
import GoSem.ClaimJoined
import GoSem.ClaimMapViews
import Derived.JoinedTies
import Derived.KernelRfl
namespace Go.Proofs.YtnolplmpanbmhaaGreat
/- THE CELL 'sum', in the pinned program and in every row, IS THE sha256 OF THE DUMP (.gsa) THAT YtnolplmpanbmhaaGreatProg.lean LOADS. Nothing in Lean hashes anything: it is a label: what it is worth is what the hold of that sum in a sandbox is worth. -/
noncomputable def Tryz.pinned : Pinned := { name := "ytnolplmpanbmhaagreat", sum := "380c6433b248d81b5a79466fab6dcffc68db0189ac553ab2a8bb2351baae31cc", checked := Tryz.checked }
namespace Rows
def none {H : Type} : Left H := { results := [], args := [] }

/-- 'frameslaw.News': WHATEVER THE INPUT: true; the input reads as it did. -/
def newsSpec : ChangeSpec := { name := "news", fn := fun _ => fun
  | [d] => { results := [.lit (.bool true)], args := [d] }
  | _ => none }
def newsRow : OpenClaim := { program := "ytnolplmpanbmhaagreat", sum := "380c6433b248d81b5a79466fab6dcffc68db0189ac553ab2a8bb2351baae31cc", func := "frames/frameslaw.News", spec := "news", apart := false }
def NewsSaid : Prop := newsRow.holds Tryz.pinned (OpenSpec.ofChange newsSpec)

/-- ITS FALSE NEIGHBOUR: 'it returns false'. Refute it at one input. -/
def newsWrong : ChangeSpec := { name := "news", fn := fun _ => fun
  | [d] => { results := [.lit (.bool false)], args := [d] }
  | _ => none }
def NewsWrongFalsely : Prop := newsRow.holds Tryz.pinned (OpenSpec.ofChange newsWrong)

/-- 'frameslaw.Grants': WHATEVER THE INPUT: true; the input reads as it did. -/
def grantsSpec : ChangeSpec := { name := "grants", fn := fun _ => fun
  | [d] => { results := [.lit (.bool true)], args := [d] }
  | _ => none }
def grantsRow : OpenClaim := { program := "ytnolplmpanbmhaagreat", sum := "380c6433b248d81b5a79466fab6dcffc68db0189ac553ab2a8bb2351baae31cc", func := "frames/frameslaw.Grants", spec := "grants", apart := false }
def GrantsSaid : Prop := grantsRow.holds Tryz.pinned (OpenSpec.ofChange grantsSpec)

/-- ITS FALSE NEIGHBOUR: 'it returns false'. Refute it at one input. -/
def grantsWrong : ChangeSpec := { name := "grants", fn := fun _ => fun
  | [d] => { results := [.lit (.bool false)], args := [d] }
  | _ => none }
def GrantsWrongFalsely : Prop := grantsRow.holds Tryz.pinned (OpenSpec.ofChange grantsWrong)

/-- 'frameslaw.Listed': WHATEVER THE INPUT: true; the input reads as it did. -/
def listedSpec : ChangeSpec := { name := "listed", fn := fun _ => fun
  | [d] => { results := [.lit (.bool true)], args := [d] }
  | _ => none }
def listedRow : OpenClaim := { program := "ytnolplmpanbmhaagreat", sum := "380c6433b248d81b5a79466fab6dcffc68db0189ac553ab2a8bb2351baae31cc", func := "frames/frameslaw.Listed", spec := "listed", apart := false }
def ListedSaid : Prop := listedRow.holds Tryz.pinned (OpenSpec.ofChange listedSpec)

/-- ITS FALSE NEIGHBOUR: 'it returns false'. Refute it at one input. -/
def listedWrong : ChangeSpec := { name := "listed", fn := fun _ => fun
  | [d] => { results := [.lit (.bool false)], args := [d] }
  | _ => none }
def ListedWrongFalsely : Prop := listedRow.holds Tryz.pinned (OpenSpec.ofChange listedWrong)

/-- 'frameslaw.Maps': WHATEVER THE INPUT: true; the input reads as it did. -/
def mapsSpec : ChangeSpec := { name := "maps", fn := fun _ => fun
  | [d] => { results := [.lit (.bool true)], args := [d] }
  | _ => none }
def mapsRow : OpenClaim := { program := "ytnolplmpanbmhaagreat", sum := "380c6433b248d81b5a79466fab6dcffc68db0189ac553ab2a8bb2351baae31cc", func := "frames/frameslaw.Maps", spec := "maps", apart := false }
def MapsSaid : Prop := mapsRow.holds Tryz.pinned (OpenSpec.ofChange mapsSpec)

/-- ITS FALSE NEIGHBOUR: 'it returns false'. Refute it at one input. -/
def mapsWrong : ChangeSpec := { name := "maps", fn := fun _ => fun
  | [d] => { results := [.lit (.bool false)], args := [d] }
  | _ => none }
def MapsWrongFalsely : Prop := mapsRow.holds Tryz.pinned (OpenSpec.ofChange mapsWrong)

/-- 'frameslaw.Loads': WHATEVER THE INPUT: true; the input reads as it did. -/
def loadsSpec : ChangeSpec := { name := "loads", fn := fun _ => fun
  | [d] => { results := [.lit (.bool true)], args := [d] }
  | _ => none }
def loadsRow : OpenClaim := { program := "ytnolplmpanbmhaagreat", sum := "380c6433b248d81b5a79466fab6dcffc68db0189ac553ab2a8bb2351baae31cc", func := "frames/frameslaw.Loads", spec := "loads", apart := false }
def LoadsSaid : Prop := loadsRow.holds Tryz.pinned (OpenSpec.ofChange loadsSpec)

/-- ITS FALSE NEIGHBOUR: 'it returns false'. Refute it at one input. -/
def loadsWrong : ChangeSpec := { name := "loads", fn := fun _ => fun
  | [d] => { results := [.lit (.bool false)], args := [d] }
  | _ => none }
def LoadsWrongFalsely : Prop := loadsRow.holds Tryz.pinned (OpenSpec.ofChange loadsWrong)

/-- 'frameslaw.Tables': WHATEVER THE INPUT: true; the input reads as it did. -/
def tablesSpec : ChangeSpec := { name := "tables", fn := fun _ => fun
  | [d] => { results := [.lit (.bool true)], args := [d] }
  | _ => none }
def tablesRow : OpenClaim := { program := "ytnolplmpanbmhaagreat", sum := "380c6433b248d81b5a79466fab6dcffc68db0189ac553ab2a8bb2351baae31cc", func := "frames/frameslaw.Tables", spec := "tables", apart := false }
def TablesSaid : Prop := tablesRow.holds Tryz.pinned (OpenSpec.ofChange tablesSpec)

/-- ITS FALSE NEIGHBOUR: 'it returns false'. Refute it at one input. -/
def tablesWrong : ChangeSpec := { name := "tables", fn := fun _ => fun
  | [d] => { results := [.lit (.bool false)], args := [d] }
  | _ => none }
def TablesWrongFalsely : Prop := tablesRow.holds Tryz.pinned (OpenSpec.ofChange tablesWrong)

/- THE SECOND FORM. 'bulk': how many values and letters a reading holds, each counted each time it is reached (what is shared counts as often as it is met; a slice's spare places count too). A statement '..UptoSaid' is the law's where the arguments, and the package variables that the reading takes, are together of bulk at most 1048576: NARROWER than '..Said'. Prove '..Said' where nothing that the law and all that it calls make is longer than what came in: it says more and counts as full. Else prove '..UptoSaid'. A law counts once. -/
mutual
def uptoBulk {H : Type} : DataW H → Nat
  | .lit (.string bytes) => bytes.length + 1
  | .lit _ => 1
  | .nil => 1
  | .ptr d => uptoBulk d + 1
  | .slice elems spare => uptoBulkAll elems + uptoBulkAll spare + 1
  | .agg parts => uptoBulkAll parts + 1
  | .iface _ d => uptoBulk d + 1
  | .map entries => uptoBulkEntries entries + 1
  | .held _ => 1
def uptoBulkAll {H : Type} : List (DataW H) → Nat
  | [] => 0
  | d :: r => uptoBulk d + uptoBulkAll r
def uptoBulkEntries {H : Type} : List (Lit × DataW H) → Nat
  | [] => 0
  | x :: r => uptoBulkEntry x + uptoBulkEntries r
def uptoBulkEntry {H : Type} : Lit × DataW H → Nat
  | (.string bytes, d) => bytes.length + uptoBulk d + 1
  | (_, d) => uptoBulk d + 1
 end
def uptoSmall : (H : Type) → List (DataW H) → Bool := fun _ ds => decide (uptoBulkAll ds ≤ 1048576)
def OpenSpec.upto (s : _root_.Go.ChangeSpec) : _root_.Go.OpenSpec := { _root_.Go.OpenSpec.ofChange s with cond := some uptoSmall }

/-- 'frameslaw.News', WHERE WHAT IT READS IS OF BULK AT MOST 1048576: true; the input reads as it did. -/
def newsUptoRow : OpenClaim := { program := "ytnolplmpanbmhaagreat", sum := "380c6433b248d81b5a79466fab6dcffc68db0189ac553ab2a8bb2351baae31cc", func := "frames/frameslaw.News", spec := "news", apart := false, narrowed := true }
def NewsUptoSaid : Prop := newsUptoRow.holds Tryz.pinned (OpenSpec.upto newsSpec)

/-- 'frameslaw.Grants', WHERE WHAT IT READS IS OF BULK AT MOST 1048576: true; the input reads as it did. -/
def grantsUptoRow : OpenClaim := { program := "ytnolplmpanbmhaagreat", sum := "380c6433b248d81b5a79466fab6dcffc68db0189ac553ab2a8bb2351baae31cc", func := "frames/frameslaw.Grants", spec := "grants", apart := false, narrowed := true }
def GrantsUptoSaid : Prop := grantsUptoRow.holds Tryz.pinned (OpenSpec.upto grantsSpec)

/-- 'frameslaw.Listed', WHERE WHAT IT READS IS OF BULK AT MOST 1048576: true; the input reads as it did. -/
def listedUptoRow : OpenClaim := { program := "ytnolplmpanbmhaagreat", sum := "380c6433b248d81b5a79466fab6dcffc68db0189ac553ab2a8bb2351baae31cc", func := "frames/frameslaw.Listed", spec := "listed", apart := false, narrowed := true }
def ListedUptoSaid : Prop := listedUptoRow.holds Tryz.pinned (OpenSpec.upto listedSpec)

/-- 'frameslaw.Maps', WHERE WHAT IT READS IS OF BULK AT MOST 1048576: true; the input reads as it did. -/
def mapsUptoRow : OpenClaim := { program := "ytnolplmpanbmhaagreat", sum := "380c6433b248d81b5a79466fab6dcffc68db0189ac553ab2a8bb2351baae31cc", func := "frames/frameslaw.Maps", spec := "maps", apart := false, narrowed := true }
def MapsUptoSaid : Prop := mapsUptoRow.holds Tryz.pinned (OpenSpec.upto mapsSpec)

/-- 'frameslaw.Loads', WHERE WHAT IT READS IS OF BULK AT MOST 1048576: true; the input reads as it did. -/
def loadsUptoRow : OpenClaim := { program := "ytnolplmpanbmhaagreat", sum := "380c6433b248d81b5a79466fab6dcffc68db0189ac553ab2a8bb2351baae31cc", func := "frames/frameslaw.Loads", spec := "loads", apart := false, narrowed := true }
def LoadsUptoSaid : Prop := loadsUptoRow.holds Tryz.pinned (OpenSpec.upto loadsSpec)

/-- 'frameslaw.Tables', WHERE WHAT IT READS IS OF BULK AT MOST 1048576: true; the input reads as it did. -/
def tablesUptoRow : OpenClaim := { program := "ytnolplmpanbmhaagreat", sum := "380c6433b248d81b5a79466fab6dcffc68db0189ac553ab2a8bb2351baae31cc", func := "frames/frameslaw.Tables", spec := "tables", apart := false, narrowed := true }
def TablesUptoSaid : Prop := tablesUptoRow.holds Tryz.pinned (OpenSpec.upto tablesSpec)

end Rows
end Go.Proofs.YtnolplmpanbmhaaGreat
