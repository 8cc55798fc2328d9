/-
  No cell of these rows narrows 'for every input' (looked for: loops, veiled, ifaces, maps, wideKeys, modest, calm, conditions, laid).
  DERIVED. THE GIVEN ROWS OF THIS SEAT. 4 by the template 'for every input the law returns true; each argument reads behind the call as it read before'; 0 by the template 'total and deterministic' (their statements: YtfoncalkgmeklabTotals.lean).
  GIVEN WITH THE SEED: the statements are not yours to turn. If you find one false, say at which input.
  Laid BY PROGRAM, IN A SANDBOX (cutbox-rows.mjs): the forced cells as the released guide's own fill.sh prints them over the translation ff354811a62629fc… (all of the seat's roots in one cut). By AI agents, Wed Nov 11 2026. No macro, syntax, notation, axiom, sorry.
-/
import Derived.Test.YtfoncalkgmeklabChecked
import GoSem.Claim
import GoSem.ClaimJoined
import GoSem.ClaimMapViews
import Derived.JoinedTies
import Derived.KernelRfl
namespace Go.Proofs.Ytfoncalkgmeklab
/- THE CELL 'sum', in the pinned program and in every row, IS THE sha256 OF THE DUMP (.gsa) THAT YtfoncalkgmeklabProg.lean LOADS. Nothing in Lean hashes anything: it is a label: what it is worth is what the hold of that sum in a sandbox is worth. -/
noncomputable def Try.pinned : Pinned := { name := "ytfoncalkgmeklab", sum := "ff354811a62629fc062459862f5834add3e148122d3792d3081a4201f975fcce", checked := Try.checked }
namespace Rows
def none {H : Type} : Left H := { results := [], args := [] }

/-- 'gripkeep.Joined': WHATEVER THE INPUT: true; the input reads as it did. -/
def joinedSpec : ChangeSpec := { name := "joined", fn := fun _ => fun
  | [d1, d2, d3] => { results := [.lit (.bool true)], args := [d1, d2, d3] }
  | _ => none }
def joinedRow : OpenClaim := { program := "ytfoncalkgmeklab", sum := "ff354811a62629fc062459862f5834add3e148122d3792d3081a4201f975fcce", func := "grip/gripkeep.Joined", spec := "joined", apart := false }
def JoinedSaid : Prop := joinedRow.holds Try.pinned (OpenSpec.ofChange joinedSpec)

/-- ITS FALSE NEIGHBOUR: 'it returns false'. Refute it at one input. -/
def joinedWrong : ChangeSpec := { name := "joined", fn := fun _ => fun
  | [d1, d2, d3] => { results := [.lit (.bool false)], args := [d1, d2, d3] }
  | _ => none }
def JoinedWrongFalsely : Prop := joinedRow.holds Try.pinned (OpenSpec.ofChange joinedWrong)

/-- 'gripkeep.Survives': WHATEVER THE INPUT: true; the input reads as it did. -/
def survivesSpec : ChangeSpec := { name := "survives", fn := fun _ => fun
  | [d1, d2, d3] => { results := [.lit (.bool true)], args := [d1, d2, d3] }
  | _ => none }
def survivesRow : OpenClaim := { program := "ytfoncalkgmeklab", sum := "ff354811a62629fc062459862f5834add3e148122d3792d3081a4201f975fcce", func := "grip/gripkeep.Survives", spec := "survives", apart := false }
def SurvivesSaid : Prop := survivesRow.holds Try.pinned (OpenSpec.ofChange survivesSpec)

/-- ITS FALSE NEIGHBOUR: 'it returns false'. Refute it at one input. -/
def survivesWrong : ChangeSpec := { name := "survives", fn := fun _ => fun
  | [d1, d2, d3] => { results := [.lit (.bool false)], args := [d1, d2, d3] }
  | _ => none }
def SurvivesWrongFalsely : Prop := survivesRow.holds Try.pinned (OpenSpec.ofChange survivesWrong)

/-- 'gripkeep.Unmoved': WHATEVER THE INPUT: true; the input reads as it did. -/
def unmovedSpec : ChangeSpec := { name := "unmoved", fn := fun _ => fun
  | [d1, d2, d3, d4, d5] => { results := [.lit (.bool true)], args := [d1, d2, d3, d4, d5] }
  | _ => none }
def unmovedRow : OpenClaim := { program := "ytfoncalkgmeklab", sum := "ff354811a62629fc062459862f5834add3e148122d3792d3081a4201f975fcce", func := "grip/gripkeep.Unmoved", spec := "unmoved", apart := false }
def UnmovedSaid : Prop := unmovedRow.holds Try.pinned (OpenSpec.ofChange unmovedSpec)

/-- ITS FALSE NEIGHBOUR: 'it returns false'. Refute it at one input. -/
def unmovedWrong : ChangeSpec := { name := "unmoved", fn := fun _ => fun
  | [d1, d2, d3, d4, d5] => { results := [.lit (.bool false)], args := [d1, d2, d3, d4, d5] }
  | _ => none }
def UnmovedWrongFalsely : Prop := unmovedRow.holds Try.pinned (OpenSpec.ofChange unmovedWrong)

/-- 'gripkeep.Poisoned': WHATEVER THE INPUT: true; the input reads as it did. -/
def poisonedSpec : ChangeSpec := { name := "poisoned", fn := fun _ => fun
  | [d1, d2, d3] => { results := [.lit (.bool true)], args := [d1, d2, d3] }
  | _ => none }
def poisonedRow : OpenClaim := { program := "ytfoncalkgmeklab", sum := "ff354811a62629fc062459862f5834add3e148122d3792d3081a4201f975fcce", func := "grip/gripkeep.Poisoned", spec := "poisoned", apart := false }
def PoisonedSaid : Prop := poisonedRow.holds Try.pinned (OpenSpec.ofChange poisonedSpec)

/-- ITS FALSE NEIGHBOUR: 'it returns false'. Refute it at one input. -/
def poisonedWrong : ChangeSpec := { name := "poisoned", fn := fun _ => fun
  | [d1, d2, d3] => { results := [.lit (.bool false)], args := [d1, d2, d3] }
  | _ => none }
def PoisonedWrongFalsely : Prop := poisonedRow.holds Try.pinned (OpenSpec.ofChange poisonedWrong)

/- THE SECOND FORM. 'bulk': how many values and letters a reading holds, each counted each time it is reached (what is shared counts as often as it is met; a slice's spare places count too). A statement '..UptoSaid' is the law's where the arguments, and the package variables that the reading takes, are together of bulk at most 1048576: NARROWER than '..Said'. Prove '..Said' where nothing that the law and all that it calls make is longer than what came in: it says more and counts as full. Else prove '..UptoSaid'. A law counts once. -/
mutual
def uptoBulk {H : Type} : DataW H → Nat
  | .lit (.string bytes) => bytes.length + 1
  | .lit _ => 1
  | .nil => 1
  | .ptr d => uptoBulk d + 1
  | .slice elems spare => uptoBulkAll elems + uptoBulkAll spare + 1
  | .agg parts => uptoBulkAll parts + 1
  | .iface _ d => uptoBulk d + 1
  | .map entries => uptoBulkEntries entries + 1
  | .held _ => 1
def uptoBulkAll {H : Type} : List (DataW H) → Nat
  | [] => 0
  | d :: r => uptoBulk d + uptoBulkAll r
def uptoBulkEntries {H : Type} : List (Lit × DataW H) → Nat
  | [] => 0
  | x :: r => uptoBulkEntry x + uptoBulkEntries r
def uptoBulkEntry {H : Type} : Lit × DataW H → Nat
  | (.string bytes, d) => bytes.length + uptoBulk d + 1
  | (_, d) => uptoBulk d + 1
 end
def uptoSmall : (H : Type) → List (DataW H) → Bool := fun _ ds => decide (uptoBulkAll ds ≤ 1048576)
def OpenSpec.upto (s : _root_.Go.ChangeSpec) : _root_.Go.OpenSpec := { _root_.Go.OpenSpec.ofChange s with cond := some uptoSmall }

/-- 'gripkeep.Joined', WHERE WHAT IT READS IS OF BULK AT MOST 1048576: true; the input reads as it did. -/
def joinedUptoRow : OpenClaim := { program := "ytfoncalkgmeklab", sum := "ff354811a62629fc062459862f5834add3e148122d3792d3081a4201f975fcce", func := "grip/gripkeep.Joined", spec := "joined", apart := false, narrowed := true }
def JoinedUptoSaid : Prop := joinedUptoRow.holds Try.pinned (OpenSpec.upto joinedSpec)

/-- 'gripkeep.Survives', WHERE WHAT IT READS IS OF BULK AT MOST 1048576: true; the input reads as it did. -/
def survivesUptoRow : OpenClaim := { program := "ytfoncalkgmeklab", sum := "ff354811a62629fc062459862f5834add3e148122d3792d3081a4201f975fcce", func := "grip/gripkeep.Survives", spec := "survives", apart := false, narrowed := true }
def SurvivesUptoSaid : Prop := survivesUptoRow.holds Try.pinned (OpenSpec.upto survivesSpec)

/-- 'gripkeep.Unmoved', WHERE WHAT IT READS IS OF BULK AT MOST 1048576: true; the input reads as it did. -/
def unmovedUptoRow : OpenClaim := { program := "ytfoncalkgmeklab", sum := "ff354811a62629fc062459862f5834add3e148122d3792d3081a4201f975fcce", func := "grip/gripkeep.Unmoved", spec := "unmoved", apart := false, narrowed := true }
def UnmovedUptoSaid : Prop := unmovedUptoRow.holds Try.pinned (OpenSpec.upto unmovedSpec)

/-- 'gripkeep.Poisoned', WHERE WHAT IT READS IS OF BULK AT MOST 1048576: true; the input reads as it did. -/
def poisonedUptoRow : OpenClaim := { program := "ytfoncalkgmeklab", sum := "ff354811a62629fc062459862f5834add3e148122d3792d3081a4201f975fcce", func := "grip/gripkeep.Poisoned", spec := "poisoned", apart := false, narrowed := true }
def PoisonedUptoSaid : Prop := poisonedUptoRow.holds Try.pinned (OpenSpec.upto poisonedSpec)

end Rows
end Go.Proofs.Ytfoncalkgmeklab
