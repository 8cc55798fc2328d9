/-
  No cell of these rows narrows 'for every input' (looked for: loops, veiled, ifaces, maps, wideKeys, modest, calm, conditions, laid).
  DERIVED. THE GIVEN ROWS OF THIS SEAT. 5 by the template 'for every input the law returns true; each argument reads behind the call as it read before'; 0 by the template 'total and deterministic' (their statements: YtfoncalkgmeklaaTotals.lean).
  GIVEN WITH THE SEED: the statements are not yours to turn. If you find one false, say at which input.
  Laid BY PROGRAM, IN A SANDBOX (cutbox-rows.mjs): the forced cells as the released guide's own fill.sh prints them over the translation a898b5bf950e041a… (all of the seat's roots in one cut). By AI agents, Wed Nov 11 2026. No macro, syntax, notation, axiom, sorry.
-/
import Derived.Test.YtfoncalkgmeklaaChecked
import GoSem.Claim
import GoSem.ClaimJoined
import GoSem.ClaimMapViews
import Derived.JoinedTies
import Derived.KernelRfl
namespace Go.Proofs.Ytfoncalkgmeklaa
/- THE CELL 'sum', in the pinned program and in every row, IS THE sha256 OF THE DUMP (.gsa) THAT YtfoncalkgmeklaaProg.lean LOADS. Nothing in Lean hashes anything: it is a label: what it is worth is what the hold of that sum in a sandbox is worth. -/
noncomputable def Try.pinned : Pinned := { name := "ytfoncalkgmeklaa", sum := "a898b5bf950e041ad9aa5b18dcf37243ff0c79f9a762614f3f515e4cdbc571d1", checked := Try.checked }
namespace Rows
def none {H : Type} : Left H := { results := [], args := [] }

/-- 'gripkeep.Tiled': WHATEVER THE INPUT: true; the input reads as it did. -/
def tiledSpec : ChangeSpec := { name := "tiled", fn := fun _ => fun
  | [d1, d2, d3] => { results := [.lit (.bool true)], args := [d1, d2, d3] }
  | _ => none }
def tiledRow : OpenClaim := { program := "ytfoncalkgmeklaa", sum := "a898b5bf950e041ad9aa5b18dcf37243ff0c79f9a762614f3f515e4cdbc571d1", func := "grip/gripkeep.Tiled", spec := "tiled", apart := false }
def TiledSaid : Prop := tiledRow.holds Try.pinned (OpenSpec.ofChange tiledSpec)

/-- ITS FALSE NEIGHBOUR: 'it returns false'. Refute it at one input. -/
def tiledWrong : ChangeSpec := { name := "tiled", fn := fun _ => fun
  | [d1, d2, d3] => { results := [.lit (.bool false)], args := [d1, d2, d3] }
  | _ => none }
def TiledWrongFalsely : Prop := tiledRow.holds Try.pinned (OpenSpec.ofChange tiledWrong)

/-- 'gripkeep.Roomy': WHATEVER THE INPUT: true; the input reads as it did. -/
def roomySpec : ChangeSpec := { name := "roomy", fn := fun _ => fun
  | [d1, d2, d3] => { results := [.lit (.bool true)], args := [d1, d2, d3] }
  | _ => none }
def roomyRow : OpenClaim := { program := "ytfoncalkgmeklaa", sum := "a898b5bf950e041ad9aa5b18dcf37243ff0c79f9a762614f3f515e4cdbc571d1", func := "grip/gripkeep.Roomy", spec := "roomy", apart := false }
def RoomySaid : Prop := roomyRow.holds Try.pinned (OpenSpec.ofChange roomySpec)

/-- ITS FALSE NEIGHBOUR: 'it returns false'. Refute it at one input. -/
def roomyWrong : ChangeSpec := { name := "roomy", fn := fun _ => fun
  | [d1, d2, d3] => { results := [.lit (.bool false)], args := [d1, d2, d3] }
  | _ => none }
def RoomyWrongFalsely : Prop := roomyRow.holds Try.pinned (OpenSpec.ofChange roomyWrong)

/-- 'gripkeep.Numbered': WHATEVER THE INPUT: true; the input reads as it did. -/
def numberedSpec : ChangeSpec := { name := "numbered", fn := fun _ => fun
  | [d1, d2, d3, d4] => { results := [.lit (.bool true)], args := [d1, d2, d3, d4] }
  | _ => none }
def numberedRow : OpenClaim := { program := "ytfoncalkgmeklaa", sum := "a898b5bf950e041ad9aa5b18dcf37243ff0c79f9a762614f3f515e4cdbc571d1", func := "grip/gripkeep.Numbered", spec := "numbered", apart := false }
def NumberedSaid : Prop := numberedRow.holds Try.pinned (OpenSpec.ofChange numberedSpec)

/-- ITS FALSE NEIGHBOUR: 'it returns false'. Refute it at one input. -/
def numberedWrong : ChangeSpec := { name := "numbered", fn := fun _ => fun
  | [d1, d2, d3, d4] => { results := [.lit (.bool false)], args := [d1, d2, d3, d4] }
  | _ => none }
def NumberedWrongFalsely : Prop := numberedRow.holds Try.pinned (OpenSpec.ofChange numberedWrong)

/-- 'gripkeep.Scoped': WHATEVER THE INPUT: true; the input reads as it did. -/
def scopedSpec : ChangeSpec := { name := "scoped", fn := fun _ => fun
  | [d1, d2, d3, d4] => { results := [.lit (.bool true)], args := [d1, d2, d3, d4] }
  | _ => none }
def scopedRow : OpenClaim := { program := "ytfoncalkgmeklaa", sum := "a898b5bf950e041ad9aa5b18dcf37243ff0c79f9a762614f3f515e4cdbc571d1", func := "grip/gripkeep.Scoped", spec := "scoped", apart := false }
def ScopedSaid : Prop := scopedRow.holds Try.pinned (OpenSpec.ofChange scopedSpec)

/-- ITS FALSE NEIGHBOUR: 'it returns false'. Refute it at one input. -/
def scopedWrong : ChangeSpec := { name := "scoped", fn := fun _ => fun
  | [d1, d2, d3, d4] => { results := [.lit (.bool false)], args := [d1, d2, d3, d4] }
  | _ => none }
def ScopedWrongFalsely : Prop := scopedRow.holds Try.pinned (OpenSpec.ofChange scopedWrong)

/-- 'gripkeep.Ordered': WHATEVER THE INPUT: true; the input reads as it did. -/
def orderedSpec : ChangeSpec := { name := "ordered", fn := fun _ => fun
  | [d1, d2, d3] => { results := [.lit (.bool true)], args := [d1, d2, d3] }
  | _ => none }
def orderedRow : OpenClaim := { program := "ytfoncalkgmeklaa", sum := "a898b5bf950e041ad9aa5b18dcf37243ff0c79f9a762614f3f515e4cdbc571d1", func := "grip/gripkeep.Ordered", spec := "ordered", apart := false }
def OrderedSaid : Prop := orderedRow.holds Try.pinned (OpenSpec.ofChange orderedSpec)

/-- ITS FALSE NEIGHBOUR: 'it returns false'. Refute it at one input. -/
def orderedWrong : ChangeSpec := { name := "ordered", fn := fun _ => fun
  | [d1, d2, d3] => { results := [.lit (.bool false)], args := [d1, d2, d3] }
  | _ => none }
def OrderedWrongFalsely : Prop := orderedRow.holds Try.pinned (OpenSpec.ofChange orderedWrong)

/- THE SECOND FORM. 'bulk': how many values and letters a reading holds, each counted each time it is reached (what is shared counts as often as it is met; a slice's spare places count too). A statement '..UptoSaid' is the law's where the arguments, and the package variables that the reading takes, are together of bulk at most 1048576: NARROWER than '..Said'. Prove '..Said' where nothing that the law and all that it calls make is longer than what came in: it says more and counts as full. Else prove '..UptoSaid'. A law counts once. -/
mutual
def uptoBulk {H : Type} : DataW H → Nat
  | .lit (.string bytes) => bytes.length + 1
  | .lit _ => 1
  | .nil => 1
  | .ptr d => uptoBulk d + 1
  | .slice elems spare => uptoBulkAll elems + uptoBulkAll spare + 1
  | .agg parts => uptoBulkAll parts + 1
  | .iface _ d => uptoBulk d + 1
  | .map entries => uptoBulkEntries entries + 1
  | .held _ => 1
def uptoBulkAll {H : Type} : List (DataW H) → Nat
  | [] => 0
  | d :: r => uptoBulk d + uptoBulkAll r
def uptoBulkEntries {H : Type} : List (Lit × DataW H) → Nat
  | [] => 0
  | x :: r => uptoBulkEntry x + uptoBulkEntries r
def uptoBulkEntry {H : Type} : Lit × DataW H → Nat
  | (.string bytes, d) => bytes.length + uptoBulk d + 1
  | (_, d) => uptoBulk d + 1
 end
def uptoSmall : (H : Type) → List (DataW H) → Bool := fun _ ds => decide (uptoBulkAll ds ≤ 1048576)
def OpenSpec.upto (s : _root_.Go.ChangeSpec) : _root_.Go.OpenSpec := { _root_.Go.OpenSpec.ofChange s with cond := some uptoSmall }

/-- 'gripkeep.Tiled', WHERE WHAT IT READS IS OF BULK AT MOST 1048576: true; the input reads as it did. -/
def tiledUptoRow : OpenClaim := { program := "ytfoncalkgmeklaa", sum := "a898b5bf950e041ad9aa5b18dcf37243ff0c79f9a762614f3f515e4cdbc571d1", func := "grip/gripkeep.Tiled", spec := "tiled", apart := false, narrowed := true }
def TiledUptoSaid : Prop := tiledUptoRow.holds Try.pinned (OpenSpec.upto tiledSpec)

/-- 'gripkeep.Roomy', WHERE WHAT IT READS IS OF BULK AT MOST 1048576: true; the input reads as it did. -/
def roomyUptoRow : OpenClaim := { program := "ytfoncalkgmeklaa", sum := "a898b5bf950e041ad9aa5b18dcf37243ff0c79f9a762614f3f515e4cdbc571d1", func := "grip/gripkeep.Roomy", spec := "roomy", apart := false, narrowed := true }
def RoomyUptoSaid : Prop := roomyUptoRow.holds Try.pinned (OpenSpec.upto roomySpec)

/-- 'gripkeep.Numbered', WHERE WHAT IT READS IS OF BULK AT MOST 1048576: true; the input reads as it did. -/
def numberedUptoRow : OpenClaim := { program := "ytfoncalkgmeklaa", sum := "a898b5bf950e041ad9aa5b18dcf37243ff0c79f9a762614f3f515e4cdbc571d1", func := "grip/gripkeep.Numbered", spec := "numbered", apart := false, narrowed := true }
def NumberedUptoSaid : Prop := numberedUptoRow.holds Try.pinned (OpenSpec.upto numberedSpec)

/-- 'gripkeep.Scoped', WHERE WHAT IT READS IS OF BULK AT MOST 1048576: true; the input reads as it did. -/
def scopedUptoRow : OpenClaim := { program := "ytfoncalkgmeklaa", sum := "a898b5bf950e041ad9aa5b18dcf37243ff0c79f9a762614f3f515e4cdbc571d1", func := "grip/gripkeep.Scoped", spec := "scoped", apart := false, narrowed := true }
def ScopedUptoSaid : Prop := scopedUptoRow.holds Try.pinned (OpenSpec.upto scopedSpec)

/-- 'gripkeep.Ordered', WHERE WHAT IT READS IS OF BULK AT MOST 1048576: true; the input reads as it did. -/
def orderedUptoRow : OpenClaim := { program := "ytfoncalkgmeklaa", sum := "a898b5bf950e041ad9aa5b18dcf37243ff0c79f9a762614f3f515e4cdbc571d1", func := "grip/gripkeep.Ordered", spec := "ordered", apart := false, narrowed := true }
def OrderedUptoSaid : Prop := orderedUptoRow.holds Try.pinned (OpenSpec.upto orderedSpec)

end Rows
end Go.Proofs.Ytfoncalkgmeklaa
