/-
  No cell of these rows narrows 'for every input' (looked for: loops, veiled, ifaces, maps, wideKeys, modest, calm, conditions, laid).
  DERIVED. THE GIVEN ROWS OF THIS SEAT. 7 by the template 'for every input the law returns true; each argument reads behind the call as it read before'; 0 by the template 'total and deterministic' (their statements: YtfoncalkgmeklaaGreatTotals.lean).
  GIVEN WITH THE SEED: the statements are not yours to turn. If you find one false, say at which input.
  Laid BY PROGRAM, IN A SANDBOX (cutbox-rows.mjs): the forced cells as the released guide's own fill.sh prints them over the translation d3bd1ef5b30315ed… (all of the seat's roots in one cut). By AI agents, Wed Nov 11 2026. No macro, syntax, notation, axiom, sorry.
-/
import Derived.Test.YtfoncalkgmeklaaGreatChecked
import GoSem.Claim
import GoSem.ClaimJoined
import GoSem.ClaimMapViews
import Derived.JoinedTies
import Derived.KernelRfl
namespace Go.Proofs.YtfoncalkgmeklaaGreat
/- THE CELL 'sum', in the pinned program and in every row, IS THE sha256 OF THE DUMP (.gsa) THAT YtfoncalkgmeklaaGreatProg.lean LOADS. Nothing in Lean hashes anything: it is a label: what it is worth is what the hold of that sum in a sandbox is worth. -/
noncomputable def Tryz.pinned : Pinned := { name := "ytfoncalkgmeklaagreat", sum := "d3bd1ef5b30315ed3b43d6c0bd385d2aba13cb8f664113eaa6ce49a7a1f30be7", checked := Tryz.checked }
namespace Rows
def none {H : Type} : Left H := { results := [], args := [] }

/-- 'griplaw.News': WHATEVER THE INPUT: true; the input reads as it did. -/
def newsSpec : ChangeSpec := { name := "news", fn := fun _ => fun
  | [d1, d2] => { results := [.lit (.bool true)], args := [d1, d2] }
  | _ => none }
def newsRow : OpenClaim := { program := "ytfoncalkgmeklaagreat", sum := "d3bd1ef5b30315ed3b43d6c0bd385d2aba13cb8f664113eaa6ce49a7a1f30be7", func := "grip/griplaw.News", spec := "news", apart := false }
def NewsSaid : Prop := newsRow.holds Tryz.pinned (OpenSpec.ofChange newsSpec)

/-- ITS FALSE NEIGHBOUR: 'it returns false'. Refute it at one input. -/
def newsWrong : ChangeSpec := { name := "news", fn := fun _ => fun
  | [d1, d2] => { results := [.lit (.bool false)], args := [d1, d2] }
  | _ => none }
def NewsWrongFalsely : Prop := newsRow.holds Tryz.pinned (OpenSpec.ofChange newsWrong)

/-- 'griplaw.Makes': WHATEVER THE INPUT: true; the input reads as it did. -/
def makesSpec : ChangeSpec := { name := "makes", fn := fun _ => fun
  | [d] => { results := [.lit (.bool true)], args := [d] }
  | _ => none }
def makesRow : OpenClaim := { program := "ytfoncalkgmeklaagreat", sum := "d3bd1ef5b30315ed3b43d6c0bd385d2aba13cb8f664113eaa6ce49a7a1f30be7", func := "grip/griplaw.Makes", spec := "makes", apart := false }
def MakesSaid : Prop := makesRow.holds Tryz.pinned (OpenSpec.ofChange makesSpec)

/-- ITS FALSE NEIGHBOUR: 'it returns false'. Refute it at one input. -/
def makesWrong : ChangeSpec := { name := "makes", fn := fun _ => fun
  | [d] => { results := [.lit (.bool false)], args := [d] }
  | _ => none }
def MakesWrongFalsely : Prop := makesRow.holds Tryz.pinned (OpenSpec.ofChange makesWrong)

/-- 'griplaw.Arrays': WHATEVER THE INPUT: true; the input reads as it did. -/
def arraysSpec : ChangeSpec := { name := "arrays", fn := fun _ => fun
  | [d] => { results := [.lit (.bool true)], args := [d] }
  | _ => none }
def arraysRow : OpenClaim := { program := "ytfoncalkgmeklaagreat", sum := "d3bd1ef5b30315ed3b43d6c0bd385d2aba13cb8f664113eaa6ce49a7a1f30be7", func := "grip/griplaw.Arrays", spec := "arrays", apart := false }
def ArraysSaid : Prop := arraysRow.holds Tryz.pinned (OpenSpec.ofChange arraysSpec)

/-- ITS FALSE NEIGHBOUR: 'it returns false'. Refute it at one input. -/
def arraysWrong : ChangeSpec := { name := "arrays", fn := fun _ => fun
  | [d] => { results := [.lit (.bool false)], args := [d] }
  | _ => none }
def ArraysWrongFalsely : Prop := arraysRow.holds Tryz.pinned (OpenSpec.ofChange arraysWrong)

/-- 'griplaw.Tables': WHATEVER THE INPUT: true; the input reads as it did. -/
def tablesSpec : ChangeSpec := { name := "tables", fn := fun _ => fun
  | [d] => { results := [.lit (.bool true)], args := [d] }
  | _ => none }
def tablesRow : OpenClaim := { program := "ytfoncalkgmeklaagreat", sum := "d3bd1ef5b30315ed3b43d6c0bd385d2aba13cb8f664113eaa6ce49a7a1f30be7", func := "grip/griplaw.Tables", spec := "tables", apart := false }
def TablesSaid : Prop := tablesRow.holds Tryz.pinned (OpenSpec.ofChange tablesSpec)

/-- ITS FALSE NEIGHBOUR: 'it returns false'. Refute it at one input. -/
def tablesWrong : ChangeSpec := { name := "tables", fn := fun _ => fun
  | [d] => { results := [.lit (.bool false)], args := [d] }
  | _ => none }
def TablesWrongFalsely : Prop := tablesRow.holds Tryz.pinned (OpenSpec.ofChange tablesWrong)

/-- 'griplaw.Scopes': WHATEVER THE INPUT: true; the input reads as it did. -/
def scopesSpec : ChangeSpec := { name := "scopes", fn := fun _ => fun
  | [d] => { results := [.lit (.bool true)], args := [d] }
  | _ => none }
def scopesRow : OpenClaim := { program := "ytfoncalkgmeklaagreat", sum := "d3bd1ef5b30315ed3b43d6c0bd385d2aba13cb8f664113eaa6ce49a7a1f30be7", func := "grip/griplaw.Scopes", spec := "scopes", apart := false }
def ScopesSaid : Prop := scopesRow.holds Tryz.pinned (OpenSpec.ofChange scopesSpec)

/-- ITS FALSE NEIGHBOUR: 'it returns false'. Refute it at one input. -/
def scopesWrong : ChangeSpec := { name := "scopes", fn := fun _ => fun
  | [d] => { results := [.lit (.bool false)], args := [d] }
  | _ => none }
def ScopesWrongFalsely : Prop := scopesRow.holds Tryz.pinned (OpenSpec.ofChange scopesWrong)

/-- 'griplaw.Moves': WHATEVER THE INPUT: true; the input reads as it did. -/
def movesSpec : ChangeSpec := { name := "moves", fn := fun _ => fun
  | [d1, d2, d3] => { results := [.lit (.bool true)], args := [d1, d2, d3] }
  | _ => none }
def movesRow : OpenClaim := { program := "ytfoncalkgmeklaagreat", sum := "d3bd1ef5b30315ed3b43d6c0bd385d2aba13cb8f664113eaa6ce49a7a1f30be7", func := "grip/griplaw.Moves", spec := "moves", apart := false }
def MovesSaid : Prop := movesRow.holds Tryz.pinned (OpenSpec.ofChange movesSpec)

/-- ITS FALSE NEIGHBOUR: 'it returns false'. Refute it at one input. -/
def movesWrong : ChangeSpec := { name := "moves", fn := fun _ => fun
  | [d1, d2, d3] => { results := [.lit (.bool false)], args := [d1, d2, d3] }
  | _ => none }
def MovesWrongFalsely : Prop := movesRow.holds Tryz.pinned (OpenSpec.ofChange movesWrong)

/-- 'griplaw.All': WHATEVER THE INPUT: true; the input reads as it did. -/
def allSpec : ChangeSpec := { name := "all", fn := fun _ => fun
  | [d1, d2, d3] => { results := [.lit (.bool true)], args := [d1, d2, d3] }
  | _ => none }
def allRow : OpenClaim := { program := "ytfoncalkgmeklaagreat", sum := "d3bd1ef5b30315ed3b43d6c0bd385d2aba13cb8f664113eaa6ce49a7a1f30be7", func := "grip/griplaw.All", spec := "all", apart := false }
def AllSaid : Prop := allRow.holds Tryz.pinned (OpenSpec.ofChange allSpec)

/-- ITS FALSE NEIGHBOUR: 'it returns false'. Refute it at one input. -/
def allWrong : ChangeSpec := { name := "all", fn := fun _ => fun
  | [d1, d2, d3] => { results := [.lit (.bool false)], args := [d1, d2, d3] }
  | _ => none }
def AllWrongFalsely : Prop := allRow.holds Tryz.pinned (OpenSpec.ofChange allWrong)

/- THE SECOND FORM. 'bulk': how many values and letters a reading holds, each counted each time it is reached (what is shared counts as often as it is met; a slice's spare places count too). A statement '..UptoSaid' is the law's where the arguments, and the package variables that the reading takes, are together of bulk at most 1048576: NARROWER than '..Said'. Prove '..Said' where nothing that the law and all that it calls make is longer than what came in: it says more and counts as full. Else prove '..UptoSaid'. A law counts once. -/
mutual
def uptoBulk {H : Type} : DataW H → Nat
  | .lit (.string bytes) => bytes.length + 1
  | .lit _ => 1
  | .nil => 1
  | .ptr d => uptoBulk d + 1
  | .slice elems spare => uptoBulkAll elems + uptoBulkAll spare + 1
  | .agg parts => uptoBulkAll parts + 1
  | .iface _ d => uptoBulk d + 1
  | .map entries => uptoBulkEntries entries + 1
  | .held _ => 1
def uptoBulkAll {H : Type} : List (DataW H) → Nat
  | [] => 0
  | d :: r => uptoBulk d + uptoBulkAll r
def uptoBulkEntries {H : Type} : List (Lit × DataW H) → Nat
  | [] => 0
  | x :: r => uptoBulkEntry x + uptoBulkEntries r
def uptoBulkEntry {H : Type} : Lit × DataW H → Nat
  | (.string bytes, d) => bytes.length + uptoBulk d + 1
  | (_, d) => uptoBulk d + 1
 end
def uptoSmall : (H : Type) → List (DataW H) → Bool := fun _ ds => decide (uptoBulkAll ds ≤ 1048576)
def OpenSpec.upto (s : _root_.Go.ChangeSpec) : _root_.Go.OpenSpec := { _root_.Go.OpenSpec.ofChange s with cond := some uptoSmall }

/-- 'griplaw.News', WHERE WHAT IT READS IS OF BULK AT MOST 1048576: true; the input reads as it did. -/
def newsUptoRow : OpenClaim := { program := "ytfoncalkgmeklaagreat", sum := "d3bd1ef5b30315ed3b43d6c0bd385d2aba13cb8f664113eaa6ce49a7a1f30be7", func := "grip/griplaw.News", spec := "news", apart := false, narrowed := true }
def NewsUptoSaid : Prop := newsUptoRow.holds Tryz.pinned (OpenSpec.upto newsSpec)

/-- 'griplaw.Makes', WHERE WHAT IT READS IS OF BULK AT MOST 1048576: true; the input reads as it did. -/
def makesUptoRow : OpenClaim := { program := "ytfoncalkgmeklaagreat", sum := "d3bd1ef5b30315ed3b43d6c0bd385d2aba13cb8f664113eaa6ce49a7a1f30be7", func := "grip/griplaw.Makes", spec := "makes", apart := false, narrowed := true }
def MakesUptoSaid : Prop := makesUptoRow.holds Tryz.pinned (OpenSpec.upto makesSpec)

/-- 'griplaw.Arrays', WHERE WHAT IT READS IS OF BULK AT MOST 1048576: true; the input reads as it did. -/
def arraysUptoRow : OpenClaim := { program := "ytfoncalkgmeklaagreat", sum := "d3bd1ef5b30315ed3b43d6c0bd385d2aba13cb8f664113eaa6ce49a7a1f30be7", func := "grip/griplaw.Arrays", spec := "arrays", apart := false, narrowed := true }
def ArraysUptoSaid : Prop := arraysUptoRow.holds Tryz.pinned (OpenSpec.upto arraysSpec)

/-- 'griplaw.Tables', WHERE WHAT IT READS IS OF BULK AT MOST 1048576: true; the input reads as it did. -/
def tablesUptoRow : OpenClaim := { program := "ytfoncalkgmeklaagreat", sum := "d3bd1ef5b30315ed3b43d6c0bd385d2aba13cb8f664113eaa6ce49a7a1f30be7", func := "grip/griplaw.Tables", spec := "tables", apart := false, narrowed := true }
def TablesUptoSaid : Prop := tablesUptoRow.holds Tryz.pinned (OpenSpec.upto tablesSpec)

/-- 'griplaw.Scopes', WHERE WHAT IT READS IS OF BULK AT MOST 1048576: true; the input reads as it did. -/
def scopesUptoRow : OpenClaim := { program := "ytfoncalkgmeklaagreat", sum := "d3bd1ef5b30315ed3b43d6c0bd385d2aba13cb8f664113eaa6ce49a7a1f30be7", func := "grip/griplaw.Scopes", spec := "scopes", apart := false, narrowed := true }
def ScopesUptoSaid : Prop := scopesUptoRow.holds Tryz.pinned (OpenSpec.upto scopesSpec)

/-- 'griplaw.Moves', WHERE WHAT IT READS IS OF BULK AT MOST 1048576: true; the input reads as it did. -/
def movesUptoRow : OpenClaim := { program := "ytfoncalkgmeklaagreat", sum := "d3bd1ef5b30315ed3b43d6c0bd385d2aba13cb8f664113eaa6ce49a7a1f30be7", func := "grip/griplaw.Moves", spec := "moves", apart := false, narrowed := true }
def MovesUptoSaid : Prop := movesUptoRow.holds Tryz.pinned (OpenSpec.upto movesSpec)

/-- 'griplaw.All', WHERE WHAT IT READS IS OF BULK AT MOST 1048576: true; the input reads as it did. -/
def allUptoRow : OpenClaim := { program := "ytfoncalkgmeklaagreat", sum := "d3bd1ef5b30315ed3b43d6c0bd385d2aba13cb8f664113eaa6ce49a7a1f30be7", func := "grip/griplaw.All", spec := "all", apart := false, narrowed := true }
def AllUptoSaid : Prop := allUptoRow.holds Tryz.pinned (OpenSpec.upto allSpec)

end Rows
end Go.Proofs.YtfoncalkgmeklaaGreat
