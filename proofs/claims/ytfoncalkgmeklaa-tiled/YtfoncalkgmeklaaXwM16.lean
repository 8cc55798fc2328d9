/- A script that is handed in: its cells. -/
import Derived.Test.YtfoncalkgmeklaaXwM15
import Derived.ProofKit
import Derived.OpenShut
import Derived.JoinedCond
import Derived.Deep.CondSized
import Derived.Deep.Grids
import Derived.ChangeOld
import Derived.ShutString
namespace Go.Proofs.Ytfoncalkgmeklaa
open Go.ChangeShapes Go.WideShapes Go.ChangeAt Go.RowKit Go.Deep

/-- A number that a word can hold. -/
def I64 (n : Int) : Prop := -9223372036854775808 ≤ n ∧ n ≤ 9223372036854775807
/-- A step as it can be handed in. -/
structure LOp.Ok (o : LOp) : Prop where
  kind : I64 o.kind
  x : I64 o.x
  y : I64 o.y
  k : I64 o.k.1 ∧ I64 o.k.2
  v : I64 o.v.1 ∧ I64 o.v.2
  s : o.s.size ≤ maxLen
theorem i64_wf {n : Int} (h : (Lit.int .i64 n).wf = true) : I64 n := by
  simp only [Lit.wf, Bool.and_eq_true, decide_eq_true_eq] at h
  have h1 : IntKind.i64.min = -9223372036854775808 := by kernel_rfl
  have h2 : IntKind.i64.max = 9223372036854775807 := by kernel_rfl
  rw [h1, h2] at h
  exact h
instance : Inhabited LOp := ⟨⟨0, 0, 0, (0, 0), (0, 0), ByteArray.empty⟩⟩

section
variable {H : Type} {enc : TypeId × Value → H} {w : World} {base : Nat} {held : Bool}

theorem co_int : Try.prog.cellsOf 3 = 1 := by kernel_rfl
theorem co_str : Try.prog.cellsOf 9 = 1 := by kernel_rfl
theorem co_val : Try.prog.cellsOf 30 = 2 := by kernel_rfl
set_option maxRecDepth 100000 in
theorem open_val {fuel : Nat} {cs : List Value} {x : DataW H × List MemPlace} (h : DataW.trod enc Try.prog w base (fun _ => true) held fuel 30 cs = some x) : ∃ a b : Int, cs = [.int .i64 a, .int .i64 b] ∧ I64 a ∧ I64 b := by
  obtain ⟨xs, n, _, _, hl, hxl, hf⟩ := DataW.trod_struct Try.underlying30 h
  rw [co_val] at hl
  match cs, hl with
  | [u, v], _ =>
    match xs, hxl with
    | [y0, y1], _ =>
      have g0 : DataW.trod enc Try.prog w base (fun _ => true) held n 3 (([u, v].drop 0).take (Try.prog.cellsOf 3)) = some y0 := hf 0 _ rfl
      have g1 : DataW.trod enc Try.prog w base (fun _ => true) held n 3 (([u, v].drop 1).take (Try.prog.cellsOf 3)) = some y1 := hf 1 _ rfl
      rw [co_int] at g0 g1
      obtain ⟨a, ha, _, wa⟩ := DataW.trod_int Try.underlying3 g0
      obtain ⟨b, hb, _, wb⟩ := DataW.trod_int Try.underlying3 g1
      simp at ha hb
      exact ⟨a, b, by rw [ha, hb], i64_wf wa, i64_wf wb⟩
end
end Go.Proofs.Ytfoncalkgmeklaa
