/-
  griplaw.Arrays, called with any arguments, returns true and leaves its arguments as they were (the given statement ArraysSaid, at the commit of the claim).
  Conditions: none of ours; each slice and string that is read is within the form's own reach. (Written by wip/wide2.py.)
-/
import Derived.Test.YtfoncalkgmeklaaGreatCYwOwnArrays
import Derived.Test.YtfoncalkgmeklaaGreatYwM46
namespace Go.Proofs.YtfoncalkgmeklaaGreat
open Go.ChangeShapes Go.WideShapes Go.ChangeAt Go.RowKit Go.Deep

theorem ownArrays : ownKnob Tryz.prog.godebug = none := by kernel_rfl
theorem laidArrays : laidOutB Tryz.prog = true := by kernel_rfl

set_option maxRecDepth 100000 in
set_option maxHeartbeats 1000000 in
theorem lifted_arrays (os : Os) (started : os.Started) (H : Type) (enc : TypeId × Value → H) :
    ReturnsInHanded {} Tryz.checked os 5 .any (Rows.arraysSpec.pre6 enc Tryz.prog Tryz.f5 Rows.arraysRow.domain false) (Rows.arraysSpec.post enc Tryz.prog Tryz.f5 false true false false) := by
  refine returnsInHanded_of_change_sized (C := Tryz.checked) ownArrays started (by kernel_rfl) Tryz.func5
    (ChangeSpec.witness6 (enc := enc) (C := Tryz.checked) false ⟨#[], #[.slice none 0 0], []⟩ 8 (by kernel_rfl) (by kernel_rfl) (by kernel_rfl) (by kernel_rfl)) ?_
  intro W base args ds gs before hval0 hW _ hsz0 _
  have hsz : (DataW.weightsEach Tryz.prog (Tryz.f5.params.toList ++ Rows.arraysSpec.plain.varTypes Tryz.prog) (ds ++ gs)).all (· ≤ reachBytes) = true := hsz0
  clear hsz0
  have hval : ∀ (j : Nat) t v, Tryz.f5.params[j]? = some t → args[j]? = some v → Value.okWide Tryz.prog W .any base t v := hval0
  have hW' := hW
  obtain ⟨p, q, hA0, hV, rfl, _, _⟩ := hW
  have hA : DataW.TrodAll enc Tryz.prog W 0 (fun _ => true) true Tryz.f5.params.toList args.toList ds p := hA0
  rw [Tryz.params5] at hA hval hsz
  obtain ⟨v0, vs0, d0, ds0, p0, q0, hargs, rfl, rfl, h0, r0⟩ := trodAll_cons hA
  obtain ⟨rfl, rfl, rfl⟩ := trodAll_nil r0
  obtain rfl : args = #[v0] := by cases args; simp_all
  obtain ⟨rfl, rfl⟩ := trodVars_none hV
  have wc0 := wcount_le hsz (j := 0) (t := 25) (e := 35) (d := d0) rfl rfl Tryz.underlying25
  rw [show Tryz.prog.bytesOf 35 = 72 from by kernel_rfl] at wc0
  simp only [reachBytes] at wc0
  have k0 := h0
  have lt0 : ∀ x ∈ p0, x.block < W.heap.size := by obtain ⟨m, hm⟩ := k0; exact DataW.trod_lt m _ _ _ hm
  obtain ⟨a0, len0, cap0, rfl⟩ := okWide_slice Tryz.underlying25 (hval 0 25 v0 rfl rfl)
  obtain ⟨ops0, hl0, hok0, hf0, hb0⟩ : ∃ l : List LOp, l.length = len0 ∧ (∀ o ∈ l, o.Ok) ∧ OpsAt W a0 l ∧ len0 ≤ 1954687338211 := by
    obtain ⟨fuel, hf⟩ := h0
    obtain ⟨a, len, cap, l, hcs, e1, e2, e3, e4⟩ := open_ops hf lt0
    simp [Value.cells] at hcs
    obtain ⟨rfl, rfl, rfl⟩ := hcs
    simp only at e4
    exact ⟨l, e1, e2, e3, by omega⟩
  clear hA0 hval0
  refine (holds_arrays a0 len0 cap0 ops0 W hl0 hb0 hok0 hf0).mono fun e W' ⟨he, hc⟩ => ?_
  subst he
  have bel := hc.below
  exact ⟨_, rfl, _, _, _, [], _, [], hW', trodAll_mk1 (shut_bool Tryz.underlying4 _), (trodAll_cons_mk (Below.trod laidArrays (by kernel_rfl) (of_decide_eq_true (by kernel_rfl)) k0 bel lt0) trodAll_mk0), rfl, bel.frame _, fun h => by cases h⟩

theorem arrays_holds : Rows.ArraysSaid :=
  OpenClaim.holds_of_wide 5 Tryz.f5 rfl rfl rfl rfl rfl rfl rfl ⟨rfl, rfl, rfl, rfl, rfl⟩ rfl rfl rfl rfl rfl (by kernel_rfl) Tryz.func5 (by kernel_rfl)
    (of_decide_eq_true (by kernel_rfl)) (by unfold Func.isWrapper; first | (rw [if_pos (by decide +kernel)]; kernel_rfl) | (rw [if_neg (by decide +kernel)]; exact ⟨rfl, rfl⟩))
    (fun os started H enc _ => lifted_arrays os started H enc)
end Go.Proofs.YtfoncalkgmeklaaGreat
