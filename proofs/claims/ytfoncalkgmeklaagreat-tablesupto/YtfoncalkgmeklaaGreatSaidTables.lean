/-
  griplaw.Tables, called with any script whose bulk is at most 1048576, returns true and leaves the script as it was (the given statement TablesUptoSaid, at the commit of the claim).
  Conditions: the bound on the bulk alone, which is the statement's own.
-/
import Derived.Test.YtfoncalkgmeklaaGreatWalkTables
import Derived.Test.YtfoncalkgmeklaaGreatOwnTables
namespace Go.Proofs.YtfoncalkgmeklaaGreat
open Go.ChangeShapes Go.WideShapes Go.ChangeAt Go.RowKit Go.Deep

theorem ownTables : ownKnob Tryz.prog.godebug = none := by kernel_rfl
theorem laidTables : laidOutB Tryz.prog = true := by kernel_rfl

set_option maxRecDepth 100000 in
theorem lifted_tables (os : Os) (started : os.Started) (H : Type) (enc : TypeId × Value → H) (F : Stop.Interp) :
    ReturnsInHanded {} Tryz.checked os 6 .any ((Rows.OpenSpec.upto Rows.tablesSpec).pre6 enc Tryz.prog Tryz.f6 Rows.tablesUptoRow.domain false) (((Rows.OpenSpec.upto Rows.tablesSpec).at F).post enc Tryz.prog Tryz.f6 false true false false) := by
  refine returnsInHanded_of_cond (C := Tryz.checked) (s := Rows.OpenSpec.upto Rows.tablesSpec) (k := Rows.uptoSmall) rfl ownTables started (by kernel_rfl) Tryz.func6
    (OpenSpec.witness (enc := enc) (C := Tryz.checked) (s := Rows.OpenSpec.upto Rows.tablesSpec) (k := Rows.uptoSmall) rfl false ⟨#[], #[.slice none 0 0], []⟩ 8 (by kernel_rfl) (by kernel_rfl) (by kernel_rfl)
      (x := ([.nil], [], [])) (by kernel_rfl) rfl (by kernel_rfl)) ?_
  intro W base args ds gs before hval0 hW _ hk _
  have hval : ∀ (j : Nat) t v, Tryz.f6.params[j]? = some t → args[j]? = some v → Value.okWide Tryz.prog W .any base t v := hval0
  have hW' := hW
  obtain ⟨p, q, hA0, hV, rfl, _, _⟩ := hW
  have hA : DataW.TrodAll enc Tryz.prog W 0 (fun _ => true) true Tryz.f6.params.toList args.toList ds p := hA0
  rw [Tryz.params6] at hA hval
  obtain ⟨v0, vs0, d0, ds0, p0, q0, hargs, rfl, rfl, h0, r0⟩ := trodAll_cons hA
  obtain ⟨rfl, rfl, rfl⟩ := trodAll_nil r0
  obtain rfl : args = #[v0] := by cases args; simp_all
  obtain ⟨rfl, rfl⟩ := trodVars_none hV
  have k0 := h0
  have lt0 : ∀ x ∈ p0, x.block < W.heap.size := by obtain ⟨m, hm⟩ := k0; exact DataW.trod_lt m _ _ _ hm
  obtain ⟨a1, len1, cap1, rfl⟩ := okWide_slice Tryz.underlying25 (hval 0 25 v0 rfl rfl)
  obtain ⟨ops, hlen, htx, hops, hbd⟩ : ∃ ops : List LOp, ops.length = len1 ∧ (∀ o ∈ ops, o.Ok) ∧ OpsAt W a1 ops ∧ len1 ≤ 1048576 := by
    obtain ⟨fuel, hf⟩ := h0
    obtain ⟨a, len, cap, ops, hcs, h1, h2, h3, h4⟩ := open_ops hf lt0
    simp [Value.cells] at hcs
    obtain ⟨rfl, rfl, rfl⟩ := hcs
    refine ⟨ops, h1, h2, h3, ?_⟩
    have hk' : Rows.uptoSmall H [d0] = true := by simpa using hk
    have hb : Rows.uptoBulkAll [d0] ≤ 1048576 := of_decide_eq_true hk'
    simp only [Rows.uptoBulkAll] at hb
    simp only at h4
    omega
  clear hA0 hval0
  refine (holds_tables a1 len1 cap1 ops W hlen hbd htx hops).mono fun e W' ⟨he, hc⟩ => ?_
  subst he
  have bel := hc.below
  exact ⟨_, rfl, _, _, _, [], _, [], hW', trodAll_mk1 (shut_bool Tryz.underlying4 _), (trodAll_cons_mk (Below.trod laidTables (by kernel_rfl) (of_decide_eq_true (by kernel_rfl)) k0 bel lt0) trodAll_mk0), rfl, bel.frame _, fun h => by cases h⟩

theorem tables_holds : Rows.TablesUptoSaid :=
  OpenClaim.holds_of_cond 6 Tryz.f6 rfl rfl rfl rfl rfl rfl rfl ⟨rfl, rfl, rfl, rfl, rfl⟩ rfl rfl rfl rfl rfl (by kernel_rfl) Tryz.func6 (by kernel_rfl)
    (of_decide_eq_true (by kernel_rfl)) (by unfold Func.isWrapper; first | (rw [if_pos (by decide +kernel)]; kernel_rfl) | (rw [if_neg (by decide +kernel)]; exact ⟨rfl, rfl⟩))
    (fun os started H enc _ F => lifted_tables os started H enc F)
end Go.Proofs.YtfoncalkgmeklaaGreat
