/-
  gripkeep.Joined, of a program that keeps the document (KP): called with any arguments, it returns true and leaves the arguments as they were (the given statement JoinedSaid).
  Conditions: none of ours; each slice and string that is read is within the form's own reach. (Written by wip/wide.py.)
-/
import Derived.Test.YtfoncalkgmeklabCXwKLJoined
import Derived.Test.YtfoncalkgmeklabXwM46
import Derived.Deep.Grids
import Derived.ChangeOld
import Derived.ShutString
namespace Go.Proofs.Ytfoncalkgmeklab
open Go.ChangeShapes Go.WideShapes Go.ChangeAt Go.RowKit Go.Deep
open Go.ChangeMaps (open_string shut_string)

theorem ownJoined : ownKnob Try.prog.godebug = none := by kernel_rfl
theorem laidJoined : laidOutB Try.prog = true := by kernel_rfl

set_option maxRecDepth 100000 in
set_option maxHeartbeats 1000000 in
theorem lifted_joined {G : World → Nat → R → List Nat → Prop} {J : R → Prop} (hP : KP G J) (os : Os) (started : os.Started) (H : Type) (enc : TypeId × Value → H) :
    ReturnsInHanded {} Try.checked os 3 .any (Rows.joinedSpec.pre6 enc Try.prog Try.f3 Rows.joinedRow.domain false) (Rows.joinedSpec.post enc Try.prog Try.f3 false true false false) := by
  refine returnsInHanded_of_change_sized (C := Try.checked) ownJoined started (by kernel_rfl) Try.func3
    (ChangeSpec.witness6 (enc := enc) (C := Try.checked) false ⟨#[], #[.slice none 0 0, .string ⟨#[]⟩, .string ⟨#[]⟩], []⟩ 8 (by kernel_rfl) (by kernel_rfl) (by kernel_rfl) (by kernel_rfl)) ?_
  intro W base args ds gs before hval0 hW _ hsz0 _
  have hsz : (DataW.weightsEach Try.prog (Try.f3.params.toList ++ Rows.joinedSpec.plain.varTypes Try.prog) (ds ++ gs)).all (· ≤ reachBytes) = true := hsz0
  clear hsz0
  have hval : ∀ (j : Nat) t v, Try.f3.params[j]? = some t → args[j]? = some v → Value.okWide Try.prog W .any base t v := hval0
  have hW' := hW
  obtain ⟨p, q, hA0, hV, rfl, _, _⟩ := hW
  have hA : DataW.TrodAll enc Try.prog W 0 (fun _ => true) true Try.f3.params.toList args.toList ds p := hA0
  rw [Try.params3] at hA hval hsz
  obtain ⟨v0, vs0, d0, ds0, p0, q0, hargs, rfl, rfl, h0, r0⟩ := trodAll_cons hA
  obtain ⟨v1, vs1, d1, ds1, p1, q1, rfl, rfl, rfl, h1, r1⟩ := trodAll_cons r0
  obtain ⟨v2, vs2, d2, ds2, p2, q2, rfl, rfl, rfl, h2, r2⟩ := trodAll_cons r1
  obtain ⟨rfl, rfl, rfl⟩ := trodAll_nil r2
  obtain rfl : args = #[v0, v1, v2] := by cases args; simp_all
  obtain ⟨rfl, rfl⟩ := trodVars_none hV
  have wc0 := wcount_le hsz (j := 0) (t := 22) (e := 4) (d := d0) rfl rfl Try.underlying22
  rw [show Try.prog.bytesOf 4 = 1 from by kernel_rfl] at wc0
  simp only [reachBytes] at wc0
  have k0 := h0
  have lt0 : ∀ x ∈ p0, x.block < W.heap.size := by obtain ⟨m, hm⟩ := k0; exact DataW.trod_lt m _ _ _ hm
  obtain ⟨a0, len0, cap0, rfl⟩ := okWide_slice Try.underlying22 (hval 0 22 v0 rfl rfl)
  obtain ⟨fs0, hn0, hl0, hf0, hb0⟩ : ∃ fs : List Bool, len0 ≤ cap0 ∧ fs.length = len0 ∧ FlagsAt W a0 fs ∧ len0 ≤ 140737488351232 := by
    obtain ⟨fuel, hf⟩ := h0
    obtain ⟨a, len, cap, fs, hcs, e1, e2, e3, e4⟩ := open_flags hf lt0
    simp [Value.cells] at hcs
    obtain ⟨rfl, rfl, rfl⟩ := hcs
    simp only at e4
    exact ⟨fs, e1, e2, fun h => e3 (by omega), by omega⟩
  obtain ⟨t1, rfl, rfl, rfl, wl1⟩ := open_string Try.underlying9 (hval 1 9 v1 rfl rfl) h1
  obtain ⟨t2, rfl, rfl, rfl, wl2⟩ := open_string Try.underlying9 (hval 2 9 v2 rfl rfl) h2
  clear hA0 hval0
  refine (walk_joined (w := W) hP a0 len0 cap0 fs0 hn0 hl0 hf0 hb0 t1 wl1 t2 wl2).mono fun e W' ⟨he, hc⟩ => ?_
  subst he
  have bel := hc.below
  exact ⟨_, rfl, _, _, _, [], _, [], hW', trodAll_mk1 (shut_bool Try.underlying4 _), (trodAll_cons_mk (Below.trod laidJoined (by kernel_rfl) (of_decide_eq_true (by kernel_rfl)) k0 bel lt0) (trodAll_cons_mk (shut_string Try.underlying9 wl1) (trodAll_cons_mk (shut_string Try.underlying9 wl2) trodAll_mk0))), rfl, bel.frame _, fun h => by cases h⟩

theorem joined_of {G : World → Nat → R → List Nat → Prop} {J : R → Prop} (hP : KP G J) : Rows.JoinedSaid :=
  OpenClaim.holds_of_wide 3 Try.f3 rfl rfl rfl rfl rfl rfl rfl ⟨rfl, rfl, rfl, rfl, rfl⟩ rfl rfl rfl rfl rfl (by kernel_rfl) Try.func3 (by kernel_rfl)
    (of_decide_eq_true (by kernel_rfl)) (by unfold Func.isWrapper; first | (rw [if_pos (by decide +kernel)]; kernel_rfl) | (rw [if_neg (by decide +kernel)]; exact ⟨rfl, rfl⟩))
    (fun os started H enc _ => lifted_joined hP os started H enc)
end Go.Proofs.Ytfoncalkgmeklab
