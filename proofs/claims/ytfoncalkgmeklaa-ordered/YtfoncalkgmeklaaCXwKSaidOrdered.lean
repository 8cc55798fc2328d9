/-
  gripkeep.Ordered, of a program that keeps the document (KP): called with any arguments, it returns true and leaves the arguments as they were (the given statement OrderedSaid).
  Conditions: none of ours; each slice and string that is read is within the form's own reach. (Written by wip/wide.py.)
-/
import Derived.Test.YtfoncalkgmeklaaCXwKLOrdered
import Derived.Test.YtfoncalkgmeklaaXwM46
import Derived.Deep.Grids
import Derived.ChangeOld
import Derived.ShutString
namespace Go.Proofs.Ytfoncalkgmeklaa
open Go.ChangeShapes Go.WideShapes Go.ChangeAt Go.RowKit Go.Deep

theorem ownOrdered : ownKnob Try.prog.godebug = none := by kernel_rfl
theorem laidOrdered : laidOutB Try.prog = true := by kernel_rfl

set_option maxRecDepth 100000 in
set_option maxHeartbeats 1000000 in
theorem lifted_ordered {G : World → Nat → R → List Nat → Prop} {J : R → Prop} (hP : KP G J) (os : Os) (started : os.Started) (H : Type) (enc : TypeId × Value → H) :
    ReturnsInHanded {} Try.checked os 7 .any (Rows.orderedSpec.pre6 enc Try.prog Try.f7 Rows.orderedRow.domain false) (Rows.orderedSpec.post enc Try.prog Try.f7 false true false false) := by
  refine returnsInHanded_of_change_sized (C := Try.checked) ownOrdered started (by kernel_rfl) Try.func7
    (ChangeSpec.witness6 (enc := enc) (C := Try.checked) false ⟨#[], #[.slice none 0 0, .int .i64 0, .slice none 0 0], []⟩ 8 (by kernel_rfl) (by kernel_rfl) (by kernel_rfl) (by kernel_rfl)) ?_
  intro W base args ds gs before hval0 hW _ hsz0 _
  have hsz : (DataW.weightsEach Try.prog (Try.f7.params.toList ++ Rows.orderedSpec.plain.varTypes Try.prog) (ds ++ gs)).all (· ≤ reachBytes) = true := hsz0
  clear hsz0
  have hval : ∀ (j : Nat) t v, Try.f7.params[j]? = some t → args[j]? = some v → Value.okWide Try.prog W .any base t v := hval0
  have hW' := hW
  obtain ⟨p, q, hA0, hV, rfl, _, _⟩ := hW
  have hA : DataW.TrodAll enc Try.prog W 0 (fun _ => true) true Try.f7.params.toList args.toList ds p := hA0
  rw [Try.params7] at hA hval hsz
  obtain ⟨v0, vs0, d0, ds0, p0, q0, hargs, rfl, rfl, h0, r0⟩ := trodAll_cons hA
  obtain ⟨v1, vs1, d1, ds1, p1, q1, rfl, rfl, rfl, h1, r1⟩ := trodAll_cons r0
  obtain ⟨v2, vs2, d2, ds2, p2, q2, rfl, rfl, rfl, h2, r2⟩ := trodAll_cons r1
  obtain ⟨rfl, rfl, rfl⟩ := trodAll_nil r2
  obtain rfl : args = #[v0, v1, v2] := by cases args; simp_all
  obtain ⟨rfl, rfl⟩ := trodVars_none hV
  have wc0 := wcount_le hsz (j := 0) (t := 22) (e := 4) (d := d0) rfl rfl Try.underlying22
  rw [show Try.prog.bytesOf 4 = 1 from by kernel_rfl] at wc0
  simp only [reachBytes] at wc0
  have wc2 := wcount_le hsz (j := 2) (t := 27) (e := 3) (d := d2) rfl rfl Try.underlying27
  rw [show Try.prog.bytesOf 3 = 8 from by kernel_rfl] at wc2
  simp only [reachBytes] at wc2
  have k0 := h0
  have lt0 : ∀ x ∈ p0, x.block < W.heap.size := by obtain ⟨m, hm⟩ := k0; exact DataW.trod_lt m _ _ _ hm
  obtain ⟨a0, len0, cap0, rfl⟩ := okWide_slice Try.underlying22 (hval 0 22 v0 rfl rfl)
  obtain ⟨fs0, hn0, hl0, hf0, hb0⟩ : ∃ fs : List Bool, len0 ≤ cap0 ∧ fs.length = len0 ∧ FlagsAt W a0 fs ∧ len0 ≤ 140737488351232 := by
    obtain ⟨fuel, hf⟩ := h0
    obtain ⟨a, len, cap, fs, hcs, e1, e2, e3, e4⟩ := open_flags hf lt0
    simp [Value.cells] at hcs
    obtain ⟨rfl, rfl, rfl⟩ := hcs
    simp only at e4
    exact ⟨fs, e1, e2, fun h => e3 (by omega), by omega⟩
  obtain ⟨l1, rfl, rfl, rfl, wl1⟩ := open_int Try.underlying3 (hval 1 3 v1 rfl rfl) h1
  have k2 := h2
  have lt2 : ∀ x ∈ p2, x.block < W.heap.size := by obtain ⟨m, hm⟩ := k2; exact DataW.trod_lt m _ _ _ hm
  obtain ⟨a2, len2, cap2, rfl⟩ := okWide_slice Try.underlying27 (hval 2 27 v2 rfl rfl)
  obtain ⟨ns2, hl2, hok2, hf2, hb2⟩ : ∃ l : List Int, l.length = len2 ∧ (∀ o ∈ l, I64 o) ∧ IntsAt W a2 l ∧ len2 ≤ 17592186044416 := by
    obtain ⟨fuel, hf⟩ := h2
    obtain ⟨a, len, cap, l, hcs, e1, e2, e3, e4⟩ := open_nums hf lt2
    simp [Value.cells] at hcs
    obtain ⟨rfl, rfl, rfl⟩ := hcs
    simp only at e4
    exact ⟨l, e1, e2, e3, by omega⟩
  clear hA0 hval0
  refine (walk_ordered (w := W) hP a0 len0 cap0 fs0 hn0 hl0 hf0 hb0 l1 (i64_wf wl1) a2 len2 cap2 ns2 hl2 hok2 hf2 hb2).mono fun e W' ⟨he, hc⟩ => ?_
  subst he
  have bel := hc.below
  exact ⟨_, rfl, _, _, _, [], _, [], hW', trodAll_mk1 (shut_bool Try.underlying4 _), (trodAll_cons_mk (Below.trod laidOrdered (by kernel_rfl) (of_decide_eq_true (by kernel_rfl)) k0 bel lt0) (trodAll_cons_mk (shut_int Try.underlying3 wl1) (trodAll_cons_mk (Below.trod laidOrdered (by kernel_rfl) (of_decide_eq_true (by kernel_rfl)) k2 bel lt2) trodAll_mk0))), rfl, bel.frame _, fun h => by cases h⟩

theorem ordered_of {G : World → Nat → R → List Nat → Prop} {J : R → Prop} (hP : KP G J) : Rows.OrderedSaid :=
  OpenClaim.holds_of_wide 7 Try.f7 rfl rfl rfl rfl rfl rfl rfl ⟨rfl, rfl, rfl, rfl, rfl⟩ rfl rfl rfl rfl rfl (by kernel_rfl) Try.func7 (by kernel_rfl)
    (of_decide_eq_true (by kernel_rfl)) (by unfold Func.isWrapper; first | (rw [if_pos (by decide +kernel)]; kernel_rfl) | (rw [if_neg (by decide +kernel)]; exact ⟨rfl, rfl⟩))
    (fun os started H enc _ => lifted_ordered hP os started H enc)
end Go.Proofs.Ytfoncalkgmeklaa
