/- Whether there is room: what can be reached decides (plain). -/
import Derived.Test.YtfoncalkgmeklaaXwM51
import Derived.Test.YtfoncalkgmeklaaXwM49
namespace Go.Proofs.Ytfoncalkgmeklaa
open Go.RowKit

theorem roots_same {s t : R} (hh : t.handles = s.handles) : ∀ k, t.roots k = s.roots k
  | 0 => rfl
  | k + 1 => by
    have ih := roots_same hh k
    have ha : t.at? (k : Int) = s.at? (k : Int) := by unfold R.at?; rw [hh]
    rw [roots_succ, roots_succ, ih, ha, hh]
theorem scan_same {s t : R} (ho : t.objs = s.objs) (hh : t.handles = s.handles) : ∀ i, t.scanTo i = s.scanTo i
  | 0 => roots_same hh 32
  | i + 1 => by
    have ih := scan_same ho hh i
    have e : ∀ x, t.objOf x = s.objOf x := fun x => by unfold R.objOf; rw [ho]
    rw [scanTo_succ, scanTo_succ, ih]
    split
    · rfl
    · rename_i x _
      rw [e x]
theorem reach_same {s t : R} (ho : t.objs = s.objs) (hh : t.handles = s.handles) : t.reach = s.reach := by
  unfold R.reach
  rw [ho]
  exact scan_same ho hh _
/-- What is held and closed holds all that can be reached. -/
theorem reach_in {s : R} {S : List Nat} (hl : ∀ g ∈ s.handles, g.live = true → g.obj ∈ S) (hc : ∀ i ∈ S, ∀ v ∈ (s.objOf i).vals, v.1 = 2 → v.2.toNat ∈ S) : ∀ x ∈ s.reach, x ∈ S := by
  have key : ∀ i, ∀ x ∈ s.scanTo i, x ∈ S := by
    intro i
    induction i with
    | zero =>
      intro x hx
      have h1 : ({ s with row := S } : R).roots 32 = s.roots 32 := roots_same rfl 32
      exact roots_sub (s := { s with row := S }) hl 32 x (by rw [h1]; exact hx)
    | succ i ih =>
      rw [scanTo_succ]
      split
      · exact ih
      · rename_i y hy
        exact scanVals_sub ih (hc y (ih y (List.mem_of_getElem? hy))) _
  exact key _
theorem room_iff {s : R} (ha : RAll s) (n : Int) : usedOf s.objs (s.made3 n).row + n > s.limit ↔ usedOf s.objs s.reach + n > s.limit := by
  have e2 := made2_objs s
  have hr : s.made2.reach = s.reach := reach_same e2.1 e2.2.1
  have ha2 : RAll s.made2 := ha.made2
  unfold R.made3
  split
  · simp only [hr]
  · rename_i h
    have hu := reach_used ha2.ok.inv ha2.row
    rw [hr, e2.1] at hu
    constructor
    · intro h1; exact absurd h1 h
    · intro h1; omega
theorem made3_room {s : R} (ha : RAll s) {S : List Nat} {n : Int} (hl : ∀ g ∈ s.handles, g.live = true → g.obj ∈ S) (hc : ∀ i ∈ S, ∀ v ∈ (s.objOf i).vals, v.1 = 2 → v.2.toNat ∈ S) (hr : usedOf s.objs S + n ≤ s.limit) : ¬ usedOf s.objs (s.made3 n).row + n > s.limit := by
  rw [room_iff ha]
  have := used_sub (words0 ha.ok.inv) s.reach S (Good.reach ha.ok.inv).nodup (reach_in hl hc)
  omega
/-- A call that makes an object, where there is room and a slot. -/
theorem make_in {s : R} (ha : RAll s) {o : RObj} {S : List Nat} {k : Nat} (hf : s.free? = some k) (hl : ∀ g ∈ s.handles, g.live = true → g.obj ∈ S) (hc : ∀ i ∈ S, ∀ v ∈ (s.objOf i).vals, v.1 = 2 → v.2.toNat ∈ S) (hr : usedOf s.objs S + oWords o ≤ s.limit) :
    ∃ s', s.make o = (32 * (s.past (k : Int) : Int) + (k : Int), 0, s') ∧ s'.objs = s.objs ++ [o] ∧ s'.handles = s.handles ++ [⟨32 * (s.past (k : Int) : Int) + (k : Int), s.scopes, s.objs.length, true⟩] ∧ s'.limit = s.limit ∧ s'.scopes = s.scopes ∧ s'.dead = s.dead := by
  have e := made3_objs s (oWords o)
  have hm : s.make o = ((s.made3 (oWords o)).push o).handle s.objs.length s.scopes := by
    unfold R.make
    rw [hf]
    simp only
    rw [if_neg (made3_room ha hl hc hr)]
  have hff : ((s.made3 (oWords o)).push o).free? = some k := by
    have : ((s.made3 (oWords o)).push o).free? = s.free? := by unfold R.free? R.at?; show (List.range 32).find? (fun k => ((s.made3 (oWords o)).handles.findIdx? _).isNone) = _; rw [e.2.1]
    rw [this, hf]
  have hpp : ((s.made3 (oWords o)).push o).past (k : Int) = s.past (k : Int) := by
    unfold R.past; show (s.made3 (oWords o)).handles.countP _ = _; rw [e.2.1]
  have hh : ((s.made3 (oWords o)).push o).handle s.objs.length s.scopes = (32 * (s.past (k : Int) : Int) + (k : Int), (0 : Int), { ((s.made3 (oWords o)).push o) with handles := ((s.made3 (oWords o)).push o).handles ++ [⟨32 * (s.past (k : Int) : Int) + (k : Int), s.scopes, s.objs.length, true⟩] }) := by
    unfold R.handle
    rw [hff]
    simp only [hpp]
  refine ⟨_, hm.trans hh, ?_, ?_, e.2.2.1, e.2.2.2.2.1, e.2.2.2.2.2.1⟩
  · show (s.made3 (oWords o)).objs ++ [o] = _; rw [e.1]
  · show (s.made3 (oWords o)).handles ++ _ = _; rw [e.2.1]
end Go.Proofs.Ytfoncalkgmeklaa
