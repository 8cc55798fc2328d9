/- No step changes the limit (plain). -/
import Derived.Test.YtfoncalkgmeklaaXwM47
namespace Go.Proofs.Ytfoncalkgmeklaa
open Go.RowKit

theorem lim_handle (s : R) (o : Nat) (c : Int) : (s.handle o c).2.2.limit = s.limit := by
  unfold R.handle; split <;> rfl
theorem lim_outer (s : R) (v : Int × Int) : (s.outer v).2.2.limit = s.limit := by
  unfold R.outer
  repeat' split
  all_goals first | rfl | exact lim_handle _ _ _
theorem lim_make (s : R) (o : RObj) : (s.make o).2.2.limit = s.limit := by
  have e := (made3_objs s (oWords o)).2.2.1
  unfold R.make
  split
  · rfl
  · split
    · exact e
    · exact (lim_handle _ _ _).trans e
theorem lim_array (s : R) (n : Int) : (s.arrayQ n).2.2.limit = s.limit := by
  unfold R.arrayQ
  repeat' split
  all_goals first | rfl | exact lim_make _ _
theorem lim_table (s : R) (n : Int) : (s.tableQ n).2.2.limit = s.limit := by
  unfold R.tableQ
  repeat' split
  all_goals first | rfl | exact lim_make _ _
theorem lim_bytes (s : R) (t : ByteArray) : (s.bytesQ t).2.2.limit = s.limit := by
  unfold R.bytesQ
  repeat' split
  all_goals first | rfl | exact lim_make _ _
theorem lim_copy (s : R) (x : Int) : (s.copyQ x).2.2.limit = s.limit := by
  unfold R.copyQ
  repeat' split
  all_goals first | rfl | exact lim_make _ _
theorem lim_join (s : R) (x y : Int) : (s.joinQ x y).2.2.limit = s.limit := by
  unfold R.joinQ
  repeat' split
  all_goals first | rfl | exact lim_make _ _
theorem lim_get (s : R) (x i : Int) : (s.getQ x i).2.2.limit = s.limit := by
  unfold R.getQ
  repeat' split
  all_goals first | rfl | exact lim_outer _ _
theorem lim_key (s : R) (x i : Int) : (s.keyQ x i).2.2.limit = s.limit := by
  unfold R.keyQ
  repeat' split
  all_goals first | rfl | exact lim_outer _ _
theorem lim_find (s : R) (x : Int) (k : Int × Int) : (s.findQ x k).2.2.limit = s.limit := by
  unfold R.findQ
  repeat' split
  all_goals first | rfl | exact lim_outer _ _
theorem lim_set (s : R) (x i : Int) (v : Int × Int) : (s.setQ x i v).2.limit = s.limit := by
  unfold R.setQ
  repeat' split
  all_goals rfl
theorem lim_put (s : R) (x : Int) (k v : Int × Int) : (s.putQ x k v).2.limit = s.limit := by
  unfold R.putQ
  repeat' split
  all_goals rfl
theorem lim_cut (s : R) (x : Int) (k : Int × Int) : (s.cutQ x k).2.limit = s.limit := by
  unfold R.cutQ
  repeat' split
  all_goals rfl
theorem lim_opens (s : R) : s.openQ.2.2.limit = s.limit := by
  unfold R.openQ
  repeat' split
  all_goals rfl
theorem lim_close (s : R) (n : Int) : (s.closeQ n).2.limit = s.limit := by
  unfold R.closeQ
  repeat' split
  all_goals rfl
theorem lim_escape (s : R) (x : Int) : (s.escapeQ x).2.2.limit = s.limit := by
  unfold R.escapeQ
  repeat' split
  all_goals first | rfl | exact lim_handle _ _ _
theorem lim_keep (s : R) (x : Int) : (s.keepQ x).2.2.limit = s.limit := by
  unfold R.keepQ
  repeat' split
  all_goals first | rfl | exact lim_handle _ _ _
theorem lim_release (s : R) (x : Int) : (s.releaseQ x).2.limit = s.limit := by
  unfold R.releaseQ
  repeat' split
  all_goals rfl
theorem lim_collect (s : R) : s.collectQ.2.limit = s.limit := by
  unfold R.collectQ
  repeat' split
  all_goals rfl
theorem limit_step (s : R) (o : LOp) : (s.stepQ o).limit = s.limit := by
  by_cases hkn : ¬ (1 ≤ o.kind ∧ o.kind ≤ 23)
  · rw [(step_unknown s hkn).1]
  have hk : 1 ≤ o.kind ∧ o.kind ≤ 23 := by omega
  obtain ⟨kind, x, y, k, v, t⟩ := o
  simp only at hk
  have hc : kind = 1 ∨ kind = 2 ∨ kind = 3 ∨ kind = 4 ∨ kind = 5 ∨ kind = 6 ∨ kind = 7 ∨ kind = 8 ∨ kind = 9 ∨ kind = 10 ∨ kind = 11 ∨ kind = 12 ∨ kind = 13 ∨ kind = 14 ∨ kind = 15 ∨ kind = 16 ∨ kind = 17 ∨ kind = 18 ∨ kind = 19 ∨ kind = 20 ∨ kind = 21 ∨ kind = 22 ∨ kind = 23 := by omega
  rcases hc with rfl | rfl | rfl | rfl | rfl | rfl | rfl | rfl | rfl | rfl | rfl | rfl | rfl | rfl | rfl | rfl | rfl | rfl | rfl | rfl | rfl | rfl | rfl
  · exact lim_array s x
  · exact lim_bytes s t
  · exact lim_table s x
  · rfl
  · rfl
  · rfl
  · rfl
  · rfl
  · exact lim_get s x y
  · exact lim_set s x y v
  · rfl
  · exact lim_find s x k
  · exact lim_put s x k v
  · exact lim_cut s x k
  · exact lim_key s x y
  · exact lim_opens s
  · exact lim_close s x
  · exact lim_escape s x
  · exact lim_keep s x
  · exact lim_release s x
  · exact lim_collect s
  · exact lim_join s x y
  · exact lim_copy s x
end Go.Proofs.Ytfoncalkgmeklaa
