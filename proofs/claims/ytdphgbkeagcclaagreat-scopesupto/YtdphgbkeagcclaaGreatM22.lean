/- A heap without flags whose words last stays so; and the program's New. -/
import Derived.Test.YtdphgbkeagcclaaGreatM21
import Derived.Test.YtdphgbkeagcclaaGreatM16
namespace Go.Proofs.YtdphgbkeagcclaaGreat
open Go.RowKit

/-- Memory has not run out, and there are no flags. -/
def Calm (s : R) : Prop := s.dead = false ∧ s.flags = []
theorem Calm.handle {s : R} (h : Calm s) (o : Nat) (c : Int) : Calm (s.handle o c).2.2 := by
  unfold R.handle; split <;> exact h
theorem Calm.outer {s : R} (h : Calm s) (v : Int × Int) : Calm (s.outer v).2.2 := by
  unfold R.outer; repeat' split
  all_goals first | exact h | exact h.handle _ _
theorem Calm.make {s : R} (h : Calm s) {o : RObj} (hw : oWords o ≤ s.left) : Calm (s.make o).2.2 := by
  rw [make_room h.2 hw]
  cases s.free? with
  | none => exact h
  | some k => exact Calm.handle (s := s.made1.push o) h _ _
theorem Calm.array {s : R} (h : Calm s) (n : Int) (hl : 34 ≤ s.left) : Calm (s.arrayQ n).2.2 := by
  unfold R.arrayQ; repeat' split
  all_goals first | exact h | skip
  rename_i hn
  refine h.make ?_
  simp [oWords, wordsOf, mkArray]; omega
theorem Calm.table {s : R} (h : Calm s) (n : Int) (hl : 34 ≤ s.left) : Calm (s.tableQ n).2.2 := by
  unfold R.tableQ; repeat' split
  all_goals first | exact h | skip
  rename_i hn
  refine h.make ?_
  simp [oWords, wordsOf, mkTable]; omega
theorem Calm.bytes {s : R} (h : Calm s) (t : ByteArray) (hl : 34 ≤ s.left) : Calm (s.bytesQ t).2.2 := by
  unfold R.bytesQ; repeat' split
  all_goals first | exact h | skip
  rename_i hn
  refine h.make ?_
  simp [oWords, wordsOf, mkBytes]; split <;> omega
theorem Calm.get {s : R} (h : Calm s) (x i : Int) : Calm (s.getQ x i).2.2 := by
  unfold R.getQ; repeat' split
  all_goals first | exact h | exact h.outer _
theorem Calm.key {s : R} (h : Calm s) (x i : Int) : Calm (s.keyQ x i).2.2 := by
  unfold R.keyQ; repeat' split
  all_goals first | exact h | exact h.outer _
theorem Calm.find {s : R} (h : Calm s) (x : Int) (k : Int × Int) : Calm (s.findQ x k).2.2 := by
  unfold R.findQ; repeat' split
  all_goals first | exact h | exact h.outer _
theorem Calm.set {s : R} (h : Calm s) (x i : Int) (v : Int × Int) : Calm (s.setQ x i v).2 := by
  unfold R.setQ; repeat' split
  all_goals exact h
theorem Calm.put {s : R} (h : Calm s) (x : Int) (k v : Int × Int) : Calm (s.putQ x k v).2 := by
  unfold R.putQ; repeat' split
  all_goals exact h
theorem Calm.cut {s : R} (h : Calm s) (x : Int) (k : Int × Int) : Calm (s.cutQ x k).2 := by
  unfold R.cutQ; repeat' split
  all_goals exact h
/-- The steps of kinds 1 to 15 (and none of the others) keep a calm heap calm, while there is room. -/
theorem Calm.step {s : R} (h : Calm s) (o : LOp) (hl : 34 ≤ s.left) (hk : o.kind ≤ 15) : Calm (s.stepQ o) := by
  unfold R.stepQ
  rw [if_neg (c := o.kind = 22) (by omega), if_neg (c := o.kind = 23) (by omega), if_neg (c := o.kind = 16) (by omega), if_neg (c := o.kind = 17) (by omega), if_neg (c := o.kind = 18) (by omega), if_neg (c := o.kind = 19) (by omega), if_neg (c := o.kind = 20) (by omega), if_neg (c := o.kind = 21) (by omega)]
  exact ite_p Calm (h.array _ hl) (ite_p Calm (h.bytes _ hl) (ite_p Calm (h.table _ hl) (ite_p Calm (h.get _ _) (ite_p Calm (h.find _ _) (ite_p Calm (h.key _ _) (ite_p Calm (h.set _ _ _) (ite_p Calm (h.put _ _ _) (ite_p Calm (h.cut _ _) h))))))))

theorem pnew_G : PNew G := by
  intro l b n c fs w h1 h2 h3 hl hc hb
  refine (gripNew_good l _ n c w h1 h2 h3).mono ?_
  rintro e w' ⟨rfl, hblk, hch⟩
  refine ⟨w.heap.size + 1, [w.heap.size + 1], rfl, ⟨List.replicate 32 slot0, none, 0, [], l, 0, ⟨?_, World.ownsRow_nil _ _ _ _, by decide⟩, rfl, by simp, fun _ => ⟨rfl, rfl, rfl, ?_⟩⟩, ?_, hch⟩
  · simpa [heapCells, R.init] using hblk
  · intro k x hx
    have : x = slot0 := by
      rw [List.getElem?_replicate] at hx
      split at hx
      · exact (Option.some.inj hx).symm
      · cases hx
    subst this
    exact ⟨rfl, rfl, fun a ha => by simp [R.at?, R.init] at ha⟩
  · intro x hx
    simp at hx
    subst hx
    exact ⟨Nat.le_succ _, hblk.lt⟩
theorem pnewbad_G : PNewBad := by
  intro l b n c w h
  refine (gripNew_bad l _ n c w h).mono ?_
  rintro e w' ⟨rfl, rfl⟩
  exact ⟨rfl, Chg.refl _ _⟩
theorem pend_G {bh : Nat} {s : R} (hc : Calm s) (ha : RAll s) {m : Nat} (hu : RUp m s) (hm : m ≤ 16777216) : PEnd G bh s := by
  have hb : ∀ h ∈ s.handles, h.num ≤ 9223372036854775807 := fun h hh => by
    have := (ha.ok.inv.nums h hh).2.1
    have := hu.handles
    omega
  exact ⟨fun h hh => p_kind _ hc.1 ha (hb h hh), fun h hh => p_place _ hc.1 ha (hb h hh), p_words hc.1 ha⟩
end Go.Proofs.YtdphgbkeagcclaaGreat
