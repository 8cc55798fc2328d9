import Derived.Test.YtfoncalkgmeklaaXwM2

/- look: the first errors of every call, then the object's number. -/
namespace Go.Proofs.Ytfoncalkgmeklaa
open Go.RowKit

theorem look_eval {s : R} {x : Int} {k v : Int × Int} {key : Bool} (hd : s.dead = false) (hgood : R.badValue k v key = false) :
    s.look x k v key = if posOf (s.find? x) < 0 then (0, 4) else if ((k.1 == 2) && decide (posOf (s.find? k.2) < 0)) || ((v.1 == 2) && decide (posOf (s.find? v.2) < 0)) then (0, 4) else ((s.handles.getD (posOf (s.find? x)).toNat rhan0).obj, 0) := by
  have e : ∀ o : Option Nat, decide (posOf o < 0) = o.isNone := fun o => by
    cases o with
    | none => simp [posOf]
    | some a => have : ¬ ((a : Int) < 0) := by omega
                simp [posOf, this]
  rw [e, e]
  unfold R.look
  rw [hd, hgood]
  simp only [Bool.false_eq_true, if_false, R.stale]
  cases s.find? x with
  | none => simp [posOf]
  | some a =>
    have : ¬ ((a : Int) < 0) := by omega
    simp [posOf, this]
theorem find_lt {s : R} {x : Int} (h : ¬ posOf (s.find? x) < 0) : ∃ a, a < s.handles.length ∧ posOf (s.find? x) = (a : Int) ∧ s.find? x = some a := by
  cases hf : s.find? x with
  | none => rw [hf] at h; simp [posOf] at h
  | some a =>
    refine ⟨a, ?_, rfl, rfl⟩
    unfold R.find? at hf
    exact (List.findIdx?_eq_some_iff_getElem.1 hf).1

end Go.Proofs.Ytfoncalkgmeklaa

/- Kind, Len, Text, Place of the document's heap. -/
namespace Go.Proofs.Ytfoncalkgmeklaa
open Go.RowKit

theorem look_ok {s : R} {x : Int} {k v : Int × Int} {key : Bool} (hi : RInv s) (h : (s.look x k v key).2 = 0) : (s.look x k v key).1 < s.objs.length := by
  unfold R.look at h ⊢
  split
  · simp_all
  · split
    · simp_all
    · split
      · simp_all
      · rename_i a ha
        split
        · simp_all
        · have hal : a < s.handles.length := by
            unfold R.find? at ha
            exact (List.findIdx?_eq_some_iff_getElem.1 ha).1
          have := (hi.nums s.handles[a] (List.getElem_mem hal)).2.2
          simpa [List.getD, hal] using this

end Go.Proofs.Ytfoncalkgmeklaa
