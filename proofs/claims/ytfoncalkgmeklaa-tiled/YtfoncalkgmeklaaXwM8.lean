import Derived.Test.YtfoncalkgmeklaaXwM7

/- keep, walked. -/
namespace Go.Proofs.Ytfoncalkgmeklaa
open Go.RowKit

theorem infoSl : (Try.prog.info? 27).map (fun i => (i.zero, i.size, i.bytes)) = some (some (.slice none 0 0), 1, 24) := by kernel_rfl

/-- The list behind k rounds of the owner's writing. -/
def filled (ys : List Int) (m : Int) (k : Nat) : List Int := List.replicate k m ++ ys.drop k
theorem filled_set (ys : List Int) (m : Int) (k : Nat) (h : k < ys.length) : (filled ys m k).set k m = filled ys m (k + 1) := by
  unfold filled
  rw [List.set_append_right _ _ (by simp), List.length_replicate, Nat.sub_self, List.drop_eq_getElem_cons h, List.set_cons_zero, List.replicate_succ', List.append_assoc]
  rfl
/-- A number of an owned row is stored. -/
theorem owns_set {w : World} {e : TypeId} {g n c k : Nat} {ys : List Int} {m : Int} (h : w.ownsRow 0 e 1 (.slice (some ⟨g, 0, none⟩) n c) n (ints ys)) (hk : k < n) : (w.setCell ⟨g, k, none⟩ (.int .i64 m)).ownsRow 0 e 1 (.slice (some ⟨g, 0, none⟩) n c) n (ints (ys.set k m)) := by
  obtain ⟨rest, hb, h1, h2, h3, _⟩ := owns_blk h
  have hl : ys.length = n := by simpa [ints] using h.1
  have hb' := hb.setCell k (.int .i64 m)
  have e1 : (ints ys ++ rest).set k (.int .i64 m) = ints (ys.set k m) ++ rest := by
    rw [List.set_append_left _ _ (by simp [ints]; omega)]
    simp [ints, List.map_set]
  rw [e1] at hb'
  have hl2 : (ints (ys.set k m) ++ rest).length = c * 1 := by
    have : (ints (ys.set k m)).length = (ints ys).length := by simp [ints]
    rw [List.length_append, this, ← List.length_append]; exact h3
  have := hb'.owns (size := 1) (base := 0) (n := n) (cap := c) (Nat.zero_le _) h1 h2 hl2
  rw [Nat.mul_one, List.take_append_of_le_length (by simp [ints]; omega), List.take_of_length_le (by simp [ints]; omega)] at this
  exact this

end Go.Proofs.Ytfoncalkgmeklaa

/- asks (but Words): each of these calls, of the program and of the document, answers the same, if each keeps its contract. (Written by wip/genlaw.py.) -/
namespace Go.Proofs.Ytfoncalkgmeklaa
open Go.RowKit

end Go.Proofs.Ytfoncalkgmeklaa

/- words, and the step that asks for Words. -/
namespace Go.Proofs.Ytfoncalkgmeklaa
open Go.RowKit

def R.wordsQ (s : R) : List Int := if s.dead then [] else s.words
def R.wordsE (s : R) : Int := if s.dead then 2 else 0
/-- The program's Words. -/
def PWords (G : World → Nat → R → List Nat → Prop) (bh : Nat) (s : R) : Prop :=
  ∀ w F, G w bh s F → Calls Try.prog 14 #[.pointer (some ⟨bh, 0, none⟩)] w fun e w' => ∃ a n c, e = .returned (.tuple #[.slice a n c, .int .i64 s.wordsE]) ∧ Out w w' a n c s.wordsQ

end Go.Proofs.Ytfoncalkgmeklaa
