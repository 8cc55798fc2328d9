import Derived.Test.YtfoncalkgmeklabXwM45
import Derived.BigQuiet

/- The book of handles, beside the heap: its cells, and the lowest free slot. -/
namespace Go.Proofs.Ytfoncalkgmeklab
open Go.RowKit

def bools (l : List Bool) : List Value := l.map Value.bool
theorem bools_append (a b : List Bool) : bools (a ++ b) = bools a ++ bools b := by simp [bools]
theorem bools_ones (l : List Bool) : ∀ u ∈ bools l, u.oneCell' = true := by
  intro u hu
  obtain ⟨b, _, rfl⟩ := List.mem_map.1 hu
  rfl
section
variable {w0 w : World} {bb : Nat} {ns ss : List Int} {ls : List Bool} {ps : List Int} {op : Int} {na sa la : Option Addr} {nc sc lc : Nat} {F : List Nat}
end

/-! The lowest slot that no live handle has -/
def slotFreeQ (hs : List RHan) (k : Nat) : Bool := !(hs.any fun h => h.live && h.num % 32 == (k : Int))
def lowQ (hs : List RHan) : Int := match (List.range 32).find? (slotFreeQ hs) with | some k => (k : Int) | none => -1
def pastOf (hs : List RHan) : List Int := (List.range 32).map fun (k : Nat) => (hs.countP (sameSlot (k : Int)) : Int)
theorem any_take {hs : List RHan} {i k : Nat} {h : RHan} (e : hs[i]? = some h) : ((hs.take (i + 1)).any fun h => h.live && h.num % 32 == (k : Int)) = (((hs.take i).any fun h => h.live && h.num % 32 == (k : Int)) || (h.live && h.num % 32 == (k : Int))) := by
  obtain ⟨hlt, rfl⟩ := List.getElem?_eq_some_iff.1 e
  rw [List.take_succ_eq_append_getElem hlt, List.any_append]
  simp
end Go.Proofs.Ytfoncalkgmeklab

/- The book of handles: a handle more, and handles that end. -/
namespace Go.Proofs.Ytfoncalkgmeklab
open Go.RowKit

theorem infoB : (Try.prog.info? 4).map (fun i => (i.zero, i.size, i.bytes)) = some (some (.bool false), 1, 1) := by kernel_rfl
section
variable {w0 w w1 : World} {bb : Nat} {ns ss : List Int} {ls : List Bool} {ps : List Int} {op : Int} {na sa la : Option Addr} {nc sc lc : Nat} {F : List Nat}
end

/-- The scope that the book writes down. -/
def noteScope (kind op : Int) : Int := if kind = 19 then -1 else if kind = 18 then op - 1 else op
theorem pastOf_at (hs : List RHan) {k : Nat} (hk : k < 32) : (pastOf hs).getD k 0 = (hs.countP (sameSlot (k : Int)) : Int) := by
  simp [pastOf, List.getD, hk]
theorem pastOf_push {hs : List RHan} {g : RHan} {k : Nat} (hk : k < 32) (hg : g.num % 32 = (k : Int)) : (pastOf hs).set k ((hs.countP (sameSlot (k : Int)) : Int) + 1) = pastOf (hs ++ [g]) := by
  apply List.ext_getElem?
  intro j
  rw [List.getElem?_set]
  unfold pastOf
  by_cases hj : j < 32
  · by_cases hjk : k = j
    · subst hjk
      simp [hj, List.countP_append, sameSlot, hg]
    · have : (sameSlot (j : Int) g) = false := by unfold sameSlot; rw [hg]; simp; omega
      simp [hjk, hj, List.countP_append, this]
  · have h1 : (List.map (fun (k : Nat) => ((hs.countP (sameSlot (k : Int)) : Nat) : Int)) (List.range 32))[j]? = none := by simp; omega
    have h2 : (List.map (fun (k : Nat) => (((hs ++ [g]).countP (sameSlot (k : Int)) : Nat) : Int)) (List.range 32))[j]? = none := by simp; omega
    rw [h2, if_neg (by omega), h1]
end Go.Proofs.Ytfoncalkgmeklab
