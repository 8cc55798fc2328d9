/- values: Get, Find, Key: each of these calls, of the program and of the document, answers the same, if each keeps its contract. (Written by wip/genlaw.py.) -/
import Derived.Test.YtfoncalkgmeklaaXwM7
namespace Go.Proofs.Ytfoncalkgmeklaa
open Go.RowKit

theorem size_alloc (w : World) (o : Obj) : (w.alloc o).heap.size = w.heap.size + 1 := by simp
theorem cell_lt' {w : World} {a : Addr} {v : Value} (h : w.cell? a = some v) : a.block < w.heap.size := by
  rcases Nat.lt_or_ge a.block w.heap.size with hl | hg
  · exact hl
  · simp [World.cell?, Array.getElem?_eq_none hg] at h
end Go.Proofs.Ytfoncalkgmeklaa
