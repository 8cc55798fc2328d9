/- What grip.New does at every limit and list of flags (commit of stage 3): nil and ErrLimit, or a heap without words and handles. No condition. -/
import Derived.Test.YtdphgbkeagcclaaGreatBase
import Derived.Deep.DeepMust
namespace Go.Proofs.YtdphgbkeagcclaaGreat
open Go.RowKit

/-- A slot of the program. -/
structure Slot where
  live : Bool
  given : Int
  place : Int
  scope : Int
def slot0 : Slot := ⟨false, 0, 0, 0⟩
/-- The cells of slots.slot, one slot behind the other. -/
def slotCells : List Slot → List Value
  | [] => []
  | x :: r => .bool x.live :: .int .i64 x.given :: .int .i64 x.place :: .int .i64 x.scope :: slotCells r
/-- The cells of slots.Slots: the slots, and how many scopes are open. -/
def holdCells (sl : List Slot) (op : Int) : List Value := slotCells sl ++ [.int .i64 op]
/-- The cells of grip.Heap. -/
def heapCells (poisoned : Bool) (limit : Int) (words : Value) (slots : List Slot) (op : Int) : List Value :=
  .bool poisoned :: .int .i64 limit :: words :: holdCells slots op

theorem num_any (n : Int) (w : World) : Calls Tryz.prog 16 #[.int .i64 n] w fun e w' => e = .returned (.int .i64 n) ∧ w' = w := by
  go_enter Tryz.func16, Tryz.ntmps16
  go_wp2
  go_ret
  exact ⟨rfl, rfl⟩

theorem memNew_any (n : Int) (w : World) : Calls Tryz.prog 23 #[.int .i64 n] w fun e w' => e = .returned (.agg #[.int .i64 n, .slice none 0 0]) ∧ w.alloc (.cells #[.int .i64 n, .slice none 0 0] 58) = w' := by
  go_enter Tryz.func23, Tryz.ntmps23
  go_wp2
  exact bodyPost_ret (v := .agg #[.int .i64 n, .slice none 0 0]) (by simp [results, Tryz.results23, go_sem]) rfl ⟨rfl, rfl⟩

set_option maxHeartbeats 400000 in
theorem gripNew_bad (l : Int) (a : Option Addr) (n c : Nat) (w : World) (h : l < 1 ∨ 512 < l ∨ 64 < n) : Calls Tryz.prog 14 #[.int .i64 l, .slice a n c] w fun e w' => e = .returned (.tuple #[.pointer none, .int .i64 1]) ∧ w' = w := by
  go_enter Tryz.func14, Tryz.ntmps14
  go_wp2
  all_goals first | (exfalso; omega; done) | skip
  all_goals go_ret2
  all_goals exact ⟨rfl, rfl⟩

theorem newCells (l : Int) : (Tryz.zeroCells66.setIfInBounds 1 (.int .i64 l)).setIfInBounds 2 (.slice none 0 0) = (heapCells false l (.slice none 0 0) (List.replicate 32 slot0) 0).toArray := by kernel_rfl

set_option maxRecDepth 100000 in
set_option maxHeartbeats 400000 in
theorem gripNew_good (l : Int) (a : Option Addr) (n c : Nat) (w : World) (h1 : 1 ≤ l) (h2 : l ≤ 512) (h3 : n ≤ 64) : Calls Tryz.prog 14 #[.int .i64 l, .slice a n c] w fun e w' =>
    e = .returned (.tuple #[.pointer (some ⟨w.heap.size + 1, 0, none⟩), .int .i64 0]) ∧ Blk w' (w.heap.size + 1) (heapCells false l (.slice none 0 0) (List.replicate 32 slot0) 0) 66 ∧ Chg [] w w' := by
  go_enter Tryz.func14, Tryz.ntmps14
  go_wp2_with (go_at_call 23; refine (memNew_any _ _).mono ?_; rintro e w' ⟨rfl, rfl⟩)
  go_ret2
  refine ⟨rfl, ?_, ((Chg.refl [] w).alloc _).alloc _⟩
  have := Blk.new (w.alloc (.cells #[.int .i64 l, .slice none 0 0] 58)) (heapCells false l (.slice none 0 0) (List.replicate 32 slot0) 0) 66
  rw [show (w.alloc (.cells #[.int .i64 l, .slice none 0 0] 58)).heap.size = w.heap.size + 1 from by simp] at this
  rw [newCells l]
  exact this
end Go.Proofs.YtdphgbkeagcclaaGreat
