/- gripkeep.short: at most n bytes of a text. -/
import Derived.Test.YtfoncalkgmeklabM41
import Derived.SliceStrings
namespace Go.Proofs.Ytfoncalkgmeklab
open Go.RowKit

def shortQ (t : ByteArray) (n : Nat) : ByteArray := if n < t.size then t.extract 0 n else t
theorem short_size (t : ByteArray) (n : Nat) : (shortQ t n).size ≤ n := by
  unfold shortQ
  split
  · rw [ByteArray.size_extract]; omega
  · omega
set_option maxHeartbeats 400000 in
theorem short_any (t : ByteArray) (n : Nat) (w : World) (hn : n ≤ 64) : Calls Try.prog 8 #[.string t, .int .i64 (n : Int)] w fun e w' => e = .returned (.string (shortQ t n)) ∧ w' = w := by
  unfold shortQ
  by_cases h : n < t.size
  · have h1 : (n : Int) < (t.size : Int) := by omega
    rw [if_pos h]
    go_enter Try.func8, Try.ntmps8
    go_wp2
    go_ret
    exact ⟨rfl, rfl⟩
  · have h1 : ¬ ((n : Int) < (t.size : Int)) := by omega
    rw [if_neg h]
    go_enter Try.func8, Try.ntmps8
    go_wp2
    go_ret
    exact ⟨rfl, rfl⟩
end Go.Proofs.Ytfoncalkgmeklab
