/- Words, of the program's heap and of memory: a fresh list of the words in use. -/
import Derived.Test.YtdphgbkeagcclaaGreatBegin
namespace Go.Proofs.YtdphgbkeagcclaaGreat
open Go.RowKit

theorem info3 : (Tryz.prog.info? 3).map (fun i => (i.zero, i.size, i.bytes)) = some (some (.int .i64 0), 1, 8) := by kernel_rfl

set_option maxHeartbeats 400000 in
theorem memWords_any (b off : Nat) (wa : Option Addr) (m c : Nat) (xs : List Value) (w : World) (hm : m ≤ 1000000) (hcell : w.cell? ⟨b, off + 1, none⟩ = some (.slice wa m c)) (hown : w.ownsRow 0 3 1 (.slice wa m c) m xs) (h1 : ∀ u ∈ xs, u.oneCell' = true) :
    Calls Tryz.prog 108 #[.pointer (some ⟨b, off, none⟩)] w fun e w' => ∃ g cap, e = .returned (.slice (some ⟨g, 0, none⟩) m cap) ∧ w'.ownsRow 0 3 1 (.slice (some ⟨g, 0, none⟩) m cap) m xs ∧ w.heap.size ≤ g ∧ Chg [] w w' := by
  obtain ⟨i0, hi, hz0, hz1, hz2⟩ := info_parts info3
  have hb : b < w.heap.size := World.block_lt_of_cell? w _ hcell
  have hcell' : (w.alloc (.cells #[] 3)).cell? ⟨b, off + 1, none⟩ = some (.slice wa m c) := by rw [((Chg.refl [] w).alloc _).cell hb (by simp)]; exact hcell
  have HO := hide hown; have H1 := hide h1; clear hown h1
  go_enter Tryz.func108, Tryz.ntmps108
  go_wp2_with (at_builtin; go_must (refine wpList_append_gen _ rfl (.tmp 3) (.tmp 7) 26 rfl 3 i0 (.int .i64 0) 1 8 Tryz.underlying26 hi hz0 hz1 hz2 rfl (by decide) (.slice (some ⟨w.heap.size, 0, none⟩) 0 0) 0 [] rfl ?c0 wa m c xs rfl ?c4 ?c1 (unhide H1) ?c2 ?c3 ?_))
  case c0 => exact World.ownsRow_lit w #[] 0 (Nat.zero_le _) (by unfold maxLen; omega) rfl
  case c4 => exact (unhide HO).1
  case c1 =>
    intro h0
    obtain ⟨ad, e, hl, hc⟩ := owns_src (unhide HO) h0
    exact ⟨ad, e, fun j u hj => by rw [((Chg.refl [] w).alloc _).cell (by rw [addr_add_block]; exact hl) (by simp)]; exact hc j u hj⟩
  case c2 => unfold maxLen; omega
  case c3 => omega
  intro va cap w1 ho hg hnil hat
  have HO1 := hide ho; have HG1 := hide hg; have HA1 := hide hat; clear ho hg hat hnil hcell hcell'
  go_wp2
  go_ret
  have ho := unhide HO1
  obtain ⟨g, hg, hle⟩ : ∃ g, (Value.slice va m cap).ownBlock = some g ∧ w.heap.size ≤ g := by
    rcases unhide HA1 with h | h
    · exact ⟨_, h, Nat.le_refl _⟩
    · exact ⟨_, h, by omega⟩
  obtain rfl := owns_some ho hg
  exact ⟨g, cap, rfl, ho, hle, ((Chg.refl [] w).alloc _).grown (unhide HG1) (fun k hk => .inr (by simp [Value.ownBlock] at hk; omega))⟩

set_option maxHeartbeats 400000 in
/-- The program's Words, where memory hasn't run out. -/
theorem gripWords_any (b : Nat) (limit : Int) (wa : Option Addr) (m c : Nat) (sl : List Slot) (op : Int) (xs : List Value) (w : World) (hm : m ≤ 1000000) (hblk : Blk w b (heapCells false limit (.slice wa m c) sl op) 66) (hown : w.ownsRow 0 3 1 (.slice wa m c) m xs) (h1 : ∀ u ∈ xs, u.oneCell' = true) :
    Calls Tryz.prog 70 #[.pointer (some ⟨b, 0, none⟩)] w fun e w' => ∃ g cap, e = .returned (.tuple #[.slice (some ⟨g, 0, none⟩) m cap, .int .i64 0]) ∧ w'.ownsRow 0 3 1 (.slice (some ⟨g, 0, none⟩) m cap) m xs ∧ w.heap.size ≤ g ∧ Chg [] w w' := by
  have c0 := hblk.cell_of (i := 0) rfl
  have HB := hide hblk; have HO := hide hown; have H1 := hide h1; clear hblk hown h1
  go_enter Tryz.func70, Tryz.ntmps70
  go_wp2_with fail
  refine (memWords_any b 1 wa m c xs w hm ((unhide HB).cell_of (i := 2) rfl) (unhide HO) (unhide H1)).mono ?_
  rintro e w' ⟨g, cap, rfl, ho, hle, hc⟩
  have HO1 := hide ho; have HC1 := hide hc; clear ho hc
  go_wp2
  go_ret2
  exact ⟨g, cap, rfl, unhide HO1, hle, unhide HC1⟩
end Go.Proofs.YtdphgbkeagcclaaGreat
