/- What gripref.New does at every limit and list of flags: nil where the document has no heap, else a heap of the given limit whose flags are a fresh copy. No condition but that the flags' cells are there. -/
import Derived.Test.YtdphgbkeagcclaaGreatBase
import Derived.Deep.DeepMust
namespace Go.Proofs.YtdphgbkeagcclaaGreat
open Go.RowKit

theorem info4 : (Tryz.prog.info? 4).map (fun i => (i.zero, i.size, i.bytes)) = some (some (.bool false), 1, 1) := by kernel_rfl

/-- The cells of gripref.Heap. -/
def refCells (limit : Int) (flags : Value) (made : Int) (dead : Bool) (objs row handles : Value) (scopes : Int) : List Value :=
  [.int .i64 limit, flags, .int .i64 made, .bool dead, objs, row, handles, .int .i64 scopes]

set_option maxHeartbeats 400000 in
theorem refNew_bad (l : Int) (a : Option Addr) (n c : Nat) (w : World) (h : l < 1 ∨ 512 < l ∨ 64 < n) : Calls Tryz.prog 15 #[.int .i64 l, .slice a n c] w fun e w' => e = .returned (.pointer none) ∧ w' = w := by
  go_enter Tryz.func15, Tryz.ntmps15
  go_wp2
  all_goals first | (exfalso; omega; done) | skip
  all_goals go_ret
  all_goals exact ⟨rfl, rfl⟩

set_option maxRecDepth 100000 in
set_option maxHeartbeats 400000 in
theorem refNew_good (l : Int) (a : Option Addr) (n c : Nat) (fs : List Value) (w : World) (h1 : 1 ≤ l) (h2 : l ≤ 512) (hn : n ≤ 64) (hl : fs.length = n)
    (hsrc : 0 < n → ∃ ad, a = some ad ∧ ∀ j u, fs[j]? = some u → w.cell? (ad.add j) = some u) (hone : ∀ u ∈ fs, u.oneCell' = true) (hlt : ∀ ad, a = some ad → 0 < n → ad.block < w.heap.size) :
    Calls Tryz.prog 15 #[.int .i64 l, .slice a n c] w fun e w' => e = .returned (.pointer (some ⟨w.heap.size, 0, none⟩)) ∧ ∃ fv,
    Blk w' w.heap.size (refCells l fv 0 false (.slice none 0 0) (.slice none 0 0) (.slice none 0 0) 0) 52 ∧ w'.ownsRow 0 4 1 fv n fs ∧ (∀ g, fv.ownBlock = some g → w.heap.size < g) ∧ Chg [] w w' := by
  obtain ⟨i0, hi, hz0, hz1, hz2⟩ := info_parts info4
  have hlt64 : (n : Int) ≤ 64 := by omega
  have Hsrc := hide hsrc; have Hone := hide hone; have Hlt := hide hlt; have Hl := hide hl
  clear hsrc hone hlt hl
  go_enter Tryz.func15, Tryz.ntmps15
  go_wp2_with (at_builtin; go_must (refine wpList_append_gen _ rfl (.tmp 24) (.tmp 25) 22 rfl 4 i0 (.bool false) 1 1 Tryz.underlying22 hi hz0 hz1 hz2 rfl (by decide) (.slice none 0 0) 0 [] rfl (World.ownsRow_nil _ _ _ _) a n c fs rfl ?c0 ?c1 (unhide Hone) ?c2 ?c3 ?_))
  case c0 => simpa using unhide Hl
  case c1 =>
    intro h0
    obtain ⟨ad, e, hc⟩ := unhide Hsrc h0
    exact ⟨ad, e, fun j u hj => by rw [((Chg.refl [] w).alloc _).cell (by rw [addr_add_block]; exact unhide Hlt ad e h0) (by simp)]; exact hc j u hj⟩
  case c2 => unfold maxLen; omega
  case c3 => omega
  intro va cap w1 ho hg hnil hat
  have hb0 := Blk.new w (refCells l (.slice none 0 0) 0 false (.slice none 0 0) (.slice none 0 0) (.slice none 0 0) 0) 52
  have hb1 := hb0.chg (grown_chg hg) (by simp [Value.ownBlock])
  have hc1 := hb1.cell_of (i := 1) rfl
  have hf1 := hb1.frozen 1
  have HB := hide hb1; have HO := hide ho; have HG := hide hg; have HA := hide hat
  clear hb0 hb1 ho hg hnil hat
  go_wp2
  go_ret
  have hb2 := (unhide HB).setCell 1 (.slice va n cap)
  have hsz : w.heap.size + 1 ≤ w1.heap.size := by have := (unhide HG).size; simpa using this
  refine ⟨rfl, .slice va n cap, hb2, ownsRow_setCell_other' (unhide HO) ?_ _, ?_, (((Chg.refl [] w).alloc _).grown (unhide HG) (fun k hk => by simp [Value.ownBlock] at hk)).setCell (.inr (Nat.le_refl _)) _⟩
  · intro g hgv
    rcases unhide HA with h | h
    · rw [h] at hgv; simp [Value.ownBlock] at hgv
    · rw [h] at hgv; simp at hgv; show g ≠ w.heap.size; omega
  · intro g hgv
    rcases unhide HA with h | h
    · rw [h] at hgv; simp [Value.ownBlock] at hgv
    · rw [h] at hgv; simp at hgv; omega
end Go.Proofs.YtdphgbkeagcclaaGreat
