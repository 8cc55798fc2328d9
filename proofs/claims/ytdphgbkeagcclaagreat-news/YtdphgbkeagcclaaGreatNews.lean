/- griplaw.News: at every limit and every list of flags (each string, slice and map within the form's own reach) it returns true and leaves its arguments as they were. No further condition. -/
import Derived.Test.YtdphgbkeagcclaaGreatWords
import Derived.Test.YtdphgbkeagcclaaGreatSame
import Derived.ProofKit
import Derived.OpenShut
import Derived.SizedLaws
namespace Go.Proofs.YtdphgbkeagcclaaGreat
open Go.RowKit

set_option maxHeartbeats 400000 in
/-- The document's Words of a heap without a row. -/
theorem refWords_none (b : Nat) (limit : Int) (fv : Value) (made : Int) (objs handles : Value) (scopes : Int) (w : World) (hblk : Blk w b (refCells limit fv made false objs (.slice none 0 0) handles scopes) 52) :
    Calls Tryz.prog 71 #[.pointer (some ⟨b, 0, none⟩)] w fun e w' => e = .returned (.tuple #[.slice none 0 0, .int .i64 0]) ∧ w' = w := by
  have c3 := hblk.cell_of (i := 3) rfl
  have c5 := hblk.cell_of (i := 5) rfl
  clear hblk
  go_enter Tryz.func71, Tryz.ntmps71
  go_wp2_with fail
  refine wp_loop_rounds 1 ?_
  rw [rounds_succ]
  go_wp2
  go_ret2
  exact ⟨rfl, rfl⟩

set_option maxRecDepth 100000 in
set_option maxHeartbeats 400000 in
/-- The statement's words() of a new world. -/
theorem lawWords_new {l : Int} {n : Nat} {fs : List Bool} {w0 w : World} {bw bh br bf bt : Nat} {fv : Value} (h : Begun l n fs w0 w bw bh br bf bt fv) :
    Calls Tryz.prog 22 #[.pointer (some ⟨bw, 0, none⟩)] w fun e w' => ∃ v, e = .returned (.tuple #[v, .bool true]) ∧ Chg [] w w' := by
  have c0 := h.law.cell_of (i := 0) rfl
  have H := hide h; clear h
  go_enter Tryz.func22, Tryz.ntmps22
  go_wp2_with fail
  refine (gripWords_any bh l none 0 0 (List.replicate 32 slot0) 0 [] w (by omega) (unhide H).heap (World.ownsRow_nil _ _ _ _) (by simp)).mono ?_
  rintro e w1 ⟨g, cap, rfl, ho, hle, hc⟩
  have c1 := ((unhide H).law.chg hc (by simp)).cell_of (i := 1) rfl
  have HO := hide ho; have HC := hide hc; clear ho hc
  clear c0
  go_wp2_with fail
  refine (refWords_none br l fv 0 (.slice none 0 0) (.slice none 0 0) 0 w1 ((unhide H).ref.chg (unhide HC) (by simp))).mono ?_
  rintro e w2 ⟨rfl, rfl⟩
  go_wp2_with fail
  refine (sameInts_any _ _ 0 0 _ _ [] [] _ (by omega) ⟨rfl, by omega⟩ ⟨rfl, by omega⟩).mono ?_
  rintro e w3 ⟨rfl, k, rfl⟩
  clear c1
  go_wp2_with (go_at_call 16; refine (num_any _ _).mono ?_; rintro e w6 ⟨rfl, rfl⟩)
  go_ret2
  exact ⟨_, rfl, (unhide HC).drewN _⟩

set_option maxRecDepth 100000 in
set_option maxHeartbeats 400000 in
theorem ends_new {l : Int} {n : Nat} {fs : List Bool} {w0 w : World} {bw bh br bf bt : Nat} {fv : Value} (h : Begun l n fs w0 w bw bh br bf bt fv) :
    Calls Tryz.prog 13 #[.pointer (some ⟨bw, 0, none⟩)] w fun e w' => e = .returned (.bool true) ∧ Chg [] w w' := by
  have c1 := h.law.cell_of (i := 1) rfl
  have c6 := h.ref.cell_of (i := 6) rfl
  have H := hide h; clear h
  go_enter Tryz.func13, Tryz.ntmps13
  go_wp2_with fail
  refine wp_loop_rounds 1 ?_
  rw [rounds_succ]
  go_wp2_with fail
  refine (lawWords_new (unhide H)).mono ?_
  rintro e w1 ⟨v, rfl, hc⟩
  have HC := hide hc; clear hc
  go_wp2
  go_ret
  exact ⟨rfl, unhide HC⟩

set_option maxRecDepth 100000 in
set_option maxHeartbeats 400000 in
theorem plays_new (l : Int) (a : Option Addr) (n c : Nat) (fs : List Bool) (w : World) (hn : n ≤ 140737488351232) (hl : fs.length = n)
    (hsrc : 0 < n → ∃ b off, a = some ⟨b, off, none⟩ ∧ b < w.heap.size ∧ ∀ j x, fs[j]? = some x → w.cell? ⟨b, off + j, none⟩ = some (.bool x)) :
    Calls Tryz.prog 8 #[.int .i64 l, .slice a n c, .slice none 0 0, .slice none 0 0, .bool false] w fun e w' => e = .returned (.bool true) ∧ Chg [] w w' := by
  have Hsrc := hide hsrc; have Hl := hide hl; clear hsrc hl
  by_cases hbad : l < 1 ∨ 512 < l ∨ 64 < n
  · have HBAD := hide hbad; clear hbad
    go_enter Tryz.func8, Tryz.ntmps8
    go_wp2_with fail
    refine (begin_bad l a n c fs w (unhide HBAD) hn (unhide Hl) (unhide Hsrc)).mono ?_
    rintro e w1 ⟨rfl, hc⟩
    have HC := hide hc; clear hc
    go_wp2
    go_ret
    exact ⟨rfl, unhide HC⟩
  · have h1 : 1 ≤ l := by omega
    have h2 : l ≤ 512 := by omega
    have h3 : n ≤ 64 := by omega
    clear hbad
    go_enter Tryz.func8, Tryz.ntmps8
    go_wp2_with fail
    refine (begin_good l a n c fs w h1 h2 h3 (unhide Hl) (unhide Hsrc)).mono ?_
    rintro e w1 ⟨bw, bh, br, bf, bt, fv, rfl, hb⟩
    have HB := hide hb; clear hb
    go_wp2_with fail
    refine wp_loop_rounds 1 ?_
    rw [rounds_succ]
    go_wp2_with fail
    refine (ends_new (unhide HB)).mono ?_
    rintro e w2 ⟨rfl, hc⟩
    have HC := hide hc; clear hc
    go_wp2
    go_ret
    exact ⟨rfl, (unhide HB).chg.trans (unhide HC)⟩

set_option maxHeartbeats 400000 in
theorem news_walk (l : Int) (a : Option Addr) (n c : Nat) (fs : List Bool) (w : World) (hn : n ≤ 140737488351232) (hl : fs.length = n)
    (hsrc : 0 < n → ∃ b off, a = some ⟨b, off, none⟩ ∧ b < w.heap.size ∧ ∀ j x, fs[j]? = some x → w.cell? ⟨b, off + j, none⟩ = some (.bool x)) :
    Calls Tryz.prog 3 #[.int .i64 l, .slice a n c] w fun e w' => e = .returned (.bool true) ∧ Chg [] w w' := by
  have Hsrc := hide hsrc; have Hl := hide hl; clear hsrc hl
  go_enter Tryz.func3, Tryz.ntmps3
  go_wp2_with fail
  refine (plays_new l a n c fs w hn (unhide Hl) (unhide Hsrc)).mono ?_
  rintro e w2 ⟨rfl, hc⟩
  have HC := hide hc; clear hc
  go_wp2
  go_ret
  exact ⟨rfl, unhide HC⟩
end Go.Proofs.YtdphgbkeagcclaaGreat
