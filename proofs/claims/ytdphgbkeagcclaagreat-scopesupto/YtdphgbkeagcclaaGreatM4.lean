import Derived.Test.YtdphgbkeagcclaaGreatM1
import Derived.Deep.DeepMust
import Derived.Test.YtdphgbkeagcclaaGreatM2

/- sameInts: whether two lists of numbers are the same. -/
namespace Go.Proofs.YtdphgbkeagcclaaGreat
open Go.RowKit

/-- A slice's n elements are these numbers. -/
def Ints (w : World) (a : Option Addr) (n : Nat) (xs : List Int) : Prop :=
  xs.length = n ∧ (0 < n → ∃ g off, a = some ⟨g, off, none⟩ ∧ g < w.heap.size ∧ ∀ j x, xs[j]? = some x → w.cell? ⟨g, off + j, none⟩ = some (.int .i64 x))

theorem Ints.of_own {w : World} {base : Nat} {e : TypeId} {a : Option Addr} {n m c : Nat} {xs : List Int} (h : w.ownsRow base e 1 (.slice a m c) n (xs.map (Value.int .i64))) : Ints w a n xs := by
  refine ⟨by simpa using h.1, fun h0 => ?_⟩
  have hlt := fun g => owns_lt h (g := g)
  rcases h.2 with ⟨_, h0'⟩ | ⟨g, cap, cur, hv, _, hh, _, _, _, ht⟩
  · omega
  · simp only [Value.slice.injEq] at hv
    obtain ⟨rfl, _, _⟩ := hv
    refine ⟨g, 0, rfl, hlt g rfl, fun j x hj => ?_⟩
    have hj' : cur.toList[j]? = some (.int .i64 x) := by
      have hq : (xs.map (Value.int .i64))[j]? = some (.int .i64 x) := by simp [hj]
      rw [← ht, List.getElem?_take] at hq
      split at hq
      · exact hq
      · cases hq
    simp [World.cell?, hh]
    simpa using hj'
theorem Ints.chg {S : List Nat} {w w' : World} {a : Option Addr} {n : Nat} {xs : List Int} (h : Ints w a n xs) (k : Chg S w w') (hs : ∀ ad, a = some ad → ad.block ∉ S) : Ints w' a n xs :=
  ⟨h.1, fun h0 => by
    obtain ⟨g, off, e, hl, hc⟩ := h.2 h0
    exact ⟨g, off, e, Nat.lt_of_lt_of_le hl k.size, fun j x hj => by rw [k.cell (a := ⟨g, off + j, none⟩) hl (hs ⟨g, off, none⟩ e)]; exact hc j x hj⟩⟩

set_option maxRecDepth 100000 in
set_option maxHeartbeats 1000000 in
theorem sameInts_any (a b : Option Addr) (n m c d : Nat) (xs ys : List Int) (w : World) (hn : n ≤ 140737488351232) (hx : Ints w a n xs) (hy : Ints w b m ys) :
    Calls Tryz.prog 72 #[.slice a n c, .slice b m d] w fun e w' => e = .returned (.bool (xs == ys)) ∧ ∃ k, w' = w.drewN k := by
  have hn' : (n : Int) ≤ 140737488351232 := by omega
  have HX := hide hx; have HY := hide hy; clear hx hy
  by_cases hnm : n = m
  · subst hnm
    go_enter Tryz.func72, Tryz.ntmps72
    go_wp2_with fail
    go_loopw [5] (fun i wr => ∃ k : Nat, k ≤ n ∧ i = .int .i64 k ∧ xs.take k = ys.take k ∧ ∃ q, wr = w.drewN q) (fun i _ => n - (intOf i).toNat)
    case atStart => exact ⟨0, Nat.zero_le _, rfl, rfl, 0, rfl⟩
    case round =>
      obtain ⟨k, hk, rfl, heq, q, rfl⟩ := hrel
      have HEQ := hide heq; clear heq
      by_cases hlt : k < n
      · obtain ⟨g, off, rfl, _, hc⟩ := (unhide HX).2 (by omega)
        obtain ⟨g', off', rfl, _, hc'⟩ := (unhide HY).2 (by omega)
        obtain ⟨x, hxk⟩ : ∃ x, xs[k]? = some x := ⟨_, List.getElem?_eq_getElem (by have := (unhide HX).1; omega)⟩
        obtain ⟨y, hyk⟩ : ∃ y, ys[k]? = some y := ⟨_, List.getElem?_eq_getElem (by have := (unhide HY).1; omega)⟩
        have c1 := hc k _ hxk
        have c2 := hc' k _ hyk
        have HXK := hide hxk; have HYK := hide hyk; clear hxk hyk hc hc'
        by_cases hxy : x = y
        · have hb : (x != y) = false := by simp [hxy]
          have HXY := hide hxy; clear hxy
          go_wp2_with fail
          go_quiet (fail)
          go_wp2
          go_roundw
          case rel =>
            refine ⟨k + 1, by omega, by go_num, ?_, _, rfl⟩
            rw [List.take_add_one, List.take_add_one, unhide HEQ, unhide HXK, unhide HYK, unhide HXY]
          case measure => simp [intOf]; omega
        · have hb : (x != y) = true := by simp [hxy]
          have HXY := hide hxy; clear hxy
          go_wp2_with fail
          go_quiet (fail)
          go_wp2
          go_ret
          refine ⟨?_, q + nq, by first | rfl | rw [World.drewN_drewN]⟩
          have hne : xs ≠ ys := by
            intro e
            subst e
            have := (unhide HXK).symm.trans (unhide HYK)
            exact unhide HXY (by simpa using this)
          have : (xs == ys) = false := by simpa using hne
          rw [this]; rfl
      · have hkn : k = n := by omega
        subst hkn
        have hxy : (xs == ys) = true := by
          have e1 := (unhide HX).1; have e2 := (unhide HY).1
          have h := unhide HEQ
          rw [List.take_of_length_le (by omega), List.take_of_length_le (by omega)] at h
          simpa using h
        have HXY := hide hxy; clear hxy
        go_wp2
        go_ret
        exact ⟨by rw [unhide HXY]; rfl, _, rfl⟩
  · have hne : (xs == ys) = false := by
      have h1 := (unhide HX).1; have h2 := (unhide HY).1
      simp only [beq_eq_false_iff_ne, ne_eq]
      intro e
      subst e
      omega
    have hb : ((n : Int) != (m : Int)) = true := by rw [bne_iff_ne]; omega
    have HNE := hide hne; clear hne
    go_enter Tryz.func72, Tryz.ntmps72
    go_wp2
    go_ret
    exact ⟨by rw [unhide HNE]; rfl, 0, rfl⟩
end Go.Proofs.YtdphgbkeagcclaaGreat

/- What grip.New does at every limit and list of flags (commit of stage 3): nil and ErrLimit, or a heap without words and handles. No condition. -/
namespace Go.Proofs.YtdphgbkeagcclaaGreat
open Go.RowKit

/-- A slot of the program. -/
structure Slot where
  live : Bool
  given : Int
  place : Int
  scope : Int
def slot0 : Slot := ⟨false, 0, 0, 0⟩
/-- The cells of slots.slot, one slot behind the other. -/
def slotCells : List Slot → List Value
  | [] => []
  | x :: r => .bool x.live :: .int .i64 x.given :: .int .i64 x.place :: .int .i64 x.scope :: slotCells r
/-- The cells of slots.Slots: the slots, and how many scopes are open. -/
def holdCells (sl : List Slot) (op : Int) : List Value := slotCells sl ++ [.int .i64 op]
/-- The cells of grip.Heap. -/
def heapCells (poisoned : Bool) (limit : Int) (words : Value) (slots : List Slot) (op : Int) : List Value :=
  .bool poisoned :: .int .i64 limit :: words :: holdCells slots op

theorem num_any (n : Int) (w : World) : Calls Tryz.prog 16 #[.int .i64 n] w fun e w' => e = .returned (.int .i64 n) ∧ w' = w := by
  go_enter Tryz.func16, Tryz.ntmps16
  go_wp2
  go_ret
  exact ⟨rfl, rfl⟩

theorem memNew_any (n : Int) (w : World) : Calls Tryz.prog 23 #[.int .i64 n] w fun e w' => e = .returned (.agg #[.int .i64 n, .slice none 0 0]) ∧ w.alloc (.cells #[.int .i64 n, .slice none 0 0] 58) = w' := by
  go_enter Tryz.func23, Tryz.ntmps23
  go_wp2
  exact bodyPost_ret (v := .agg #[.int .i64 n, .slice none 0 0]) (by simp [results, Tryz.results23, go_sem]) rfl ⟨rfl, rfl⟩

set_option maxHeartbeats 400000 in
theorem gripNew_bad (l : Int) (a : Option Addr) (n c : Nat) (w : World) (h : l < 1 ∨ 512 < l ∨ 64 < n) : Calls Tryz.prog 14 #[.int .i64 l, .slice a n c] w fun e w' => e = .returned (.tuple #[.pointer none, .int .i64 1]) ∧ w' = w := by
  go_enter Tryz.func14, Tryz.ntmps14
  go_wp2
  all_goals first | (exfalso; omega; done) | skip
  all_goals go_ret2
  all_goals exact ⟨rfl, rfl⟩

theorem newCells (l : Int) : (Tryz.zeroCells66.setIfInBounds 1 (.int .i64 l)).setIfInBounds 2 (.slice none 0 0) = (heapCells false l (.slice none 0 0) (List.replicate 32 slot0) 0).toArray := by kernel_rfl

set_option maxRecDepth 100000 in
set_option maxHeartbeats 400000 in
theorem gripNew_good (l : Int) (a : Option Addr) (n c : Nat) (w : World) (h1 : 1 ≤ l) (h2 : l ≤ 512) (h3 : n ≤ 64) : Calls Tryz.prog 14 #[.int .i64 l, .slice a n c] w fun e w' =>
    e = .returned (.tuple #[.pointer (some ⟨w.heap.size + 1, 0, none⟩), .int .i64 0]) ∧ Blk w' (w.heap.size + 1) (heapCells false l (.slice none 0 0) (List.replicate 32 slot0) 0) 66 ∧ Chg [] w w' := by
  go_enter Tryz.func14, Tryz.ntmps14
  go_wp2_with (go_at_call 23; refine (memNew_any _ _).mono ?_; rintro e w' ⟨rfl, rfl⟩)
  go_ret2
  refine ⟨rfl, ?_, ((Chg.refl [] w).alloc _).alloc _⟩
  have := Blk.new (w.alloc (.cells #[.int .i64 l, .slice none 0 0] 58)) (heapCells false l (.slice none 0 0) (List.replicate 32 slot0) 0) 66
  rw [show (w.alloc (.cells #[.int .i64 l, .slice none 0 0] 58)).heap.size = w.heap.size + 1 from by simp] at this
  rw [newCells l]
  exact this
end Go.Proofs.YtdphgbkeagcclaaGreat

/- What begin does, at every limit and list of flags. -/
namespace Go.Proofs.YtdphgbkeagcclaaGreat
open Go.RowKit

/-- The cells of griplaw.World. -/
def lawCells (h r flags turn lists marks : Value) (mark : Int) : List Value := [h, r, flags, turn, lists, marks, .int .i64 mark]

/-- The owner's list behind k rounds: the first k turned over, then the rest, then the one behind. -/
def turned (fs : List Bool) (k : Nat) : List Value := ((fs.take k).map (fun b => Value.bool (!b)) ++ (fs.drop k).map Value.bool) ++ [.bool false]

theorem bools_cell {fs : List Bool} {w : World} {b off : Nat} (hc : ∀ j x, fs[j]? = some x → w.cell? ⟨b, off + j, none⟩ = some (.bool x)) {j : Nat} {v : Value} (hj : (fs.map Value.bool)[j]? = some v) : w.cell? ⟨b, off + j, none⟩ = some v := by
  rw [List.getElem?_map] at hj
  obtain ⟨x, hx, rfl⟩ := Option.map_eq_some_iff.1 hj
  exact hc j x hx
theorem turned_len {fs : List Bool} {n : Nat} (hl : fs.length = n) (k : Nat) : (turned fs k).length = n + 1 := by
  simp [turned, hl]; omega
theorem turned_last {fs : List Bool} {n : Nat} (hl : fs.length = n) (k : Nat) : (turned fs k)[n]? = some (.bool false) := by
  have e : ((fs.take k).map (fun b => Value.bool (!b)) ++ (fs.drop k).map Value.bool).length = n := by simp [hl]; omega
  unfold turned
  rw [List.getElem?_append_right (by omega), e]
  simp
theorem turned_at {fs : List Bool} {n : Nat} (hl : fs.length = n) {k : Nat} (hk : k < n) : (turned fs k)[k]? = some (.bool (fs.getD k false)) := by
  have e : ((fs.take k).map (fun b => Value.bool (!b))).length = k := by simp [hl]; omega
  unfold turned
  rw [List.append_assoc, List.getElem?_append_right (by omega), e, Nat.sub_self]
  rw [List.getElem?_append_left (by simp; omega)]
  simp [List.getD, show k < fs.length by omega]
theorem turned_set {fs : List Bool} {n : Nat} (hl : fs.length = n) {k : Nat} (hk : k < n) : (turned fs k).set k (.bool (!(fs.getD k false))) = turned fs (k + 1) := by
  subst hl
  have e : ((fs.take k).map (fun b => Value.bool (!b))).length = k := by simp; omega
  unfold turned
  rw [List.append_assoc, List.set_append_right _ _ (by omega), e, Nat.sub_self]
  rw [List.drop_eq_getElem_cons hk, List.take_succ_eq_append_getElem hk, List.map_cons, List.cons_append, List.set_cons_zero, List.map_append, List.append_assoc, List.append_assoc, show fs.getD k false = fs[k] from by simp [List.getD, hk]]
  rfl

theorem turned_one (fs : List Bool) (k : Nat) : ∀ v ∈ turned fs k, v.oneCell' = true := by
  intro v hv
  simp only [turned, List.mem_append, List.mem_map, List.mem_singleton] at hv
  rcases hv with (⟨b, _, rfl⟩ | ⟨b, _, rfl⟩) | rfl <;> rfl
theorem bools_one (fs : List Bool) : ∀ v ∈ fs.map Value.bool, v.oneCell' = true := by
  intro v hv
  obtain ⟨b, _, rfl⟩ := List.mem_map.1 hv
  rfl

/-- The world behind begin, where there is a heap: the statement's world bw, the program's heap bh, the document's br, the owner's flags bf, what they must read as bt, the document's own flags fv. -/
structure Begun (l : Int) (n : Nat) (fs : List Bool) (w w' : World) (bw bh br bf bt : Nat) (fv : Value) : Prop where
  law : Blk w' bw (lawCells (.pointer (some ⟨bh, 0, none⟩)) (.pointer (some ⟨br, 0, none⟩)) (.slice (some ⟨bf, 0, none⟩) (n + 1) (n + 1)) (.slice (some ⟨bt, 0, none⟩) (n + 1) (n + 1)) (.slice none 0 0) (.slice none 0 0) (-1000)) 39
  heap : Blk w' bh (heapCells false l (.slice none 0 0) (List.replicate 32 slot0) 0) 66
  ref : Blk w' br (refCells l fv 0 false (.slice none 0 0) (.slice none 0 0) (.slice none 0 0) 0) 52
  own : w'.ownsRow 0 4 1 fv n (fs.map Value.bool)
  flags : Blk w' bf (turned fs n) 4
  turn : Blk w' bt (turned fs n) 4
  newer : w.heap.size ≤ bf ∧ bf < bh ∧ bh < br ∧ br < bt ∧ bt < bw
  apart : ∀ g, fv.ownBlock = some g → br < g ∧ g < bt
  chg : Chg [] w w'

set_option maxRecDepth 100000 in
set_option maxHeartbeats 1000000 in
theorem begin_good (l : Int) (a : Option Addr) (n c : Nat) (fs : List Bool) (w : World) (h1 : 1 ≤ l) (h2 : l ≤ 512) (hn : n ≤ 64) (hl : fs.length = n)
    (hsrc : 0 < n → ∃ b off, a = some ⟨b, off, none⟩ ∧ b < w.heap.size ∧ ∀ j x, fs[j]? = some x → w.cell? ⟨b, off + j, none⟩ = some (.bool x)) :
    Calls Tryz.prog 9 #[.int .i64 l, .slice a n c] w fun e w' => ∃ bw bh br bf bt fv, e = .returned (.tuple #[.pointer (some ⟨bw, 0, none⟩), .bool true]) ∧ Begun l n fs w w' bw bh br bf bt fv := by
  have hn' : (n : Int) ≤ 64 := by omega
  obtain ⟨i0, hi, hz0, hz1, hz2⟩ := info_parts info4
  have hmk : ∀ u : World, (Instr.makeSlice 22 (.int .i64 ((n : Int) + 1)) (.int .i64 ((n : Int) + 1))).run Tryz.prog u =
      .ok (.slice (some ⟨u.heap.size, 0, none⟩) (n + 1) (n + 1)) (u.alloc (.cells (reps (n + 1) (Value.bool false)).toArray 4)) := fun u => by
    have h := run_make (P := Tryz.prog) u 22 4 i0 (.bool false) Tryz.underlying22 hi hz0 .i64 .i64 ((n : Int) + 1) ((n : Int) + 1) (by omega) (Int.le_refl _) (by rw [hz2]; omega) (by omega)
    have e : ((n : Int) + 1).toNat = n + 1 := by omega
    rw [e] at h
    simpa [hz1, Value.cells, madeCells_one] using h
  obtain ⟨w1, hcp, hb1, hc1⟩ := run_copy_blk (P := Tryz.prog) (w.alloc (.cells (reps (n + 1) (Value.bool false)).toArray 4)) 22 22 3 4 Tryz.underlying22 (by kernel_rfl) w.heap.size 0 (n + 1) (n + 1) a n c
    _ 4 (Blk.new w _ _) (fs.map Value.bool) (by simp [hl]) (fun h0 => by
      obtain ⟨b, off, e, hlt, hc⟩ := hsrc (by simpa [hl] using h0)
      refine ⟨_, e, fun j v hj => ?_⟩
      rw [addr_add, ((Chg.refl [] w).alloc _).cell hlt (by simp)]
      exact bools_cell hc hj) (by simp [hl, length_reps]) (bools_one fs)
  have hb1' : Blk w1 w.heap.size (turned fs 0) 4 := by
    have e : (reps (n + 1) (Value.bool false)).take 0 ++ fs.map Value.bool ++ (reps (n + 1) (Value.bool false)).drop (0 + (fs.map Value.bool).length) = turned fs 0 := by
      simp [turned, reps, hl]
    rw [e] at hb1; exact hb1
  have HC1 := hide (Chg.trans_new ((Chg.refl [] w).alloc (.cells (reps (n + 1) (Value.bool false)).toArray 4)) hc1 (fun x hx => by simp at hx; right; omega)); have HB1 := hide hb1'; clear hb1 hc1 hb1'
  have Hsrc := hide hsrc; have Hl := hide hl; clear hsrc hl
  go_enter Tryz.func9, Tryz.ntmps9
  go_wp2_with fail
  clear hmk hcp
  refine (gripNew_good l _ n _ _ h1 h2 hn).mono ?_
  rintro e w2 ⟨rfl, hb2, hc2⟩
  have HB2 := hide hb2; have HC2 := hide hc2; clear hb2 hc2
  go_wp2_with fail
  refine (refNew_good l a n c (fs.map Value.bool) w2 h1 h2 hn (by simpa using unhide Hl) (fun h0 => by
    obtain ⟨b, off, e, hlt, hc⟩ := unhide Hsrc h0
    refine ⟨_, e, fun j v hj => ?_⟩
    rw [addr_add, ((unhide HC1).trans (unhide HC2)).cell hlt (by simp)]
    exact bools_cell hc hj) (bools_one fs) (fun ad e h0 => by
    obtain ⟨b, off, e', hlt, hc⟩ := unhide Hsrc h0
    rw [e'] at e
    simp at e
    subst e
    exact Nat.lt_of_lt_of_le hlt ((unhide HC1).trans (unhide HC2)).size)).mono ?_
  rintro e w3 ⟨rfl, fv, hb3, ho3, hg3, hc3⟩
  have hbf : Blk w3 w.heap.size (turned fs 0) 4 := ((unhide HB1).chg (unhide HC2) (by simp)).chg hc3 (by simp)
  have hcl : w3.cell? ⟨w.heap.size, n, none⟩ = some (.bool false) := hbf.cell_of (turned_last (unhide Hl) 0)
  have HB3 := hide hb3; have HO3 := hide ho3; have HG3 := hide hg3; have HC3 := hide hc3; have HBF := hide hbf; clear hb3 ho3 hg3 hc3 hbf
  go_wp2_with fail
  clear hcl
  go_loopw [10, 11] (fun v i wr => ∃ k : Nat, k ≤ n ∧ i = .int .i64 k ∧ v = .bool true ∧ Blk wr w.heap.size (turned fs k) 4 ∧ Chg [w.heap.size] w3 wr) (fun _ i _ => n - (intOf i).toNat)
  case atStart => exact ⟨0, Nat.zero_le _, rfl, rfl, unhide HBF, Chg.refl _ _⟩
  case round =>
    obtain ⟨k, hk, rfl, rfl, hbk, hck⟩ := hrel
    have HBK := hide hbk; have HCK := hide hck; clear hbk hck
    by_cases hlt : k < n
    · obtain ⟨b, off, hab, hbw, hcc⟩ := unhide Hsrc (by omega)
      subst hab
      have c1 := (unhide HBK).cell_of (turned_at (unhide Hl) hlt)
      have c2 := (unhide HBK).frozen k
      have c3 : wr.cell? ⟨b, off + k, none⟩ = some (.bool (fs.getD k false)) := by
        rw [(unhide HCK).cell (by have := (unhide HC1).size; have := (unhide HC2).size; have := (unhide HC3).size; show b < _; omega) (by simp; omega), (((unhide HC1).trans (unhide HC2)).trans (unhide HC3)).cell hbw (by simp)]
        exact hcc k _ (by rw [List.getD]; simp [unhide Hl, hlt])
      obtain ⟨x, hx⟩ : ∃ x, x = fs.getD k false := ⟨_, rfl⟩
      rw [← hx] at c1 c3
      have HX := hide hx; clear hx hcc hbw
      go_wp2_with fail
      go_quiet (fail)
      go_wp2
      go_roundw
      case rel =>
        refine ⟨k + 1, by omega, by go_num, by simp, ?_, ((unhide HCK).drewN _).setCell (.inl (by simp)) _⟩
        have := (Blk.setCell (show Blk (wr.drewN nq) w.heap.size (turned fs k) 4 from unhide HBK) k (.bool (!x)))
        rw [unhide HX, turned_set (unhide Hl) hlt] at this
        rw [unhide HX]
        exact this
      case measure => simp [intOf]; omega
    · have hkn : k = n := by omega
      subst hkn
      have hmk : ∀ u : World, (Instr.makeSlice 22 (.int .i64 ((k : Int) + 1)) (.int .i64 ((k : Int) + 1))).run Tryz.prog u =
          .ok (.slice (some ⟨u.heap.size, 0, none⟩) (k + 1) (k + 1)) (u.alloc (.cells (reps (k + 1) (Value.bool false)).toArray 4)) := fun u => by
        have h := run_make (P := Tryz.prog) u 22 4 i0 (.bool false) Tryz.underlying22 hi hz0 .i64 .i64 ((k : Int) + 1) ((k : Int) + 1) (by omega) (Int.le_refl _) (by rw [hz2]; omega) (by omega)
        have e : ((k : Int) + 1).toNat = k + 1 := by omega
        rw [e] at h
        simpa [hz1, Value.cells, madeCells_one] using h
      have hbk := unhide HBK
      obtain ⟨w5, hcp, hb5, hc5⟩ := run_copy_blk (P := Tryz.prog) (wr.alloc (.cells (reps (k + 1) (Value.bool false)).toArray 4)) 22 22 3 4 Tryz.underlying22 (by kernel_rfl) wr.heap.size 0 (k + 1) (k + 1) (some ⟨w.heap.size, 0, none⟩) (k + 1) (k + 1)
        _ 4 (Blk.new wr _ _) (turned fs k) (by simp [turned_len (unhide Hl)]) (fun h0 => ⟨_, rfl, fun j v hj => by
          rw [addr_add, Nat.zero_add]; exact (hbk.alloc _).cell_of hj⟩) (by simp [turned_len (unhide Hl), length_reps]) (turned_one fs k)
      have hb5' : Blk w5 wr.heap.size (turned fs k) 4 := by
        have e : (reps (k + 1) (Value.bool false)).take 0 ++ turned fs k ++ (reps (k + 1) (Value.bool false)).drop (0 + (turned fs k).length) = turned fs k := by
          simp [turned_len (unhide Hl), reps]
        rw [e] at hb5; exact hb5
      have HB5 := hide hb5'; have HC5 := hide hc5; clear hb5 hc5 hb5' hbk
      have hln : ((turned fs k).length : Int) = k + 1 := by rw [turned_len (unhide Hl)]; rfl
      go_wp2
      go_ret2
      have z1 := (unhide HC1).size; have z2 := (unhide HC2).size; have z3 := (unhide HC3).size; have z4 := (unhide HCK).size; have z5 := (unhide HC5).size
      have b1 := (unhide HB1).lt; have b2 := (unhide HB2).lt; have b3 := (unhide HB3).lt; have b4 := (unhide HB5).lt
      have hsz : (wr.alloc (.cells (reps (k + 1) (Value.bool false)).toArray 4)).heap.size = wr.heap.size + 1 := by simp
      rw [hsz] at z5
      have cA : Chg [w.heap.size] w3 w5 := Chg.trans_new ((unhide HCK).alloc _) (unhide HC5) (fun x hx => by simp at hx; right; omega)
      have cB : Chg [wr.heap.size] wr w5 := (Chg.mono ((Chg.refl [] wr).alloc _) (by simp)).trans (unhide HC5)
      refine ⟨w5.heap.size, w1.heap.size + 1, w2.heap.size, w.heap.size, wr.heap.size, fv, rfl, ?_⟩
      refine ⟨Blk.new _ (lawCells _ _ _ _ _ _ _) _, (((unhide HB2).chg (unhide HC3) (by simp)).chg cA (by simp; omega)).alloc _, ((unhide HB3).chg cA (by simp; omega)).alloc _, ?_, ((unhide HBK).chg cB (by simp; omega)).alloc _, (unhide HB5).alloc _, ?_, ?_, ?_⟩
      · refine owns_chg (owns_chg (unhide HO3) cA (fun g hg => by have := unhide HG3 g hg; simp; omega)) ((Chg.refl [] w5).alloc _) (by simp)
      · refine ⟨Nat.le_refl _, ?_, ?_, ?_, ?_⟩ <;> omega
      · intro g hg
        have := unhide HG3 g hg
        have := owns_lt (unhide HO3) hg
        omega
      · exact (Chg.trans_new (((unhide HC1).trans (unhide HC2)).trans (unhide HC3)) cA (fun x hx => by simp at hx; right; omega)).alloc _
set_option maxRecDepth 100000 in
set_option maxHeartbeats 1000000 in
theorem begin_bad (l : Int) (a : Option Addr) (n c : Nat) (fs : List Bool) (w : World) (hbad : l < 1 ∨ 512 < l ∨ 64 < n) (hn : n ≤ 140737488351232) (hl : fs.length = n)
    (hsrc : 0 < n → ∃ b off, a = some ⟨b, off, none⟩ ∧ b < w.heap.size ∧ ∀ j x, fs[j]? = some x → w.cell? ⟨b, off + j, none⟩ = some (.bool x)) :
    Calls Tryz.prog 9 #[.int .i64 l, .slice a n c] w fun e w' => e = .returned (.tuple #[.pointer none, .bool true]) ∧ Chg [] w w' := by
  have hn' : (n : Int) ≤ 140737488351232 := by omega
  obtain ⟨i0, hi, hz0, hz1, hz2⟩ := info_parts info4
  have hmk : ∀ u : World, (Instr.makeSlice 22 (.int .i64 ((n : Int) + 1)) (.int .i64 ((n : Int) + 1))).run Tryz.prog u =
      .ok (.slice (some ⟨u.heap.size, 0, none⟩) (n + 1) (n + 1)) (u.alloc (.cells (reps (n + 1) (Value.bool false)).toArray 4)) := fun u => by
    have h := run_make (P := Tryz.prog) u 22 4 i0 (.bool false) Tryz.underlying22 hi hz0 .i64 .i64 ((n : Int) + 1) ((n : Int) + 1) (by omega) (Int.le_refl _) (by rw [hz2]; omega) (by omega)
    have e : ((n : Int) + 1).toNat = n + 1 := by omega
    rw [e] at h
    simpa [hz1, Value.cells, madeCells_one] using h
  obtain ⟨w1, hcp, hb1, hc1⟩ := run_copy_blk (P := Tryz.prog) (w.alloc (.cells (reps (n + 1) (Value.bool false)).toArray 4)) 22 22 3 4 Tryz.underlying22 (by kernel_rfl) w.heap.size 0 (n + 1) (n + 1) a n c
    _ 4 (Blk.new w _ _) (fs.map Value.bool) (by simp [hl]) (fun h0 => by
      obtain ⟨b, off, e, hlt, hc⟩ := hsrc (by simpa [hl] using h0)
      refine ⟨_, e, fun j v hj => ?_⟩
      rw [addr_add, ((Chg.refl [] w).alloc _).cell hlt (by simp)]
      exact bools_cell hc hj) (by simp [hl, length_reps]) (bools_one fs)
  have hb1' : Blk w1 w.heap.size (turned fs 0) 4 := by
    have e : (reps (n + 1) (Value.bool false)).take 0 ++ fs.map Value.bool ++ (reps (n + 1) (Value.bool false)).drop (0 + (fs.map Value.bool).length) = turned fs 0 := by
      simp [turned, reps, hl]
    rw [e] at hb1; exact hb1
  have HC1 := hide (Chg.trans_new ((Chg.refl [] w).alloc (.cells (reps (n + 1) (Value.bool false)).toArray 4)) hc1 (fun x hx => by simp at hx; right; omega)); have HB1 := hide hb1'; clear hb1 hc1 hb1'
  have Hsrc := hide hsrc; have Hl := hide hl; have HBAD := hide hbad; clear hsrc hl hbad
  go_enter Tryz.func9, Tryz.ntmps9
  go_wp2_with fail
  clear hmk hcp
  refine (gripNew_bad l _ n _ _ (unhide HBAD)).mono ?_
  rintro e w2 ⟨rfl, rfl⟩
  go_wp2_with fail
  refine (refNew_bad l a n c _ (unhide HBAD)).mono ?_
  rintro e w3 ⟨rfl, rfl⟩
  have hcl : w3.cell? ⟨w.heap.size, n, none⟩ = some (.bool false) := (unhide HB1).cell_of (turned_last (unhide Hl) 0)
  go_wp2_with fail
  clear hcl
  go_loopw [10, 11] (fun v i wr => ∃ k : Nat, k ≤ n ∧ i = .int .i64 k ∧ v = .bool true ∧ Blk wr w.heap.size (turned fs k) 4 ∧ Chg [w.heap.size] w3 wr) (fun _ i _ => n - (intOf i).toNat)
  case atStart => exact ⟨0, Nat.zero_le _, rfl, rfl, unhide HB1, Chg.refl _ _⟩
  case round =>
    obtain ⟨k, hk, rfl, rfl, hbk, hck⟩ := hrel
    have HBK := hide hbk; have HCK := hide hck; clear hbk hck
    by_cases hlt : k < n
    · obtain ⟨b, off, hab, hbw, hcc⟩ := unhide Hsrc (by omega)
      subst hab
      have c1 := (unhide HBK).cell_of (turned_at (unhide Hl) hlt)
      have c2 := (unhide HBK).frozen k
      have c3 : wr.cell? ⟨b, off + k, none⟩ = some (.bool (fs.getD k false)) := by
        rw [(unhide HCK).cell (by have := (unhide HC1).size; show b < _; omega) (by simp; omega), (unhide HC1).cell hbw (by simp)]
        exact hcc k _ (by rw [List.getD]; simp [unhide Hl, hlt])
      obtain ⟨x, hx⟩ : ∃ x, x = fs.getD k false := ⟨_, rfl⟩
      rw [← hx] at c1 c3
      have HX := hide hx; clear hx hcc hbw
      go_wp2_with fail
      go_quiet (fail)
      go_wp2
      go_roundw
      case rel =>
        refine ⟨k + 1, by omega, by go_num, by simp, ?_, ((unhide HCK).drewN _).setCell (.inl (by simp)) _⟩
        have := (Blk.setCell (show Blk (wr.drewN nq) w.heap.size (turned fs k) 4 from unhide HBK) k (.bool (!x)))
        rw [unhide HX, turned_set (unhide Hl) hlt] at this
        rw [unhide HX]
        exact this
      case measure => simp [intOf]; omega
    · have hkn : k = n := by omega
      subst hkn
      have hmk : ∀ u : World, (Instr.makeSlice 22 (.int .i64 ((k : Int) + 1)) (.int .i64 ((k : Int) + 1))).run Tryz.prog u =
          .ok (.slice (some ⟨u.heap.size, 0, none⟩) (k + 1) (k + 1)) (u.alloc (.cells (reps (k + 1) (Value.bool false)).toArray 4)) := fun u => by
        have h := run_make (P := Tryz.prog) u 22 4 i0 (.bool false) Tryz.underlying22 hi hz0 .i64 .i64 ((k : Int) + 1) ((k : Int) + 1) (by omega) (Int.le_refl _) (by rw [hz2]; omega) (by omega)
        have e : ((k : Int) + 1).toNat = k + 1 := by omega
        rw [e] at h
        simpa [hz1, Value.cells, madeCells_one] using h
      have hbk := unhide HBK
      obtain ⟨w5, hcp, hb5, hc5⟩ := run_copy_blk (P := Tryz.prog) (wr.alloc (.cells (reps (k + 1) (Value.bool false)).toArray 4)) 22 22 3 4 Tryz.underlying22 (by kernel_rfl) wr.heap.size 0 (k + 1) (k + 1) (some ⟨w.heap.size, 0, none⟩) (k + 1) (k + 1)
        _ 4 (Blk.new wr _ _) (turned fs k) (by simp [turned_len (unhide Hl)]) (fun h0 => ⟨_, rfl, fun j v hj => by
          rw [addr_add, Nat.zero_add]; exact (hbk.alloc _).cell_of hj⟩) (by simp [turned_len (unhide Hl), length_reps]) (turned_one fs k)
      have hb5' : Blk w5 wr.heap.size (turned fs k) 4 := by
        have e : (reps (k + 1) (Value.bool false)).take 0 ++ turned fs k ++ (reps (k + 1) (Value.bool false)).drop (0 + (turned fs k).length) = turned fs k := by
          simp [turned_len (unhide Hl), reps]
        rw [e] at hb5; exact hb5
      have HB5 := hide hb5'; have HC5 := hide hc5; clear hb5 hc5 hb5' hbk
      have hln : ((turned fs k).length : Int) = k + 1 := by rw [turned_len (unhide Hl)]; rfl
      go_wp2_with (go_at_call 16; refine (num_any _ _).mono ?_; rintro e w6 ⟨rfl, rfl⟩)
      go_ret2
      have z1 := (unhide HC1).size; have z4 := (unhide HCK).size; have b1 := (unhide HB1).lt
      refine ⟨rfl, Chg.trans_new (unhide HC1) (Chg.trans_new ((unhide HCK).alloc _) (unhide HC5) (fun x hx => by simp at hx; right; omega)) (fun x hx => by simp at hx; right; omega)⟩
end Go.Proofs.YtdphgbkeagcclaaGreat

/- Words, of the program's heap and of memory: a fresh list of the words in use. -/
namespace Go.Proofs.YtdphgbkeagcclaaGreat
open Go.RowKit

theorem info3 : (Tryz.prog.info? 3).map (fun i => (i.zero, i.size, i.bytes)) = some (some (.int .i64 0), 1, 8) := by kernel_rfl

set_option maxHeartbeats 400000 in
theorem memWords_any (b off : Nat) (wa : Option Addr) (m c : Nat) (xs : List Value) (w : World) (hm : m ≤ 1000000) (hcell : w.cell? ⟨b, off + 1, none⟩ = some (.slice wa m c)) (hown : w.ownsRow 0 3 1 (.slice wa m c) m xs) (h1 : ∀ u ∈ xs, u.oneCell' = true) :
    Calls Tryz.prog 108 #[.pointer (some ⟨b, off, none⟩)] w fun e w' => ∃ g cap, e = .returned (.slice (some ⟨g, 0, none⟩) m cap) ∧ w'.ownsRow 0 3 1 (.slice (some ⟨g, 0, none⟩) m cap) m xs ∧ w.heap.size ≤ g ∧ Chg [] w w' := by
  obtain ⟨i0, hi, hz0, hz1, hz2⟩ := info_parts info3
  have hb : b < w.heap.size := World.block_lt_of_cell? w _ hcell
  have hcell' : (w.alloc (.cells #[] 3)).cell? ⟨b, off + 1, none⟩ = some (.slice wa m c) := by rw [((Chg.refl [] w).alloc _).cell hb (by simp)]; exact hcell
  have HO := hide hown; have H1 := hide h1; clear hown h1
  go_enter Tryz.func108, Tryz.ntmps108
  go_wp2_with (at_builtin; go_must (refine wpList_append_gen _ rfl (.tmp 3) (.tmp 7) 26 rfl 3 i0 (.int .i64 0) 1 8 Tryz.underlying26 hi hz0 hz1 hz2 rfl (by decide) (.slice (some ⟨w.heap.size, 0, none⟩) 0 0) 0 [] rfl ?c0 wa m c xs rfl ?c4 ?c1 (unhide H1) ?c2 ?c3 ?_))
  case c0 => exact World.ownsRow_lit w #[] 0 (Nat.zero_le _) (by unfold maxLen; omega) rfl
  case c4 => exact (unhide HO).1
  case c1 =>
    intro h0
    obtain ⟨ad, e, hl, hc⟩ := owns_src (unhide HO) h0
    exact ⟨ad, e, fun j u hj => by rw [((Chg.refl [] w).alloc _).cell (by rw [addr_add_block]; exact hl) (by simp)]; exact hc j u hj⟩
  case c2 => unfold maxLen; omega
  case c3 => omega
  intro va cap w1 ho hg hnil hat
  have HO1 := hide ho; have HG1 := hide hg; have HA1 := hide hat; clear ho hg hat hnil hcell hcell'
  go_wp2
  go_ret
  have ho := unhide HO1
  obtain ⟨g, hg, hle⟩ : ∃ g, (Value.slice va m cap).ownBlock = some g ∧ w.heap.size ≤ g := by
    rcases unhide HA1 with h | h
    · exact ⟨_, h, Nat.le_refl _⟩
    · exact ⟨_, h, by omega⟩
  obtain rfl := owns_some ho hg
  exact ⟨g, cap, rfl, ho, hle, ((Chg.refl [] w).alloc _).grown (unhide HG1) (fun k hk => .inr (by simp [Value.ownBlock] at hk; omega))⟩

set_option maxHeartbeats 400000 in
/-- The program's Words, where memory hasn't run out. -/
theorem gripWords_any (b : Nat) (limit : Int) (wa : Option Addr) (m c : Nat) (sl : List Slot) (op : Int) (xs : List Value) (w : World) (hm : m ≤ 1000000) (hblk : Blk w b (heapCells false limit (.slice wa m c) sl op) 66) (hown : w.ownsRow 0 3 1 (.slice wa m c) m xs) (h1 : ∀ u ∈ xs, u.oneCell' = true) :
    Calls Tryz.prog 70 #[.pointer (some ⟨b, 0, none⟩)] w fun e w' => ∃ g cap, e = .returned (.tuple #[.slice (some ⟨g, 0, none⟩) m cap, .int .i64 0]) ∧ w'.ownsRow 0 3 1 (.slice (some ⟨g, 0, none⟩) m cap) m xs ∧ w.heap.size ≤ g ∧ Chg [] w w' := by
  have c0 := hblk.cell_of (i := 0) rfl
  have HB := hide hblk; have HO := hide hown; have H1 := hide h1; clear hblk hown h1
  go_enter Tryz.func70, Tryz.ntmps70
  go_wp2_with fail
  refine (memWords_any b 1 wa m c xs w hm ((unhide HB).cell_of (i := 2) rfl) (unhide HO) (unhide H1)).mono ?_
  rintro e w' ⟨g, cap, rfl, ho, hle, hc⟩
  have HO1 := hide ho; have HC1 := hide hc; clear ho hc
  go_wp2
  go_ret2
  exact ⟨g, cap, rfl, unhide HO1, hle, unhide HC1⟩
end Go.Proofs.YtdphgbkeagcclaaGreat
