import Derived.Test.YtfoncalkgmeklaaGreatYwM1
import Derived.Deep.DeepMust
import Derived.Test.YtfoncalkgmeklaaGreatYwM2

/- sameInts: whether two lists of numbers are the same. -/
namespace Go.Proofs.YtfoncalkgmeklaaGreat
open Go.RowKit

/-- A slice's n elements are these numbers. -/
def Ints (w : World) (a : Option Addr) (n : Nat) (xs : List Int) : Prop :=
  xs.length = n ∧ (0 < n → ∃ g off, a = some ⟨g, off, none⟩ ∧ g < w.heap.size ∧ ∀ j x, xs[j]? = some x → w.cell? ⟨g, off + j, none⟩ = some (.int .i64 x))

theorem Ints.of_own {w : World} {base : Nat} {e : TypeId} {a : Option Addr} {n m c : Nat} {xs : List Int} (h : w.ownsRow base e 1 (.slice a m c) n (xs.map (Value.int .i64))) : Ints w a n xs := by
  refine ⟨by simpa using h.1, fun h0 => ?_⟩
  have hlt := fun g => owns_lt h (g := g)
  rcases h.2 with ⟨_, h0'⟩ | ⟨g, cap, cur, hv, _, hh, _, _, _, ht⟩
  · omega
  · simp only [Value.slice.injEq] at hv
    obtain ⟨rfl, _, _⟩ := hv
    refine ⟨g, 0, rfl, hlt g rfl, fun j x hj => ?_⟩
    have hj' : cur.toList[j]? = some (.int .i64 x) := by
      have hq : (xs.map (Value.int .i64))[j]? = some (.int .i64 x) := by simp [hj]
      rw [← ht, List.getElem?_take] at hq
      split at hq
      · exact hq
      · cases hq
    simp [World.cell?, hh]
    simpa using hj'
theorem Ints.chg {S : List Nat} {w w' : World} {a : Option Addr} {n : Nat} {xs : List Int} (h : Ints w a n xs) (k : Chg S w w') (hs : ∀ ad, a = some ad → ad.block ∉ S) : Ints w' a n xs :=
  ⟨h.1, fun h0 => by
    obtain ⟨g, off, e, hl, hc⟩ := h.2 h0
    exact ⟨g, off, e, Nat.lt_of_lt_of_le hl k.size, fun j x hj => by rw [k.cell (a := ⟨g, off + j, none⟩) hl (hs ⟨g, off, none⟩ e)]; exact hc j x hj⟩⟩

set_option maxRecDepth 100000 in
set_option maxHeartbeats 1000000 in
theorem sameInts_any (a b : Option Addr) (n m c d : Nat) (xs ys : List Int) (w : World) (hn : n ≤ 140737488351232) (hx : Ints w a n xs) (hy : Ints w b m ys) :
    Calls Tryz.prog 74 #[.slice a n c, .slice b m d] w fun e w' => e = .returned (.bool (xs == ys)) ∧ ∃ k, w' = w.drewN k := by
  have hn' : (n : Int) ≤ 140737488351232 := by omega
  have HX := hide hx; have HY := hide hy; clear hx hy
  by_cases hnm : n = m
  · subst hnm
    go_enter Tryz.func74, Tryz.ntmps74
    go_wp2_with fail
    go_loopw [5] (fun i wr => ∃ k : Nat, k ≤ n ∧ i = .int .i64 k ∧ xs.take k = ys.take k ∧ ∃ q, wr = w.drewN q) (fun i _ => n - (intOf i).toNat)
    case atStart => exact ⟨0, Nat.zero_le _, rfl, rfl, 0, rfl⟩
    case round =>
      obtain ⟨k, hk, rfl, heq, q, rfl⟩ := hrel
      have HEQ := hide heq; clear heq
      by_cases hlt : k < n
      · obtain ⟨g, off, rfl, _, hc⟩ := (unhide HX).2 (by omega)
        obtain ⟨g', off', rfl, _, hc'⟩ := (unhide HY).2 (by omega)
        obtain ⟨x, hxk⟩ : ∃ x, xs[k]? = some x := ⟨_, List.getElem?_eq_getElem (by have := (unhide HX).1; omega)⟩
        obtain ⟨y, hyk⟩ : ∃ y, ys[k]? = some y := ⟨_, List.getElem?_eq_getElem (by have := (unhide HY).1; omega)⟩
        have c1 := hc k _ hxk
        have c2 := hc' k _ hyk
        have HXK := hide hxk; have HYK := hide hyk; clear hxk hyk hc hc'
        by_cases hxy : x = y
        · have hb : (x != y) = false := by simp [hxy]
          have HXY := hide hxy; clear hxy
          go_wp2_with fail
          go_quiet (fail)
          go_wp2
          go_roundw
          case rel =>
            refine ⟨k + 1, by omega, by go_num, ?_, _, rfl⟩
            rw [List.take_add_one, List.take_add_one, unhide HEQ, unhide HXK, unhide HYK, unhide HXY]
          case measure => simp [intOf]; omega
        · have hb : (x != y) = true := by simp [hxy]
          have HXY := hide hxy; clear hxy
          go_wp2_with fail
          go_quiet (fail)
          go_wp2
          go_ret
          refine ⟨?_, q + nq, by first | rfl | rw [World.drewN_drewN]⟩
          have hne : xs ≠ ys := by
            intro e
            subst e
            have := (unhide HXK).symm.trans (unhide HYK)
            exact unhide HXY (by simpa using this)
          have : (xs == ys) = false := by simpa using hne
          rw [this]; rfl
      · have hkn : k = n := by omega
        subst hkn
        have hxy : (xs == ys) = true := by
          have e1 := (unhide HX).1; have e2 := (unhide HY).1
          have h := unhide HEQ
          rw [List.take_of_length_le (by omega), List.take_of_length_le (by omega)] at h
          simpa using h
        have HXY := hide hxy; clear hxy
        go_wp2
        go_ret
        exact ⟨by rw [unhide HXY]; rfl, _, rfl⟩
  · have hne : (xs == ys) = false := by
      have h1 := (unhide HX).1; have h2 := (unhide HY).1
      simp only [beq_eq_false_iff_ne, ne_eq]
      intro e
      subst e
      omega
    have hb : ((n : Int) != (m : Int)) = true := by rw [bne_iff_ne]; omega
    have HNE := hide hne; clear hne
    go_enter Tryz.func74, Tryz.ntmps74
    go_wp2
    go_ret
    exact ⟨by rw [unhide HNE]; rfl, 0, rfl⟩
end Go.Proofs.YtfoncalkgmeklaaGreat

/- What grip.New does at every limit and list of flags (commit of stage 4): nil and ErrLimit, or a heap without words and handles. No condition. -/
namespace Go.Proofs.YtfoncalkgmeklaaGreat
open Go.RowKit

/-- A slot of the program. -/
structure Slot where
  live : Bool
  given : Int
  place : Int
  scope : Int
def slot0 : Slot := ⟨false, 0, 0, 0⟩
/-- The cells of slots.slot, one slot behind the other. -/
def slotCells : List Slot → List Value
  | [] => []
  | x :: r => .bool x.live :: .int .i64 x.given :: .int .i64 x.place :: .int .i64 x.scope :: slotCells r
/-- The heap's list of flags, and the number of the next one. -/
structure Fx where
  fa : Option Addr
  fl : List Bool
  fc : Nat
  nx : Nat
def Fx.cells (fx : Fx) : List Value := [.slice fx.fa fx.fl.length fx.fc, .int .i64 fx.nx]
/-- The cells of slots.Slots (the slots, and how many scopes are open), and those of the flags behind them. -/
def holdCells (fx : Fx) (sl : List Slot) (op : Int) : List Value := slotCells sl ++ (.int .i64 op :: fx.cells)
/-- The cells of grip.Heap. -/
def heapCells (fx : Fx) (poisoned : Bool) (limit : Int) (words : Value) (slots : List Slot) (op : Int) : List Value :=
  .bool poisoned :: .int .i64 limit :: words :: holdCells fx slots op

theorem num_any (n : Int) (w : World) : Calls Tryz.prog 18 #[.int .i64 n] w fun e w' => e = .returned (.int .i64 n) ∧ w' = w := by
  go_enter Tryz.func18, Tryz.ntmps18
  go_wp2
  go_ret
  exact ⟨rfl, rfl⟩

theorem memNew_any (n : Int) (w : World) : Calls Tryz.prog 25 #[.int .i64 n] w fun e w' => e = .returned (.agg #[.int .i64 n, .slice none 0 0]) ∧ w.alloc (.cells #[.int .i64 n, .slice none 0 0] 59) = w' := by
  go_enter Tryz.func25, Tryz.ntmps25
  go_wp2
  exact bodyPost_ret (v := .agg #[.int .i64 n, .slice none 0 0]) (by simp [results, Tryz.results25, go_sem]) rfl ⟨rfl, rfl⟩

set_option maxHeartbeats 400000 in
theorem gripNew_bad (l : Int) (a : Option Addr) (n c : Nat) (w : World) (h : l < 1 ∨ 512 < l ∨ 64 < n) : Calls Tryz.prog 16 #[.int .i64 l, .slice a n c] w fun e w' => e = .returned (.tuple #[.pointer none, .int .i64 1]) ∧ w' = w := by
  go_enter Tryz.func16, Tryz.ntmps16
  go_wp2
  all_goals first | (exfalso; omega; done) | skip
  all_goals go_ret2
  all_goals exact ⟨rfl, rfl⟩

theorem newCells (l : Int) (v : Value) : ((Tryz.zeroCells67.setIfInBounds 1 (.int .i64 l)).setIfInBounds 2 (.slice none 0 0)).setIfInBounds 132 v = (.bool false :: .int .i64 l :: .slice none 0 0 :: (slotCells (List.replicate 32 slot0) ++ [.int .i64 0, v, .int .i64 0])).toArray := by kernel_rfl
end Go.Proofs.YtfoncalkgmeklaaGreat

/- What begin does, at every limit and list of flags. -/
namespace Go.Proofs.YtfoncalkgmeklaaGreat
open Go.RowKit

/-- The cells of griplaw.World. -/
def lawCells (h r flags turn lists marks : Value) (mark : Int) : List Value := [h, r, flags, turn, lists, marks, .int .i64 mark]

/-- The owner's list behind k rounds: the first k turned over, then the rest, then the one behind. -/
def turned (fs : List Bool) (k : Nat) : List Value := ((fs.take k).map (fun b => Value.bool (!b)) ++ (fs.drop k).map Value.bool) ++ [.bool false]

theorem bools_cell {fs : List Bool} {w : World} {b off : Nat} (hc : ∀ j x, fs[j]? = some x → w.cell? ⟨b, off + j, none⟩ = some (.bool x)) {j : Nat} {v : Value} (hj : (fs.map Value.bool)[j]? = some v) : w.cell? ⟨b, off + j, none⟩ = some v := by
  rw [List.getElem?_map] at hj
  obtain ⟨x, hx, rfl⟩ := Option.map_eq_some_iff.1 hj
  exact hc j x hx
theorem turned_len {fs : List Bool} {n : Nat} (hl : fs.length = n) (k : Nat) : (turned fs k).length = n + 1 := by
  simp [turned, hl]; omega
theorem turned_last {fs : List Bool} {n : Nat} (hl : fs.length = n) (k : Nat) : (turned fs k)[n]? = some (.bool false) := by
  have e : ((fs.take k).map (fun b => Value.bool (!b)) ++ (fs.drop k).map Value.bool).length = n := by simp [hl]; omega
  unfold turned
  rw [List.getElem?_append_right (by omega), e]
  simp
theorem turned_at {fs : List Bool} {n : Nat} (hl : fs.length = n) {k : Nat} (hk : k < n) : (turned fs k)[k]? = some (.bool (fs.getD k false)) := by
  have e : ((fs.take k).map (fun b => Value.bool (!b))).length = k := by simp [hl]; omega
  unfold turned
  rw [List.append_assoc, List.getElem?_append_right (by omega), e, Nat.sub_self]
  rw [List.getElem?_append_left (by simp; omega)]
  simp [List.getD, show k < fs.length by omega]
theorem turned_set {fs : List Bool} {n : Nat} (hl : fs.length = n) {k : Nat} (hk : k < n) : (turned fs k).set k (.bool (!(fs.getD k false))) = turned fs (k + 1) := by
  subst hl
  have e : ((fs.take k).map (fun b => Value.bool (!b))).length = k := by simp; omega
  unfold turned
  rw [List.append_assoc, List.set_append_right _ _ (by omega), e, Nat.sub_self]
  rw [List.drop_eq_getElem_cons hk, List.take_succ_eq_append_getElem hk, List.map_cons, List.cons_append, List.set_cons_zero, List.map_append, List.append_assoc, List.append_assoc, show fs.getD k false = fs[k] from by simp [List.getD, hk]]
  rfl

theorem turned_one (fs : List Bool) (k : Nat) : ∀ v ∈ turned fs k, v.oneCell' = true := by
  intro v hv
  simp only [turned, List.mem_append, List.mem_map, List.mem_singleton] at hv
  rcases hv with (⟨b, _, rfl⟩ | ⟨b, _, rfl⟩) | rfl <;> rfl
theorem bools_one (fs : List Bool) : ∀ v ∈ fs.map Value.bool, v.oneCell' = true := by
  intro v hv
  obtain ⟨b, _, rfl⟩ := List.mem_map.1 hv
  rfl
end Go.Proofs.YtfoncalkgmeklaaGreat

/- Words, of the program's heap and of memory: a fresh list of the words in use. -/
namespace Go.Proofs.YtfoncalkgmeklaaGreat
open Go.RowKit

theorem info3 : (Tryz.prog.info? 3).map (fun i => (i.zero, i.size, i.bytes)) = some (some (.int .i64 0), 1, 8) := by kernel_rfl

set_option maxHeartbeats 400000 in
theorem memWords_any (b off : Nat) (wa : Option Addr) (m c : Nat) (xs : List Value) (w : World) (hm : m ≤ 1000000) (hcell : w.cell? ⟨b, off + 1, none⟩ = some (.slice wa m c)) (hown : w.ownsRow 0 3 1 (.slice wa m c) m xs) (h1 : ∀ u ∈ xs, u.oneCell' = true) :
    Calls Tryz.prog 113 #[.pointer (some ⟨b, off, none⟩)] w fun e w' => ∃ g cap, e = .returned (.slice (some ⟨g, 0, none⟩) m cap) ∧ w'.ownsRow 0 3 1 (.slice (some ⟨g, 0, none⟩) m cap) m xs ∧ w.heap.size ≤ g ∧ Chg [] w w' := by
  obtain ⟨i0, hi, hz0, hz1, hz2⟩ := info_parts info3
  have hb : b < w.heap.size := World.block_lt_of_cell? w _ hcell
  have hcell' : (w.alloc (.cells #[] 3)).cell? ⟨b, off + 1, none⟩ = some (.slice wa m c) := by rw [((Chg.refl [] w).alloc _).cell hb (by simp)]; exact hcell
  have HO := hide hown; have H1 := hide h1; clear hown h1
  go_enter Tryz.func113, Tryz.ntmps113
  go_wp2_with (at_builtin; go_must (refine wpList_append_gen _ rfl (.tmp 3) (.tmp 7) 26 rfl 3 i0 (.int .i64 0) 1 8 Tryz.underlying26 hi hz0 hz1 hz2 rfl (by decide) (.slice (some ⟨w.heap.size, 0, none⟩) 0 0) 0 [] rfl ?c0 wa m c xs rfl ?c4 ?c1 (unhide H1) ?c2 ?c3 ?_))
  case c0 => exact World.ownsRow_lit w #[] 0 (Nat.zero_le _) (by unfold maxLen; omega) rfl
  case c4 => exact (unhide HO).1
  case c1 =>
    intro h0
    obtain ⟨ad, e, hl, hc⟩ := owns_src (unhide HO) h0
    exact ⟨ad, e, fun j u hj => by rw [((Chg.refl [] w).alloc _).cell (by rw [addr_add_block]; exact hl) (by simp)]; exact hc j u hj⟩
  case c2 => unfold maxLen; omega
  case c3 => omega
  intro va cap w1 ho hg hnil hat
  have HO1 := hide ho; have HG1 := hide hg; have HA1 := hide hat; clear ho hg hat hnil hcell hcell'
  go_wp2
  go_ret
  have ho := unhide HO1
  obtain ⟨g, hg, hle⟩ : ∃ g, (Value.slice va m cap).ownBlock = some g ∧ w.heap.size ≤ g := by
    rcases unhide HA1 with h | h
    · exact ⟨_, h, Nat.le_refl _⟩
    · exact ⟨_, h, by omega⟩
  obtain rfl := owns_some ho hg
  exact ⟨g, cap, rfl, ho, hle, ((Chg.refl [] w).alloc _).grown (unhide HG1) (fun k hk => .inr (by simp [Value.ownBlock] at hk; omega))⟩

set_option maxHeartbeats 400000 in
/-- The program's Words, where memory hasn't run out. -/
theorem gripWords_any (fx : Fx) (b : Nat) (limit : Int) (wa : Option Addr) (m c : Nat) (sl : List Slot) (op : Int) (xs : List Value) (w : World) (hm : m ≤ 1000000) (hblk : Blk w b (heapCells fx false limit (.slice wa m c) sl op) 67) (hown : w.ownsRow 0 3 1 (.slice wa m c) m xs) (h1 : ∀ u ∈ xs, u.oneCell' = true) :
    Calls Tryz.prog 72 #[.pointer (some ⟨b, 0, none⟩)] w fun e w' => ∃ g cap, e = .returned (.tuple #[.slice (some ⟨g, 0, none⟩) m cap, .int .i64 0]) ∧ w'.ownsRow 0 3 1 (.slice (some ⟨g, 0, none⟩) m cap) m xs ∧ w.heap.size ≤ g ∧ Chg [] w w' := by
  have c0 := hblk.cell_of (i := 0) rfl
  have HB := hide hblk; have HO := hide hown; have H1 := hide h1; clear hblk hown h1
  go_enter Tryz.func72, Tryz.ntmps72
  go_wp2_with fail
  refine (memWords_any b 1 wa m c xs w hm ((unhide HB).cell_of (i := 2) rfl) (unhide HO) (unhide H1)).mono ?_
  rintro e w' ⟨g, cap, rfl, ho, hle, hc⟩
  have HO1 := hide ho; have HC1 := hide hc; clear ho hc
  go_wp2
  go_ret2
  exact ⟨g, cap, rfl, unhide HO1, hle, unhide HC1⟩
end Go.Proofs.YtfoncalkgmeklaaGreat
