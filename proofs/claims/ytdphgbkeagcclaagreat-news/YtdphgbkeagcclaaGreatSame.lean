/- sameInts: whether two lists of numbers are the same. -/
import Derived.Test.YtdphgbkeagcclaaGreatBase
namespace Go.Proofs.YtdphgbkeagcclaaGreat
open Go.RowKit

/-- A slice's n elements are these numbers. -/
def Ints (w : World) (a : Option Addr) (n : Nat) (xs : List Int) : Prop :=
  xs.length = n ∧ (0 < n → ∃ g off, a = some ⟨g, off, none⟩ ∧ g < w.heap.size ∧ ∀ j x, xs[j]? = some x → w.cell? ⟨g, off + j, none⟩ = some (.int .i64 x))

theorem Ints.of_own {w : World} {base : Nat} {e : TypeId} {a : Option Addr} {n m c : Nat} {xs : List Int} (h : w.ownsRow base e 1 (.slice a m c) n (xs.map (Value.int .i64))) : Ints w a n xs := by
  refine ⟨by simpa using h.1, fun h0 => ?_⟩
  have hlt := fun g => owns_lt h (g := g)
  rcases h.2 with ⟨_, h0'⟩ | ⟨g, cap, cur, hv, _, hh, _, _, _, ht⟩
  · omega
  · simp only [Value.slice.injEq] at hv
    obtain ⟨rfl, _, _⟩ := hv
    refine ⟨g, 0, rfl, hlt g rfl, fun j x hj => ?_⟩
    have hj' : cur.toList[j]? = some (.int .i64 x) := by
      have hq : (xs.map (Value.int .i64))[j]? = some (.int .i64 x) := by simp [hj]
      rw [← ht, List.getElem?_take] at hq
      split at hq
      · exact hq
      · cases hq
    simp [World.cell?, hh]
    simpa using hj'
theorem Ints.chg {S : List Nat} {w w' : World} {a : Option Addr} {n : Nat} {xs : List Int} (h : Ints w a n xs) (k : Chg S w w') (hs : ∀ ad, a = some ad → ad.block ∉ S) : Ints w' a n xs :=
  ⟨h.1, fun h0 => by
    obtain ⟨g, off, e, hl, hc⟩ := h.2 h0
    exact ⟨g, off, e, Nat.lt_of_lt_of_le hl k.size, fun j x hj => by rw [k.cell (a := ⟨g, off + j, none⟩) hl (hs ⟨g, off, none⟩ e)]; exact hc j x hj⟩⟩

set_option maxRecDepth 100000 in
set_option maxHeartbeats 1000000 in
theorem sameInts_any (a b : Option Addr) (n m c d : Nat) (xs ys : List Int) (w : World) (hn : n ≤ 140737488351232) (hx : Ints w a n xs) (hy : Ints w b m ys) :
    Calls Tryz.prog 72 #[.slice a n c, .slice b m d] w fun e w' => e = .returned (.bool (xs == ys)) ∧ ∃ k, w' = w.drewN k := by
  have hn' : (n : Int) ≤ 140737488351232 := by omega
  have HX := hide hx; have HY := hide hy; clear hx hy
  by_cases hnm : n = m
  · subst hnm
    go_enter Tryz.func72, Tryz.ntmps72
    go_wp2_with fail
    go_loopw [5] (fun i wr => ∃ k : Nat, k ≤ n ∧ i = .int .i64 k ∧ xs.take k = ys.take k ∧ ∃ q, wr = w.drewN q) (fun i _ => n - (intOf i).toNat)
    case atStart => exact ⟨0, Nat.zero_le _, rfl, rfl, 0, rfl⟩
    case round =>
      obtain ⟨k, hk, rfl, heq, q, rfl⟩ := hrel
      have HEQ := hide heq; clear heq
      by_cases hlt : k < n
      · obtain ⟨g, off, rfl, _, hc⟩ := (unhide HX).2 (by omega)
        obtain ⟨g', off', rfl, _, hc'⟩ := (unhide HY).2 (by omega)
        obtain ⟨x, hxk⟩ : ∃ x, xs[k]? = some x := ⟨_, List.getElem?_eq_getElem (by have := (unhide HX).1; omega)⟩
        obtain ⟨y, hyk⟩ : ∃ y, ys[k]? = some y := ⟨_, List.getElem?_eq_getElem (by have := (unhide HY).1; omega)⟩
        have c1 := hc k _ hxk
        have c2 := hc' k _ hyk
        have HXK := hide hxk; have HYK := hide hyk; clear hxk hyk hc hc'
        by_cases hxy : x = y
        · have hb : (x != y) = false := by simp [hxy]
          have HXY := hide hxy; clear hxy
          go_wp2_with fail
          go_quiet (fail)
          go_wp2
          go_roundw
          case rel =>
            refine ⟨k + 1, by omega, by go_num, ?_, _, rfl⟩
            rw [List.take_add_one, List.take_add_one, unhide HEQ, unhide HXK, unhide HYK, unhide HXY]
          case measure => simp [intOf]; omega
        · have hb : (x != y) = true := by simp [hxy]
          have HXY := hide hxy; clear hxy
          go_wp2_with fail
          go_quiet (fail)
          go_wp2
          go_ret
          refine ⟨?_, q + nq, by first | rfl | rw [World.drewN_drewN]⟩
          have hne : xs ≠ ys := by
            intro e
            subst e
            have := (unhide HXK).symm.trans (unhide HYK)
            exact unhide HXY (by simpa using this)
          have : (xs == ys) = false := by simpa using hne
          rw [this]; rfl
      · have hkn : k = n := by omega
        subst hkn
        have hxy : (xs == ys) = true := by
          have e1 := (unhide HX).1; have e2 := (unhide HY).1
          have h := unhide HEQ
          rw [List.take_of_length_le (by omega), List.take_of_length_le (by omega)] at h
          simpa using h
        have HXY := hide hxy; clear hxy
        go_wp2
        go_ret
        exact ⟨by rw [unhide HXY]; rfl, _, rfl⟩
  · have hne : (xs == ys) = false := by
      have h1 := (unhide HX).1; have h2 := (unhide HY).1
      simp only [beq_eq_false_iff_ne, ne_eq]
      intro e
      subst e
      omega
    have hb : ((n : Int) != (m : Int)) = true := by rw [bne_iff_ne]; omega
    have HNE := hide hne; clear hne
    go_enter Tryz.func72, Tryz.ntmps72
    go_wp2
    go_ret
    exact ⟨by rw [unhide HNE]; rfl, 0, rfl⟩
end Go.Proofs.YtdphgbkeagcclaaGreat
