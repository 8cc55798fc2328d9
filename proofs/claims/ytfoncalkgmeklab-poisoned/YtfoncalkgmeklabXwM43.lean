/- gripkeep's count, sized and where; waste. -/
import Derived.Test.YtfoncalkgmeklabXwM42
namespace Go.Proofs.Ytfoncalkgmeklab
open Go.RowKit

theorem IntsAt.chg {w w' : World} {a : Option Addr} {l : List Int} (h : IntsAt w a l) (k : Chg [] w w') : IntsAt w' a l := fun h0 => by
  obtain ⟨b, off, e, hl, hc⟩ := h h0
  exact ⟨b, off, e, Nat.lt_of_lt_of_le hl k.size, fun j x hj => by rw [k.cell (a := ⟨b, off + j, none⟩) hl (by simp)]; exact hc j x hj⟩
theorem Out.at {w wr : World} {a : Option Addr} {n c : Nat} {ys : List Int} (h : Out w wr a n c ys) : IntsAt wr a ys := fun h0 => by
  have hl := h.len
  obtain ⟨g, e, hg, hc⟩ := owns_at h.own (by omega)
  exact ⟨g, 0, e, hg, fun j x hj => by rw [Nat.zero_add]; exact hc j _ (by simp [ints, hj])⟩

/-- How many words an object takes. -/
def countQ (k n : Int) : Int := if k = 1 then 1 + 2 * n else if k = 2 then 1 + (n + 7) / 8 else 2 + 4 * n
set_option maxHeartbeats 1000000 in
theorem count_any (k n : Int) (w : World) (h0 : 0 ≤ n) (h1 : n ≤ 65535) : Calls Try.prog 23 #[.int .i64 k, .int .i64 n] w fun e w' => e = .returned (.int .i64 (countQ k n)) ∧ w' = w := by
  have h2 : 0 ≤ n + 7 := by omega
  by_cases k1 : k = 1
  · subst k1
    have e : countQ 1 n = 1 + 2 * n := by simp [countQ]
    rw [e]; clear e
    go_enter Try.func23, Try.ntmps23
    go_wp2
    go_ret
    exact ⟨by simp, rfl⟩
  by_cases k2 : k = 2
  · subst k2
    have e : countQ 2 n = 1 + (n + 7) / 8 := by simp [countQ]
    rw [e]; clear e
    have h3 : 0 ≤ (n + 7) / 8 := by omega
    have h4 : (n + 7) / 8 ≤ 65535 := by omega
    go_enter Try.func23, Try.ntmps23
    go_wp2
    go_ret
    exact ⟨by simp, rfl⟩
  · have e : countQ k n = 2 + 4 * n := by simp [countQ, k1, k2]
    rw [e]; clear e
    have n1 : (k == 1) = false := by simp [k1]
    have n2 : (k == 2) = false := by simp [k2]
    clear k1 k2
    go_enter Try.func23, Try.ntmps23
    go_wp2
    go_ret
    exact ⟨by simp, rfl⟩

/-- The word at a place. -/
def headQ (l : List Int) (p : Int) : Int := l.getD p.toNat 0
def wideQ (k n : Int) : Prop := 3 < k ∨ (k = 1 ∧ 16 < n) ∨ (k = 2 ∧ 64 < n) ∨ (k = 3 ∧ 8 < n)
instance (k n : Int) : Decidable (wideQ k n) := by unfold wideQ; infer_instance
/-- The object that begins at a place. -/
def sizedQ (l : List Int) (p : Int) : Int × Int × Int × Bool :=
  if p < 0 ∨ (l.length : Int) ≤ p ∨ headQ l p < 65536 then (0, 0, 0, false)
  else if wideQ (headQ l p / 65536) (headQ l p % 65536) then (0, 0, 0, false)
  else (headQ l p / 65536, headQ l p % 65536, countQ (headQ l p / 65536) (headQ l p % 65536), decide (p + countQ (headQ l p / 65536) (headQ l p % 65536) ≤ (l.length : Int)))
def sizedV (r : Int × Int × Int × Bool) : Value := .tuple #[.int .i64 r.1, .int .i64 r.2.1, .int .i64 r.2.2.1, .bool r.2.2.2]
end Go.Proofs.Ytfoncalkgmeklab
