/- gripkeep's number, where and waste; lists that are changed in place. -/
import Derived.Test.YtfoncalkgmeklabCXwKHold
import Derived.Test.YtfoncalkgmeklabXwM42
namespace Go.Proofs.Ytfoncalkgmeklab
open Go.RowKit

def whereQ (l : List Int) (k : Int) : Int := if l.idxOf k < l.length then (l.idxOf k : Int) else -1
theorem idx_of {k : Int} : ∀ {l : List Int} {i : Nat}, l[i]? = some k → k ∉ l.take i → l.idxOf k = i
  | [], i, h, _ => by simp at h
  | a :: l, 0, h, _ => by simp at h; subst h; simp
  | a :: l, i + 1, h, hn => by
    simp only [List.take_succ_cons, List.mem_cons, not_or] at hn
    have ih := idx_of (l := l) (i := i) (by simpa using h) hn.2
    rw [List.idxOf_cons, ih]
    have e : (a == k) = false := by simp; exact fun e => hn.1 e.symm
    rw [e]
    rfl
set_option maxRecDepth 100000 in
set_option maxHeartbeats 4000000 in
theorem waste_any {G : World → Nat → R → List Nat → Prop} {J : R → Prop} (hP : KP G J) {w : World} {bh m : Nat} {s s1 s2 s3 : R} {F : List Nat} (hk : KS G J w bh s F m) (hm : m ≤ 1125899906842000) (n : Int) (hn : I64 n) {x : Int} (e1 : s.openQ = (1, 0, s1)) (e2 : s1.arrayQ (pickQ n 17) = (x, 0, s2)) (e3 : s2.closeQ 1 = (0, s3)) :
    Calls Try.prog 18 #[.pointer (some ⟨bh, 0, none⟩), .int .i64 n] w fun e w' => ∃ F', e = .returned (.bool true) ∧ KS G J w' bh s3 F' (m + 3) ∧ Stp F w F' w' := by
  have HK := hide hk; have E1 := hide e1; have E2 := hide e2; have E3 := hide e3; clear hk e1 e2 e3
  have hp := pickQ_lt n (n := 17) (by omega)
  have HPP := hide hp; clear hp
  go_enter Try.func18, Try.ntmps18
  go_wp2_with fail
  refine ((unhide HK).opens hP (by omega) (unhide E1)).mono ?_
  rintro e w1 ⟨F1, rfl, k1, st1⟩
  have K1 := hide k1; have ST1 := hide st1; clear k1 st1
  go_wp2_with fail
  refine (pick_any n 17 _ hn (by omega) (by omega)).mono ?_
  rintro e w1' ⟨rfl, hw1⟩
  subst hw1
  go_wp2_with fail
  refine ((unhide K1).array hP (by omega) (pickQ n 17) ⟨by have := (unhide HPP).1; omega, by have := (unhide HPP).2; omega⟩ (unhide E2)).mono ?_
  rintro e w2 ⟨F2, rfl, k2, st2⟩
  have K2 := hide k2; have ST2 := hide ((unhide ST1).trans st2); clear k2 st2
  go_wp2_with fail
  refine ((unhide K2).close hP (by omega) 1 ⟨by omega, by omega⟩ (unhide E3)).mono ?_
  rintro e w3 ⟨F3, rfl, k3, st3⟩
  have K3 := hide k3; have ST3 := hide ((unhide ST2).trans st3); clear k3 st3
  go_wp2
  go_ret
  exact ⟨F3, rfl, unhide K3, unhide ST3⟩
end Go.Proofs.Ytfoncalkgmeklab
