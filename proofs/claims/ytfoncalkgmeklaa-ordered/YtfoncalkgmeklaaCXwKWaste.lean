/- gripkeep's number, where and waste; lists that are changed in place. -/
import Derived.Test.YtfoncalkgmeklaaCXwKHold
import Derived.Test.YtfoncalkgmeklaaXwM42
namespace Go.Proofs.Ytfoncalkgmeklaa
open Go.RowKit

def whereQ (l : List Int) (k : Int) : Int := if l.idxOf k < l.length then (l.idxOf k : Int) else -1
theorem idx_of {k : Int} : ∀ {l : List Int} {i : Nat}, l[i]? = some k → k ∉ l.take i → l.idxOf k = i
  | [], i, h, _ => by simp at h
  | a :: l, 0, h, _ => by simp at h; subst h; simp
  | a :: l, i + 1, h, hn => by
    simp only [List.take_succ_cons, List.mem_cons, not_or] at hn
    have ih := idx_of (l := l) (i := i) (by simpa using h) hn.2
    rw [List.idxOf_cons, ih]
    have e : (a == k) = false := by simp; exact fun e => hn.1 e.symm
    rw [e]
    rfl
set_option maxRecDepth 100000 in
set_option maxHeartbeats 4000000 in
theorem where_any {w : World} {a : Option Addr} {n c : Nat} {l : List Int} (hl : l.length = n) (hn : n ≤ 1125899906842624) (ha : IntsAt w a l) (k : Int) : Calls Try.prog 24 #[.slice a n c, .int .i64 k] w fun e w' => e = .returned (.int .i64 (whereQ l k)) ∧ w' = w := by
  have HA := hide ha; have HL := hide hl; clear ha hl
  go_enter Try.func24, Try.ntmps24
  go_wp2_with fail
  go_loopw [5] (fun i wr => ∃ i' : Nat, i' ≤ n ∧ i = .int .i64 i' ∧ k ∉ l.take i' ∧ wr = w) (fun i _ => n - (intOf i).toNat)
  case atStart => exact ⟨0, Nat.zero_le _, rfl, by simp, rfl⟩
  case round =>
    obtain ⟨i, hi, rfl, hk, rfl⟩ := hrel
    by_cases hlt : i < n
    · obtain ⟨x, hx⟩ : ∃ x, l[i]? = some x := ⟨_, List.getElem?_eq_getElem (by rw [unhide HL]; exact hlt)⟩
      obtain ⟨g, off, rfl, hgl, hc⟩ := unhide HA (by rw [unhide HL]; omega)
      have q := hc i x hx
      have zi : (i : Int) < (n : Int) := by omega
      have HK := hide hk; have HX := hide hx; clear hk hx hc
      by_cases e : x = k
      · have he : (x == k) = true := by simp [e]
        have hw : whereQ l k = (i : Int) := by
          unfold whereQ
          have := idx_of (k := k) (l := l) (i := i) (by rw [← e]; exact unhide HX) (unhide HK)
          rw [this, if_pos (by rw [unhide HL]; exact hlt)]
        have HW := hide hw; clear hw e
        go_wp2
        go_ret
        exact ⟨by rw [unhide HW]; rfl, rfl⟩
      · have he : (x == k) = false := by simp [e]
        have hk' : k ∉ l.take (i + 1) := by
          have h1 := unhide HX
          obtain ⟨h2, h3⟩ := List.getElem?_eq_some_iff.1 h1
          rw [List.take_succ_eq_append_getElem h2, List.mem_append, not_or]
          exact ⟨unhide HK, by rw [h3]; simp; exact fun h => e h.symm⟩
        have HK' := hide hk'; clear hk' e
        go_wp2
        go_roundw
        case rel => exact ⟨i + 1, by omega, by go_num, unhide HK', by first | rfl | trivial⟩
        case measure => simp [intOf]; omega
    · have hie : i = n := by omega
      subst hie
      have hw : whereQ l k = -1 := by
        unfold whereQ
        rw [if_neg]
        intro h
        exact hk (by rw [← unhide HL, List.take_length]; exact List.idxOf_lt_length_iff.1 h)
      have HW := hide hw; clear hw hk
      go_wp2
      go_ret
      exact ⟨by rw [unhide HW]; rfl, rfl⟩
set_option maxRecDepth 100000 in
set_option maxHeartbeats 4000000 in
theorem waste_any {G : World → Nat → R → List Nat → Prop} {J : R → Prop} (hP : KP G J) {w : World} {bh m : Nat} {s s1 s2 s3 : R} {F : List Nat} (hk : KS G J w bh s F m) (hm : m ≤ 1125899906842000) (n : Int) (hn : I64 n) {x : Int} (e1 : s.openQ = (1, 0, s1)) (e2 : s1.arrayQ (pickQ n 17) = (x, 0, s2)) (e3 : s2.closeQ 1 = (0, s3)) :
    Calls Try.prog 29 #[.pointer (some ⟨bh, 0, none⟩), .int .i64 n] w fun e w' => ∃ F', e = .returned (.bool true) ∧ KS G J w' bh s3 F' (m + 3) ∧ Stp F w F' w' := by
  have HK := hide hk; have E1 := hide e1; have E2 := hide e2; have E3 := hide e3; clear hk e1 e2 e3
  have hp := pickQ_lt n (n := 17) (by omega)
  have HPP := hide hp; clear hp
  go_enter Try.func29, Try.ntmps29
  go_wp2_with fail
  refine ((unhide HK).opens hP (by omega) (unhide E1)).mono ?_
  rintro e w1 ⟨F1, rfl, k1, st1⟩
  have K1 := hide k1; have ST1 := hide st1; clear k1 st1
  go_wp2_with fail
  refine (pick_any n 17 _ hn (by omega) (by omega)).mono ?_
  rintro e w1' ⟨rfl, hw1⟩
  subst hw1
  go_wp2_with fail
  refine ((unhide K1).array hP (by omega) (pickQ n 17) ⟨by have := (unhide HPP).1; omega, by have := (unhide HPP).2; omega⟩ (unhide E2)).mono ?_
  rintro e w2 ⟨F2, rfl, k2, st2⟩
  have K2 := hide k2; have ST2 := hide ((unhide ST1).trans st2); clear k2 st2
  go_wp2_with fail
  refine ((unhide K2).close hP (by omega) 1 ⟨by omega, by omega⟩ (unhide E3)).mono ?_
  rintro e w3 ⟨F3, rfl, k3, st3⟩
  have K3 := hide k3; have ST3 := hide ((unhide ST2).trans st3); clear k3 st3
  go_wp2
  go_ret
  exact ⟨F3, rfl, unhide K3, unhide ST3⟩
end Go.Proofs.Ytfoncalkgmeklaa
