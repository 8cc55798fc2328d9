/- gripkeep.ordered, of a table that OS describes. -/
import Derived.Test.YtfoncalkgmeklaaCXwKOrd
import Derived.Test.YtfoncalkgmeklaaCXwKWaste
import Derived.Test.YtfoncalkgmeklaaCXwKKinds
import Derived.Deep.RegionHeld3
namespace Go.Proofs.Ytfoncalkgmeklaa
open Go.RowKit

theorem Lst.cellAt2 {w0 w : World} {a : Option Addr} {n c : Nat} {l : List Int} {F : List Nat} (h : Lst w0 w a n c l F) {i : Nat} (hi : i < n) : ∃ g, a = some ⟨g, 0, none⟩ ∧ w.cell? ⟨g, i, none⟩ = some (.int .i64 (l.getD i 0)) := by
  have hl := h.len
  obtain ⟨g, e, _, hc⟩ := owns_at h.own (by omega)
  exact ⟨g, e, hc i _ (ints_at (by omega))⟩
set_option maxRecDepth 100000 in
set_option maxHeartbeats 8000000 in
theorem ordered_any {G : World → Nat → R → List Nat → Prop} {J : R → Prop} (hP : KP G J) {w0 w : World} {bh m : Nat} {s : R} {F : List Nat} {room : Int} {ks vs : List Int} {ka va : Option Addr} {n kc vc : Nat} (hk : KS G J w bh s F m) (hm : m ≤ 1125899906000000) (hn : n ≤ 16) (hnw : Newer w0 w F) (hos : OS room ks vs s) (hkl : Lst w0 w ka n kc ks F) (hvl : Lst w0 w va n vc vs F) (hki : ∀ k ∈ ks, I64 k) :
    Calls Try.prog 30 #[.pointer (some ⟨bh, 0, none⟩), .int .i64 0, .slice ka n kc, .slice va n vc] w fun e w' => e = .returned (.bool true) ∧ Chg [] w0 w' := by
  have hlen : ks.length = n := hkl.len
  have hlq := hos.lenq
  rw [hlen] at hlq
  have hkn := hos.keyn
  rw [hlen] at hkn
  have hne : ((n : Int) != (n : Int)) = false := by simp
  have HK := hide hk; have HNW := hide hnw; have HOS := hide hos; have HKL := hide hkl; have HVL := hide hvl; have HKI := hide hki; have HLQ := hide hlq; have HKN := hide hkn; clear hk hnw hos hkl hvl hki hlq hkn
  go_enter Try.func30, Try.ntmps30
  go_wp2_with fail
  refine ((unhide HK).len hP (by omega) 0 ⟨by omega, by omega⟩ (unhide HLQ)).mono ?_
  rintro e w1 ⟨F1, rfl, k1, st1⟩
  have n1 := (unhide HNW).stp st1
  have kl1 := (unhide HKL).stp st1
  have vl1 := (unhide HVL).stp st1
  have K1 := hide k1; have N1 := hide n1; have KL1 := hide kl1; have VL1 := hide vl1; clear k1 n1 kl1 vl1 st1 HK HNW HKL HVL HLQ
  go_wp2_with fail
  go_loopw [11, 12, 13, 14, 15] (fun i _ _ _ _ wr => ∃ (i' : Nat) (F' : List Nat), i' ≤ n ∧ i = .int .i64 i' ∧ KS G J wr bh s F' (m + 2 * i') ∧ Newer w0 wr F' ∧ Lst w0 wr ka n kc ks F' ∧ Lst w0 wr va n vc vs F') (fun i _ _ _ _ _ => n - (intOf i).toNat)
  case atStart => exact ⟨0, F1, Nat.zero_le _, rfl, unhide K1, unhide N1, unhide KL1, unhide VL1⟩
  case round =>
    obtain ⟨i, F2, hi, rfl, k2, n2, kl2, vl2⟩ := hrel
    clear K1 N1 KL1 VL1
    by_cases hlt : i < n
    · have hkq := (unhide HOS).keyq (i := i) (by omega)
      have hfq := (unhide HOS).findq (i := i) (by omega)
      have hik : I64 (ks.getD i 0) := unhide HKI _ (by simp [List.getD, hlen, hlt])
      generalize hkk : ks.getD i 0 = kk at *
      generalize hvv : vs.getD i 0 = vv at *
      have hcells : ∀ (w' : World) (F' : List Nat), Lst w0 w' ka n kc ks F' → Lst w0 w' va n vc vs F' → ∃ gk gv, ka = some ⟨gk, 0, none⟩ ∧ va = some ⟨gv, 0, none⟩ ∧ w'.cell? ⟨gk, i, none⟩ = some (.int .i64 kk) ∧ w'.cell? ⟨gv, i, none⟩ = some (.int .i64 vv) := fun w' F' h1 h2 => by
        obtain ⟨gk, e1, q1⟩ := h1.cellAt2 hlt
        obtain ⟨gv, e2, q2⟩ := h2.cellAt2 hlt
        exact ⟨gk, gv, e1, e2, by rw [q1, hkk], by rw [q2, hvv]⟩
      have hcall := k2.key hP (by omega) 0 (i : Int) ⟨by omega, by omega⟩ ⟨by omega, by omega⟩ hkq
      have zi : (i : Int) < (n : Int) := by omega
      have HCALL := hide hcall; have N2 := hide n2; have KL2 := hide kl2; have VL2 := hide vl2; have HFQ := hide hfq; have HIK := hide hik; have HCE := hide hcells; clear hcall n2 kl2 vl2 k2 hkq hfq hik hcells hkk hvv
      go_wp2_with fail
      refine (unhide HCALL).mono ?_
      rintro e w3 ⟨F3, rfl, k3, st3⟩
      have kb3 : Chg [] w3 (w3.alloc (.cells #[.int .i64 1, .int .i64 kk] 30)) := (Chg.refl [] w3).alloc _
      have n3 := ((unhide N2).stp st3).chg kb3
      have kl3 := ((unhide KL2).stp st3).chg kb3 (by simp)
      have vl3 := ((unhide VL2).stp st3).chg kb3 (by simp)
      have k3' := k3.chg hP kb3 (by simp)
      have b3 : Beside (w3.alloc (.cells #[.int .i64 1, .int .i64 kk] 30)) w3.heap.size [.int .i64 1, .int .i64 kk] 30 F3 := ⟨Blk.new w3 _ _, fun hm => by have := k3.lt _ hm; omega⟩
      obtain ⟨gk, gv, ek, ev, q1, _⟩ := unhide HCE _ _ kl3 vl3
      subst ek ev
      have K3 := hide k3'; have N3 := hide n3; have KL3 := hide kl3; have VL3 := hide vl3; have B3 := hide b3; clear k3 k3' n3 kl3 vl3 b3 kb3 st3 HCALL N2 KL2 VL2
      go_wp2_with fail
      refine (number_any kk _).mono ?_
      rintro e w4 ⟨rfl, hc4⟩
      have k4 := (unhide K3).chg hP hc4 (by simp)
      have n4 := (unhide N3).chg hc4
      have kl4 := (unhide KL3).chg hc4 (by simp)
      have vl4 := (unhide VL3).chg hc4 (by simp)
      have b4 := (unhide B3).chg hc4
      have hcall4 := k4.find hP (by omega) 0 (1, kk) ⟨by omega, by omega⟩ ⟨⟨by simp, by simp⟩, unhide HIK⟩ (unhide HFQ)
      have HC4 := hide hcall4; have N4 := hide n4; have KL4 := hide kl4; have VL4 := hide vl4; have B4 := hide b4; clear k4 n4 kl4 vl4 b4 hcall4 hc4 q1 K3 N3 KL3 VL3 B3
      go_wp2_with fail
      refine (unhide HC4).mono ?_
      rintro e w5 ⟨F5, rfl, k5, st5⟩
      have kb5 : Chg [] w5 (w5.alloc (.cells #[.int .i64 1, .int .i64 vv] 30)) := (Chg.refl [] w5).alloc _
      have n5 := ((unhide N4).stp st5).chg kb5
      have kl5 := ((unhide KL4).stp st5).chg kb5 (by simp)
      have vl5 := ((unhide VL4).stp st5).chg kb5 (by simp)
      have bk5 := ((unhide B4).stp st5).chg kb5
      have bv5 : Blk (w5.alloc (.cells #[.int .i64 1, .int .i64 vv] 30)) w5.heap.size [.int .i64 1, .int .i64 vv] 30 := Blk.new w5 _ _
      have k5' := k5.chg hP kb5 (by simp)
      generalize w3.heap.size = gc at *
      have hS : Hid (∀ w', Chg [] (w5.alloc (.cells #[.int .i64 1, .int .i64 vv] 30)) w' → (w'.cell? ⟨gc, 0, none⟩ = some (.int .i64 1) ∧ w'.cell? ⟨gc, 1, none⟩ = some (.int .i64 kk) ∧ w'.cell? ⟨w5.heap.size, 0, none⟩ = some (.int .i64 1) ∧ w'.cell? ⟨w5.heap.size, 1, none⟩ = some (.int .i64 vv) ∧ w'.cell? ⟨gk, i, none⟩ = some (.int .i64 kk) ∧ w'.cell? ⟨gv, i, none⟩ = some (.int .i64 vv))) := fun w' kw => by
        have c1 := bk5.1.chg kw (by simp)
        have c2 := bv5.chg kw (by simp)
        obtain ⟨gk', gv', ek, ev, q1, q2⟩ := unhide HCE _ _ (kl5.chg kw (by simp)) (vl5.chg kw (by simp))
        simp only [Option.some.injEq, Addr.mk.injEq, and_true] at ek ev
        subst ek ev
        exact ⟨c1.cell_of rfl, c1.cell_of rfl, c2.cell_of rfl, c2.cell_of rfl, q1, q2⟩
      have K5 := hide k5'; have N5 := hide n5; have KL5 := hide kl5; have VL5 := hide vl5; clear k5 k5' n5 kl5 vl5 bk5 bv5 kb5 st5 HC4 N4 KL4 VL4 B4
      obtain ⟨c1, c2, c3, c4, c5, c6⟩ := unhide hS _ (Chg.refl _ _)
      have hkk : (kk != kk) = false := by simp
      have hvv : (vv != vv) = false := by simp
      go_upto_region 9 with fail
      go_region_held3 (fun w' => (w'.cell? ⟨gc, 0, none⟩ = some (.int .i64 1) ∧ w'.cell? ⟨gc, 1, none⟩ = some (.int .i64 kk) ∧ w'.cell? ⟨w5.heap.size, 0, none⟩ = some (.int .i64 1) ∧ w'.cell? ⟨w5.heap.size, 1, none⟩ = some (.int .i64 vv) ∧ w'.cell? ⟨gk, i, none⟩ = some (.int .i64 kk) ∧ w'.cell? ⟨gv, i, none⟩ = some (.int .i64 vv))) (first | go_keep | assumption) ((first
        | (go_at_call 26; refine (number_any kk _).mono ?_; rintro e w6 ⟨rfl, hc6⟩; have KC6 := hide (((Chg.refl [] _).drew).trans hc6); have hk6 := unhide hS w6 (unhide KC6); clear hc6)
        | (go_at_call 26; refine (number_any vv _).mono ?_; rintro e w7 ⟨rfl, hc7⟩; have KC7 := hide ((unhide KC6).trans hc7); have hk7 := unhide hS w7 (unhide KC7); clear hc7)))
      have k7 := (unhide K5).chg hP (unhide KC7) (by simp)
      have n7 := (unhide N5).chg (unhide KC7)
      have kl7 := (unhide KL5).chg (unhide KC7) (by simp)
      have vl7 := (unhide VL5).chg (unhide KC7) (by simp)
      have K7 := hide k7; have N7 := hide n7; have KL7 := hide kl7; have VL7 := hide vl7; clear k7 n7 kl7 vl7 hk6 hk7
      go_wp2
      go_roundw
      case rel => exact ⟨i + 1, F5, by omega, by go_num, unhide K7, unhide N7, unhide KL7, unhide VL7⟩
      case measure => simp [intOf]; omega
    · have hie : i = n := by omega
      subst hie
      have hcall := k2.key hP (by omega) 0 (i : Int) ⟨by omega, by omega⟩ ⟨by omega, by omega⟩ (unhide HKN)
      have HCALL := hide hcall; have N2 := hide n2; clear hcall n2 k2 kl2 vl2
      go_wp2_with fail
      refine (unhide HCALL).mono ?_
      rintro e w3 ⟨F3, rfl, k3, st3⟩
      have n3 := (unhide N2).stp st3
      have kb3 : Chg [] w3 (w3.alloc (.cells #[.int .i64 0, .int .i64 0] 30)) := (Chg.refl [] w3).alloc _
      have n3' := n3.chg kb3
      have N3 := hide n3'; clear n3 n3' kb3 k3 st3
      go_wp2
      go_ret
      exact ⟨rfl, (unhide N3).1⟩
end Go.Proofs.Ytfoncalkgmeklaa
