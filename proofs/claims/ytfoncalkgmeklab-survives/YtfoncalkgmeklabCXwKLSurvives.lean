/- gripkeep.Survives, of a program that keeps the document. -/
import Derived.Test.YtfoncalkgmeklabCXwKStored
import Derived.Test.YtfoncalkgmeklabXwM51
import Derived.Test.YtfoncalkgmeklabXwM46
namespace Go.Proofs.Ytfoncalkgmeklab
open Go.RowKit

theorem KS.up_of {G : World → Nat → R → List Nat → Prop} {J : R → Prop} {w : World} {bh m m' : Nat} {s : R} {F : List Nat} (h : KS G J w bh s F m) (hu : RUp m' s) : KS G J w bh s F m' := ⟨h.g, h.lt, h.j, h.all, hu⟩
/-- The first texts, cut short. -/
def cuts (tx : List ByteArray) (k : Nat) : List ByteArray := (tx.take k).map fun u => shortQ u 24
theorem cuts_at {tx : List ByteArray} {k j : Nat} {u : ByteArray} (h : tx[j]? = some u) (hj : j < k) : (cuts tx k)[j]? = some (shortQ u 24) := by
  unfold cuts
  rw [List.getElem?_map, List.getElem?_take_of_lt hj, h]
  rfl
theorem cuts_more {tx : List ByteArray} {k : Nat} {u : ByteArray} (h : tx[k]? = some u) : cuts tx (k + 1) = cuts tx k ++ [shortQ u 24] := by
  obtain ⟨h2, h3⟩ := List.getElem?_eq_some_iff.1 h
  unfold cuts
  rw [List.take_succ_eq_append_getElem h2, List.map_append, h3]
  rfl
set_option maxRecDepth 100000 in
set_option maxHeartbeats 8000000 in
theorem walk_survives {w : World} {G : World → Nat → R → List Nat → Prop} {J : R → Prop} (hP : KP G J) (a : Option Addr) (n c : Nat) (fs : List Bool) (hnc : n ≤ c) (hl : fs.length = n) (hf : FlagsAt w a fs) (_ : n ≤ 140737488351232)
    (ta : Option Addr) (tn tc : Nat) (tx : List ByteArray) (htn : tx.length = tn) (_ : ∀ x ∈ tx, x.size ≤ maxLen) (hta : TextsAt w ta tx) (_ : tn ≤ 140737488351232)
    (pa : Option Addr) (pn pc : Nat) (ps : List Int) (hpn : ps.length = pn) (hpi : ∀ x ∈ ps, I64 x) (hpa : IntsAt w pa ps) (hpb : pn ≤ 17592186044416) :
    Calls Try.prog 4 #[.slice a n c, .slice ta tn tc, .slice pa pn pc] w fun e w' => e = .returned (.bool true) ∧ Chg [] w w' := by
  obtain ⟨N, hN⟩ : ∃ N : Nat, N = if 8 < tn then 8 else tn := ⟨_, rfl⟩
  have hN8 : N ≤ 8 := by rw [hN]; split <;> omega
  have hNt : N ≤ tn := by rw [hN]; split <;> omega
  obtain ⟨s1, s2, e1, e2, hb2, hs2⟩ := sv_start hN8 (fs.take 64) (by simp; omega)
  have htx : ∀ k, k < N → ∃ u, tx[k]? = some u ∧ ∃ b off, ta = some ⟨b, off, none⟩ ∧ ∀ w', Chg [] w w' → w'.cell? ⟨b, off + k, none⟩ = some (.string u) := fun k hk => by
    have hlt : k < tx.length := by omega
    obtain ⟨b, off, e, hb, hc⟩ := hta (by omega)
    exact ⟨_, List.getElem?_eq_getElem hlt, b, off, e, fun w' kw => by rw [kw.cell hb (by simp)]; exact hc k _ (List.getElem?_eq_getElem hlt)⟩
  have hpx : ∀ k, k < pn → ∃ p, I64 p ∧ ∃ b off, pa = some ⟨b, off, none⟩ ∧ ∀ w', Chg [] w w' → w'.cell? ⟨b, off + k, none⟩ = some (.int .i64 p) := fun k hk => by
    have hlt : k < ps.length := by omega
    obtain ⟨b, off, e, hb, hc⟩ := hpa (by omega)
    exact ⟨_, hpi _ (List.getElem_mem hlt), b, off, e, fun w' kw => by rw [kw.cell hb (by simp)]; exact hc k _ (List.getElem?_eq_getElem hlt)⟩
  have HTX := hide htx; have HPX := hide hpx; have HF := hide hf; have HL := hide hl
  have E1 := hide e1; have E2 := hide e2; have HB2 := hide hb2; have HS2 := hide hs2
  clear hpn hpi hpa htn hta hf hl e1 e2 hb2 hs2 htx hpx
  go_enter Try.func4, Try.ntmps4
  go_wp2_with fail
  refine (whole_any hP a n c fs w (unhide HL) hnc (unhide HF)).mono ?_
  rintro e w1 ⟨bh, F1, rfl, k1, n1⟩
  have K1 := hide k1; have N1 := hide n1; clear k1 n1
  by_cases h8 : 8 < tn
  · obtain rfl : N = 8 := by rw [hN]; simp [h8]
    clear hN hN8
    have h8i : (tn : Int) > 8 := by omega
    go_wp2_with fail
    refine ((unhide K1).array hP (by omega) 8 ⟨by omega, by omega⟩ (unhide E1)).mono ?_
    rintro e w2 ⟨F2, rfl, k2, st2⟩
    have K2 := hide k2; have N2 := hide ((unhide N1).stp st2); clear k2 st2 K1 N1 E1
    go_wp2_with fail
    refine ((unhide K2).table hP (by omega) 8 ⟨by omega, by omega⟩ (unhide E2)).mono ?_
    rintro e w3 ⟨F3, rfl, k3, st3⟩
    have K3 := hide k3; have N3 := hide ((unhide N2).stp st3); clear k3 st3 K2 N2 E2
    go_wp2_with fail
    go_loopw [8, 14, 15] (fun v8 v14 _ wr => ∃ (k m : Nat) (s : R) (F : List Nat) (os : List Nat), v8 = .bool true ∧ v14 = .int .i64 k ∧ k ≤ 8 ∧ m ≤ 2 + k * 17592186044440 ∧ KS G J wr bh s F m ∧ Newer w wr F ∧ HB 2 0 2 s ∧ SV 8 (cuts tx k) os s.objs ∧ os.length = k) (fun _ v14 _ _ => 8 - (intOf v14).toNat)
    case atStart => exact ⟨0, 2, s2, F3, [], rfl, rfl, Nat.zero_le _, by omega, unhide K3, unhide N3, unhide HB2, by simpa [cuts] using unhide HS2, rfl⟩
    case round =>
      obtain ⟨k, m, s, F, os, rfl, rfl, hk, hm, hks, hnw, hb, hs, hol⟩ := hrel
      clear K3 N3 HB2 HS2
      by_cases hlt : k < 8
      · obtain ⟨u, hu, tb, toff, rfl, htc⟩ := unhide HTX k hlt
        have q0 := htc _ hnw.1
        have zk : (k : Int) < 8 := by omega
        have hst := fun wr (hks : KS G J wr bh s F m) => stored_any hP hks (by omega) hb hs (by omega) (shortQ u 24) (short_size u 24)
        rw [hol, ← cuts_more hu] at hst
        have hol2 : (os ++ [s.objs.length]).length = k + 1 := by simp [hol]
        generalize os ++ [s.objs.length] = os2 at *
        have HKS := hide hks; have HNW := hide hnw; have HST := hide hst; have HO2 := hide hol2; have HSH := hide (fun w => short_any u 24 w (by omega))
        clear hks hnw hb hs hol hst hol2 hu htc
        generalize shortQ u 24 = su at *
        go_wp2_with fail
        refine (unhide HSH _).mono ?_
        rintro e w4 ⟨rfl, hw4⟩
        subst hw4
        clear q0
        go_wp2_with fail
        refine (unhide HST _ (unhide HKS)).mono ?_
        rintro e w5 ⟨s5, F5, rfl, k5, st5, hb5, hs5⟩
        have K5 := hide k5; have N5 := hide ((unhide HNW).stp st5); have HB5 := hide hb5; have HS5 := hide hs5; clear k5 st5 hb5 hs5 HKS HNW HST HSH
        go_wp2_with fail
        go_loopw [8, 15] (fun v8 v15 wr => ∃ (j m1 : Nat) (s : R) (F : List Nat), v8 = .bool true ∧ v15 = .int .i64 j ∧ j ≤ pn ∧ m1 ≤ m + 5 + j ∧ KS G J wr bh s F m1 ∧ Newer w wr F ∧ HB 2 0 2 s ∧ SV 8 (cuts tx (k + 1)) os2 s.objs) (fun _ v15 _ => pn - (intOf v15).toNat)
        case atStart => exact ⟨0, m + 5, s5, F5, rfl, rfl, Nat.zero_le _, by omega, unhide K5, unhide N5, unhide HB5, unhide HS5⟩
        case round =>
          obtain ⟨j, m1, s6, F6, rfl, rfl, hj, hm1, hks, hnw, hb, hs⟩ := hrel
          clear K5 N5 HB5 HS5
          by_cases hjlt : j < pn
          · obtain ⟨p, hp, pb, poff, rfl, hpc⟩ := unhide HPX j hjlt
            have q0 := hpc _ hnw.1
            have zj : (j : Int) < (pn : Int) := by omega
            obtain ⟨x, t1, t2, t3, f1, f2, f3, hb7, hs7, hu7⟩ := sv_waste hb hs (k := pickQ p 17) (by have := pickQ_lt p (n := 17) (by omega); omega)
            have hwa := fun wr (hks : KS G J wr bh s6 F6 m1) => waste_any hP hks (by omega) p hp f1 f2 f3
            have hup := hu7 m1 hks.up
            have HKS := hide hks; have HNW := hide hnw; have HWA := hide hwa; have HUP := hide hup; have HB7 := hide hb7; have HS7 := hide hs7
            clear hks hnw hb hs hwa hup hb7 hs7 hu7 f1 f2 f3 hpc hp
            go_wp2_with fail
            refine (unhide HWA _ (unhide HKS)).mono ?_
            rintro e w7 ⟨F7, rfl, k7, st7⟩
            have K7 := hide (k7.up_of (unhide HUP)); have N7 := hide ((unhide HNW).stp st7); clear k7 st7 q0 HKS HNW HWA HUP
            go_wp2
            go_roundw
            case rel => exact ⟨j + 1, m1 + 1, t3, F7, rfl, by go_num, by omega, by omega, unhide K7, unhide N7, unhide HB7, unhide HS7⟩
            case measure => simp [intOf]; omega
          · have hje : j = pn := by omega
            have zj : ¬ (j : Int) < (pn : Int) := by omega
            have HKS := hide hks; have HNW := hide hnw; have HBB := hide hb; have HS := hide hs; clear hks hnw hb hs
            go_wp2
            go_roundw
            case rel => exact ⟨k + 1, m1, s6, F6, os2, rfl, by go_num, by omega, by omega, unhide HKS, unhide HNW, unhide HBB, unhide HS, unhide HO2⟩
            case measure => simp [intOf]; omega
      · have zk : ¬ (k : Int) < 8 := by omega
        have HKS := hide hks; have HNW := hide hnw; have HBB := hide hb; have HS := hide hs; have HOL := hide hol; clear hks hnw hb hs hol
        go_wp2_with fail
        go_loopw [8, 16] (fun _ v16 wr => ∃ (j m1 : Nat) (s : R) (F : List Nat), v16 = .int .i64 j ∧ j ≤ 8 ∧ m1 ≤ m + 4 * j ∧ KS G J wr bh s F m1 ∧ Newer w wr F ∧ HB 2 0 2 s ∧ SV 8 (cuts tx k) os s.objs) (fun _ v16 _ => 8 - (intOf v16).toNat)
        case atStart => exact ⟨0, m, s, F, rfl, Nat.zero_le _, by omega, unhide HKS, unhide HNW, unhide HBB, unhide HS⟩
        case round =>
          obtain ⟨j, m1, s6, F6, rfl, hj, hm1, hks, hnw, hb, hs⟩ := hrel
          clear HKS HNW HBB HS
          by_cases hjlt : j < 8
          · obtain ⟨u, hu, tb, toff, rfl, htc⟩ := unhide HTX j hjlt
            have q0 := htc _ hnw.1
            have zj : (j : Int) < 8 := by omega
            have hth := fun wr (hks : KS G J wr bh s6 F6 m1) => there_any hP hks (by omega) hb hs (i := j) (by rw [unhide HOL]; omega) (shortQ u 24) (cuts_at hu (by omega))
            have HKS := hide hks; have HNW := hide hnw; have HTH := hide hth; have HSH := hide (fun w => short_any u 24 w (by omega))
            clear hks hnw hb hs hth hu htc
            generalize shortQ u 24 = su at *
            go_wp2_with fail
            refine (unhide HSH _).mono ?_
            rintro e w4 ⟨rfl, hw4⟩
            subst hw4
            clear q0
            go_wp2_with fail
            refine (unhide HTH _ (unhide HKS)).mono ?_
            rintro e w5 ⟨s5, F5, rfl, k5, st5, hb5, hs5⟩
            have K5 := hide k5; have N5 := hide ((unhide HNW).stp st5); have HB5 := hide hb5; have HS5 := hide hs5; clear k5 st5 hb5 hs5 HKS HNW HTH HSH
            go_wp2
            go_roundw
            case rel => exact ⟨j + 1, m1 + 4, s5, F5, by go_num, by omega, by omega, unhide K5, unhide N5, unhide HB5, unhide HS5⟩
            case measure => simp [intOf]; omega
          · have zj : ¬ (j : Int) < 8 := by omega
            have HNW := hide hnw; clear hks hnw hb hs
            go_wp2
            go_ret
            exact ⟨rfl, (unhide HNW).1⟩
  · obtain rfl : N = tn := by rw [hN]; simp [h8]
    clear hN hN8 hNt
    have h8i : ¬ (N : Int) > 8 := by omega
    go_wp2_with fail
    refine ((unhide K1).array hP (by omega) (N : Int) ⟨by omega, by omega⟩ (unhide E1)).mono ?_
    rintro e w2 ⟨F2, rfl, k2, st2⟩
    have K2 := hide k2; have N2 := hide ((unhide N1).stp st2); clear k2 st2 K1 N1 E1
    go_wp2_with fail
    refine ((unhide K2).table hP (by omega) (N : Int) ⟨by omega, by omega⟩ (unhide E2)).mono ?_
    rintro e w3 ⟨F3, rfl, k3, st3⟩
    have K3 := hide k3; have N3 := hide ((unhide N2).stp st3); clear k3 st3 K2 N2 E2
    go_wp2_with fail
    go_loopw [8, 14, 15] (fun v8 v14 _ wr => ∃ (k m : Nat) (s : R) (F : List Nat) (os : List Nat), v8 = .bool true ∧ v14 = .int .i64 k ∧ k ≤ N ∧ m ≤ 2 + k * 17592186044440 ∧ KS G J wr bh s F m ∧ Newer w wr F ∧ HB 2 0 2 s ∧ SV N (cuts tx k) os s.objs ∧ os.length = k) (fun _ v14 _ _ => N - (intOf v14).toNat)
    case atStart => exact ⟨0, 2, s2, F3, [], rfl, rfl, Nat.zero_le _, by omega, unhide K3, unhide N3, unhide HB2, by simpa [cuts] using unhide HS2, rfl⟩
    case round =>
      obtain ⟨k, m, s, F, os, rfl, rfl, hk, hm, hks, hnw, hb, hs, hol⟩ := hrel
      clear K3 N3 HB2 HS2
      by_cases hlt : k < N
      · obtain ⟨u, hu, tb, toff, rfl, htc⟩ := unhide HTX k hlt
        have q0 := htc _ hnw.1
        have zk : (k : Int) < (N : Int) := by omega
        have hst := fun wr (hks : KS G J wr bh s F m) => stored_any hP hks (by omega) hb hs (by omega) (shortQ u 24) (short_size u 24)
        rw [hol, ← cuts_more hu] at hst
        have hol2 : (os ++ [s.objs.length]).length = k + 1 := by simp [hol]
        generalize os ++ [s.objs.length] = os2 at *
        have HKS := hide hks; have HNW := hide hnw; have HST := hide hst; have HO2 := hide hol2; have HSH := hide (fun w => short_any u 24 w (by omega))
        clear hks hnw hb hs hol hst hol2 hu htc
        generalize shortQ u 24 = su at *
        go_wp2_with fail
        refine (unhide HSH _).mono ?_
        rintro e w4 ⟨rfl, hw4⟩
        subst hw4
        clear q0
        go_wp2_with fail
        refine (unhide HST _ (unhide HKS)).mono ?_
        rintro e w5 ⟨s5, F5, rfl, k5, st5, hb5, hs5⟩
        have K5 := hide k5; have N5 := hide ((unhide HNW).stp st5); have HB5 := hide hb5; have HS5 := hide hs5; clear k5 st5 hb5 hs5 HKS HNW HST HSH
        go_wp2_with fail
        go_loopw [8, 15] (fun v8 v15 wr => ∃ (j m1 : Nat) (s : R) (F : List Nat), v8 = .bool true ∧ v15 = .int .i64 j ∧ j ≤ pn ∧ m1 ≤ m + 5 + j ∧ KS G J wr bh s F m1 ∧ Newer w wr F ∧ HB 2 0 2 s ∧ SV N (cuts tx (k + 1)) os2 s.objs) (fun _ v15 _ => pn - (intOf v15).toNat)
        case atStart => exact ⟨0, m + 5, s5, F5, rfl, rfl, Nat.zero_le _, by omega, unhide K5, unhide N5, unhide HB5, unhide HS5⟩
        case round =>
          obtain ⟨j, m1, s6, F6, rfl, rfl, hj, hm1, hks, hnw, hb, hs⟩ := hrel
          clear K5 N5 HB5 HS5
          by_cases hjlt : j < pn
          · obtain ⟨p, hp, pb, poff, rfl, hpc⟩ := unhide HPX j hjlt
            have q0 := hpc _ hnw.1
            have zj : (j : Int) < (pn : Int) := by omega
            obtain ⟨x, t1, t2, t3, f1, f2, f3, hb7, hs7, hu7⟩ := sv_waste hb hs (k := pickQ p 17) (by have := pickQ_lt p (n := 17) (by omega); omega)
            have hwa := fun wr (hks : KS G J wr bh s6 F6 m1) => waste_any hP hks (by omega) p hp f1 f2 f3
            have hup := hu7 m1 hks.up
            have HKS := hide hks; have HNW := hide hnw; have HWA := hide hwa; have HUP := hide hup; have HB7 := hide hb7; have HS7 := hide hs7
            clear hks hnw hb hs hwa hup hb7 hs7 hu7 f1 f2 f3 hpc hp
            go_wp2_with fail
            refine (unhide HWA _ (unhide HKS)).mono ?_
            rintro e w7 ⟨F7, rfl, k7, st7⟩
            have K7 := hide (k7.up_of (unhide HUP)); have N7 := hide ((unhide HNW).stp st7); clear k7 st7 q0 HKS HNW HWA HUP
            go_wp2
            go_roundw
            case rel => exact ⟨j + 1, m1 + 1, t3, F7, rfl, by go_num, by omega, by omega, unhide K7, unhide N7, unhide HB7, unhide HS7⟩
            case measure => simp [intOf]; omega
          · have hje : j = pn := by omega
            have zj : ¬ (j : Int) < (pn : Int) := by omega
            have HKS := hide hks; have HNW := hide hnw; have HBB := hide hb; have HS := hide hs; clear hks hnw hb hs
            go_wp2
            go_roundw
            case rel => exact ⟨k + 1, m1, s6, F6, os2, rfl, by go_num, by omega, by omega, unhide HKS, unhide HNW, unhide HBB, unhide HS, unhide HO2⟩
            case measure => simp [intOf]; omega
      · have zk : ¬ (k : Int) < (N : Int) := by omega
        have HKS := hide hks; have HNW := hide hnw; have HBB := hide hb; have HS := hide hs; have HOL := hide hol; clear hks hnw hb hs hol
        go_wp2_with fail
        go_loopw [8, 16] (fun _ v16 wr => ∃ (j m1 : Nat) (s : R) (F : List Nat), v16 = .int .i64 j ∧ j ≤ N ∧ m1 ≤ m + 4 * j ∧ KS G J wr bh s F m1 ∧ Newer w wr F ∧ HB 2 0 2 s ∧ SV N (cuts tx k) os s.objs) (fun _ v16 _ => N - (intOf v16).toNat)
        case atStart => exact ⟨0, m, s, F, rfl, Nat.zero_le _, by omega, unhide HKS, unhide HNW, unhide HBB, unhide HS⟩
        case round =>
          obtain ⟨j, m1, s6, F6, rfl, hj, hm1, hks, hnw, hb, hs⟩ := hrel
          clear HKS HNW HBB HS
          by_cases hjlt : j < N
          · obtain ⟨u, hu, tb, toff, rfl, htc⟩ := unhide HTX j hjlt
            have q0 := htc _ hnw.1
            have zj : (j : Int) < (N : Int) := by omega
            have hth := fun wr (hks : KS G J wr bh s6 F6 m1) => there_any hP hks (by omega) hb hs (i := j) (by rw [unhide HOL]; omega) (shortQ u 24) (cuts_at hu (by omega))
            have HKS := hide hks; have HNW := hide hnw; have HTH := hide hth; have HSH := hide (fun w => short_any u 24 w (by omega))
            clear hks hnw hb hs hth hu htc
            generalize shortQ u 24 = su at *
            go_wp2_with fail
            refine (unhide HSH _).mono ?_
            rintro e w4 ⟨rfl, hw4⟩
            subst hw4
            clear q0
            go_wp2_with fail
            refine (unhide HTH _ (unhide HKS)).mono ?_
            rintro e w5 ⟨s5, F5, rfl, k5, st5, hb5, hs5⟩
            have K5 := hide k5; have N5 := hide ((unhide HNW).stp st5); have HB5 := hide hb5; have HS5 := hide hs5; clear k5 st5 hb5 hs5 HKS HNW HTH HSH
            go_wp2
            go_roundw
            case rel => exact ⟨j + 1, m1 + 4, s5, F5, by go_num, by omega, by omega, unhide K5, unhide N5, unhide HB5, unhide HS5⟩
            case measure => simp [intOf]; omega
          · have zj : ¬ (j : Int) < (N : Int) := by omega
            have HNW := hide hnw; clear hks hnw hb hs
            go_wp2
            go_ret
            exact ⟨rfl, (unhide HNW).1⟩
end Go.Proofs.Ytfoncalkgmeklab
