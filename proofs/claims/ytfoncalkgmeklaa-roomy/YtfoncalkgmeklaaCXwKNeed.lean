/- gripkeep's need: how many words a call asks for. -/
import Derived.Test.YtfoncalkgmeklaaCXwKReach
import Derived.Test.YtfoncalkgmeklaaXwM42
namespace Go.Proofs.Ytfoncalkgmeklaa
open Go.RowKit

theorem head_zero {s : R} (h : RAll s) : I64 (headQ s.words 0) := by
  cases hr : s.row with
  | nil =>
    have : s.words = [] := by unfold R.words; rw [hr]; rfl
    rw [this]
    simp [headQ]
    exact i64_0
  | cons i r =>
    have hm : i ∈ s.row := by rw [hr]; simp
    have hp : placeOf s.objs i s.row = 0 := by rw [hr]; simp [placeOf]
    have := head_obj h hm
    rwa [hp] at this
set_option maxRecDepth 100000 in
set_option maxHeartbeats 8000000 in
theorem need_any {G : World → Nat → R → List Nat → Prop} {J : R → Prop} (hP : KP G J) {w : World} {bh m : Nat} {s : R} {F : List Nat} (hk : KS G J w bh s F m) (hm : m ≤ 1125899906842624) (hd : s.dead = false) (o : LOp) (ho : o.Ok) :
    Calls Try.prog 12 #[.pointer (some ⟨bh, 0, none⟩), o.val] w fun e w' => ∃ F', e = .returned (.int .i64 (needQ s o)) ∧ KS G J w' bh s F' m ∧ Stp F w F' w' := by
  obtain ⟨kind, x, y, k, v, t⟩ := o
  have hA := hk.all
  have hx : I64 x := ho.x
  have hy : I64 y := ho.y
  obtain ⟨hx1, hx2⟩ := id hx
  have hch : Chg [] w (w.alloc (.cells (LOp.cells ⟨kind, x, y, k, v, t⟩).toArray 35)) := (Chg.refl [] w).alloc _
  have hkw := hk.chg hP hch (by simp)
  have hbw : Beside (w.alloc (.cells (LOp.cells ⟨kind, x, y, k, v, t⟩).toArray 35)) w.heap.size (LOp.cells ⟨kind, x, y, k, v, t⟩) 35 F := ⟨Blk.new w _ _, fun hm => by have := hk.lt _ hm; omega⟩
  have HK := hide hkw; have HC := hide hch; have HA := hide hA; have HX := hide hx; have HY := hide hy; have HBW := hide hbw
  unfold LOp.val
  clear hk hkw hch hA hx hy ho hbw
  by_cases k1 : kind = 1
  · subst k1
    have en : needQ s ⟨1, x, y, k, v, t⟩ = if 0 ≤ x ∧ x ≤ 16 then countQ 1 x else -1 := rfl
    rw [en]
    by_cases h0 : 0 ≤ x
    · by_cases h1 : x ≤ 16
      · rw [if_pos ⟨h0, h1⟩]
        have hcc := fun w => count_any 1 x w h0 (by omega)
        have HCC := hide hcc; clear hcc en
        go_enter Try.func12, Try.ntmps12
        go_wp2_with (go_at_call 47; refine (unhide HCC _).mono ?_; rintro e w2 ⟨rfl, hw2⟩; have hw3 := hw2.symm; clear hw2; subst hw3)
        go_ret
        first | exact ⟨F, rfl, unhide HK, Stp.of_chg (unhide HC)⟩ | exact ⟨rfl, F, unhide HK, Stp.of_chg (unhide HC)⟩
      · rw [if_neg (by omega)]
        clear en
        go_enter Try.func12, Try.ntmps12
        go_wp2
        go_ret
        first | exact ⟨F, rfl, unhide HK, Stp.of_chg (unhide HC)⟩ | exact ⟨rfl, F, unhide HK, Stp.of_chg (unhide HC)⟩
    · rw [if_neg (by omega)]
      clear en
      go_enter Try.func12, Try.ntmps12
      go_wp2
      go_ret
      first | exact ⟨F, rfl, unhide HK, Stp.of_chg (unhide HC)⟩ | exact ⟨rfl, F, unhide HK, Stp.of_chg (unhide HC)⟩
  by_cases k3 : kind = 3
  · subst k3
    have en : needQ s ⟨3, x, y, k, v, t⟩ = if 0 ≤ x ∧ x ≤ 8 then countQ 3 x else -1 := rfl
    rw [en]
    by_cases h0 : 0 ≤ x
    · by_cases h1 : x ≤ 8
      · rw [if_pos ⟨h0, h1⟩]
        have hcc := fun w => count_any 3 x w h0 (by omega)
        have HCC := hide hcc; clear hcc en
        go_enter Try.func12, Try.ntmps12
        go_wp2_with (go_at_call 47; refine (unhide HCC _).mono ?_; rintro e w2 ⟨rfl, hw2⟩; have hw3 := hw2.symm; clear hw2; subst hw3)
        go_ret
        first | exact ⟨F, rfl, unhide HK, Stp.of_chg (unhide HC)⟩ | exact ⟨rfl, F, unhide HK, Stp.of_chg (unhide HC)⟩
      · rw [if_neg (by omega)]
        clear en
        go_enter Try.func12, Try.ntmps12
        go_wp2
        go_ret
        first | exact ⟨F, rfl, unhide HK, Stp.of_chg (unhide HC)⟩ | exact ⟨rfl, F, unhide HK, Stp.of_chg (unhide HC)⟩
    · rw [if_neg (by omega)]
      clear en
      go_enter Try.func12, Try.ntmps12
      go_wp2
      go_ret
      first | exact ⟨F, rfl, unhide HK, Stp.of_chg (unhide HC)⟩ | exact ⟨rfl, F, unhide HK, Stp.of_chg (unhide HC)⟩
  by_cases k2 : kind = 2
  · subst k2
    have en : needQ s ⟨2, x, y, k, v, t⟩ = if t.size ≤ 64 then countQ 2 t.size else -1 := rfl
    rw [en]
    by_cases h0 : t.size ≤ 64
    · rw [if_pos h0]
      have h1 : (t.size : Int) ≤ 64 := by omega
      have hcc := fun w => count_any 2 (t.size : Int) w (by omega) (by omega)
      have HCC := hide hcc; clear hcc en h0
      go_enter Try.func12, Try.ntmps12
      go_wp2_with (go_at_call 47; refine (unhide HCC _).mono ?_; rintro e w2 ⟨rfl, hw2⟩; have hw3 := hw2.symm; clear hw2; subst hw3)
      go_ret
      first | exact ⟨F, rfl, unhide HK, Stp.of_chg (unhide HC)⟩ | exact ⟨rfl, F, unhide HK, Stp.of_chg (unhide HC)⟩
    · rw [if_neg h0]
      have h1 : ¬ (t.size : Int) ≤ 64 := by omega
      clear en h0
      go_enter Try.func12, Try.ntmps12
      go_wp2
      go_ret
      first | exact ⟨F, rfl, unhide HK, Stp.of_chg (unhide HC)⟩ | exact ⟨rfl, F, unhide HK, Stp.of_chg (unhide HC)⟩
  by_cases k22 : kind = 22
  · subst k22
    have en : needQ s ⟨22, x, y, k, v, t⟩ = if (s.textQ x).2 = 0 ∧ (s.textQ y).2 = 0 ∧ (s.textQ x).1.size + (s.textQ y).1.size ≤ 64 then countQ 2 (((s.textQ x).1.size + (s.textQ y).1.size : Nat) : Int) else -1 := rfl
    rw [en]
    have hz : ∀ z, (s.textQ z).1.size ≤ 64 := fun z => by
      unfold R.textQ
      split
      · split
        · unfold R.objOf
          simp only [List.getD]
          cases hh : s.objs[(s.look1 z).1]? with
          | none => exact Nat.zero_le _
          | some ob => exact text_fit (unhide HA).ok ob (List.mem_of_getElem? hh)
        · exact Nat.zero_le _
      · exact Nat.zero_le _
    have z1 := hz x
    have z2 := hz y
    have ex : s.textQ x = ((s.textQ x).1, (s.textQ x).2) := rfl
    have ey : s.textQ y = ((s.textQ y).1, (s.textQ y).2) := rfl
    generalize (s.textQ x).1 = tx at *
    generalize (s.textQ y).1 = ty at *
    generalize (s.textQ x).2 = ux at *
    generalize (s.textQ y).2 = uy at *
    have EX := hide ex; have EY := hide ey; clear ex ey en hz
    generalize hnq : (if ux = 0 ∧ uy = 0 ∧ tx.size + ty.size ≤ 64 then countQ 2 ((tx.size + ty.size : Nat) : Int) else -1) = nq
    have HNQ := hide hnq; clear hnq
    have c1 := (unhide HBW).1.cell_of (i := 1) rfl
    go_enter Try.func12, Try.ntmps12
    clear c1
    go_wp2_with fail
    refine ((unhide HK).text hP hm x (unhide HX) (unhide EX)).mono ?_
    rintro e w2 ⟨F2, rfl, k2, st2⟩
    have b2 := (unhide HBW).stp st2
    generalize w.heap.size = g at *
    have c2 := b2.1.cell_of (i := 2) rfl
    have K2 := hide k2; have ST2 := hide (st2.pre (unhide HC)); clear k2 st2 b2 HK HBW EX
    go_wp2_with fail
    refine ((unhide K2).text hP hm y (unhide HY) (unhide EY)).mono ?_
    rintro e w3 ⟨F3, rfl, k3, st3⟩
    have K3 := hide k3; have ST3 := hide ((unhide ST2).trans st3); clear k3 st3 K2 ST2 EY c2
    by_cases u1 : ux = 0
    · subst u1
      by_cases u2 : uy = 0
      · subst u2
        by_cases hb : tx.size + ty.size ≤ 64
        · have hbi : (tx.size : Int) + (ty.size : Int) ≤ 64 := by omega
          have hnq := unhide HNQ
          rw [if_pos ⟨rfl, rfl, hb⟩] at hnq
          subst hnq
          have hcc := fun w => count_any 2 ((tx.size : Int) + (ty.size : Int)) w (by omega) (by omega)
          rw [show (tx.size : Int) + (ty.size : Int) = ((tx.size + ty.size : Nat) : Int) from by omega] at hcc
          have HCC := hide hcc; clear hcc
          go_wp2_with (go_at_call 47; refine (unhide HCC _).mono ?_; rintro e w4 ⟨rfl, hw4⟩; have hw5 := hw4.symm; clear hw4; subst hw5)
          go_ret
          first | exact ⟨F3, rfl, unhide K3, unhide ST3⟩ | exact ⟨rfl, F3, unhide K3, unhide ST3⟩
        · have hbi : ¬ (tx.size : Int) + (ty.size : Int) ≤ 64 := by omega
          have hnq := unhide HNQ
          rw [if_neg (fun h => hb h.2.2)] at hnq
          subst hnq
          go_wp2
          go_ret
          first | exact ⟨F3, rfl, unhide K3, unhide ST3⟩ | exact ⟨rfl, F3, unhide K3, unhide ST3⟩
      · have n2 : (uy == 0) = false := by simp [u2]
        have hnq := unhide HNQ
        rw [if_neg (fun h => u2 h.2.1)] at hnq
        subst hnq
        clear u2
        go_wp2
        go_ret
        first | exact ⟨F3, rfl, unhide K3, unhide ST3⟩ | exact ⟨rfl, F3, unhide K3, unhide ST3⟩
    · have n1 : (ux == 0) = false := by simp [u1]
      have hnq := unhide HNQ
      rw [if_neg (fun h => u1 h.1)] at hnq
      subst hnq
      clear u1
      go_wp2
      go_ret
      first | exact ⟨F3, rfl, unhide K3, unhide ST3⟩ | exact ⟨rfl, F3, unhide K3, unhide ST3⟩
  by_cases k23 : kind = 23
  · subst k23
    have en : needQ s ⟨23, x, y, k, v, t⟩ = if (s.placeQ x).2 = 0 then (sizedQ s.words (s.placeQ x).1).2.2.1 else -1 := rfl
    rw [en]
    have hfit : s.words.length ≤ 512 := words_fit (unhide HA)
    have hwq : s.wordsQ = s.words := by simp [R.wordsQ, hd]
    have hwe : s.wordsE = 0 := by simp [R.wordsE, hd]
    have hpl : ((s.placeQ x).2 = 0 → (sizedQ s.words (s.placeQ x).1).2.2.2 = true) ∧ I64 (s.placeQ x).1 ∧ I64 (headQ s.words (s.placeQ x).1) := by
      by_cases h0 : (s.placeQ x).2 = 0
      · obtain ⟨t', ht, e⟩ := place_ok (unhide HA) h0
        rw [e]
        have hbd := place_bd (unhide HA) ht
        have ow := (words_bd ((unhide HA).ok.osh (objOf_mem ((unhide HA).ok.inv.rows _ ht))).kind).1
        exact ⟨fun _ => by rw [sized_obj (unhide HA) ht], ⟨by omega, by omega⟩, head_obj (unhide HA) ht⟩
      · have e : (s.placeQ x).1 = 0 := by
          unfold R.placeQ at h0 ⊢
          split
          · rename_i hh; rw [if_pos hh] at h0; exact absurd rfl h0
          · rfl
        rw [e]
        exact ⟨fun h => absurd h h0, i64_0, head_zero (unhide HA)⟩
    obtain ⟨q1, q2, q3⟩ := hpl
    have ep : s.placeQ x = ((s.placeQ x).1, (s.placeQ x).2) := rfl
    generalize (s.placeQ x).1 = pl at *
    generalize (s.placeQ x).2 = er at *
    have EP := hide ep; have Q2 := hide q2; have Q3 := hide q3; clear ep q2 q3 en
    generalize hnq : (if er = 0 then (sizedQ s.words pl).2.2.1 else -1) = nq
    have HNQ := hide hnq; clear hnq
    go_enter Try.func12, Try.ntmps12
    go_wp2_with fail
    refine ((unhide HK).place hP hm x (unhide HX) (unhide EP)).mono ?_
    rintro e w2 ⟨F2, rfl, k2, st2⟩
    have K2 := hide k2; have ST2 := hide (st2.pre (unhide HC)); clear k2 st2 HK HBW EP HC
    go_wp2_with fail
    refine ((unhide K2).words hP hm).mono ?_
    rintro e w3 ⟨la, n, lc, rfl, o3, k3⟩
    rw [hwq] at o3
    rw [hwe]
    have hsz := sized_any la n lc s.words pl w3 o3.len (by have := o3.len; omega) (unhide Q2) o3.at (unhide Q3)
    have K3 := hide k3; have ST3 := hide ((unhide ST2).trans (Stp.of_chg o3.chg)); have HSZ := hide hsz; clear k3 o3 hsz K2 ST2
    generalize sizedQ s.words pl = r at *
    obtain ⟨r1, r2, r3, r4⟩ := r
    simp only [sizedV] at HSZ
    simp only at q1
    go_wp2_with fail
    refine (unhide HSZ).mono ?_
    rintro e w4 ⟨rfl, hw4⟩
    subst hw4
    by_cases he : er = 0
    · subst he
      have q4 := q1 rfl
      subst q4
      have hnq := unhide HNQ
      rw [if_pos rfl] at hnq
      subst hnq
      go_wp2
      go_ret
      first | exact ⟨F2, rfl, unhide K3, unhide ST3⟩ | exact ⟨rfl, F2, unhide K3, unhide ST3⟩
    · have ne : (er == 0) = false := by simp [he]
      have hnq := unhide HNQ
      rw [if_neg he] at hnq
      subst hnq
      clear he q1
      go_wp2
      go_ret
      first | exact ⟨F2, rfl, unhide K3, unhide ST3⟩ | exact ⟨rfl, F2, unhide K3, unhide ST3⟩
  · have en : needQ s ⟨kind, x, y, k, v, t⟩ = -1 := by
      unfold needQ
      simp [k1, k2, k3, k22, k23]
    rw [en]
    have n1 : (kind == 1) = false := by simp [k1]
    have n2 : (kind == 2) = false := by simp [k2]
    have n3 : (kind == 3) = false := by simp [k3]
    have n22 : (kind == 22) = false := by simp [k22]
    have n23 : (kind == 23) = false := by simp [k23]
    clear k1 k2 k3 k22 k23 en
    go_enter Try.func12, Try.ntmps12
    go_wp2
    go_ret
    first | exact ⟨F, rfl, unhide HK, Stp.of_chg (unhide HC)⟩ | exact ⟨rfl, F, unhide HK, Stp.of_chg (unhide HC)⟩
end Go.Proofs.Ytfoncalkgmeklaa
