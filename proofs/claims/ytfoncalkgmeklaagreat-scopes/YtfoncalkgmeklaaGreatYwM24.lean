import Derived.Test.YtfoncalkgmeklaaGreatYwM23

/- Same, Get, Set of the program. -/
namespace Go.Proofs.YtfoncalkgmeklaaGreat
open Go.RowKit
variable {fx : Fx}

theorem same_eq {s : R} (hd : s.dead = false) (x y : Int) : s.sameQ x y = if (s.look1 x).2 = 0 then (if (s.look1 y).2 = 0 then ((s.look1 x).1 == (s.look1 y).1, 0) else (false, (s.look1 y).2)) else (false, (s.look1 x).2) := by
  have h1 := look1_eq s x
  have h2 := look1_eq s y
  rw [hd] at h1 h2
  unfold R.sameQ R.two
  unfold R.look
  rw [hd, h1, h2]
  cases hx : s.find? x <;> cases hy : s.find? y <;> simp [R.badValue, R.stale, hy]
set_option maxHeartbeats 1000000 in
theorem p_same {bh : Nat} {s : R} (x y : Int) (hd : s.dead = false) (ha : RAll s) (hx : x ≤ 9223372036854775807) (hy : y ≤ 9223372036854775807) : PCall (G fx) 45 bh [.int .i64 x, .int .i64 y] s (.bool (s.sameQ x y).1) (s.sameQ x y).2 s := by
  refine pcall_read fun w F hg => ?_
  have hf := gripFind_any x hg hd ha hx
  have hf2 := gripFind_any y hg hd ha hy
  show Calls Tryz.prog 45 #[.pointer (some ⟨bh, 0, none⟩), .int .i64 x, .int .i64 y] w _
  rw [same_eq hd]
  by_cases h0 : (s.look1 x).2 = 0
  · rw [if_pos h0]
    obtain ⟨h1, h2⟩ := look_place ha h0
    rw [h0] at hf
    by_cases k0 : (s.look1 y).2 = 0
    · rw [if_pos k0]
      obtain ⟨k1, k2⟩ := look_place ha k0
      rw [k0] at hf2
      have hpq : ((s.look1 x).1 == (s.look1 y).1) = (s.placeE x == s.placeE y) := by
        rw [h1, k1]
        by_cases he : (s.look1 x).1 = (s.look1 y).1
        · rw [he]; simp
        · have hne : placeOf s.objs (s.look1 x).1 s.row ≠ placeOf s.objs (s.look1 y).1 s.row := fun e => he (place_inj ha h2 k2 ha.ok.inv.rows e)
          rw [beq_false_of_ne he, beq_false_of_ne hne]
      rw [hpq]
      generalize s.placeE x = p at *
      generalize s.placeE y = q at *
      have HF := hide hf; have HF2 := hide hf2; clear hf hf2 hg h0 h1 h2 k0 k1 k2 hpq
      go_enter Tryz.func45, Tryz.ntmps45
      go_wp2_with fail
      refine (unhide HF).mono ?_
      rintro e w1 ⟨rfl, rfl⟩
      go_wp2_with fail
      refine (unhide HF2).mono ?_
      rintro e w2 ⟨rfl, rfl⟩
      go_wp2
      go_ret2
      exact ⟨rfl, rfl⟩
    · rw [if_neg k0]
      generalize (s.look1 y).2 = er at *
      have hne : (er != 0) = true := by simp [k0]
      generalize s.placeE x = p at *
      generalize s.placeE y = q at *
      have HF := hide hf; have HF2 := hide hf2; clear hf hf2 hg h0 h1 h2 k0
      go_enter Tryz.func45, Tryz.ntmps45
      go_wp2_with fail
      refine (unhide HF).mono ?_
      rintro e w1 ⟨rfl, rfl⟩
      go_wp2_with fail
      refine (unhide HF2).mono ?_
      rintro e w2 ⟨rfl, rfl⟩
      go_wp2
      go_ret2
      exact ⟨rfl, rfl⟩
  · rw [if_neg h0]
    generalize (s.look1 x).2 = er at *
    have hne : (er != 0) = true := by simp [h0]
    generalize s.placeE x = p at *
    have HF := hide hf; clear hf hf2 hg h0
    go_enter Tryz.func45, Tryz.ntmps45
    go_wp2_with fail
    refine (unhide HF).mono ?_
    rintro e w1 ⟨rfl, rfl⟩
    go_wp2
    go_ret2
    exact ⟨rfl, rfl⟩

/-- A call that answers noughts and an error, its result in a variable that lies at the first new block. -/
theorem zero_ret (w : World) (T : TypeId) : ((w.alloc (.cells #[.int .i64 0, .int .i64 0] T)).cell? ⟨w.heap.size, 0, none⟩ = some (.int .i64 0)) ∧ ((w.alloc (.cells #[.int .i64 0, .int .i64 0] T)).cell? ⟨w.heap.size, 1, none⟩ = some (.int .i64 0)) :=
  ⟨(Blk.new w [.int .i64 0, .int .i64 0] T).cell_of rfl, (Blk.new w [.int .i64 0, .int .i64 0] T).cell_of rfl⟩
set_option maxRecDepth 100000 in
set_option maxHeartbeats 2000000 in
theorem p_get {bh : Nat} {s : R} (x i : Int) (hd : s.dead = false) (ha : RAll s) {m : Nat} (hu : RUp m s) (hm : m ≤ 3298534883328) (hx : x ≤ 9223372036854775807) : PCall (G fx) 48 bh [.int .i64 x, .int .i64 i] s (.agg #[.int .i64 (s.getQ x i).1.1, .int .i64 (s.getQ x i).1.2]) (s.getQ x i).2.1 (s.getQ x i).2.2 := by
  intro w F hg
  have hc0 : Chg [] w (w.alloc (.cells #[.int .i64 0, .int .i64 0] 33)) := (Chg.refl [] w).alloc _
  have hg0 := stays_G [] _ _ _ _ _ hg hc0 (by simp)
  have hf := gripFindKind_any x 1 hg0 hd ha hx
  show Calls Tryz.prog 48 #[.pointer (some ⟨bh, 0, none⟩), .int .i64 x, .int .i64 i] w _
  have bad : ∀ (er : Int), er ≠ 0 → s.getQ x i = ((0, 0), er, s) → (∃ p, Calls Tryz.prog 87 #[.pointer (some ⟨bh, 0, none⟩), .int .i64 x, .int .i64 1] (w.alloc (.cells #[.int .i64 0, .int .i64 0] 33)) fun e w' => e = .returned (.tuple #[.int .i64 p, .int .i64 er]) ∧ w' = w.alloc (.cells #[.int .i64 0, .int .i64 0] 33)) →
      Calls Tryz.prog 48 #[.pointer (some ⟨bh, 0, none⟩), .int .i64 x, .int .i64 i] w fun e w' => ∃ F', e = .returned (.tuple #[.agg #[.int .i64 (s.getQ x i).1.1, .int .i64 (s.getQ x i).1.2], .int .i64 (s.getQ x i).2.1]) ∧ (G fx) w' bh (s.getQ x i).2.2 F' ∧ (∀ b ∈ F', b < w'.heap.size) ∧ Stp F w F' w' := by
    rintro er h0 hq ⟨p, hc⟩
    rw [hq]
    have hne : (er != 0) = true := by simp [h0]
    have HC := hide hc; have HG := hide hg0; have HC0 := hide hc0; clear hc hq h0 hf hg hg0 hc0
    go_enter Tryz.func48, Tryz.ntmps48
    go_wp2_with fail
    refine (unhide HC).mono ?_
    rintro e w1 ⟨rfl, rfl⟩
    go_wp2
    exact bodyPost_ret (v := .tuple #[.agg #[.int .i64 0, .int .i64 0], .int .i64 er]) (by simp [results, Tryz.results48, go_sem]) rfl ⟨F, rfl, unhide HG, G_lt (unhide HG), ⟨(unhide HC0).mono (by simp), fun _ h => .inl h⟩⟩
  have hel : s.element x i (0, 0) = if (s.look1 x).2 = 0 then (if (s.objOf (s.look1 x).1).kind = 1 then (if i < 0 ∨ (s.objOf (s.look1 x).1).size ≤ i then (0, 7) else ((s.look1 x).1, 0)) else (0, 5)) else (0, (s.look1 x).2) := rfl
  by_cases h0 : (s.look1 x).2 = 0
  · by_cases hk : (s.objOf (s.look1 x).1).kind = 1
    · obtain ⟨h1, h2⟩ := look_place ha h0
      have ho := ha.ok.osh (objOf_mem (ha.ok.inv.rows _ h2))
      have hpb := place_bd ha h2
      have hob := (words_bd ho.kind).1
      obtain ⟨b1, b2, b3, b4⟩ := head_bd ho
      rw [if_pos ⟨h0, hk⟩, if_pos h0, if_pos hk] at hf
      obtain ⟨p, hp⟩ : ∃ p : Nat, placeOf s.objs (s.look1 x).1 s.row = (p : Int) := ⟨_, (Int.toNat_of_nonneg hpb.1).symm⟩
      obtain ⟨sl, a, c, hmb, rfl, hl, hs⟩ := G_live hg0 hd
      have harr := ho.arr hk
      have hgetm := memGet_any (u := ((s.objOf (s.look1 x).1).vals.getD i.toNat (0, 0)).1) (v := s.outW ((s.objOf (s.look1 x).1).vals.getD i.toNat (0, 0))) p i hmb.mem (by have := words_fit ha; omega) (by omega) (by rw [← hp]; exact word_head ha h2) b1 b4 (by have := ho.kind; omega) (fun hi => by
        have := word_val ha h2 (j := i.toNat) (by omega)
        rw [hp, show headLen (s.objOf (s.look1 x).1) = 1 from by simp [headLen, hk]] at this
        rw [show (p : Int) + ((1 + 2 * i.toNat : Nat) : Int) = (p : Int) + 1 + 2 * i by omega, show (p : Int) + ((1 + 2 * i.toNat + 1 : Nat) : Int) = (p : Int) + 1 + 2 * i + 1 by omega] at this
        exact this)
      rw [hp] at hf
      by_cases hi : 0 ≤ i ∧ i < (s.objOf (s.look1 x).1).size
      · have hq : s.getQ x i = s.outer ((s.objOf (s.look1 x).1).vals.getD i.toNat (0, 0)) := by
          have hel' : s.element x i (0, 0) = ((s.look1 x).1, 0) := by rw [hel, if_pos h0, if_pos hk, if_neg (by omega)]
          unfold R.getQ
          rw [hel']
          simp
        rw [if_pos hi, show decide (0 ≤ i ∧ i < (s.objOf (s.look1 x).1).size) = true from by simp; omega] at hgetm
        rw [hq]
        generalize (s.objOf (s.look1 x).1).vals.getD i.toNat (0, 0) = v at *
        have hout : Hid (∀ w2, Chg [] w w2 → Calls Tryz.prog 90 #[.pointer (some ⟨bh, 0, none⟩), .agg #[.int .i64 v.1, .int .i64 (s.outW v)]] w2 fun e w' => ∃ F', e = .returned (.tuple #[.agg #[.int .i64 (s.outer v).1.1, .int .i64 (s.outer v).1.2], .int .i64 (s.outer v).2.1]) ∧ (G fx) w' bh (s.outer v).2.2 F' ∧ Stp (bh :: ab a) w2 F' w') := fun w2 k => gripOutward_any v (stays_G [] _ _ _ _ _ hg k (by simp)) hd hu hm
        have hFlt : ∀ b ∈ bh :: ab a, b < w.heap.size := G_lt hg
        generalize s.outW v = ov at *
        generalize s.outer v = r at *
        have HF := hide hf; have HGM := hide hgetm; have HC0 := hide hc0; have HFL := hide hFlt; have HB := hide (Blk.new w [.int .i64 0, .int .i64 0] 33)
        clear hf hgetm hmb hs hg hg0 h0 h1 h2 ho hpb hob b1 b2 b3 b4 hp harr hi hq hel bad hk hc0 hFlt
        go_enter Tryz.func48, Tryz.ntmps48
        go_wp2_with fail
        refine (unhide HF).mono ?_
        rintro e w1 ⟨rfl, rfl⟩
        go_wp2_with fail
        refine (unhide HGM).mono ?_
        rintro e w2 ⟨rfl, hc2⟩
        have hch2 : Chg [] w (w2.alloc (.cells #[.int .i64 v.1, .int .i64 ov] 121)) := ((unhide HC0).trans hc2).alloc _
        have hcall := unhide hout _ hch2
        have hb2 := ((unhide HB).chg hc2 (by simp)).alloc (.cells #[.int .i64 v.1, .int .i64 ov] 121)
        have HCL := hide hcall; have HB2 := hide hb2; have HCH2 := hide hch2; clear hcall hb2 hch2 hc2
        go_wp2_with fail
        refine (unhide HCL).mono ?_
        rintro e w3 ⟨F3, rfl, hg3, st3⟩
        have hb3 := (unhide HB2).chg st3.chg (fun hm => by have := unhide HFL _ hm; omega)
        have q0 := hb3.cell_of (i := 0) rfl
        have q1 := hb3.cell_of (i := 1) rfl
        have f0 := hb3.frozen 0
        have f1 := hb3.frozen 1
        have hb4 := (hb3.setCell 0 (.int .i64 r.1.1)).setCell 1 (.int .i64 r.1.2)
        have r0 := hb4.cell_of (i := 0) (v := .int .i64 r.1.1) rfl
        have r1 := hb4.cell_of (i := 1) (v := .int .i64 r.1.2) rfl
        have k4 : Chg [w.heap.size] w3 ((w3.setCell ⟨w.heap.size, 0, none⟩ (.int .i64 r.1.1)).setCell ⟨w.heap.size, 1, none⟩ (.int .i64 r.1.2)) := ((Chg.refl _ w3).setCell (.inl (by simp)) _).setCell (.inl (by simp)) _
        have hnF : ∀ b ∈ F3, b ∉ [w.heap.size] := fun b hb hm => by
          simp at hm
          subst hm
          rcases st3.foot _ hb with h8 | h8
          · have := unhide HFL _ h8; omega
          · have := (unhide HB2).lt; omega
        have hg4 := stays_G [w.heap.size] _ _ _ _ _ hg3 k4 hnF
        have hst : Stp (bh :: ab a) w F3 ((w3.setCell ⟨w.heap.size, 0, none⟩ (.int .i64 r.1.1)).setCell ⟨w.heap.size, 1, none⟩ (.int .i64 r.1.2)) :=
          ⟨Chg.trans_new (((unhide HCH2).mono (by simp)).trans st3.chg) k4 (fun x hx => by simp at hx; right; omega), fun b hb => by
            rcases st3.foot b hb with h8 | h8
            · exact .inl h8
            · exact .inr (Nat.le_trans (unhide HCH2).size h8)⟩
        have R0 := hide r0; have R1 := hide r1; have HG4 := hide hg4; have HST := hide hst; clear hb3 hb4 r0 r1 k4 hg3 hg4 hst st3 hnF
        go_wp2
        have r0 := unhide R0
        have r1 := unhide R1
        exact bodyPost_ret (v := .tuple #[.agg #[.int .i64 r.1.1, .int .i64 r.1.2], .int .i64 r.2.1]) (by simp [results, Tryz.results48, go_sem, r0, r1]) rfl ⟨F3, rfl, unhide HG4, G_lt (unhide HG4), unhide HST⟩
      · have hq : s.getQ x i = ((0, 0), 7, s) := by
          have hel' : s.element x i (0, 0) = (0, 7) := by rw [hel, if_pos h0, if_pos hk, if_pos (by omega)]
          unfold R.getQ
          rw [hel']
          simp
        rw [if_neg hi, show decide (0 ≤ i ∧ i < (s.objOf (s.look1 x).1).size) = false from by simp; omega] at hgetm
        rw [hq]
        have hFlt : ∀ b ∈ bh :: ab a, b < w.heap.size := G_lt hg
        have HF := hide hf; have HGM := hide hgetm; have HC0 := hide hc0; have HG := hide hg; have HB := hide (Blk.new w [.int .i64 0, .int .i64 0] 33)
        clear hf hgetm hmb hs hg hg0 h0 h1 h2 ho hpb hob b1 b2 b3 b4 hp harr hi hq hel bad hk hc0 hFlt
        go_enter Tryz.func48, Tryz.ntmps48
        go_wp2_with fail
        refine (unhide HF).mono ?_
        rintro e w1 ⟨rfl, rfl⟩
        go_wp2_with fail
        refine (unhide HGM).mono ?_
        rintro e w2 ⟨rfl, hc2⟩
        have hch2 : Chg [] w (w2.alloc (.cells #[.int .i64 0, .int .i64 0] 121)) := ((unhide HC0).trans hc2).alloc _
        have hb3 := ((unhide HB).chg hc2 (by simp)).alloc (.cells #[.int .i64 0, .int .i64 0] 121)
        have q0 := hb3.cell_of (i := 0) rfl
        have q1 := hb3.cell_of (i := 1) rfl
        have f0 := hb3.frozen 0
        have f1 := hb3.frozen 1
        have hb4 := (hb3.setCell 0 (.int .i64 0)).setCell 1 (.int .i64 0)
        have r0 := hb4.cell_of (i := 0) (v := .int .i64 0) rfl
        have r1 := hb4.cell_of (i := 1) (v := .int .i64 0) rfl
        have hch4 := Chg.trans_new (S' := [w.heap.size]) hch2 (((Chg.refl _ _).setCell (p := ⟨w.heap.size, 0, none⟩) (.inl (by simp)) (.int .i64 0)).setCell (p := ⟨w.heap.size, 1, none⟩) (.inl (by simp)) (.int .i64 0)) (fun x hx => by simp at hx; right; omega)
        have hg4 := stays_G [] _ _ _ _ _ (unhide HG) hch4 (by simp)
        have R0 := hide r0; have R1 := hide r1; have HG4 := hide hg4; have HCH4 := hide hch4; clear hb3 hb4 r0 r1 hg4 hch2 hch4 hc2
        go_wp2
        have r0 := unhide R0
        have r1 := unhide R1
        exact bodyPost_ret (v := .tuple #[.agg #[.int .i64 0, .int .i64 0], .int .i64 7]) (by simp [results, Tryz.results48, go_sem, r0, r1]) rfl ⟨_, rfl, unhide HG4, G_lt (unhide HG4), ⟨(unhide HCH4).mono (by simp), fun _ h => .inl h⟩⟩
    · rw [if_neg (fun hh => hk hh.2), if_pos h0, if_neg hk] at hf
      refine bad 5 (by omega) ?_ ⟨_, hf⟩
      have hel' : s.element x i (0, 0) = (0, 5) := by rw [hel, if_pos h0, if_neg hk]
      unfold R.getQ
      rw [hel']
      simp
  · rw [if_neg (fun hh => h0 hh.1), if_neg h0] at hf
    refine bad _ h0 ?_ ⟨_, hf⟩
    have hel' : s.element x i (0, 0) = (0, (s.look1 x).2) := by rw [hel, if_neg h0]
    unfold R.getQ
    rw [hel']
    simp [h0]
end Go.Proofs.YtfoncalkgmeklaaGreat

/- Set of the program. -/
namespace Go.Proofs.YtfoncalkgmeklaaGreat
open Go.RowKit
variable {fx : Fx}

theorem look_set {s : R} (hd : s.dead = false) (x : Int) {v : Int × Int} (hv : 0 ≤ v.1 ∧ v.1 ≤ 2) (hl : s.inL v = true) : s.look x (0, 0) v false = s.look1 x := by
  rw [inL_stale hv] at hl
  unfold R.look1 R.look
  rw [hd]
  have h1 : R.badValue (0, 0) v false = false := by simp [R.badValue]; omega
  have h2 : s.stale (0, 0) v = false := by
    simp [R.stale] at hl ⊢
    intro h
    rcases hl with h' | h'
    · exact absurd h h'
    · exact h'
  have h3 : R.badValue (0, 0) (0, 0) false = false := by simp [R.badValue]
  have h4 : s.stale (0, 0) (0, 0) = false := by simp [R.stale]
  rw [h1, h3, h2, h4]
theorem look_bad {s : R} (hd : s.dead = false) (x : Int) {v : Int × Int} (hv : ¬ (0 ≤ v.1 ∧ v.1 ≤ 2)) : s.look x (0, 0) v false = (0, 3) := by
  unfold R.look
  rw [hd]
  have h1 : R.badValue (0, 0) v false = true := by simp [R.badValue]; omega
  rw [h1]
  simp
theorem look_stale {s : R} (hd : s.dead = false) (x : Int) {v : Int × Int} (hv : 0 ≤ v.1 ∧ v.1 ≤ 2) (hl : s.inL v = false) : s.look x (0, 0) v false = (0, 4) := by
  rw [inL_stale hv] at hl
  unfold R.look
  rw [hd]
  have h1 : R.badValue (0, 0) v false = false := by simp [R.badValue]; omega
  have h2 : s.stale (0, 0) v = true := by simp [R.stale] at hl ⊢; exact hl
  rw [h1, h2]
  cases s.find? x <;> simp

set_option maxRecDepth 100000 in
set_option maxHeartbeats 2000000 in
theorem p_set {bh : Nat} {s : R} (x i : Int) (v : Int × Int) (hd : s.dead = false) (ha : RAll s) (hx : x ≤ 9223372036854775807) (hvx : v.2 ≤ 9223372036854775807) : PCall1 (G fx) 54 bh [.int .i64 x, .int .i64 i, .agg #[.int .i64 v.1, .int .i64 v.2]] s (s.setQ x i v).1 (s.setQ x i v).2 := by
  intro w F hg
  have hc0 : Chg [] w (w.alloc (.cells #[.int .i64 v.1, .int .i64 v.2] 33)) := (Chg.refl [] w).alloc _
  show Calls Tryz.prog 54 #[.pointer (some ⟨bh, 0, none⟩), .int .i64 x, .int .i64 i, .agg #[.int .i64 v.1, .int .i64 v.2]] w _
  have hel : s.element x i v = if (s.look x (0, 0) v false).2 = 0 then (if (s.objOf (s.look x (0, 0) v false).1).kind = 1 then (if i < 0 ∨ (s.objOf (s.look x (0, 0) v false).1).size ≤ i then (0, 7) else ((s.look x (0, 0) v false).1, 0)) else (0, 5)) else (0, (s.look x (0, 0) v false).2) := rfl
  have hsq : ∀ er, s.element x i v = (0, er) → er ≠ 0 → s.setQ x i v = (er, s) := fun er h h0 => by unfold R.setQ; rw [h]; simp [h0]
  have hisv := isValue_any v (w.alloc (.cells #[.int .i64 v.1, .int .i64 v.2] 33))
  have hbx : Blk (w.alloc (.cells #[.int .i64 v.1, .int .i64 v.2] 33)) w.heap.size [.int .i64 v.1, .int .i64 v.2] 33 := Blk.new w [.int .i64 v.1, .int .i64 v.2] _
  have hdead : ∀ w', Chg [] w w' → w'.cell? ⟨bh, 0, none⟩ = some (.bool false) := fun w' k => by
    obtain ⟨sl, a, c, hmb, _⟩ := G_live hg hd
    exact (hmb.chg k (by simp) (by simp)).blk.cell_of (i := 0) rfl
  have d0 := hdead _ (Chg.refl [] w)
  have hFlt := G_lt hg
  have hblt : bh < w.heap.size := cell_lt d0
  by_cases hv : 0 ≤ v.1 ∧ v.1 ≤ 2
  · rw [show decide (v.1 = 0 ∨ v.1 = 1 ∨ v.1 = 2) = true from by simp; omega] at hisv
    cases hil : s.inL v with
    | false =>
      have hq := hsq 4 (by rw [hel, look_stale hd x hv hil]; simp) (by omega)
      rw [hq]
      have hin : Hid (∀ w1, Chg [] w w1 → Calls Tryz.prog 98 #[.pointer (some ⟨bh, 0, none⟩), .agg #[.int .i64 v.1, .int .i64 v.2]] w1 fun e w' => e = .returned (.tuple #[.agg #[.int .i64 (s.inW v).1, .int .i64 (s.inW v).2], .bool false]) ∧ Chg [] w1 w') := fun w1 k => by
        have := gripInward_any v (stays_G [] _ _ _ _ _ hg k (by simp)) hd ha hvx
        rw [hil] at this
        exact this
      generalize s.inW v = iw at *
      have HV := hide hisv; have HG := hide hg; have HC0 := hide hc0; have HBX := hide hbx; clear hisv hg hc0 hq hsq hel hil hbx hdead hFlt hv
      go_enter Tryz.func54, Tryz.ntmps54
      go_wp2_with fail
      refine (unhide HV).mono ?_
      rintro e w1 ⟨rfl, hc1⟩
      have hb1 := (unhide HBX).chg hc1 (by simp)
      have q0 := hb1.cell_of (i := 0) rfl
      have q1 := hb1.cell_of (i := 1) rfl
      have hch1 := (unhide HC0).trans hc1
      have hcall := unhide hin w1 hch1
      have HCL := hide hcall; have HCH1 := hide hch1; clear hcall hch1 hc1 hb1
      go_wp2_with fail
      refine (unhide HCL).mono ?_
      rintro e w2 ⟨rfl, hc2⟩
      have hg3 := stays_G [] _ _ _ _ _ (unhide HG) (((unhide HCH1).trans hc2).alloc (.cells #[.int .i64 iw.1, .int .i64 iw.2] 121)) (by simp)
      have HG3 := hide hg3; have HCH3 := hide (((unhide HCH1).trans hc2).alloc (.cells #[.int .i64 iw.1, .int .i64 iw.2] 121)); clear hg3 hc2 q0 q1
      go_wp2
      go_ret
      exact ⟨F, rfl, unhide HG3, G_lt (unhide HG3), ⟨(unhide HCH3).mono (by simp), fun _ h => .inl h⟩⟩
    | true =>
      have hlk := look_set hd x hv hil
      rw [hlk] at hel
      have hin : Hid (∀ w1, Chg [] w w1 → Calls Tryz.prog 98 #[.pointer (some ⟨bh, 0, none⟩), .agg #[.int .i64 v.1, .int .i64 v.2]] w1 fun e w' => e = .returned (.tuple #[.agg #[.int .i64 (s.inW v).1, .int .i64 (s.inW v).2], .bool true]) ∧ Chg [] w1 w') := fun w1 k => by
        have := gripInward_any v (stays_G [] _ _ _ _ _ hg k (by simp)) hd ha hvx
        rw [hil] at this
        exact this
      have hfk : Hid (∀ w1, Chg [] w w1 → _) := fun w1 k => gripFindKind_any x 1 (stays_G [] _ _ _ _ _ hg k (by simp)) hd ha hx
      have bad : ∀ er p, er ≠ 0 → s.setQ x i v = (er, s) → (∀ w1, Chg [] w w1 → Calls Tryz.prog 87 #[.pointer (some ⟨bh, 0, none⟩), .int .i64 x, .int .i64 1] w1 fun e w' => e = .returned (.tuple #[.int .i64 p, .int .i64 er]) ∧ w' = w1) →
          Calls Tryz.prog 54 #[.pointer (some ⟨bh, 0, none⟩), .int .i64 x, .int .i64 i, .agg #[.int .i64 v.1, .int .i64 v.2]] w fun e w' => ∃ F', e = .returned (.int .i64 (s.setQ x i v).1) ∧ (G fx) w' bh (s.setQ x i v).2 F' ∧ (∀ b ∈ F', b < w'.heap.size) ∧ Stp F w F' w' := by
        intro er p h0 hq hf
        rw [hq]
        have hne : (er != 0) = true := by simp [h0]
        generalize s.inW v = iw at *
        have HV := hide hisv; have HG := hide hg; have HC0 := hide hc0; have HBX := hide hbx; have HF := hide hf; clear hisv hg hc0 hq hsq hel hil hbx hdead hFlt hv hlk hfk hf h0
        go_enter Tryz.func54, Tryz.ntmps54
        go_wp2_with fail
        refine (unhide HV).mono ?_
        rintro e w1 ⟨rfl, hc1⟩
        have hb1 := (unhide HBX).chg hc1 (by simp)
        have q0 := hb1.cell_of (i := 0) rfl
        have q1 := hb1.cell_of (i := 1) rfl
        have hch1 := (unhide HC0).trans hc1
        have hcall := unhide hin w1 hch1
        have HCL := hide hcall; have HCH1 := hide hch1; clear hcall hch1 hc1 hb1
        go_wp2_with fail
        refine (unhide HCL).mono ?_
        rintro e w2 ⟨rfl, hc2⟩
        have hch3 := ((unhide HCH1).trans hc2).alloc (.cells #[.int .i64 iw.1, .int .i64 iw.2] 121)
        have hcall := unhide HF _ hch3
        have HCL2 := hide hcall; have HCH3 := hide hch3; clear hcall hch3 hc2 q0 q1
        go_wp2_with fail
        refine (unhide HCL2).mono ?_
        rintro e w3 ⟨rfl, rfl⟩
        have hg3 := stays_G [] _ _ _ _ _ (unhide HG) (unhide HCH3) (by simp)
        have HG3 := hide hg3; clear hg3
        go_wp2
        go_ret
        exact ⟨F, rfl, unhide HG3, G_lt (unhide HG3), ⟨(unhide HCH3).mono (by simp), fun _ h => .inl h⟩⟩
      by_cases h0 : (s.look1 x).2 = 0
      · by_cases hk : (s.objOf (s.look1 x).1).kind = 1
        · obtain ⟨h1, h2⟩ := look_place ha h0
          have ho := ha.ok.osh (objOf_mem (ha.ok.inv.rows _ h2))
          have hpb := place_bd ha h2
          have hob := (words_bd ho.kind).1
          obtain ⟨b1, b2, b3, b4⟩ := head_bd ho
          obtain ⟨p, hp⟩ : ∃ p : Nat, placeOf s.objs (s.look1 x).1 s.row = (p : Int) := ⟨_, (Int.toNat_of_nonneg hpb.1).symm⟩
          have hfk' : Hid (∀ w1, Chg [] w w1 → Calls Tryz.prog 87 #[.pointer (some ⟨bh, 0, none⟩), .int .i64 x, .int .i64 1] w1 fun e w' => e = .returned (.tuple #[.int .i64 (p : Int), .int .i64 0]) ∧ w' = w1) := fun w1 k => by
            have := gripFindKind_any x 1 (stays_G [] _ _ _ _ _ hg k (by simp)) hd ha hx
            rw [if_pos ⟨h0, hk⟩, if_pos h0, if_pos hk, hp] at this
            exact this
          have harr := ho.arr hk
          have hwf := words_fit ha
          have how : oWords (s.objOf (s.look1 x).1) = 1 + 2 * (s.objOf (s.look1 x).1).size := by simp [oWords, wordsOf, hk]
          have hiw := inW_inner hv hil
          have hset : Hid (∀ w1, Chg [] w w1 → Calls Tryz.prog 99 #[.pointer (some ⟨bh, 1, none⟩), .int .i64 (p : Int), .int .i64 i, .agg #[.int .i64 (s.inW v).1, .int .i64 (s.inW v).2]] w1 fun e w' => e = .returned (.bool (decide (0 ≤ i ∧ i < (s.objOf (s.look1 x).1).size))) ∧ (G fx) w' bh (s.setQ x i v).2 F ∧ Chg F w1 w') := fun w1 k => by
            obtain ⟨sl, a, c, hmb, rfl, hl, hs⟩ := G_live (stays_G [] _ _ _ _ _ hg k (by simp)) hd
            refine (memSet_any p i (s.inW v) hmb (by omega) (by omega) (by rw [← hp]; exact word_head ha h2) b1 b4 (by have := ho.kind; omega) (fun hi => by omega)).mono ?_
            rintro e w' ⟨rfl, hm', hc'⟩
            refine ⟨rfl, ?_, hc'.mono (fun y hy => List.mem_cons_of_mem _ hy)⟩
            by_cases hi : 0 ≤ i ∧ i < (s.objOf (s.look1 x).1).size
            · have hel' : s.element x i v = ((s.look1 x).1, 0) := by rw [hel, if_pos h0, if_pos hk, if_neg (by omega)]
              have hq : s.setQ x i v = (0, s.setObj (s.look1 x).1 { s.objOf (s.look1 x).1 with vals := (s.objOf (s.look1 x).1).vals.set i.toNat (s.inner v) }) := by unfold R.setQ; rw [hel']; simp
              rw [hq]
              rw [if_pos hi] at hm'
              have hw : oWords { s.objOf (s.look1 x).1 with vals := (s.objOf (s.look1 x).1).vals.set i.toNat (s.inner v) } = oWords (s.objOf (s.look1 x).1) := rfl
              refine G_setObj (c := c) hl hs hd hw ?_
              obtain ⟨A, B, e1, e2, e3⟩ := words_setObj ha h2 hw
              have hj : i.toNat < (s.objOf (s.look1 x).1).vals.length := by omega
              have hlen := objWords_size s ho
              rw [e2, objWords_setVal s _ _ hj, ← set2_mid (by rw [show headLen (s.objOf (s.look1 x).1) = 1 from by simp [headLen, hk]]; omega), ← e1, ← hiw, show headLen (s.objOf (s.look1 x).1) = 1 from by simp [headLen, hk], show A.length + (1 + 2 * i.toNat) = p + 1 + 2 * i.toNat by omega]
              exact hm'
            · have hel' : s.element x i v = (0, 7) := by rw [hel, if_pos h0, if_pos hk, if_pos (by omega)]
              rw [hsq 7 hel' (by omega)]
              rw [if_neg hi] at hm'
              refine ⟨sl, a, c, s.words, s.limit, s.scopes, ?_, rfl, hl, fun _ => ⟨rfl, rfl, rfl, hs⟩⟩
              rw [hd]
              exact hm'
          have hr1 : (s.setQ x i v).1 = if decide (0 ≤ i ∧ i < (s.objOf (s.look1 x).1).size) then 0 else 7 := by
            by_cases hi : 0 ≤ i ∧ i < (s.objOf (s.look1 x).1).size
            · have hel' : s.element x i v = ((s.look1 x).1, 0) := by rw [hel, if_pos h0, if_pos hk, if_neg (by omega)]
              unfold R.setQ; rw [hel']; simp [hi]
            · have hel' : s.element x i v = (0, 7) := by rw [hel, if_pos h0, if_pos hk, if_pos (by omega)]
              rw [hsq 7 hel' (by omega)]; simp [hi]
          rw [hr1]
          generalize decide (0 ≤ i ∧ i < (s.objOf (s.look1 x).1).size) = ok at *
          generalize (s.setQ x i v).2 = s' at *
          generalize s.inW v = iw at *
          have HV := hide hisv; have HC0 := hide hc0; have HBX := hide hbx; have HFL := hide hFlt
          clear hisv hg hc0 hsq hel hil hbx hdead hFlt hv hlk hfk h0 h1 h2 ho hpb hob b1 b2 b3 b4 hp harr hwf how hiw hr1 hk bad
          go_enter Tryz.func54, Tryz.ntmps54
          go_wp2_with fail
          refine (unhide HV).mono ?_
          rintro e w1 ⟨rfl, hc1⟩
          have hb1 := (unhide HBX).chg hc1 (by simp)
          have q0 := hb1.cell_of (i := 0) rfl
          have q1 := hb1.cell_of (i := 1) rfl
          have hch1 := (unhide HC0).trans hc1
          have hcall := unhide hin w1 hch1
          have HCL := hide hcall; have HCH1 := hide hch1; clear hcall hch1 hc1 hb1
          go_wp2_with fail
          refine (unhide HCL).mono ?_
          rintro e w2 ⟨rfl, hc2⟩
          have hch3 := ((unhide HCH1).trans hc2).alloc (.cells #[.int .i64 iw.1, .int .i64 iw.2] 121)
          have hcall := unhide hfk' _ hch3
          have hb3 : Blk (w2.alloc (.cells #[.int .i64 iw.1, .int .i64 iw.2] 121)) w2.heap.size [.int .i64 iw.1, .int .i64 iw.2] 121 := Blk.new w2 [.int .i64 iw.1, .int .i64 iw.2] _
          have hz2 := ((unhide HCH1).trans hc2).size
          have HCL2 := hide hcall; have HCH3 := hide hch3; have HB3 := hide hb3; clear hcall hch3 hc2 q0 q1 hb3
          go_wp2_with fail
          refine (unhide HCL2).mono ?_
          rintro e w3 ⟨rfl, hw3⟩
          have hch3 : Chg [] w w3 := by rw [hw3]; exact unhide HCH3
          have hb3 : Blk w3 w2.heap.size [.int .i64 iw.1, .int .i64 iw.2] 121 := by rw [hw3]; exact unhide HB3
          have q0 := hb3.cell_of (i := 0) rfl
          have q1 := hb3.cell_of (i := 1) rfl
          have hcall := unhide hset w3.drew hch3.drew
          have hall : Hid (∀ w4, Chg F w3.drew w4 → w4.cell? ⟨w2.heap.size, 0, none⟩ = some (.int .i64 iw.1) ∧ w4.cell? ⟨w2.heap.size, 1, none⟩ = some (.int .i64 iw.2)) := fun w4 k => by
            have hb4 := hb3.drew.chg k (fun hm => by have := unhide HFL _ hm; omega)
            exact ⟨hb4.cell_of rfl, hb4.cell_of rfl⟩
          have HCL3 := hide hcall; have HCH4 := hide hch3; clear hcall hch3 hb3 hw3
          go_wp2_with fail
          go_region_held3 (fun w' => w'.cell? ⟨w2.heap.size, 0, none⟩ = some (.int .i64 iw.1) ∧ w'.cell? ⟨w2.heap.size, 1, none⟩ = some (.int .i64 iw.2)) (first | assumption | (go_keep; done) | (apply unhide hall; assumption)) ((go_at_call 99; refine (unhide HCL3).mono ?_; rintro e w4 ⟨rfl, hg4, hc4⟩; have hk4 := unhide hall w4 hc4; have HG4 := hide hg4; have HC4 := hide hc4; clear hg4))
          have hst : Stp F w F w4 := ⟨((unhide HCH4).drew.mono (by simp)).trans (unhide HC4), fun _ h => .inl h⟩
          have HST := hide hst; clear hst hc4 hk4 q0 q1
          cases ok with
          | true =>
            go_wp2
            go_ret
            first
              | exact ⟨F, by simp, unhide HG4, G_lt (unhide HG4), unhide HST⟩
              | exact ⟨rfl, F, unhide HG4, G_lt (unhide HG4), unhide HST⟩
              | exact ⟨by simp, F, unhide HG4, G_lt (unhide HG4), unhide HST⟩
          | false =>
            go_wp2
            go_ret
            first
              | exact ⟨F, by simp, unhide HG4, G_lt (unhide HG4), unhide HST⟩
              | exact ⟨rfl, F, unhide HG4, G_lt (unhide HG4), unhide HST⟩
              | exact ⟨by simp, F, unhide HG4, G_lt (unhide HG4), unhide HST⟩
        · refine bad 5 0 (by omega) (hsq 5 (by rw [hel, if_pos h0, if_neg hk]) (by omega)) (fun w1 k => ?_)
          have := gripFindKind_any x 1 (stays_G [] _ _ _ _ _ hg k (by simp)) hd ha hx
          rw [if_neg (fun hh => hk hh.2), if_pos h0, if_neg hk] at this
          exact this
      · refine bad (s.look1 x).2 0 h0 (hsq _ (by rw [hel, if_neg h0]) h0) (fun w1 k => ?_)
        have := gripFindKind_any x 1 (stays_G [] _ _ _ _ _ hg k (by simp)) hd ha hx
        rw [if_neg (fun hh => h0 hh.1), if_neg h0] at this
        exact this
  · rw [show decide (v.1 = 0 ∨ v.1 = 1 ∨ v.1 = 2) = false from by simp; omega] at hisv
    have hq := hsq 3 (by rw [hel, look_bad hd x hv]; simp) (by omega)
    rw [hq]
    have HV := hide hisv; have HG := hide hg; have HC0 := hide hc0; clear hisv hg hc0 hq hsq hel hbx hdead hFlt hv
    go_enter Tryz.func54, Tryz.ntmps54
    go_wp2_with fail
    refine (unhide HV).mono ?_
    rintro e w1 ⟨rfl, hc1⟩
    have hg1 := stays_G [] _ _ _ _ _ (unhide HG) ((unhide HC0).trans hc1) (by simp)
    have HG1 := hide hg1; have HC1 := hide ((unhide HC0).trans hc1); clear hg1 hc1
    go_wp2
    go_ret
    exact ⟨F, rfl, unhide HG1, G_lt (unhide HG1), ⟨(unhide HC1).mono (by simp), fun _ h => .inl h⟩⟩
end Go.Proofs.YtfoncalkgmeklaaGreat
