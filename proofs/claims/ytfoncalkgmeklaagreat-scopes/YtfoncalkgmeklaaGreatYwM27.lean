import Derived.Test.YtfoncalkgmeklaaGreatYwM26

/- Find of the program. -/
namespace Go.Proofs.YtfoncalkgmeklaaGreat
open Go.RowKit
variable {fx : Fx}

theorem look_tab {s : R} (hd : s.dead = false) (x : Int) {k v : Int × Int} (hv : 0 ≤ v.1 ∧ v.1 ≤ 2) : s.look x k v true = if k.1 = 1 ∨ k.1 = 2 then (if (s.inL k && s.inL v) = true then s.look1 x else (0, 4)) else (0, 3) := by
  by_cases hk : k.1 = 1 ∨ k.1 = 2
  · rw [if_pos hk]
    have hk' : 0 ≤ k.1 ∧ k.1 ≤ 2 := by omega
    have e1 := inL_stale (s := s) hk'
    have e2 := inL_stale (s := s) hv
    have h1 : R.badValue k v true = false := by simp [R.badValue]; omega
    have hst : s.stale k v = !(s.inL k && s.inL v) := by rw [e1, e2]; unfold R.stale; cases (k.1 == 2 && (s.find? k.2).isNone) <;> cases (v.1 == 2 && (s.find? v.2).isNone) <;> rfl
    have hl1 := look1_eq s x
    rw [hd] at hl1
    unfold R.look
    rw [hd, h1, hst]
    cases hc : (s.inL k && s.inL v) with
    | true =>
      simp only [if_true]
      rw [hl1]
      cases s.find? x <;> simp
    | false => cases s.find? x <;> simp
  · rw [if_neg hk]
    have h1 : R.badValue k v true = true := by simp [R.badValue]; omega
    unfold R.look
    rw [hd, h1]
    simp
/-- What the document's table tells, by findTable's error. -/
theorem table_ft {s : R} (hd : s.dead = false) (x : Int) {k v : Int × Int} (hv : 0 ≤ v.1 ∧ v.1 ≤ 2) (hl : s.inL v = true) : s.table x k v = if s.ftE x k = 0 then ((s.look1 x).1, keyPos (s.inner k) (s.objOf (s.look1 x).1).vals, 0) else (0, 0, s.ftE x k) := by
  have hlk := look_tab hd x (k := k) hv
  rw [hl, Bool.and_true] at hlk
  unfold R.table R.ftE
  rw [hlk]
  by_cases hk : k.1 = 1 ∨ k.1 = 2
  · rw [if_pos hk, if_pos hk]
    cases s.inL k with
    | true =>
      simp only [if_true]
      by_cases h0 : (s.look1 x).2 = 0
      · rw [if_pos h0, if_pos h0]
        by_cases h3 : (s.objOf (s.look1 x).1).kind = 3
        · rw [if_pos h3, if_pos h3]; simp
        · rw [if_neg h3, if_neg h3]; simp
      · rw [if_neg h0, if_neg h0, if_neg h0]
    | false => simp
  · rw [if_neg hk, if_neg hk]; simp
theorem G_mem {w : World} {bh : Nat} {s : R} {F : List Nat} (h : (G fx) w bh s F) (hd : s.dead = false) : MemAt w bh 1 s.words := by
  obtain ⟨sl, a, c, hmb, _⟩ := G_live h hd
  exact hmb.mem
theorem zero_valid : 0 ≤ ((0, 0) : Int × Int).1 ∧ ((0, 0) : Int × Int).1 ≤ 2 := by simp
theorem zero_inL (s : R) : s.inL (0, 0) = true := by simp [R.inL]
theorem has_key {s : R} (ha : RAll s) {k : Int × Int} (hk : k.1 = 1 ∨ k.1 = 2) (hl : s.inL k = true) : s.has (s.inner k) ∧ s.inW k = s.wf (s.inner k) :=
  ⟨inner_has ha (inL_some (by omega) hl), inW_wf (by omega) hl⟩

set_option maxRecDepth 100000 in
set_option maxHeartbeats 4000000 in
theorem find_core {w : World} {bh : Nat} {s : R} {F : List Nat} (x p : Int) (k kw u : Int × Int) (ok : Bool) (r : (Int × Int) × Int × R) (hg : (G fx) w bh s F)
    (hft : Calls Tryz.prog 93 #[.pointer (some ⟨bh, 0, none⟩), .int .i64 x, .agg #[.int .i64 k.1, .int .i64 k.2]] ((w.alloc (.cells #[.int .i64 k.1, .int .i64 k.2] 33)).alloc (.cells #[.int .i64 0, .int .i64 0] 33)) fun e w' => e = .returned (.tuple #[.int .i64 p, .agg #[.int .i64 kw.1, .int .i64 kw.2], .int .i64 0]) ∧ Chg [] ((w.alloc (.cells #[.int .i64 k.1, .int .i64 k.2] 33)).alloc (.cells #[.int .i64 0, .int .i64 0] 33)) w')
    (hmf : ∀ w1, Chg [] w w1 → Calls Tryz.prog 94 #[.pointer (some ⟨bh, 1, none⟩), .int .i64 p, .agg #[.int .i64 kw.1, .int .i64 kw.2]] w1 fun e w' => e = .returned (.tuple #[.agg #[.int .i64 u.1, .int .i64 u.2], .bool ok]) ∧ Chg [] w1 w')
    (hout : ok = true → ∀ w2, Chg [] w w2 → Calls Tryz.prog 90 #[.pointer (some ⟨bh, 0, none⟩), .agg #[.int .i64 u.1, .int .i64 u.2]] w2 fun e w' => ∃ F', e = .returned (.tuple #[.agg #[.int .i64 r.1.1, .int .i64 r.1.2], .int .i64 r.2.1]) ∧ (G fx) w' bh r.2.2 F' ∧ Stp F w2 F' w')
    (hno : ok = false → r = ((0, 0), 8, s)) :
    Calls Tryz.prog 50 #[.pointer (some ⟨bh, 0, none⟩), .int .i64 x, .agg #[.int .i64 k.1, .int .i64 k.2]] w fun e w' => ∃ F', e = .returned (.tuple #[.agg #[.int .i64 r.1.1, .int .i64 r.1.2], .int .i64 r.2.1]) ∧ (G fx) w' bh r.2.2 F' ∧ (∀ b ∈ F', b < w'.heap.size) ∧ Stp F w F' w' := by
  have hc0 : Chg [] w ((w.alloc (.cells #[.int .i64 k.1, .int .i64 k.2] 33)).alloc (.cells #[.int .i64 0, .int .i64 0] 33)) := ((Chg.refl [] w).alloc _).alloc _
  have hbr : Blk ((w.alloc (.cells #[.int .i64 k.1, .int .i64 k.2] 33)).alloc (.cells #[.int .i64 0, .int .i64 0] 33)) (w.heap.size + 1) [.int .i64 0, .int .i64 0] 33 := by
    have := Blk.new (w.alloc (.cells #[.int .i64 k.1, .int .i64 k.2] 33)) [.int .i64 0, .int .i64 0] 33
    rw [size_alloc] at this
    exact this
  have hFlt := G_lt hg
  have HFT := hide hft; have HMF := hide hmf; have HOUT := hide hout; have HNO := hide hno; have HC0 := hide hc0; have HBR := hide hbr; have HFL := hide hFlt; have HG := hide hg
  clear hft hmf hout hno hc0 hbr hFlt hg
  go_enter Tryz.func50, Tryz.ntmps50
  go_wp2_with fail
  refine (unhide HFT).mono ?_
  rintro e w1 ⟨rfl, hc1⟩
  have hch1 := ((unhide HC0).trans hc1).alloc (.cells #[.int .i64 kw.1, .int .i64 kw.2] 121)
  have hbr1 := ((unhide HBR).chg hc1 (by simp)).alloc (.cells #[.int .i64 kw.1, .int .i64 kw.2] 121)
  have hbk1 : Blk (w1.alloc (.cells #[.int .i64 kw.1, .int .i64 kw.2] 121)) w1.heap.size [.int .i64 kw.1, .int .i64 kw.2] 121 := Blk.new w1 [.int .i64 kw.1, .int .i64 kw.2] _
  have hz1 : w.heap.size + 1 < w1.heap.size := ((unhide HBR).chg hc1 (by simp)).lt
  have HCH1 := hide hch1; have HBR1 := hide hbr1; have HBK1 := hide hbk1; clear hch1 hbr1 hbk1 hc1
  go_upto_region 4 with fail
  go_cut [11, 12] (fun p11 p12 wx => ∃ b11 : Nat, p11 = .pointer (some ⟨b11, 0, none⟩) ∧ p12 = .bool ok ∧ Blk wx b11 [.int .i64 u.1, .int .i64 u.2] 121 ∧ Blk wx (w.heap.size + 1) [.int .i64 0, .int .i64 0] 33 ∧ Chg [] w wx)
  case first =>
    go_region_held3 (fun w' => w'.cell? ⟨w1.heap.size, 0, none⟩ = some (.int .i64 kw.1) ∧ w'.cell? ⟨w1.heap.size, 1, none⟩ = some (.int .i64 kw.2)) (first | assumption | (go_keep; done)) ((go_at_call 94; first
      | (refine (unhide HMF _ (unhide HCH1).drew).mono ?_; rintro e w4 ⟨rfl, hc4⟩; have hk4 : w4.cell? ⟨w1.heap.size, 0, none⟩ = some (.int .i64 kw.1) ∧ w4.cell? ⟨w1.heap.size, 1, none⟩ = some (.int .i64 kw.2) := ⟨((unhide HBK1).drew.chg hc4 (by simp)).cell_of rfl, ((unhide HBK1).drew.chg hc4 (by simp)).cell_of rfl⟩; have hb4 := (unhide HBR1).drew.chg hc4 (by simp); have hn4 : True := trivial; have HB4 := hide hb4; have HCH4 := hide ((unhide HCH1).drew.trans hc4); clear hb4 hc4)
      | (refine (unhide HMF _ ((unhide HCH1).alloc (.cells #[.int .i64 0, .int .i64 0] 121)).drew).mono ?_; rintro e w4 ⟨rfl, hc4⟩; have hk4 : w4.cell? ⟨w1.heap.size, 0, none⟩ = some (.int .i64 kw.1) ∧ w4.cell? ⟨w1.heap.size, 1, none⟩ = some (.int .i64 kw.2) := ⟨(((unhide HBK1).alloc _).drew.chg hc4 (by simp)).cell_of rfl, (((unhide HBK1).alloc _).drew.chg hc4 (by simp)).cell_of rfl⟩; have hb4 := ((unhide HBR1).alloc _).drew.chg hc4 (by simp); have hn4 := (by have := Blk.new (w1.alloc (.cells #[.int .i64 kw.1, .int .i64 kw.2] 121)) [.int .i64 0, .int .i64 0] 121; rw [size_alloc] at this; exact this.drew.chg hc4 (by simp) : Blk w4 (w1.heap.size + 1) [.int .i64 0, .int .i64 0] 121); have v0 := hn4.cell_of (i := 0) rfl; have v1 := hn4.cell_of (i := 1) rfl; have g0 := hn4.frozen 0; have g1 := hn4.frozen 1; have HB4 := hide hb4; have HCH4 := hide (((unhide HCH1).alloc (.cells #[.int .i64 0, .int .i64 0] 121)).drew.trans hc4); clear hb4 hc4)))
    all_goals go_wp2_with fail
    all_goals go_meet
    · exact ⟨_, rfl, rfl, Blk.new w4 [.int .i64 u.1, .int .i64 u.2] _, (unhide HB4).alloc _, (unhide HCH4).alloc _⟩
    · have k5 : Chg [w1.heap.size + 1] w4 ((w4.setCell ⟨w1.heap.size + 1, 0, none⟩ (.int .i64 u.1)).setCell ⟨w1.heap.size + 1, 1, none⟩ (.int .i64 u.2)) := ((Chg.refl _ w4).setCell (.inl (by simp)) _).setCell (.inl (by simp)) _
      exact ⟨_, rfl, rfl, (hn4.setCell 0 (.int .i64 u.1)).setCell 1 (.int .i64 u.2), (unhide HB4).chg k5 (by simp; omega), Chg.trans_new (unhide HCH4) k5 (fun x hx => by simp at hx; right; omega)⟩
  case rest =>
    obtain ⟨b11, rfl, rfl, hb11, hbrx, hchx⟩ := hcut
    have v0 := hb11.cell_of (i := 0) rfl
    have v1 := hb11.cell_of (i := 1) rfl
    have HBRX := hide hbrx; have HCHX := hide hchx; clear hb11 hbrx hchx HBR1 HBK1 HCH1
    cases ok with
    | true =>
      have hcall := unhide HOUT rfl wc (unhide HCHX)
      have HCL := hide hcall; clear hcall
      go_wp2_with fail
      refine (unhide HCL).mono ?_
      rintro e w3 ⟨F3, rfl, hg3, st3⟩
      have hb3 := (unhide HBRX).chg st3.chg (fun hm => by have := unhide HFL _ hm; omega)
      have q0 := hb3.cell_of (i := 0) rfl
      have q1 := hb3.cell_of (i := 1) rfl
      have f0 := hb3.frozen 0
      have f1 := hb3.frozen 1
      have hb4 := (hb3.setCell 0 (.int .i64 r.1.1)).setCell 1 (.int .i64 r.1.2)
      have r0 := hb4.cell_of (i := 0) (v := .int .i64 r.1.1) rfl
      have r1 := hb4.cell_of (i := 1) (v := .int .i64 r.1.2) rfl
      have k4 : Chg [w.heap.size + 1] w3 ((w3.setCell ⟨w.heap.size + 1, 0, none⟩ (.int .i64 r.1.1)).setCell ⟨w.heap.size + 1, 1, none⟩ (.int .i64 r.1.2)) := ((Chg.refl _ w3).setCell (.inl (by simp)) _).setCell (.inl (by simp)) _
      have hnF : ∀ b ∈ F3, b ∉ [w.heap.size + 1] := fun b hb hm => by
        simp at hm
        subst hm
        rcases st3.foot _ hb with h8 | h8
        · have := unhide HFL _ h8; omega
        · have := (unhide HBRX).lt; omega
      have hg4 := stays_G [w.heap.size + 1] _ _ _ _ _ hg3 k4 hnF
      have hst : Stp F w F3 ((w3.setCell ⟨w.heap.size + 1, 0, none⟩ (.int .i64 r.1.1)).setCell ⟨w.heap.size + 1, 1, none⟩ (.int .i64 r.1.2)) :=
        ⟨Chg.trans_new (((unhide HCHX).mono (by simp)).trans st3.chg) k4 (fun x hx => by simp at hx; right; omega), fun b hb => by
          rcases st3.foot b hb with h8 | h8
          · exact .inl h8
          · exact .inr (Nat.le_trans (unhide HCHX).size h8)⟩
      have R0 := hide r0; have R1 := hide r1; have HG4 := hide hg4; have HST := hide hst; clear hb3 hb4 r0 r1 k4 hg3 hg4 hst st3 hnF v0 v1
      go_wp2
      have r0 := unhide R0
      have r1 := unhide R1
      exact bodyPost_ret (v := .tuple #[.agg #[.int .i64 r.1.1, .int .i64 r.1.2], .int .i64 r.2.1]) (by simp [results, Tryz.results50, go_sem, r0, r1]) rfl ⟨F3, rfl, unhide HG4, G_lt (unhide HG4), unhide HST⟩
    | false =>
      have hb3 := unhide HBRX
      have q0 := hb3.cell_of (i := 0) rfl
      have q1 := hb3.cell_of (i := 1) rfl
      have f0 := hb3.frozen 0
      have f1 := hb3.frozen 1
      have hb4 := (hb3.setCell 0 (.int .i64 0)).setCell 1 (.int .i64 0)
      have r0 := hb4.cell_of (i := 0) (v := .int .i64 0) rfl
      have r1 := hb4.cell_of (i := 1) (v := .int .i64 0) rfl
      have hch4 := Chg.trans_new (S' := [w.heap.size + 1]) (unhide HCHX) (((Chg.refl _ wc).setCell (p := ⟨w.heap.size + 1, 0, none⟩) (.inl (by simp)) (.int .i64 0)).setCell (p := ⟨w.heap.size + 1, 1, none⟩) (.inl (by simp)) (.int .i64 0)) (fun x hx => by simp at hx; right; omega)
      have hg4 := stays_G [] _ _ _ _ _ (unhide HG) hch4 (by simp)
      have hr := unhide HNO rfl
      have R0 := hide r0; have R1 := hide r1; have HG4 := hide hg4; have HCH4 := hide hch4; have HR := hide hr; clear hb3 hb4 r0 r1 hg4 hch4 hr v0 v1
      go_wp2
      have r0 := unhide R0
      have r1 := unhide R1
      have hr := unhide HR
      refine bodyPost_ret (v := .tuple #[.agg #[.int .i64 0, .int .i64 0], .int .i64 8]) (by simp [results, Tryz.results50, go_sem, r0, r1]) rfl ?_
      rw [hr]
      exact ⟨rfl, F, unhide HG4, G_lt (unhide HG4), ⟨(unhide HCH4).mono (by simp), fun _ h => .inl h⟩⟩

set_option maxRecDepth 100000 in
set_option maxHeartbeats 2000000 in
theorem p_find {bh : Nat} {s : R} (x : Int) (k : Int × Int) (hd : s.dead = false) (ha : RAll s) {m : Nat} (hu : RUp m s) (hm : m ≤ 3298534883328) (hx : x ≤ 9223372036854775807) (hkx : k.2 ≤ 9223372036854775807) : PCall (G fx) 50 bh [.int .i64 x, .agg #[.int .i64 k.1, .int .i64 k.2]] s (.agg #[.int .i64 (s.findQ x k).1.1, .int .i64 (s.findQ x k).1.2]) (s.findQ x k).2.1 (s.findQ x k).2.2 := by
  intro w F hg
  have hc0 : Chg [] w ((w.alloc (.cells #[.int .i64 k.1, .int .i64 k.2] 33)).alloc (.cells #[.int .i64 0, .int .i64 0] 33)) := ((Chg.refl [] w).alloc _).alloc _
  have hft := gripFindTable_any x k (stays_G [] _ _ _ _ _ hg hc0 (by simp)) hd ha hx hkx
  have htb := table_ft hd x (k := k) zero_valid (zero_inL s)
  show Calls Tryz.prog 50 #[.pointer (some ⟨bh, 0, none⟩), .int .i64 x, .agg #[.int .i64 k.1, .int .i64 k.2]] w _
  by_cases hE : s.ftE x k = 0
  · obtain ⟨hk, hil, h3, h4⟩ := ft_ok hE
    rw [if_pos hE] at htb
    rw [if_pos hE, if_pos hE, hE] at hft
    have hmr : (s.look1 x).1 ∈ s.row := look_row ha.row h3
    have ho := ha.ok.osh (objOf_mem (ha.ok.inv.rows _ hmr))
    have htab := ho.tab h4
    obtain ⟨A, B, htin, hA, _⟩ := tab_in ha hmr h4
    obtain ⟨hhas, hiw⟩ := has_key ha hk hil
    have hl2 : (s.objOf (s.look1 x).1).vals.length = 2 * ((s.objOf (s.look1 x).1).vals.length / 2) := by omega
    obtain ⟨hpos, hle⟩ := key_idx ha hmr hl2 hhas
    rw [← hA, hiw] at hft
    have hmf : ∀ w1, Chg [] w w1 → _ := fun w1 k1 => memFind_any (s.wf (s.inner k)) (G_mem (stays_G [] _ _ _ _ _ hg k1 (by simp)) hd) htin
    generalize hj : keyIdx (keysOf (s.pairs (s.objOf (s.look1 x).1)) ((s.objOf (s.look1 x).1).vals.length / 2)) (s.wf (s.inner k)) = j at *
    by_cases hlt : j < (s.objOf (s.look1 x).1).vals.length / 2
    · have hfq : s.findQ x k = s.outer ((s.objOf (s.look1 x).1).vals.getD (2 * j + 1) (0, 0)) := by
        unfold R.findQ
        rw [htb]
        simp only [if_true]
        rw [hpos, if_neg (by omega)]
      have hval : (s.pairs (s.objOf (s.look1 x).1)).getD (2 * j + 1) (0, 0) = s.wf ((s.objOf (s.look1 x).1).vals.getD (2 * j + 1) (0, 0)) := pairs_at (by omega)
      rw [hfq]
      generalize (s.objOf (s.look1 x).1).vals.getD (2 * j + 1) (0, 0) = v at *
      refine find_core x (A.length : Int) k (s.wf (s.inner k)) (s.wf v) true (s.outer v) hg hft (fun w1 k1 => ?_) (fun _ w2 k2 => gripOutward_any v (stays_G [] _ _ _ _ _ hg k2 (by simp)) hd hu hm) (fun h => by cases h)
      have := hmf w1 k1
      rw [if_pos hlt, hval, show decide (j < (s.objOf (s.look1 x).1).vals.length / 2) = true from by simp [hlt]] at this
      exact this
    · have hfq : s.findQ x k = ((0, 0), 8, s) := by
        unfold R.findQ
        rw [htb]
        simp only [if_true]
        rw [hpos, if_pos (by omega)]
      rw [hfq]
      refine find_core x (A.length : Int) k (s.wf (s.inner k)) (0, 0) false ((0, 0), 8, s) hg hft (fun w1 k1 => ?_) (fun h => by cases h) (fun _ => rfl)
      have := hmf w1 k1
      rw [if_neg hlt, show decide (j < (s.objOf (s.look1 x).1).vals.length / 2) = false from by simp [hlt]] at this
      exact this
  · rw [if_neg hE] at htb
    rw [if_neg hE, if_neg hE] at hft
    have hfq : s.findQ x k = ((0, 0), s.ftE x k, s) := by
      unfold R.findQ
      rw [htb]
      simp [hE]
    rw [hfq]
    generalize s.ftE x k = er at *
    have hne : (er != 0) = true := by simp [hE]
    have hbr : Blk ((w.alloc (.cells #[.int .i64 k.1, .int .i64 k.2] 33)).alloc (.cells #[.int .i64 0, .int .i64 0] 33)) (w.heap.size + 1) [.int .i64 0, .int .i64 0] 33 := by
      have := Blk.new (w.alloc (.cells #[.int .i64 k.1, .int .i64 k.2] 33)) [.int .i64 0, .int .i64 0] 33
      rw [size_alloc] at this
      exact this
    have HFT := hide hft; have HC0 := hide hc0; have HBR := hide hbr; have HG := hide hg; clear hft hc0 hbr hg htb hfq hE
    go_enter Tryz.func50, Tryz.ntmps50
    go_wp2_with fail
    refine (unhide HFT).mono ?_
    rintro e w1 ⟨rfl, hc1⟩
    have hb3 := ((unhide HBR).chg hc1 (by simp)).alloc (.cells #[.int .i64 0, .int .i64 0] 121)
    have q0 := hb3.cell_of (i := 0) rfl
    have q1 := hb3.cell_of (i := 1) rfl
    have f0 := hb3.frozen 0
    have f1 := hb3.frozen 1
    have hb4 := (hb3.setCell 0 (.int .i64 0)).setCell 1 (.int .i64 0)
    have r0 := hb4.cell_of (i := 0) (v := .int .i64 0) rfl
    have r1 := hb4.cell_of (i := 1) (v := .int .i64 0) rfl
    have hch4 := Chg.trans_new (S' := [w.heap.size + 1]) (((unhide HC0).trans hc1).alloc (.cells #[.int .i64 0, .int .i64 0] 121)) (((Chg.refl _ _).setCell (p := ⟨w.heap.size + 1, 0, none⟩) (.inl (by simp)) (.int .i64 0)).setCell (p := ⟨w.heap.size + 1, 1, none⟩) (.inl (by simp)) (.int .i64 0)) (fun x hx => by simp at hx; right; omega)
    have hg4 := stays_G [] _ _ _ _ _ (unhide HG) hch4 (by simp)
    have R0 := hide r0; have R1 := hide r1; have HG4 := hide hg4; have HCH4 := hide hch4; clear hb3 hb4 r0 r1 hg4 hch4 hc1
    go_wp2
    have r0 := unhide R0
    have r1 := unhide R1
    exact bodyPost_ret (v := .tuple #[.agg #[.int .i64 0, .int .i64 0], .int .i64 er]) (by simp [results, Tryz.results50, go_sem, r0, r1]) rfl ⟨F, rfl, unhide HG4, G_lt (unhide HG4), ⟨(unhide HCH4).mono (by simp), fun _ h => .inl h⟩⟩
end Go.Proofs.YtfoncalkgmeklaaGreat

/- Cut of the program. -/
namespace Go.Proofs.YtfoncalkgmeklaaGreat
open Go.RowKit
variable {fx : Fx}

set_option maxRecDepth 100000 in
set_option maxHeartbeats 2000000 in
theorem cut_core {w : World} {bh : Nat} {s s' : R} {F : List Nat} (x p : Int) (k kw : Int × Int) (ok : Bool) (hg : (G fx) w bh s F)
    (hft : Calls Tryz.prog 93 #[.pointer (some ⟨bh, 0, none⟩), .int .i64 x, .agg #[.int .i64 k.1, .int .i64 k.2]] (w.alloc (.cells #[.int .i64 k.1, .int .i64 k.2] 33)) fun e w' => e = .returned (.tuple #[.int .i64 p, .agg #[.int .i64 kw.1, .int .i64 kw.2], .int .i64 0]) ∧ Chg [] (w.alloc (.cells #[.int .i64 k.1, .int .i64 k.2] 33)) w')
    (hmc : ∀ w1, Chg [] w w1 → Calls Tryz.prog 103 #[.pointer (some ⟨bh, 1, none⟩), .int .i64 p, .agg #[.int .i64 kw.1, .int .i64 kw.2]] w1 fun e w' => e = .returned (.bool ok) ∧ (G fx) w' bh s' F ∧ Chg F w1 w') :
    Calls Tryz.prog 58 #[.pointer (some ⟨bh, 0, none⟩), .int .i64 x, .agg #[.int .i64 k.1, .int .i64 k.2]] w fun e w' => ∃ F', e = .returned (.int .i64 (if ok then 0 else 8)) ∧ (G fx) w' bh s' F' ∧ (∀ b ∈ F', b < w'.heap.size) ∧ Stp F w F' w' := by
  have hc0 : Chg [] w (w.alloc (.cells #[.int .i64 k.1, .int .i64 k.2] 33)) := (Chg.refl [] w).alloc _
  have hFlt := G_lt hg
  have HFT := hide hft; have HMC := hide hmc; have HC0 := hide hc0; have HFL := hide hFlt; clear hft hmc hc0 hFlt hg
  go_enter Tryz.func58, Tryz.ntmps58
  go_wp2_with fail
  refine (unhide HFT).mono ?_
  rintro e w1 ⟨rfl, hc1⟩
  have hch1 := ((unhide HC0).trans hc1).alloc (.cells #[.int .i64 kw.1, .int .i64 kw.2] 121)
  have hbk1 : Blk (w1.alloc (.cells #[.int .i64 kw.1, .int .i64 kw.2] 121)) w1.heap.size [.int .i64 kw.1, .int .i64 kw.2] 121 := Blk.new w1 [.int .i64 kw.1, .int .i64 kw.2] _
  have hz1 := ((unhide HC0).trans hc1).size
  have hcall := unhide HMC _ hch1.drew
  have hall : Hid (∀ w4, Chg F (w1.alloc (.cells #[.int .i64 kw.1, .int .i64 kw.2] 121)).drew w4 → w4.cell? ⟨w1.heap.size, 0, none⟩ = some (.int .i64 kw.1) ∧ w4.cell? ⟨w1.heap.size, 1, none⟩ = some (.int .i64 kw.2)) := fun w4 k4 => by
    have hb4 := hbk1.drew.chg k4 (fun hm => by have := unhide HFL _ hm; omega)
    exact ⟨hb4.cell_of rfl, hb4.cell_of rfl⟩
  have HCL := hide hcall; have HCH1 := hide hch1; clear hcall hch1 hbk1 hc1
  go_wp2_with fail
  go_region_held3 (fun w' => w'.cell? ⟨w1.heap.size, 0, none⟩ = some (.int .i64 kw.1) ∧ w'.cell? ⟨w1.heap.size, 1, none⟩ = some (.int .i64 kw.2)) (first | assumption | (go_keep; done) | (apply unhide hall; assumption)) ((go_at_call 103; refine (unhide HCL).mono ?_; rintro e w4 ⟨rfl, hg4, hc4⟩; have hk4 := unhide hall w4 hc4; have HG4 := hide hg4; have HC4 := hide hc4; clear hg4))
  have hst : Stp F w F w4 := ⟨((unhide HCH1).drew.mono (by simp)).trans (unhide HC4), fun _ h => .inl h⟩
  have HST := hide hst; clear hst hc4 hk4
  cases ok with
  | true =>
    go_wp2
    go_ret
    first
      | exact ⟨F, by simp, unhide HG4, G_lt (unhide HG4), unhide HST⟩
      | exact ⟨rfl, F, unhide HG4, G_lt (unhide HG4), unhide HST⟩
  | false =>
    go_wp2
    go_ret
    first
      | exact ⟨F, by simp, unhide HG4, G_lt (unhide HG4), unhide HST⟩
      | exact ⟨rfl, F, unhide HG4, G_lt (unhide HG4), unhide HST⟩

set_option maxRecDepth 100000 in
set_option maxHeartbeats 2000000 in
theorem p_cut {bh : Nat} {s : R} (x : Int) (k : Int × Int) (hd : s.dead = false) (ha : RAll s) (hx : x ≤ 9223372036854775807) (hkx : k.2 ≤ 9223372036854775807) : PCall1 (G fx) 58 bh [.int .i64 x, .agg #[.int .i64 k.1, .int .i64 k.2]] s (s.cutQ x k).1 (s.cutQ x k).2 := by
  intro w F hg
  have hc0 : Chg [] w (w.alloc (.cells #[.int .i64 k.1, .int .i64 k.2] 33)) := (Chg.refl [] w).alloc _
  have hft := gripFindTable_any x k (stays_G [] _ _ _ _ _ hg hc0 (by simp)) hd ha hx hkx
  have htb := table_ft hd x (k := k) zero_valid (zero_inL s)
  show Calls Tryz.prog 58 #[.pointer (some ⟨bh, 0, none⟩), .int .i64 x, .agg #[.int .i64 k.1, .int .i64 k.2]] w _
  by_cases hE : s.ftE x k = 0
  · obtain ⟨hk, hil, h3, h4⟩ := ft_ok hE
    rw [if_pos hE] at htb
    rw [if_pos hE, if_pos hE, hE] at hft
    have hmr : (s.look1 x).1 ∈ s.row := look_row ha.row h3
    have ho := ha.ok.osh (objOf_mem (ha.ok.inv.rows _ hmr))
    have htab := ho.tab h4
    have hko := ho.kind
    obtain ⟨A, B, htin, hA, hset⟩ := tab_in ha hmr h4
    obtain ⟨hhas, hiw⟩ := has_key ha hk hil
    have hl2 : (s.objOf (s.look1 x).1).vals.length = 2 * ((s.objOf (s.look1 x).1).vals.length / 2) := by omega
    obtain ⟨hpos, hle⟩ := key_idx ha hmr hl2 hhas
    rw [← hA, hiw] at hft
    have hrn := ha.cut x k
    generalize hn : (s.objOf (s.look1 x).1).vals.length / 2 = n at *
    generalize hj : keyIdx (keysOf (s.pairs (s.objOf (s.look1 x).1)) n) (s.wf (s.inner k)) = j at *
    by_cases hlt : j < n
    · have hcq : s.cutQ x k = (0, s.setObj (s.look1 x).1 { s.objOf (s.look1 x).1 with vals := (s.objOf (s.look1 x).1).vals.take (2 * j) ++ (s.objOf (s.look1 x).1).vals.drop (2 * j + 2) }) := by
        unfold R.cutQ
        rw [htb]
        simp only [if_true]
        rw [hpos, if_neg (by omega)]
      rw [hcq] at hrn ⊢
      have hsh : OSh s.objs.length { s.objOf (s.look1 x).1 with vals := (s.objOf (s.look1 x).1).vals.take (2 * j) ++ (s.objOf (s.look1 x).1).vals.drop (2 * j + 2) } := by
        have h1 := hrn.ok.osh (objOf_mem (s := s.setObj (s.look1 x).1 { s.objOf (s.look1 x).1 with vals := (s.objOf (s.look1 x).1).vals.take (2 * j) ++ (s.objOf (s.look1 x).1).vals.drop (2 * j + 2) }) (x := (s.look1 x).1) (by simpa [R.setObj] using ha.ok.inv.rows _ hmr))
        rw [objOf_set (ha.ok.inv.rows _ hmr), if_pos rfl] at h1
        simpa [R.setObj] using h1
      have hwd := hset { s.objOf (s.look1 x).1 with vals := (s.objOf (s.look1 x).1).vals.take (2 * j) ++ (s.objOf (s.look1 x).1).vals.drop (2 * j + 2) } s.objs.length rfl hsh h4
      have hpc := pairs_cut (s := s) (o := s.objOf (s.look1 x).1) (i := j) hl2 hlt (by omega)
      have hlen' : (((s.objOf (s.look1 x).1).vals.take (2 * j) ++ (s.objOf (s.look1 x).1).vals.drop (2 * j + 2)).length / 2) = n - 1 := by simp; omega
      simp only [hlen'] at hwd
      refine cut_core x (A.length : Int) k (s.wf (s.inner k)) true hg hft (fun w1 k1 => ?_)
      obtain ⟨sl, a, c, hmb, rfl, hl, hs⟩ := G_live (stays_G [] _ _ _ _ _ hg k1 (by simp)) hd
      refine (memCut_any (s.wf (s.inner k)) hmb htin hj hlt).mono ?_
      rintro e w' ⟨rfl, ⟨ws', hm', ht'⟩, hc'⟩
      refine ⟨rfl, G_setObj (c := c) hl hs hd rfl ?_, hc'.mono (fun y hy => List.mem_cons_of_mem _ hy)⟩
      rw [hwd, ← hpc]
      rw [ht'.eq] at hm'
      exact hm'
    · have hcq : s.cutQ x k = (8, s) := by
        unfold R.cutQ
        rw [htb]
        simp only [if_true]
        rw [hpos, if_pos (by omega)]
      rw [hcq]
      refine cut_core (s' := s) x (A.length : Int) k (s.wf (s.inner k)) false hg hft (fun w1 k1 => ?_)
      have hg1 := stays_G [] _ _ _ _ _ hg k1 (by simp)
      refine (memCut_none (s.wf (s.inner k)) (G_mem hg1 hd) htin (by omega)).mono ?_
      rintro e w' ⟨rfl, hc'⟩
      exact ⟨rfl, stays_G [] _ _ _ _ _ hg1 hc' (by simp), hc'.mono (by simp)⟩
  · rw [if_neg hE] at htb
    rw [if_neg hE, if_neg hE] at hft
    have hcq : s.cutQ x k = (s.ftE x k, s) := by
      unfold R.cutQ
      rw [htb]
      simp [hE]
    rw [hcq]
    generalize s.ftE x k = er at *
    have hne : (er != 0) = true := by simp [hE]
    have HFT := hide hft; have HC0 := hide hc0; have HG := hide hg; clear hft hc0 hg htb hcq hE
    go_enter Tryz.func58, Tryz.ntmps58
    go_wp2_with fail
    refine (unhide HFT).mono ?_
    rintro e w1 ⟨rfl, hc1⟩
    have hch1 := ((unhide HC0).trans hc1).alloc (.cells #[.int .i64 0, .int .i64 0] 121)
    have hg4 := stays_G [] _ _ _ _ _ (unhide HG) hch1 (by simp)
    have HG4 := hide hg4; have HCH4 := hide hch1; clear hg4 hch1 hc1
    go_wp2
    go_ret
    exact ⟨F, rfl, unhide HG4, G_lt (unhide HG4), ⟨(unhide HCH4).mono (by simp), fun _ h => .inl h⟩⟩
end Go.Proofs.YtfoncalkgmeklaaGreat

/- Put of the program. -/
namespace Go.Proofs.YtfoncalkgmeklaaGreat
open Go.RowKit
variable {fx : Fx}

theorem put_err {s : R} {x er : Int} {k v : Int × Int} (h : s.table x k v = (0, 0, er)) (h0 : er ≠ 0) : s.putQ x k v = (er, s) := by
  unfold R.putQ
  rw [h]
  simp [h0]
theorem table_lk {s : R} {x er : Int} {k v : Int × Int} (h : s.look x k v true = (0, er)) (h0 : er ≠ 0) : s.table x k v = (0, 0, er) := by
  unfold R.table
  rw [h]
  simp [h0]
theorem look_badv {s : R} (hd : s.dead = false) (x : Int) {k v : Int × Int} (h : ¬ (0 ≤ v.1 ∧ v.1 ≤ 2)) : s.look x k v true = (0, 3) := by
  have h1 : R.badValue k v true = true := by simp [R.badValue]; omega
  unfold R.look
  rw [hd, h1]
  simp

set_option maxRecDepth 100000 in
set_option maxHeartbeats 4000000 in
/-- Where the key and the value are what they must be. -/
theorem put_core {w : World} {bh : Nat} {s s' : R} {F : List Nat} (x p er : Int) (k v kw vw : Int × Int) (ok : Bool) (hg : (G fx) w bh s F) (hd : s.dead = false) (hk : k.1 = 1 ∨ k.1 = 2) (hv : v.1 = 0 ∨ v.1 = 1 ∨ v.1 = 2)
    (hin : ∀ w1, Chg [] w w1 → Calls Tryz.prog 98 #[.pointer (some ⟨bh, 0, none⟩), .agg #[.int .i64 v.1, .int .i64 v.2]] w1 fun e w' => e = .returned (.tuple #[.agg #[.int .i64 vw.1, .int .i64 vw.2], .bool true]) ∧ Chg [] w1 w')
    (hft : ∀ w1, Chg [] w w1 → Calls Tryz.prog 93 #[.pointer (some ⟨bh, 0, none⟩), .int .i64 x, .agg #[.int .i64 k.1, .int .i64 k.2]] w1 fun e w' => e = .returned (.tuple #[.int .i64 p, .agg #[.int .i64 kw.1, .int .i64 kw.2], .int .i64 er]) ∧ Chg [] w1 w')
    (hmp : er = 0 → ∀ w1, Chg [] w w1 → Calls Tryz.prog 102 #[.pointer (some ⟨bh, 1, none⟩), .int .i64 p, .agg #[.int .i64 kw.1, .int .i64 kw.2], .agg #[.int .i64 vw.1, .int .i64 vw.2]] w1 fun e w' => e = .returned (.bool ok) ∧ (G fx) w' bh s' F ∧ Chg F w1 w')
    (hno : er ≠ 0 → s' = s) :
    Calls Tryz.prog 56 #[.pointer (some ⟨bh, 0, none⟩), .int .i64 x, .agg #[.int .i64 k.1, .int .i64 k.2], .agg #[.int .i64 v.1, .int .i64 v.2]] w fun e w' => ∃ F', e = .returned (.int .i64 (if er = 0 then (if ok then 0 else 9) else er)) ∧ (G fx) w' bh s' F' ∧ (∀ b ∈ F', b < w'.heap.size) ∧ Stp F w F' w' := by
  have hc0 : Chg [] w ((w.alloc (.cells #[.int .i64 k.1, .int .i64 k.2] 33)).alloc (.cells #[.int .i64 v.1, .int .i64 v.2] 33)) := ((Chg.refl [] w).alloc _).alloc _
  have hbk : Blk ((w.alloc (.cells #[.int .i64 k.1, .int .i64 k.2] 33)).alloc (.cells #[.int .i64 v.1, .int .i64 v.2] 33)) w.heap.size [.int .i64 k.1, .int .i64 k.2] 33 := (Blk.new w [.int .i64 k.1, .int .i64 k.2] _).alloc _
  have hbv : Blk ((w.alloc (.cells #[.int .i64 k.1, .int .i64 k.2] 33)).alloc (.cells #[.int .i64 v.1, .int .i64 v.2] 33)) (w.heap.size + 1) [.int .i64 v.1, .int .i64 v.2] 33 := by
    have := Blk.new (w.alloc (.cells #[.int .i64 k.1, .int .i64 k.2] 33)) [.int .i64 v.1, .int .i64 v.2] 33
    rw [size_alloc] at this
    exact this
  have d0 : w.cell? ⟨bh, 0, none⟩ = some (.bool false) := by
    obtain ⟨sl, a, c, hmb, _⟩ := G_live hg hd
    exact hmb.blk.cell_of (i := 0) rfl
  have hblt : bh < w.heap.size := cell_lt d0
  have hFlt := G_lt hg
  have hik := isKey_any k ((w.alloc (.cells #[.int .i64 k.1, .int .i64 k.2] 33)).alloc (.cells #[.int .i64 v.1, .int .i64 v.2] 33))
  rw [show decide (k.1 = 1 ∨ k.1 = 2) = true from by simp [hk]] at hik
  have hiv : ∀ w1, _ := fun w1 => isValue_any v w1
  simp only [show decide (v.1 = 0 ∨ v.1 = 1 ∨ v.1 = 2) = true from by simp [hv]] at hiv
  have HIK := hide hik; have HIV := hide hiv; have HIN := hide hin; have HFT := hide hft; have HMP := hide hmp; have HNO := hide hno; have HC0 := hide hc0; have HBK := hide hbk; have HBV := hide hbv; have HFL := hide hFlt; have HG := hide hg
  clear hik hiv hin hft hmp hno hc0 hbk hbv hFlt hg hk hv
  go_enter Tryz.func56, Tryz.ntmps56
  go_wp2_with fail
  refine (unhide HIK).mono ?_
  rintro e w1 ⟨rfl, hc1⟩
  have b1 := (unhide HBV).chg hc1 (by simp)
  have q0 := b1.cell_of (i := 0) rfl
  have q1 := b1.cell_of (i := 1) rfl
  have hcall := unhide HIV w1
  have HCL := hide hcall; have HC1 := hide hc1; clear hcall hc1 b1
  go_wp2_with fail
  refine (unhide HCL).mono ?_
  rintro e w2 ⟨rfl, hc2⟩
  have hc12 := (unhide HC1).trans hc2
  have b2 := (unhide HBV).chg hc12 (by simp)
  have bk2 := (unhide HBK).chg hc12 (by simp)
  have q2 := b2.cell_of (i := 0) rfl
  have q3 := b2.cell_of (i := 1) rfl
  have hch2 := (unhide HC0).trans hc12
  have hcall := unhide HIN w2 hch2
  have HCL2 := hide hcall; have HCH2 := hide hch2; have HBK2 := hide bk2; clear hcall hc2 hc12 b2 bk2 hch2 q0 q1
  go_wp2_with fail
  refine (unhide HCL2).mono ?_
  rintro e w3 ⟨rfl, hc3⟩
  have hch3 := ((unhide HCH2).trans hc3).alloc (.cells #[.int .i64 vw.1, .int .i64 vw.2] 121)
  have bk3 := ((unhide HBK2).chg hc3 (by simp)).alloc (.cells #[.int .i64 vw.1, .int .i64 vw.2] 121)
  have q4 := bk3.cell_of (i := 0) rfl
  have q5 := bk3.cell_of (i := 1) rfl
  have hz3 : w.heap.size < w3.heap.size := ((unhide HBK2).chg hc3 (by simp)).lt
  have bvw : Blk (w3.alloc (.cells #[.int .i64 vw.1, .int .i64 vw.2] 121)) w3.heap.size [.int .i64 vw.1, .int .i64 vw.2] 121 := Blk.new w3 [.int .i64 vw.1, .int .i64 vw.2] _
  have hcall := unhide HFT _ hch3
  have hzz : w.heap.size ≤ w3.heap.size := by omega
  have HCL3 := hide hcall; have HCH3 := hide hch3; have HBVW := hide bvw; clear hcall hch3 bk3 bvw hc3 q2 q3
  go_wp2_with fail
  refine (unhide HCL3).mono ?_
  rintro e w4 ⟨rfl, hc4⟩
  have hch4 := ((unhide HCH3).trans hc4).alloc (.cells #[.int .i64 kw.1, .int .i64 kw.2] 121)
  have bvw4 := ((unhide HBVW).chg hc4 (by simp)).alloc (.cells #[.int .i64 kw.1, .int .i64 kw.2] 121)
  have bkw4 : Blk (w4.alloc (.cells #[.int .i64 kw.1, .int .i64 kw.2] 121)) w4.heap.size [.int .i64 kw.1, .int .i64 kw.2] 121 := Blk.new w4 [.int .i64 kw.1, .int .i64 kw.2] _
  have hz4 : w3.heap.size < w4.heap.size := ((unhide HBVW).chg hc4 (by simp)).lt
  have HCH4 := hide hch4; clear hch4 hc4 q4 q5
  by_cases he : er = 0
  · subst he
    have hcall := unhide HMP rfl _ (unhide HCH4).drew
    have hall : Hid (∀ w5, Chg F (w4.alloc (.cells #[.int .i64 kw.1, .int .i64 kw.2] 121)).drew w5 → w5.cell? ⟨w4.heap.size, 0, none⟩ = some (.int .i64 kw.1) ∧ w5.cell? ⟨w4.heap.size, 1, none⟩ = some (.int .i64 kw.2) ∧ w5.cell? ⟨w3.heap.size, 0, none⟩ = some (.int .i64 vw.1) ∧ w5.cell? ⟨w3.heap.size, 1, none⟩ = some (.int .i64 vw.2)) := fun w5 k5 => by
      have h1 := bkw4.drew.chg k5 (fun hm => by have := unhide HFL _ hm; omega)
      have h2 := bvw4.drew.chg k5 (fun hm => by have := unhide HFL _ hm; omega)
      exact ⟨h1.cell_of rfl, h1.cell_of rfl, h2.cell_of rfl, h2.cell_of rfl⟩
    have hini : Hid _ := unhide hall _ (Chg.refl _ _)
    have HCL4 := hide hcall; clear hcall bvw4 bkw4
    go_wp2_with fail
    go_region_held3 (fun w' => w'.cell? ⟨w4.heap.size, 0, none⟩ = some (.int .i64 kw.1) ∧ w'.cell? ⟨w4.heap.size, 1, none⟩ = some (.int .i64 kw.2) ∧ w'.cell? ⟨w3.heap.size, 0, none⟩ = some (.int .i64 vw.1) ∧ w'.cell? ⟨w3.heap.size, 1, none⟩ = some (.int .i64 vw.2)) (first | assumption | exact unhide hini | (apply unhide hall; assumption) | (go_keep; done)) ((go_at_call 102; refine (unhide HCL4).mono ?_; rintro e w5 ⟨rfl, hg5, hc5⟩; have hk5 := unhide hall w5 hc5; have HG5 := hide hg5; have HC5 := hide hc5; clear hg5))
    have hst : Stp F w F w5 := ⟨((unhide HCH4).drew.mono (by simp)).trans (unhide HC5), fun _ h => .inl h⟩
    have HST := hide hst; clear hst hc5 hk5
    cases ok with
    | true =>
      go_wp2
      go_ret
      first
        | exact ⟨F, by simp, unhide HG5, G_lt (unhide HG5), unhide HST⟩
        | exact ⟨rfl, F, unhide HG5, G_lt (unhide HG5), unhide HST⟩
    | false =>
      go_wp2
      go_ret
      first
        | exact ⟨F, by simp, unhide HG5, G_lt (unhide HG5), unhide HST⟩
        | exact ⟨rfl, F, unhide HG5, G_lt (unhide HG5), unhide HST⟩
  · have hne : (er != 0) = true := by simp [he]
    have hs' := unhide HNO he
    have hg5 := stays_G [] _ _ _ _ _ (unhide HG) (unhide HCH4) (by simp)
    have HS := hide hs'; have HG5 := hide hg5; have HE := hide he; clear hs' hg5 bvw4 bkw4 he
    go_wp2
    go_ret
    have hs' := unhide HS
    subst hs'
    first
      | exact ⟨rfl, F, unhide HG5, G_lt (unhide HG5), ⟨(unhide HCH4).mono (by simp), fun _ h => .inl h⟩⟩
      | (rw [if_neg (unhide HE)]; exact ⟨F, rfl, unhide HG5, G_lt (unhide HG5), ⟨(unhide HCH4).mono (by simp), fun _ h => .inl h⟩⟩)

set_option maxRecDepth 100000 in
set_option maxHeartbeats 2000000 in
theorem put_three {w : World} {bh : Nat} {s : R} {F : List Nat} (x : Int) (k v : Int × Int) (hg : (G fx) w bh s F) (hd : s.dead = false) (hkv : ¬ ((k.1 = 1 ∨ k.1 = 2) ∧ (v.1 = 0 ∨ v.1 = 1 ∨ v.1 = 2))) :
    Calls Tryz.prog 56 #[.pointer (some ⟨bh, 0, none⟩), .int .i64 x, .agg #[.int .i64 k.1, .int .i64 k.2], .agg #[.int .i64 v.1, .int .i64 v.2]] w fun e w' => ∃ F', e = .returned (.int .i64 3) ∧ (G fx) w' bh s F' ∧ (∀ b ∈ F', b < w'.heap.size) ∧ Stp F w F' w' := by
  have hc0 : Chg [] w ((w.alloc (.cells #[.int .i64 k.1, .int .i64 k.2] 33)).alloc (.cells #[.int .i64 v.1, .int .i64 v.2] 33)) := ((Chg.refl [] w).alloc _).alloc _
  have hbv : Blk ((w.alloc (.cells #[.int .i64 k.1, .int .i64 k.2] 33)).alloc (.cells #[.int .i64 v.1, .int .i64 v.2] 33)) (w.heap.size + 1) [.int .i64 v.1, .int .i64 v.2] 33 := by
    have := Blk.new (w.alloc (.cells #[.int .i64 k.1, .int .i64 k.2] 33)) [.int .i64 v.1, .int .i64 v.2] 33
    rw [size_alloc] at this
    exact this
  have d0 : w.cell? ⟨bh, 0, none⟩ = some (.bool false) := by
    obtain ⟨sl, a, c, hmb, _⟩ := G_live hg hd
    exact hmb.blk.cell_of (i := 0) rfl
  have hblt : bh < w.heap.size := cell_lt d0
  have hik := isKey_any k ((w.alloc (.cells #[.int .i64 k.1, .int .i64 k.2] 33)).alloc (.cells #[.int .i64 v.1, .int .i64 v.2] 33))
  by_cases hk : k.1 = 1 ∨ k.1 = 2
  · have hv : ¬ (v.1 = 0 ∨ v.1 = 1 ∨ v.1 = 2) := fun h => hkv ⟨hk, h⟩
    rw [show decide (k.1 = 1 ∨ k.1 = 2) = true from by simp [hk]] at hik
    have hiv : ∀ w1, _ := fun w1 => isValue_any v w1
    simp only [show decide (v.1 = 0 ∨ v.1 = 1 ∨ v.1 = 2) = false from by simp; omega] at hiv
    have HIK := hide hik; have HIV := hide hiv; have HC0 := hide hc0; have HBV := hide hbv; have HG := hide hg
    clear hik hiv hc0 hbv hg hk hv hkv
    go_enter Tryz.func56, Tryz.ntmps56
    go_wp2_with fail
    refine (unhide HIK).mono ?_
    rintro e w1 ⟨rfl, hc1⟩
    have b1 := (unhide HBV).chg hc1 (by simp)
    have q0 := b1.cell_of (i := 0) rfl
    have q1 := b1.cell_of (i := 1) rfl
    have hcall := unhide HIV w1
    have HCL := hide hcall; have HC1 := hide hc1; clear hcall hc1 b1
    go_wp2_with fail
    refine (unhide HCL).mono ?_
    rintro e w2 ⟨rfl, hc2⟩
    have hch := (unhide HC0).trans ((unhide HC1).trans hc2)
    have hg5 := stays_G [] _ _ _ _ _ (unhide HG) hch (by simp)
    have HG5 := hide hg5; have HCH := hide hch; clear hg5 hch hc2 q0 q1
    go_wp2
    go_ret
    exact ⟨F, rfl, unhide HG5, G_lt (unhide HG5), ⟨(unhide HCH).mono (by simp), fun _ h => .inl h⟩⟩
  · rw [show decide (k.1 = 1 ∨ k.1 = 2) = false from by simp; omega] at hik
    have HIK := hide hik; have HC0 := hide hc0; have HG := hide hg
    clear hik hc0 hbv hg hk hkv
    go_enter Tryz.func56, Tryz.ntmps56
    go_wp2_with fail
    refine (unhide HIK).mono ?_
    rintro e w1 ⟨rfl, hc1⟩
    have hch := (unhide HC0).trans hc1
    have hg5 := stays_G [] _ _ _ _ _ (unhide HG) hch (by simp)
    have HG5 := hide hg5; have HCH := hide hch; clear hg5 hch hc1
    go_wp2
    go_ret
    exact ⟨F, rfl, unhide HG5, G_lt (unhide HG5), ⟨(unhide HCH).mono (by simp), fun _ h => .inl h⟩⟩
set_option maxRecDepth 100000 in
set_option maxHeartbeats 2000000 in
theorem put_four {w : World} {bh : Nat} {s : R} {F : List Nat} (x : Int) (k v vw : Int × Int) (hg : (G fx) w bh s F) (hd : s.dead = false) (hk : k.1 = 1 ∨ k.1 = 2) (hv : v.1 = 0 ∨ v.1 = 1 ∨ v.1 = 2)
    (hin : ∀ w1, Chg [] w w1 → Calls Tryz.prog 98 #[.pointer (some ⟨bh, 0, none⟩), .agg #[.int .i64 v.1, .int .i64 v.2]] w1 fun e w' => e = .returned (.tuple #[.agg #[.int .i64 vw.1, .int .i64 vw.2], .bool false]) ∧ Chg [] w1 w') :
    Calls Tryz.prog 56 #[.pointer (some ⟨bh, 0, none⟩), .int .i64 x, .agg #[.int .i64 k.1, .int .i64 k.2], .agg #[.int .i64 v.1, .int .i64 v.2]] w fun e w' => ∃ F', e = .returned (.int .i64 4) ∧ (G fx) w' bh s F' ∧ (∀ b ∈ F', b < w'.heap.size) ∧ Stp F w F' w' := by
  have hc0 : Chg [] w ((w.alloc (.cells #[.int .i64 k.1, .int .i64 k.2] 33)).alloc (.cells #[.int .i64 v.1, .int .i64 v.2] 33)) := ((Chg.refl [] w).alloc _).alloc _
  have hbv : Blk ((w.alloc (.cells #[.int .i64 k.1, .int .i64 k.2] 33)).alloc (.cells #[.int .i64 v.1, .int .i64 v.2] 33)) (w.heap.size + 1) [.int .i64 v.1, .int .i64 v.2] 33 := by
    have := Blk.new (w.alloc (.cells #[.int .i64 k.1, .int .i64 k.2] 33)) [.int .i64 v.1, .int .i64 v.2] 33
    rw [size_alloc] at this
    exact this
  have d0 : w.cell? ⟨bh, 0, none⟩ = some (.bool false) := by
    obtain ⟨sl, a, c, hmb, _⟩ := G_live hg hd
    exact hmb.blk.cell_of (i := 0) rfl
  have hblt : bh < w.heap.size := cell_lt d0
  have hik := isKey_any k ((w.alloc (.cells #[.int .i64 k.1, .int .i64 k.2] 33)).alloc (.cells #[.int .i64 v.1, .int .i64 v.2] 33))
  rw [show decide (k.1 = 1 ∨ k.1 = 2) = true from by simp [hk]] at hik
  have hiv : ∀ w1, _ := fun w1 => isValue_any v w1
  simp only [show decide (v.1 = 0 ∨ v.1 = 1 ∨ v.1 = 2) = true from by simp [hv]] at hiv
  have HIK := hide hik; have HIV := hide hiv; have HIN := hide hin; have HC0 := hide hc0; have HBV := hide hbv; have HG := hide hg
  clear hik hiv hin hc0 hbv hg hk hv
  go_enter Tryz.func56, Tryz.ntmps56
  go_wp2_with fail
  refine (unhide HIK).mono ?_
  rintro e w1 ⟨rfl, hc1⟩
  have b1 := (unhide HBV).chg hc1 (by simp)
  have q0 := b1.cell_of (i := 0) rfl
  have q1 := b1.cell_of (i := 1) rfl
  have hcall := unhide HIV w1
  have HCL := hide hcall; have HC1 := hide hc1; clear hcall hc1 b1
  go_wp2_with fail
  refine (unhide HCL).mono ?_
  rintro e w2 ⟨rfl, hc2⟩
  have hc12 := (unhide HC1).trans hc2
  have b2 := (unhide HBV).chg hc12 (by simp)
  have q2 := b2.cell_of (i := 0) rfl
  have q3 := b2.cell_of (i := 1) rfl
  have hch2 := (unhide HC0).trans hc12
  have hcall := unhide HIN w2 hch2
  have HCL2 := hide hcall; have HCH2 := hide hch2; clear hcall hc2 hc12 b2 hch2 q0 q1
  go_wp2_with fail
  refine (unhide HCL2).mono ?_
  rintro e w3 ⟨rfl, hc3⟩
  have hch3 := ((unhide HCH2).trans hc3).alloc (.cells #[.int .i64 vw.1, .int .i64 vw.2] 121)
  have hg5 := stays_G [] _ _ _ _ _ (unhide HG) hch3 (by simp)
  have HG5 := hide hg5; have HCH := hide hch3; clear hg5 hch3 hc3 q2 q3
  go_wp2
  go_ret
  exact ⟨F, rfl, unhide HG5, G_lt (unhide HG5), ⟨(unhide HCH).mono (by simp), fun _ h => .inl h⟩⟩

set_option maxHeartbeats 2000000 in
theorem p_put {bh : Nat} {s : R} (x : Int) (k v : Int × Int) (hd : s.dead = false) (ha : RAll s) (hx : x ≤ 9223372036854775807) (hkx : k.2 ≤ 9223372036854775807) (hvx : v.2 ≤ 9223372036854775807) : PCall1 (G fx) 56 bh [.int .i64 x, .agg #[.int .i64 k.1, .int .i64 k.2], .agg #[.int .i64 v.1, .int .i64 v.2]] s (s.putQ x k v).1 (s.putQ x k v).2 := by
  intro w F hg
  show Calls Tryz.prog 56 #[.pointer (some ⟨bh, 0, none⟩), .int .i64 x, .agg #[.int .i64 k.1, .int .i64 k.2], .agg #[.int .i64 v.1, .int .i64 v.2]] w _
  by_cases hv : 0 ≤ v.1 ∧ v.1 ≤ 2
  · have hlk := look_tab hd x (k := k) hv
    by_cases hk : k.1 = 1 ∨ k.1 = 2
    · rw [if_pos hk] at hlk
      have hin : ∀ w1, Chg [] w w1 → _ := fun w1 k1 => gripInward_any v (stays_G [] _ _ _ _ _ hg k1 (by simp)) hd ha hvx
      cases hil : s.inL v with
      | false =>
        rw [hil, Bool.and_false] at hlk
        rw [put_err (table_lk (er := 4) (by rw [hlk]; simp) (by omega)) (by omega)]
        simp only [hil] at hin
        exact put_four x k v (s.inW v) hg hd hk (by omega) hin
      | true =>
        simp only [hil] at hin
        have htb := table_ft hd x (k := k) hv hil
        have hft : ∀ w1, Chg [] w w1 → _ := fun w1 k1 => gripFindTable_any x k (stays_G [] _ _ _ _ _ hg k1 (by simp)) hd ha hx hkx
        by_cases hE : s.ftE x k = 0
        · obtain ⟨_, hilk, h3, h4⟩ := ft_ok hE
          rw [if_pos hE] at htb
          simp only [hE, if_true] at hft
          have hmr : (s.look1 x).1 ∈ s.row := look_row ha.row h3
          have ho := ha.ok.osh (objOf_mem (ha.ok.inv.rows _ hmr))
          have htab := ho.tab h4
          have hko := ho.kind
          obtain ⟨A, B, htin, hA, hset⟩ := tab_in ha hmr h4
          obtain ⟨hhas, hiw⟩ := has_key ha hk hilk
          have hiv := inW_wf hv hil
          have hl2 : (s.objOf (s.look1 x).1).vals.length = 2 * ((s.objOf (s.look1 x).1).vals.length / 2) := by omega
          obtain ⟨hpos, hle⟩ := key_idx ha hmr hl2 hhas
          rw [← hA, hiw] at hft
          rw [hiv] at hin
          have hrn := ha.put x k v
          generalize hn : (s.objOf (s.look1 x).1).vals.length / 2 = n at *
          generalize hj : keyIdx (keysOf (s.pairs (s.objOf (s.look1 x).1)) n) (s.wf (s.inner k)) = j at *
          have hmp : ∀ w1, Chg [] w w1 → ∃ sl a c, sl.length = 32 ∧ (∀ k x, sl[k]? = some x → SlotOk s k x) ∧ F = bh :: ab a ∧ Calls Tryz.prog 102 #[.pointer (some ⟨bh, 1, none⟩), .int .i64 (A.length : Int), .agg #[.int .i64 (s.wf (s.inner k)).1, .int .i64 (s.wf (s.inner k)).2], .agg #[.int .i64 (s.wf (s.inner v)).1, .int .i64 (s.wf (s.inner v)).2]] w1 fun e w' =>
              e = .returned (.bool (decide (j < n ∨ (n : Int) < (s.objOf (s.look1 x).1).size))) ∧ (∃ ws', MB w' bh [.bool false] s.limit ws' (holdCells fx sl s.scopes) 67 a c ∧ TabIn ws' A B (s.objOf (s.look1 x).1).size (if j < n then n else if (n : Int) < (s.objOf (s.look1 x).1).size then n + 1 else n) (if j < n ∨ (n : Int) < (s.objOf (s.look1 x).1).size then ((s.pairs (s.objOf (s.look1 x).1)).set (2 * j) (s.wf (s.inner k))).set (2 * j + 1) (s.wf (s.inner v)) else s.pairs (s.objOf (s.look1 x).1))) ∧ Chg (ab a) w1 w' := fun w1 k1 => by
            obtain ⟨sl, a, c, hmb, hF, hl, hs⟩ := G_live (stays_G [] _ _ _ _ _ hg k1 (by simp)) hd
            exact ⟨sl, a, c, hl, hs, hF, memPut_any (s.wf (s.inner k)) (s.wf (s.inner v)) hmb htin hj hle⟩
          have same : ∀ ob : RObj, (s.setObj (s.look1 x).1 ob).objs.length = s.objs.length := fun ob => by simp [R.setObj]
          by_cases hlt : j < n
          · have hpq : s.putQ x k v = (0, s.setObj (s.look1 x).1 { s.objOf (s.look1 x).1 with vals := (s.objOf (s.look1 x).1).vals.set (2 * j + 1) (s.inner v) }) := by
              unfold R.putQ
              rw [htb]
              simp only [if_true]
              rw [hpos, if_neg (by omega)]
            rw [hpq] at hrn ⊢
            have hsh : OSh s.objs.length { s.objOf (s.look1 x).1 with vals := (s.objOf (s.look1 x).1).vals.set (2 * j + 1) (s.inner v) } := by
              have h1 := hrn.ok.osh (objOf_mem (s := s.setObj (s.look1 x).1 { s.objOf (s.look1 x).1 with vals := (s.objOf (s.look1 x).1).vals.set (2 * j + 1) (s.inner v) }) (x := (s.look1 x).1) (by rw [same]; exact ha.ok.inv.rows _ hmr))
              rw [objOf_set (ha.ok.inv.rows _ hmr), if_pos rfl, same] at h1
              exact h1
            have hwd := hset { s.objOf (s.look1 x).1 with vals := (s.objOf (s.look1 x).1).vals.set (2 * j + 1) (s.inner v) } s.objs.length rfl hsh h4
            have hkey : (s.objOf (s.look1 x).1).vals.getD (2 * j) (0, 0) = s.inner k := by
              have h1 := keyPos_at (s.inner k) (s.objOf (s.look1 x).1).vals (by omega)
              rw [hpos] at h1
              simp [List.getD, h1]
            have hpp := pairs_put (s := s) (o := s.objOf (s.look1 x).1) (j := j) (s.inner k) (s.inner v) (by omega) (by rw [hkey])
            have hlen' : ((s.objOf (s.look1 x).1).vals.set (2 * j + 1) (s.inner v)).length / 2 = n := by simpa using hn
            simp only [hlen'] at hwd
            have := put_core (s' := s.setObj (s.look1 x).1 { s.objOf (s.look1 x).1 with vals := (s.objOf (s.look1 x).1).vals.set (2 * j + 1) (s.inner v) }) x (A.length : Int) 0 k v (s.wf (s.inner k)) (s.wf (s.inner v)) true hg hd hk (by omega) hin hft (fun _ w1 k1 => by
              obtain ⟨sl, a, c, hl, hs, rfl, hc⟩ := hmp w1 k1
              refine hc.mono ?_
              rintro e w' ⟨rfl, ⟨ws', hm', ht'⟩, hc'⟩
              refine ⟨by simp [hlt], G_setObj (c := c) hl hs hd rfl ?_, hc'.mono (fun y hy => List.mem_cons_of_mem _ hy)⟩
              rw [if_pos hlt, if_pos (Or.inl hlt), hpp] at ht'
              rw [hwd]
              rw [ht'.eq] at hm'
              exact hm') (fun h => absurd rfl h)
            simpa using this
          · have hjn : j = n := by omega
            subst hjn
            by_cases hrm : (j : Int) < (s.objOf (s.look1 x).1).size
            · have hpq : s.putQ x k v = (0, s.setObj (s.look1 x).1 { s.objOf (s.look1 x).1 with vals := (s.objOf (s.look1 x).1).vals ++ [s.inner k, s.inner v] }) := by
                unfold R.putQ
                rw [htb]
                simp only [if_true]
                rw [hpos, if_pos (by omega), if_neg (by omega)]
              rw [hpq] at hrn ⊢
              have hsh : OSh s.objs.length { s.objOf (s.look1 x).1 with vals := (s.objOf (s.look1 x).1).vals ++ [s.inner k, s.inner v] } := by
                have h1 := hrn.ok.osh (objOf_mem (s := s.setObj (s.look1 x).1 { s.objOf (s.look1 x).1 with vals := (s.objOf (s.look1 x).1).vals ++ [s.inner k, s.inner v] }) (x := (s.look1 x).1) (by rw [same]; exact ha.ok.inv.rows _ hmr))
                rw [objOf_set (ha.ok.inv.rows _ hmr), if_pos rfl, same] at h1
                exact h1
              have hwd := hset { s.objOf (s.look1 x).1 with vals := (s.objOf (s.look1 x).1).vals ++ [s.inner k, s.inner v] } s.objs.length rfl hsh h4
              have hpp := pairs_new (s := s) (o := s.objOf (s.look1 x).1) (s.inner k) (s.inner v) (by omega)
              rw [hl2] at hpp
              have hlen' : ((s.objOf (s.look1 x).1).vals ++ [s.inner k, s.inner v]).length / 2 = j + 1 := by simp; omega
              simp only [hlen'] at hwd
              have := put_core (s' := s.setObj (s.look1 x).1 { s.objOf (s.look1 x).1 with vals := (s.objOf (s.look1 x).1).vals ++ [s.inner k, s.inner v] }) x (A.length : Int) 0 k v (s.wf (s.inner k)) (s.wf (s.inner v)) true hg hd hk (by omega) hin hft (fun _ w1 k1 => by
                obtain ⟨sl, a, c, hl, hs, rfl, hc⟩ := hmp w1 k1
                refine hc.mono ?_
                rintro e w' ⟨rfl, ⟨ws', hm', ht'⟩, hc'⟩
                refine ⟨by simp [hrm], G_setObj (c := c) hl hs hd rfl ?_, hc'.mono (fun y hy => List.mem_cons_of_mem _ hy)⟩
                rw [if_neg hlt, if_pos hrm, if_pos (Or.inr hrm), hpp] at ht'
                rw [hwd]
                rw [ht'.eq] at hm'
                exact hm') (fun h => absurd rfl h)
              simpa using this
            · have hpq : s.putQ x k v = (9, s) := by
                unfold R.putQ
                rw [htb]
                simp only [if_true]
                rw [hpos, if_pos (by omega), if_pos (by omega)]
              rw [hpq]
              have := put_core (s' := s) x (A.length : Int) 0 k v (s.wf (s.inner k)) (s.wf (s.inner v)) false hg hd hk (by omega) hin hft (fun _ w1 k1 => by
                obtain ⟨sl, a, c, hl, hs, rfl, hc⟩ := hmp w1 k1
                refine hc.mono ?_
                rintro e w' ⟨rfl, ⟨ws', hm', ht'⟩, hc'⟩
                refine ⟨by simp; omega, ?_, hc'.mono (fun y hy => List.mem_cons_of_mem _ hy)⟩
                rw [if_neg hlt, if_neg hrm, if_neg (by omega)] at ht'
                rw [ht'.eq, ← htin.eq] at hm'
                refine ⟨sl, a, c, s.words, s.limit, s.scopes, ?_, rfl, hl, fun _ => ⟨rfl, rfl, rfl, hs⟩⟩
                rw [hd]
                exact hm') (fun h => absurd rfl h)
              simpa using this
        · rw [if_neg hE] at htb
          rw [put_err htb hE]
          simp only [if_neg hE] at hft
          have := put_core (s' := s) x 0 (s.ftE x k) k v (0, 0) (s.inW v) false hg hd hk (by omega) hin hft (fun h => absurd h hE) (fun _ => rfl)
          simpa [hE] using this
    · rw [if_neg hk] at hlk
      rw [put_err (table_lk (er := 3) hlk (by omega)) (by omega)]
      exact put_three x k v hg hd (fun h => hk h.1)
  · rw [put_err (table_lk (er := 3) (look_badv hd x hv) (by omega)) (by omega)]
    exact put_three x k v hg hd (fun h => hv (by omega))
end Go.Proofs.YtfoncalkgmeklaaGreat
