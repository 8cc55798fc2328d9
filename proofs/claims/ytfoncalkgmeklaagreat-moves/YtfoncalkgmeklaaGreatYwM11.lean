/- values: Set, Put, Cut: each of these calls, of the program and of the document, answers the same, if each keeps its contract. (Written by wip/genlaw.py.) -/
import Derived.Test.YtfoncalkgmeklaaGreatYwM10
namespace Go.Proofs.YtfoncalkgmeklaaGreat
open Go.RowKit

set_option maxRecDepth 100000 in
set_option maxHeartbeats 4000000 in
theorem values_set {G : World → Nat → R → List Nat → Prop} (hG : Stays G) {w : World} {bw : Nat} {s : R} {S : LS} (x y : Int) (k v : Int × Int) (t : ByteArray) (er : Int) (s' : R) (h : LRep G w bw s s S)
    (hp : PCall1 G 54 S.bh [.int .i64 x, .int .i64 y, .agg #[.int .i64 v.1, .int .i64 v.2]] s er s') (hr : RCall1 55 S.br [.int .i64 x, .int .i64 y, .agg #[.int .i64 v.1, .int .i64 v.2]] s er s') :
    Calls Tryz.prog 22 #[.pointer (some ⟨bw, 0, none⟩), LOp.val ⟨10, x, y, k, v, t⟩] w fun e w' => ∃ S', e = .returned (.bool true) ∧ LRep G w' bw s' s' S' ∧ Like S S' := by
  unfold LOp.val
  have hch : Chg [] w (((w.alloc (.cells (LOp.cells ⟨10, x, y, k, v, t⟩).toArray 35)).alloc (.cells #[.int .i64 0, .int .i64 0] 33)).alloc (.cells #[.int .i64 0, .int .i64 0] 33)).drew := ((((Chg.refl [] w).alloc _).alloc _).alloc _).drew
  have hlt0 := h.ref.lt
  have h1 : LRep G (((w.alloc (.cells (LOp.cells ⟨10, x, y, k, v, t⟩).toArray 35)).alloc (.cells #[.int .i64 0, .int .i64 0] 33)).alloc (.cells #[.int .i64 0, .int .i64 0] 33)).drew bw s s S := h.quiet hG hch
  have hbx : Blk (((w.alloc (.cells (LOp.cells ⟨10, x, y, k, v, t⟩).toArray 35)).alloc (.cells #[.int .i64 0, .int .i64 0] 33)).alloc (.cells #[.int .i64 0, .int .i64 0] 33)).drew w.heap.size (LOp.cells ⟨10, x, y, k, v, t⟩) 35 := (((Blk.new w _ _).alloc _).alloc _).drew
  have hv1 : Blk (((w.alloc (.cells (LOp.cells ⟨10, x, y, k, v, t⟩).toArray 35)).alloc (.cells #[.int .i64 0, .int .i64 0] 33)).alloc (.cells #[.int .i64 0, .int .i64 0] 33)).drew (w.heap.size + 1) [.int .i64 0, .int .i64 0] 33 := by
    have := (Blk.new (w.alloc (.cells (LOp.cells ⟨10, x, y, k, v, t⟩).toArray 35)) [.int .i64 0, .int .i64 0] 33).alloc (.cells #[.int .i64 0, .int .i64 0] 33)
    rw [size_alloc] at this
    exact this.drew
  have hv2 : Blk (((w.alloc (.cells (LOp.cells ⟨10, x, y, k, v, t⟩).toArray 35)).alloc (.cells #[.int .i64 0, .int .i64 0] 33)).alloc (.cells #[.int .i64 0, .int .i64 0] 33)).drew (w.heap.size + 1 + 1) [.int .i64 0, .int .i64 0] 33 := by
    have := Blk.new ((w.alloc (.cells (LOp.cells ⟨10, x, y, k, v, t⟩).toArray 35)).alloc (.cells #[.int .i64 0, .int .i64 0] 33)) [.int .i64 0, .int .i64 0] 33
    rw [size_alloc, size_alloc] at this
    exact this.drew
  have hbw : bw < w.heap.size := h.law.lt
  have c0 := h.law.cell_of (i := 0) rfl
  have hnF : ∀ b ∈ S.F, b < w.heap.size := h.flt
  have hnO : ∀ b ∈ S.own bw, b < w.heap.size := h.own_lt
  have hpc : Hid (Calls Tryz.prog 54 #[.pointer (some ⟨S.bh, 0, none⟩), .int .i64 x, .int .i64 y, .agg #[.int .i64 v.1, .int .i64 v.2]] (((w.alloc (.cells (LOp.cells ⟨10, x, y, k, v, t⟩).toArray 35)).alloc (.cells #[.int .i64 0, .int .i64 0] 33)).alloc (.cells #[.int .i64 0, .int .i64 0] 33)).drew fun e w' => ∃ F', e = .returned (.int .i64 er) ∧ G w' S.bh s' F' ∧ (∀ b ∈ F', b < w'.heap.size) ∧ Stp S.F (((w.alloc (.cells (LOp.cells ⟨10, x, y, k, v, t⟩).toArray 35)).alloc (.cells #[.int .i64 0, .int .i64 0] 33)).alloc (.cells #[.int .i64 0, .int .i64 0] 33)).drew F' w') := hp _ _ h1.prog
  have hall : Hid (∀ w', Chg S.F (((w.alloc (.cells (LOp.cells ⟨10, x, y, k, v, t⟩).toArray 35)).alloc (.cells #[.int .i64 0, .int .i64 0] 33)).alloc (.cells #[.int .i64 0, .int .i64 0] 33)).drew w' → Hid ((w'.cell? ⟨bw, 0, none⟩ = some (.pointer (some ⟨S.bh, 0, none⟩)) ∧ w'.cell? ⟨w.heap.size, 1, none⟩ = some (.int .i64 x) ∧ w'.cell? ⟨w.heap.size, 2, none⟩ = some (.int .i64 y) ∧ w'.cell? ⟨w.heap.size, 5, none⟩ = some (.int .i64 v.1) ∧ w'.cell? ⟨w.heap.size, 6, none⟩ = some (.int .i64 v.2)) ∧ (∀ (p q : Nat) (u u' : Value), let w4 := (w'.setCell ⟨w.heap.size + 1, p, none⟩ u).setCell ⟨w.heap.size + 1, q, none⟩ u'; w4.cell? ⟨bw, 0, none⟩ = some (.pointer (some ⟨S.bh, 0, none⟩)) ∧ w4.cell? ⟨w.heap.size, 1, none⟩ = some (.int .i64 x) ∧ w4.cell? ⟨w.heap.size, 2, none⟩ = some (.int .i64 y) ∧ w4.cell? ⟨w.heap.size, 5, none⟩ = some (.int .i64 v.1) ∧ w4.cell? ⟨w.heap.size, 6, none⟩ = some (.int .i64 v.2))
      ∧ w'.cell? ⟨w.heap.size + 1, 0, none⟩ = some (.int .i64 0) ∧ w'.cell? ⟨w.heap.size + 1, 1, none⟩ = some (.int .i64 0) ∧ w'.frozen? ⟨w.heap.size + 1, 0, none⟩ = false ∧ w'.frozen? ⟨w.heap.size + 1, 1, none⟩ = false)) := by
    intro w' hc
    have d0 : w'.cell? ⟨bw, 0, none⟩ = some (.pointer (some ⟨S.bh, 0, none⟩)) := (h1.law.chg hc (fun hm => h1.dj2 bw hm (own_bw _ _))).cell_of rfl
    have dx : Blk w' w.heap.size (LOp.cells ⟨10, x, y, k, v, t⟩) 35 := hbx.chg hc (fun hm => by have := hnF _ hm; omega)
    have dv : Blk w' (w.heap.size + 1) [.int .i64 0, .int .i64 0] 33 := hv1.chg hc (fun hm => by have := hnF _ hm; omega)
    refine ⟨⟨d0, dx.cell_of (i := 1) rfl, dx.cell_of (i := 2) rfl, dx.cell_of (i := 5) rfl, dx.cell_of (i := 6) rfl⟩, fun p q u u' => ?_, dv.cell_of (i := 0) rfl, dv.cell_of (i := 1) rfl, dv.frozen 0, dv.frozen 1⟩
    have kk : Chg [w.heap.size + 1] w' ((w'.setCell ⟨w.heap.size + 1, p, none⟩ u).setCell ⟨w.heap.size + 1, q, none⟩ u') := ((Chg.refl _ w').setCell (.inl (by simp)) _).setCell (.inl (by simp)) _
    have mv : ∀ {ad : Addr} {z : Value}, ad.block ≠ w.heap.size + 1 → w'.cell? ad = some z → ((w'.setCell ⟨w.heap.size + 1, p, none⟩ u).setCell ⟨w.heap.size + 1, q, none⟩ u').cell? ad = some z := fun hne hz => by rw [kk.cell (cell_lt' hz) (by simpa using hne)]; exact hz
    exact ⟨mv (by show bw ≠ _; omega) d0, mv (by show w.heap.size ≠ _; omega) (dx.cell_of (i := 1) rfl), mv (by show w.heap.size ≠ _; omega) (dx.cell_of (i := 2) rfl), mv (by show w.heap.size ≠ _; omega) (dx.cell_of (i := 5) rfl), mv (by show w.heap.size ≠ _; omega) (dx.cell_of (i := 6) rfl)⟩
  have hs0 : Hid (Hid (((((w.alloc (.cells (LOp.cells ⟨10, x, y, k, v, t⟩).toArray 35)).alloc (.cells #[.int .i64 0, .int .i64 0] 33)).alloc (.cells #[.int .i64 0, .int .i64 0] 33)).drew.cell? ⟨bw, 0, none⟩ = some (.pointer (some ⟨S.bh, 0, none⟩)) ∧ (((w.alloc (.cells (LOp.cells ⟨10, x, y, k, v, t⟩).toArray 35)).alloc (.cells #[.int .i64 0, .int .i64 0] 33)).alloc (.cells #[.int .i64 0, .int .i64 0] 33)).drew.cell? ⟨w.heap.size, 1, none⟩ = some (.int .i64 x) ∧ (((w.alloc (.cells (LOp.cells ⟨10, x, y, k, v, t⟩).toArray 35)).alloc (.cells #[.int .i64 0, .int .i64 0] 33)).alloc (.cells #[.int .i64 0, .int .i64 0] 33)).drew.cell? ⟨w.heap.size, 2, none⟩ = some (.int .i64 y) ∧ (((w.alloc (.cells (LOp.cells ⟨10, x, y, k, v, t⟩).toArray 35)).alloc (.cells #[.int .i64 0, .int .i64 0] 33)).alloc (.cells #[.int .i64 0, .int .i64 0] 33)).drew.cell? ⟨w.heap.size, 5, none⟩ = some (.int .i64 v.1) ∧ (((w.alloc (.cells (LOp.cells ⟨10, x, y, k, v, t⟩).toArray 35)).alloc (.cells #[.int .i64 0, .int .i64 0] 33)).alloc (.cells #[.int .i64 0, .int .i64 0] 33)).drew.cell? ⟨w.heap.size, 6, none⟩ = some (.int .i64 v.2)))) := (unhide hall _ (Chg.refl _ _)).1
  have H1 := hide h1; have HBX := hide hbx; have HV1 := hide hv1; have HV2 := hide hv2; have HR := hide hr; have HNF := hide hnF; have HNO := hide hnO; have HL0 := hide hlt0; clear h h1 hbx hv1 hv2 hp hr hnF hnO hlt0 hch
  go_enter Tryz.func22, Tryz.ntmps22
  go_upto_region 16 with fail
  go_cut [6] (fun b wx => b = .int .i64 er ∧ ∃ S', LRep G wx bw s' s S' ∧ Like S S' ∧ S'.L = S.L ∧ (∀ b ∈ S'.own bw, b < w.heap.size) ∧ (∀ b ∈ S'.F, b ≠ w.heap.size + 1 ∧ b ≠ w.heap.size + 1 + 1) ∧ Blk wx w.heap.size (LOp.cells ⟨10, x, y, k, v, t⟩) 35 ∧ Blk wx (w.heap.size + 1) [.int .i64 0, .int .i64 0] 33 ∧ Blk wx (w.heap.size + 1 + 1) [.int .i64 0, .int .i64 0] 33)
  case first =>
    go_region_held3 (fun w' => w'.cell? ⟨bw, 0, none⟩ = some (.pointer (some ⟨S.bh, 0, none⟩)) ∧ w'.cell? ⟨w.heap.size, 1, none⟩ = some (.int .i64 x) ∧ w'.cell? ⟨w.heap.size, 2, none⟩ = some (.int .i64 y) ∧ w'.cell? ⟨w.heap.size, 5, none⟩ = some (.int .i64 v.1) ∧ w'.cell? ⟨w.heap.size, 6, none⟩ = some (.int .i64 v.2)) (first | assumption | exact unhide (unhide hs0) | (go_keep; done) | (apply (unhide hkeep).2.1)) ((go_at_call 54; refine (unhide hpc).mono ?_; rintro e w2 ⟨F2, rfl, hg2, hl2, st2⟩; have hkeep := unhide hall w2 st2.chg; have hk3 := (unhide hkeep).1; have HG2 := hide hg2; have HL2 := hide hl2; have ST2 := hide st2; clear hg2 hl2 st2))
    go_wp2_with fail
    go_meet
    have h2 := (unhide H1).progStep (unhide HG2) (unhide HL2) (unhide ST2)
    have hst := unhide ST2
    have hsz : w.heap.size + 1 + 1 < ((((w.alloc (.cells (LOp.cells ⟨10, x, y, k, v, t⟩).toArray 35)).alloc (.cells #[.int .i64 0, .int .i64 0] 33)).alloc (.cells #[.int .i64 0, .int .i64 0] 33)).drew).heap.size := (unhide HV2).lt
    have hF2 : ∀ b ∈ F2, b ≠ w.heap.size ∧ b ≠ w.heap.size + 1 ∧ b ≠ w.heap.size + 1 + 1 := fun b hb => by
      rcases hst.foot b hb with h8 | h8
      · have := unhide HNF b h8; omega
      · omega
    have e1 := (unhide HV1).chg hst.chg (fun hm => by have := unhide HNF _ hm; omega)
    have e2 := (unhide HV2).chg hst.chg (fun hm => by have := unhide HNF _ hm; omega)
    have e3 := (unhide HBX).chg hst.chg (fun hm => by have := unhide HNF _ hm; omega)
    exact ⟨rfl, _, h2, ⟨rfl, rfl, rfl, rfl, rfl⟩, rfl, unhide HNO, fun b hb => (hF2 b hb).2, e3, e1, e2⟩
  case rest =>
    obtain ⟨rfl, S2, h2, lk, eL, hO2, hF2, hbx2, hv12, hv22⟩ := hcut
    have e2 : S2.br = S.br := lk.2.2.2.1
    have h3 : LRep G wc.drew bw s' s S2 := h2.quiet hG ((Chg.refl [] wc).drew)
    have c1 := h2.law.cell_of (i := 1) rfl
    have cx1 := hbx2.cell_of (i := 1) rfl
    have cx2 := hbx2.cell_of (i := 2) rfl
    have cx5 := hbx2.cell_of (i := 5) rfl
    have cx6 := hbx2.cell_of (i := 6) rfl
    have hrc : Hid (Calls Tryz.prog 55 #[.pointer (some ⟨S.br, 0, none⟩), .int .i64 x, .int .i64 y, .agg #[.int .i64 v.1, .int .i64 v.2]] wc.drew fun e w' => ∃ L', e = .returned (.int .i64 er) ∧ RRep w' S.br s' L' ∧ Stp (S2.L.foot S.br) wc.drew (L'.foot S.br) w') := by
      have := unhide HR wc.drew S2.L (by rw [← e2]; exact h3.ref)
      exact this
    have hfl : ∀ b ∈ S2.L.foot S.br, b < w.heap.size := by rw [eL]; exact unhide HL0
    have hall2 : Hid (∀ w', Chg (S2.L.foot S.br) wc.drew w' → Hid ((w'.cell? ⟨bw, 1, none⟩ = some (.pointer (some ⟨S.br, 0, none⟩)) ∧ w'.cell? ⟨w.heap.size, 1, none⟩ = some (.int .i64 x) ∧ w'.cell? ⟨w.heap.size, 2, none⟩ = some (.int .i64 y) ∧ w'.cell? ⟨w.heap.size, 5, none⟩ = some (.int .i64 v.1) ∧ w'.cell? ⟨w.heap.size, 6, none⟩ = some (.int .i64 v.2)) ∧ (∀ (p q : Nat) (u u' : Value), let w4 := (w'.setCell ⟨w.heap.size + 1 + 1, p, none⟩ u).setCell ⟨w.heap.size + 1 + 1, q, none⟩ u'; w4.cell? ⟨bw, 1, none⟩ = some (.pointer (some ⟨S.br, 0, none⟩)) ∧ w4.cell? ⟨w.heap.size, 1, none⟩ = some (.int .i64 x) ∧ w4.cell? ⟨w.heap.size, 2, none⟩ = some (.int .i64 y) ∧ w4.cell? ⟨w.heap.size, 5, none⟩ = some (.int .i64 v.1) ∧ w4.cell? ⟨w.heap.size, 6, none⟩ = some (.int .i64 v.2))
        ∧ w'.cell? ⟨w.heap.size + 1 + 1, 0, none⟩ = some (.int .i64 0) ∧ w'.cell? ⟨w.heap.size + 1 + 1, 1, none⟩ = some (.int .i64 0) ∧ w'.frozen? ⟨w.heap.size + 1 + 1, 0, none⟩ = false ∧ w'.frozen? ⟨w.heap.size + 1 + 1, 1, none⟩ = false)) := by
      intro w' hc
      have d0 := (h3.law.chg hc (fun hm => h2.dj3 bw (by rw [e2]; exact hm) (own_bw _ _))).cell_of (i := 1) rfl
      rw [e2] at d0
      have dx : Blk w' w.heap.size (LOp.cells ⟨10, x, y, k, v, t⟩) 35 := hbx2.drew.chg hc (fun hm => by have := hfl _ hm; omega)
      have dv : Blk w' (w.heap.size + 1 + 1) [.int .i64 0, .int .i64 0] 33 := hv22.drew.chg hc (fun hm => by have := hfl _ hm; omega)
      refine ⟨⟨d0, dx.cell_of (i := 1) rfl, dx.cell_of (i := 2) rfl, dx.cell_of (i := 5) rfl, dx.cell_of (i := 6) rfl⟩, fun p q u u' => ?_, dv.cell_of (i := 0) rfl, dv.cell_of (i := 1) rfl, dv.frozen 0, dv.frozen 1⟩
      have kk : Chg [w.heap.size + 1 + 1] w' ((w'.setCell ⟨w.heap.size + 1 + 1, p, none⟩ u).setCell ⟨w.heap.size + 1 + 1, q, none⟩ u') := ((Chg.refl _ w').setCell (.inl (by simp)) _).setCell (.inl (by simp)) _
      have mv : ∀ {ad : Addr} {z : Value}, ad.block ≠ w.heap.size + 1 + 1 → w'.cell? ad = some z → ((w'.setCell ⟨w.heap.size + 1 + 1, p, none⟩ u).setCell ⟨w.heap.size + 1 + 1, q, none⟩ u').cell? ad = some z := fun hne hz => by rw [kk.cell (cell_lt' hz) (by simpa using hne)]; exact hz
      exact ⟨mv (by show bw ≠ _; omega) d0, mv (by show w.heap.size ≠ _; omega) (dx.cell_of (i := 1) rfl), mv (by show w.heap.size ≠ _; omega) (dx.cell_of (i := 2) rfl), mv (by show w.heap.size ≠ _; omega) (dx.cell_of (i := 5) rfl), mv (by show w.heap.size ≠ _; omega) (dx.cell_of (i := 6) rfl)⟩
    rw [e2] at c1
    have H3 := hide h3; have E2 := hide e2; have LK := hide lk; have HFL := hide hfl; have HO2 := hide hO2; have HF2 := hide hF2; have HV12 := hide hv12; have HV22 := hide hv22; clear h2 h3 lk e2 eL hbx2 hfl hO2 hF2 hv12 hv22 H1 HBX HV1 HV2 hpc hall c0
    go_upto_region 17 with fail
    go_region_held3 (fun w' => w'.cell? ⟨bw, 1, none⟩ = some (.pointer (some ⟨S.br, 0, none⟩)) ∧ w'.cell? ⟨w.heap.size, 1, none⟩ = some (.int .i64 x) ∧ w'.cell? ⟨w.heap.size, 2, none⟩ = some (.int .i64 y) ∧ w'.cell? ⟨w.heap.size, 5, none⟩ = some (.int .i64 v.1) ∧ w'.cell? ⟨w.heap.size, 6, none⟩ = some (.int .i64 v.2)) (first | assumption | exact unhide (unhide hs0) | (go_keep; done) | (apply (unhide hkeep).2.1)) ((go_at_call 55; refine (unhide hrc).mono ?_; rintro e w4 ⟨L4, rfl, hg4, st4⟩; have hkeep := unhide hall2 w4 st4.chg; have hk3 := (unhide hkeep).1; have HG4 := hide hg4; have ST4 := hide st4; clear hg4 st4))
    have hst := unhide ST4
    have h4 : LRep G w4 bw s' s' { S2 with L := L4 } := (unhide H3).refStep hG (by rw [unhide E2]; exact unhide HG4) (by rw [unhide E2]; exact hst)
    have hsz : w.heap.size + 1 + 1 < wc.drew.heap.size := (unhide HV22).lt
    have e1 := (unhide HV12).drew.chg hst.chg (fun hm => by have := unhide HFL _ hm; omega)
    have e2 := (unhide HV22).drew.chg hst.chg (fun hm => by have := unhide HFL _ hm; omega)
    have hf4 : ∀ b ∈ L4.foot S2.br, b ≠ w.heap.size + 1 + 1 := fun b hb => by
      rw [unhide E2] at hb
      rcases hst.foot b hb with h8 | h8
      · have := unhide HFL b h8; omega
      · omega
    have h5 := h4
    have v1 := e1
    have v2 := e2
    have q0 := v1.cell_of (i := 0) rfl
    have q1 := v1.cell_of (i := 1) rfl
    have q2 := v2.cell_of (i := 0) rfl
    have q3 := v2.cell_of (i := 1) rfl
    have H5 := hide h5; clear h5 v1 v2 e1 e2 hf4 h4 hst hsz H3 hrc hall2 hkeep hk3 HG4 ST4 
    
    go_wp2_with (go_at_call 18; refine (num_any _ _).mono ?_; rintro e w6 ⟨rfl, rfl⟩)
    go_ret
    exact ⟨_, by simp, unhide H5, unhide LK⟩

set_option maxRecDepth 100000 in
set_option maxHeartbeats 4000000 in
theorem values_put {G : World → Nat → R → List Nat → Prop} (hG : Stays G) {w : World} {bw : Nat} {s : R} {S : LS} (x y : Int) (k v : Int × Int) (t : ByteArray) (er : Int) (s' : R) (h : LRep G w bw s s S)
    (hp : PCall1 G 56 S.bh [.int .i64 x, .agg #[.int .i64 k.1, .int .i64 k.2], .agg #[.int .i64 v.1, .int .i64 v.2]] s er s') (hr : RCall1 57 S.br [.int .i64 x, .agg #[.int .i64 k.1, .int .i64 k.2], .agg #[.int .i64 v.1, .int .i64 v.2]] s er s') :
    Calls Tryz.prog 22 #[.pointer (some ⟨bw, 0, none⟩), LOp.val ⟨13, x, y, k, v, t⟩] w fun e w' => ∃ S', e = .returned (.bool true) ∧ LRep G w' bw s' s' S' ∧ Like S S' := by
  unfold LOp.val
  have hch : Chg [] w (((w.alloc (.cells (LOp.cells ⟨13, x, y, k, v, t⟩).toArray 35)).alloc (.cells #[.int .i64 0, .int .i64 0] 33)).alloc (.cells #[.int .i64 0, .int .i64 0] 33)).drew := ((((Chg.refl [] w).alloc _).alloc _).alloc _).drew
  have hlt0 := h.ref.lt
  have h1 : LRep G (((w.alloc (.cells (LOp.cells ⟨13, x, y, k, v, t⟩).toArray 35)).alloc (.cells #[.int .i64 0, .int .i64 0] 33)).alloc (.cells #[.int .i64 0, .int .i64 0] 33)).drew bw s s S := h.quiet hG hch
  have hbx : Blk (((w.alloc (.cells (LOp.cells ⟨13, x, y, k, v, t⟩).toArray 35)).alloc (.cells #[.int .i64 0, .int .i64 0] 33)).alloc (.cells #[.int .i64 0, .int .i64 0] 33)).drew w.heap.size (LOp.cells ⟨13, x, y, k, v, t⟩) 35 := (((Blk.new w _ _).alloc _).alloc _).drew
  have hv1 : Blk (((w.alloc (.cells (LOp.cells ⟨13, x, y, k, v, t⟩).toArray 35)).alloc (.cells #[.int .i64 0, .int .i64 0] 33)).alloc (.cells #[.int .i64 0, .int .i64 0] 33)).drew (w.heap.size + 1) [.int .i64 0, .int .i64 0] 33 := by
    have := (Blk.new (w.alloc (.cells (LOp.cells ⟨13, x, y, k, v, t⟩).toArray 35)) [.int .i64 0, .int .i64 0] 33).alloc (.cells #[.int .i64 0, .int .i64 0] 33)
    rw [size_alloc] at this
    exact this.drew
  have hv2 : Blk (((w.alloc (.cells (LOp.cells ⟨13, x, y, k, v, t⟩).toArray 35)).alloc (.cells #[.int .i64 0, .int .i64 0] 33)).alloc (.cells #[.int .i64 0, .int .i64 0] 33)).drew (w.heap.size + 1 + 1) [.int .i64 0, .int .i64 0] 33 := by
    have := Blk.new ((w.alloc (.cells (LOp.cells ⟨13, x, y, k, v, t⟩).toArray 35)).alloc (.cells #[.int .i64 0, .int .i64 0] 33)) [.int .i64 0, .int .i64 0] 33
    rw [size_alloc, size_alloc] at this
    exact this.drew
  have hbw : bw < w.heap.size := h.law.lt
  have c0 := h.law.cell_of (i := 0) rfl
  have hnF : ∀ b ∈ S.F, b < w.heap.size := h.flt
  have hnO : ∀ b ∈ S.own bw, b < w.heap.size := h.own_lt
  have hpc : Hid (Calls Tryz.prog 56 #[.pointer (some ⟨S.bh, 0, none⟩), .int .i64 x, .agg #[.int .i64 k.1, .int .i64 k.2], .agg #[.int .i64 v.1, .int .i64 v.2]] (((w.alloc (.cells (LOp.cells ⟨13, x, y, k, v, t⟩).toArray 35)).alloc (.cells #[.int .i64 0, .int .i64 0] 33)).alloc (.cells #[.int .i64 0, .int .i64 0] 33)).drew fun e w' => ∃ F', e = .returned (.int .i64 er) ∧ G w' S.bh s' F' ∧ (∀ b ∈ F', b < w'.heap.size) ∧ Stp S.F (((w.alloc (.cells (LOp.cells ⟨13, x, y, k, v, t⟩).toArray 35)).alloc (.cells #[.int .i64 0, .int .i64 0] 33)).alloc (.cells #[.int .i64 0, .int .i64 0] 33)).drew F' w') := hp _ _ h1.prog
  have hall : Hid (∀ w', Chg S.F (((w.alloc (.cells (LOp.cells ⟨13, x, y, k, v, t⟩).toArray 35)).alloc (.cells #[.int .i64 0, .int .i64 0] 33)).alloc (.cells #[.int .i64 0, .int .i64 0] 33)).drew w' → Hid ((w'.cell? ⟨bw, 0, none⟩ = some (.pointer (some ⟨S.bh, 0, none⟩)) ∧ w'.cell? ⟨w.heap.size, 1, none⟩ = some (.int .i64 x) ∧ w'.cell? ⟨w.heap.size, 3, none⟩ = some (.int .i64 k.1) ∧ w'.cell? ⟨w.heap.size, 4, none⟩ = some (.int .i64 k.2) ∧ w'.cell? ⟨w.heap.size, 5, none⟩ = some (.int .i64 v.1) ∧ w'.cell? ⟨w.heap.size, 6, none⟩ = some (.int .i64 v.2)) ∧ (∀ (p q : Nat) (u u' : Value), let w4 := (w'.setCell ⟨w.heap.size + 1, p, none⟩ u).setCell ⟨w.heap.size + 1, q, none⟩ u'; w4.cell? ⟨bw, 0, none⟩ = some (.pointer (some ⟨S.bh, 0, none⟩)) ∧ w4.cell? ⟨w.heap.size, 1, none⟩ = some (.int .i64 x) ∧ w4.cell? ⟨w.heap.size, 3, none⟩ = some (.int .i64 k.1) ∧ w4.cell? ⟨w.heap.size, 4, none⟩ = some (.int .i64 k.2) ∧ w4.cell? ⟨w.heap.size, 5, none⟩ = some (.int .i64 v.1) ∧ w4.cell? ⟨w.heap.size, 6, none⟩ = some (.int .i64 v.2))
      ∧ w'.cell? ⟨w.heap.size + 1, 0, none⟩ = some (.int .i64 0) ∧ w'.cell? ⟨w.heap.size + 1, 1, none⟩ = some (.int .i64 0) ∧ w'.frozen? ⟨w.heap.size + 1, 0, none⟩ = false ∧ w'.frozen? ⟨w.heap.size + 1, 1, none⟩ = false)) := by
    intro w' hc
    have d0 : w'.cell? ⟨bw, 0, none⟩ = some (.pointer (some ⟨S.bh, 0, none⟩)) := (h1.law.chg hc (fun hm => h1.dj2 bw hm (own_bw _ _))).cell_of rfl
    have dx : Blk w' w.heap.size (LOp.cells ⟨13, x, y, k, v, t⟩) 35 := hbx.chg hc (fun hm => by have := hnF _ hm; omega)
    have dv : Blk w' (w.heap.size + 1) [.int .i64 0, .int .i64 0] 33 := hv1.chg hc (fun hm => by have := hnF _ hm; omega)
    refine ⟨⟨d0, dx.cell_of (i := 1) rfl, dx.cell_of (i := 3) rfl, dx.cell_of (i := 4) rfl, dx.cell_of (i := 5) rfl, dx.cell_of (i := 6) rfl⟩, fun p q u u' => ?_, dv.cell_of (i := 0) rfl, dv.cell_of (i := 1) rfl, dv.frozen 0, dv.frozen 1⟩
    have kk : Chg [w.heap.size + 1] w' ((w'.setCell ⟨w.heap.size + 1, p, none⟩ u).setCell ⟨w.heap.size + 1, q, none⟩ u') := ((Chg.refl _ w').setCell (.inl (by simp)) _).setCell (.inl (by simp)) _
    have mv : ∀ {ad : Addr} {z : Value}, ad.block ≠ w.heap.size + 1 → w'.cell? ad = some z → ((w'.setCell ⟨w.heap.size + 1, p, none⟩ u).setCell ⟨w.heap.size + 1, q, none⟩ u').cell? ad = some z := fun hne hz => by rw [kk.cell (cell_lt' hz) (by simpa using hne)]; exact hz
    exact ⟨mv (by show bw ≠ _; omega) d0, mv (by show w.heap.size ≠ _; omega) (dx.cell_of (i := 1) rfl), mv (by show w.heap.size ≠ _; omega) (dx.cell_of (i := 3) rfl), mv (by show w.heap.size ≠ _; omega) (dx.cell_of (i := 4) rfl), mv (by show w.heap.size ≠ _; omega) (dx.cell_of (i := 5) rfl), mv (by show w.heap.size ≠ _; omega) (dx.cell_of (i := 6) rfl)⟩
  have hs0 : Hid (Hid (((((w.alloc (.cells (LOp.cells ⟨13, x, y, k, v, t⟩).toArray 35)).alloc (.cells #[.int .i64 0, .int .i64 0] 33)).alloc (.cells #[.int .i64 0, .int .i64 0] 33)).drew.cell? ⟨bw, 0, none⟩ = some (.pointer (some ⟨S.bh, 0, none⟩)) ∧ (((w.alloc (.cells (LOp.cells ⟨13, x, y, k, v, t⟩).toArray 35)).alloc (.cells #[.int .i64 0, .int .i64 0] 33)).alloc (.cells #[.int .i64 0, .int .i64 0] 33)).drew.cell? ⟨w.heap.size, 1, none⟩ = some (.int .i64 x) ∧ (((w.alloc (.cells (LOp.cells ⟨13, x, y, k, v, t⟩).toArray 35)).alloc (.cells #[.int .i64 0, .int .i64 0] 33)).alloc (.cells #[.int .i64 0, .int .i64 0] 33)).drew.cell? ⟨w.heap.size, 3, none⟩ = some (.int .i64 k.1) ∧ (((w.alloc (.cells (LOp.cells ⟨13, x, y, k, v, t⟩).toArray 35)).alloc (.cells #[.int .i64 0, .int .i64 0] 33)).alloc (.cells #[.int .i64 0, .int .i64 0] 33)).drew.cell? ⟨w.heap.size, 4, none⟩ = some (.int .i64 k.2) ∧ (((w.alloc (.cells (LOp.cells ⟨13, x, y, k, v, t⟩).toArray 35)).alloc (.cells #[.int .i64 0, .int .i64 0] 33)).alloc (.cells #[.int .i64 0, .int .i64 0] 33)).drew.cell? ⟨w.heap.size, 5, none⟩ = some (.int .i64 v.1) ∧ (((w.alloc (.cells (LOp.cells ⟨13, x, y, k, v, t⟩).toArray 35)).alloc (.cells #[.int .i64 0, .int .i64 0] 33)).alloc (.cells #[.int .i64 0, .int .i64 0] 33)).drew.cell? ⟨w.heap.size, 6, none⟩ = some (.int .i64 v.2)))) := (unhide hall _ (Chg.refl _ _)).1
  have H1 := hide h1; have HBX := hide hbx; have HV1 := hide hv1; have HV2 := hide hv2; have HR := hide hr; have HNF := hide hnF; have HNO := hide hnO; have HL0 := hide hlt0; clear h h1 hbx hv1 hv2 hp hr hnF hnO hlt0 hch
  go_enter Tryz.func22, Tryz.ntmps22
  go_upto_region 19 with fail
  go_cut [6] (fun b wx => b = .int .i64 er ∧ ∃ S', LRep G wx bw s' s S' ∧ Like S S' ∧ S'.L = S.L ∧ (∀ b ∈ S'.own bw, b < w.heap.size) ∧ (∀ b ∈ S'.F, b ≠ w.heap.size + 1 ∧ b ≠ w.heap.size + 1 + 1) ∧ Blk wx w.heap.size (LOp.cells ⟨13, x, y, k, v, t⟩) 35 ∧ Blk wx (w.heap.size + 1) [.int .i64 0, .int .i64 0] 33 ∧ Blk wx (w.heap.size + 1 + 1) [.int .i64 0, .int .i64 0] 33)
  case first =>
    go_region_held3 (fun w' => w'.cell? ⟨bw, 0, none⟩ = some (.pointer (some ⟨S.bh, 0, none⟩)) ∧ w'.cell? ⟨w.heap.size, 1, none⟩ = some (.int .i64 x) ∧ w'.cell? ⟨w.heap.size, 3, none⟩ = some (.int .i64 k.1) ∧ w'.cell? ⟨w.heap.size, 4, none⟩ = some (.int .i64 k.2) ∧ w'.cell? ⟨w.heap.size, 5, none⟩ = some (.int .i64 v.1) ∧ w'.cell? ⟨w.heap.size, 6, none⟩ = some (.int .i64 v.2)) (first | assumption | exact unhide (unhide hs0) | (go_keep; done) | (apply (unhide hkeep).2.1)) ((go_at_call 56; refine (unhide hpc).mono ?_; rintro e w2 ⟨F2, rfl, hg2, hl2, st2⟩; have hkeep := unhide hall w2 st2.chg; have hk3 := (unhide hkeep).1; have HG2 := hide hg2; have HL2 := hide hl2; have ST2 := hide st2; clear hg2 hl2 st2))
    go_wp2_with fail
    go_meet
    have h2 := (unhide H1).progStep (unhide HG2) (unhide HL2) (unhide ST2)
    have hst := unhide ST2
    have hsz : w.heap.size + 1 + 1 < ((((w.alloc (.cells (LOp.cells ⟨13, x, y, k, v, t⟩).toArray 35)).alloc (.cells #[.int .i64 0, .int .i64 0] 33)).alloc (.cells #[.int .i64 0, .int .i64 0] 33)).drew).heap.size := (unhide HV2).lt
    have hF2 : ∀ b ∈ F2, b ≠ w.heap.size ∧ b ≠ w.heap.size + 1 ∧ b ≠ w.heap.size + 1 + 1 := fun b hb => by
      rcases hst.foot b hb with h8 | h8
      · have := unhide HNF b h8; omega
      · omega
    have e1 := (unhide HV1).chg hst.chg (fun hm => by have := unhide HNF _ hm; omega)
    have e2 := (unhide HV2).chg hst.chg (fun hm => by have := unhide HNF _ hm; omega)
    have e3 := (unhide HBX).chg hst.chg (fun hm => by have := unhide HNF _ hm; omega)
    exact ⟨rfl, _, h2, ⟨rfl, rfl, rfl, rfl, rfl⟩, rfl, unhide HNO, fun b hb => (hF2 b hb).2, e3, e1, e2⟩
  case rest =>
    obtain ⟨rfl, S2, h2, lk, eL, hO2, hF2, hbx2, hv12, hv22⟩ := hcut
    have e2 : S2.br = S.br := lk.2.2.2.1
    have h3 : LRep G wc.drew bw s' s S2 := h2.quiet hG ((Chg.refl [] wc).drew)
    have c1 := h2.law.cell_of (i := 1) rfl
    have cx1 := hbx2.cell_of (i := 1) rfl
    have cx3 := hbx2.cell_of (i := 3) rfl
    have cx4 := hbx2.cell_of (i := 4) rfl
    have cx5 := hbx2.cell_of (i := 5) rfl
    have cx6 := hbx2.cell_of (i := 6) rfl
    have hrc : Hid (Calls Tryz.prog 57 #[.pointer (some ⟨S.br, 0, none⟩), .int .i64 x, .agg #[.int .i64 k.1, .int .i64 k.2], .agg #[.int .i64 v.1, .int .i64 v.2]] wc.drew fun e w' => ∃ L', e = .returned (.int .i64 er) ∧ RRep w' S.br s' L' ∧ Stp (S2.L.foot S.br) wc.drew (L'.foot S.br) w') := by
      have := unhide HR wc.drew S2.L (by rw [← e2]; exact h3.ref)
      exact this
    have hfl : ∀ b ∈ S2.L.foot S.br, b < w.heap.size := by rw [eL]; exact unhide HL0
    have hall2 : Hid (∀ w', Chg (S2.L.foot S.br) wc.drew w' → Hid ((w'.cell? ⟨bw, 1, none⟩ = some (.pointer (some ⟨S.br, 0, none⟩)) ∧ w'.cell? ⟨w.heap.size, 1, none⟩ = some (.int .i64 x) ∧ w'.cell? ⟨w.heap.size, 3, none⟩ = some (.int .i64 k.1) ∧ w'.cell? ⟨w.heap.size, 4, none⟩ = some (.int .i64 k.2) ∧ w'.cell? ⟨w.heap.size, 5, none⟩ = some (.int .i64 v.1) ∧ w'.cell? ⟨w.heap.size, 6, none⟩ = some (.int .i64 v.2)) ∧ (∀ (p q : Nat) (u u' : Value), let w4 := (w'.setCell ⟨w.heap.size + 1 + 1, p, none⟩ u).setCell ⟨w.heap.size + 1 + 1, q, none⟩ u'; w4.cell? ⟨bw, 1, none⟩ = some (.pointer (some ⟨S.br, 0, none⟩)) ∧ w4.cell? ⟨w.heap.size, 1, none⟩ = some (.int .i64 x) ∧ w4.cell? ⟨w.heap.size, 3, none⟩ = some (.int .i64 k.1) ∧ w4.cell? ⟨w.heap.size, 4, none⟩ = some (.int .i64 k.2) ∧ w4.cell? ⟨w.heap.size, 5, none⟩ = some (.int .i64 v.1) ∧ w4.cell? ⟨w.heap.size, 6, none⟩ = some (.int .i64 v.2))
        ∧ w'.cell? ⟨w.heap.size + 1 + 1, 0, none⟩ = some (.int .i64 0) ∧ w'.cell? ⟨w.heap.size + 1 + 1, 1, none⟩ = some (.int .i64 0) ∧ w'.frozen? ⟨w.heap.size + 1 + 1, 0, none⟩ = false ∧ w'.frozen? ⟨w.heap.size + 1 + 1, 1, none⟩ = false)) := by
      intro w' hc
      have d0 := (h3.law.chg hc (fun hm => h2.dj3 bw (by rw [e2]; exact hm) (own_bw _ _))).cell_of (i := 1) rfl
      rw [e2] at d0
      have dx : Blk w' w.heap.size (LOp.cells ⟨13, x, y, k, v, t⟩) 35 := hbx2.drew.chg hc (fun hm => by have := hfl _ hm; omega)
      have dv : Blk w' (w.heap.size + 1 + 1) [.int .i64 0, .int .i64 0] 33 := hv22.drew.chg hc (fun hm => by have := hfl _ hm; omega)
      refine ⟨⟨d0, dx.cell_of (i := 1) rfl, dx.cell_of (i := 3) rfl, dx.cell_of (i := 4) rfl, dx.cell_of (i := 5) rfl, dx.cell_of (i := 6) rfl⟩, fun p q u u' => ?_, dv.cell_of (i := 0) rfl, dv.cell_of (i := 1) rfl, dv.frozen 0, dv.frozen 1⟩
      have kk : Chg [w.heap.size + 1 + 1] w' ((w'.setCell ⟨w.heap.size + 1 + 1, p, none⟩ u).setCell ⟨w.heap.size + 1 + 1, q, none⟩ u') := ((Chg.refl _ w').setCell (.inl (by simp)) _).setCell (.inl (by simp)) _
      have mv : ∀ {ad : Addr} {z : Value}, ad.block ≠ w.heap.size + 1 + 1 → w'.cell? ad = some z → ((w'.setCell ⟨w.heap.size + 1 + 1, p, none⟩ u).setCell ⟨w.heap.size + 1 + 1, q, none⟩ u').cell? ad = some z := fun hne hz => by rw [kk.cell (cell_lt' hz) (by simpa using hne)]; exact hz
      exact ⟨mv (by show bw ≠ _; omega) d0, mv (by show w.heap.size ≠ _; omega) (dx.cell_of (i := 1) rfl), mv (by show w.heap.size ≠ _; omega) (dx.cell_of (i := 3) rfl), mv (by show w.heap.size ≠ _; omega) (dx.cell_of (i := 4) rfl), mv (by show w.heap.size ≠ _; omega) (dx.cell_of (i := 5) rfl), mv (by show w.heap.size ≠ _; omega) (dx.cell_of (i := 6) rfl)⟩
    rw [e2] at c1
    have H3 := hide h3; have E2 := hide e2; have LK := hide lk; have HFL := hide hfl; have HO2 := hide hO2; have HF2 := hide hF2; have HV12 := hide hv12; have HV22 := hide hv22; clear h2 h3 lk e2 eL hbx2 hfl hO2 hF2 hv12 hv22 H1 HBX HV1 HV2 hpc hall c0
    go_upto_region 20 with fail
    go_region_held3 (fun w' => w'.cell? ⟨bw, 1, none⟩ = some (.pointer (some ⟨S.br, 0, none⟩)) ∧ w'.cell? ⟨w.heap.size, 1, none⟩ = some (.int .i64 x) ∧ w'.cell? ⟨w.heap.size, 3, none⟩ = some (.int .i64 k.1) ∧ w'.cell? ⟨w.heap.size, 4, none⟩ = some (.int .i64 k.2) ∧ w'.cell? ⟨w.heap.size, 5, none⟩ = some (.int .i64 v.1) ∧ w'.cell? ⟨w.heap.size, 6, none⟩ = some (.int .i64 v.2)) (first | assumption | exact unhide (unhide hs0) | (go_keep; done) | (apply (unhide hkeep).2.1)) ((go_at_call 57; refine (unhide hrc).mono ?_; rintro e w4 ⟨L4, rfl, hg4, st4⟩; have hkeep := unhide hall2 w4 st4.chg; have hk3 := (unhide hkeep).1; have HG4 := hide hg4; have ST4 := hide st4; clear hg4 st4))
    have hst := unhide ST4
    have h4 : LRep G w4 bw s' s' { S2 with L := L4 } := (unhide H3).refStep hG (by rw [unhide E2]; exact unhide HG4) (by rw [unhide E2]; exact hst)
    have hsz : w.heap.size + 1 + 1 < wc.drew.heap.size := (unhide HV22).lt
    have e1 := (unhide HV12).drew.chg hst.chg (fun hm => by have := unhide HFL _ hm; omega)
    have e2 := (unhide HV22).drew.chg hst.chg (fun hm => by have := unhide HFL _ hm; omega)
    have hf4 : ∀ b ∈ L4.foot S2.br, b ≠ w.heap.size + 1 + 1 := fun b hb => by
      rw [unhide E2] at hb
      rcases hst.foot b hb with h8 | h8
      · have := unhide HFL b h8; omega
      · omega
    have h5 := h4
    have v1 := e1
    have v2 := e2
    have q0 := v1.cell_of (i := 0) rfl
    have q1 := v1.cell_of (i := 1) rfl
    have q2 := v2.cell_of (i := 0) rfl
    have q3 := v2.cell_of (i := 1) rfl
    have H5 := hide h5; clear h5 v1 v2 e1 e2 hf4 h4 hst hsz H3 hrc hall2 hkeep hk3 HG4 ST4 
    
    go_wp2_with (go_at_call 18; refine (num_any _ _).mono ?_; rintro e w6 ⟨rfl, rfl⟩)
    go_ret
    exact ⟨_, by simp, unhide H5, unhide LK⟩

set_option maxRecDepth 100000 in
set_option maxHeartbeats 4000000 in
theorem values_cut {G : World → Nat → R → List Nat → Prop} (hG : Stays G) {w : World} {bw : Nat} {s : R} {S : LS} (x y : Int) (k v : Int × Int) (t : ByteArray) (er : Int) (s' : R) (h : LRep G w bw s s S)
    (hp : PCall1 G 58 S.bh [.int .i64 x, .agg #[.int .i64 k.1, .int .i64 k.2]] s er s') (hr : RCall1 59 S.br [.int .i64 x, .agg #[.int .i64 k.1, .int .i64 k.2]] s er s') :
    Calls Tryz.prog 22 #[.pointer (some ⟨bw, 0, none⟩), LOp.val ⟨14, x, y, k, v, t⟩] w fun e w' => ∃ S', e = .returned (.bool true) ∧ LRep G w' bw s' s' S' ∧ Like S S' := by
  unfold LOp.val
  have hch : Chg [] w (((w.alloc (.cells (LOp.cells ⟨14, x, y, k, v, t⟩).toArray 35)).alloc (.cells #[.int .i64 0, .int .i64 0] 33)).alloc (.cells #[.int .i64 0, .int .i64 0] 33)).drew := ((((Chg.refl [] w).alloc _).alloc _).alloc _).drew
  have hlt0 := h.ref.lt
  have h1 : LRep G (((w.alloc (.cells (LOp.cells ⟨14, x, y, k, v, t⟩).toArray 35)).alloc (.cells #[.int .i64 0, .int .i64 0] 33)).alloc (.cells #[.int .i64 0, .int .i64 0] 33)).drew bw s s S := h.quiet hG hch
  have hbx : Blk (((w.alloc (.cells (LOp.cells ⟨14, x, y, k, v, t⟩).toArray 35)).alloc (.cells #[.int .i64 0, .int .i64 0] 33)).alloc (.cells #[.int .i64 0, .int .i64 0] 33)).drew w.heap.size (LOp.cells ⟨14, x, y, k, v, t⟩) 35 := (((Blk.new w _ _).alloc _).alloc _).drew
  have hv1 : Blk (((w.alloc (.cells (LOp.cells ⟨14, x, y, k, v, t⟩).toArray 35)).alloc (.cells #[.int .i64 0, .int .i64 0] 33)).alloc (.cells #[.int .i64 0, .int .i64 0] 33)).drew (w.heap.size + 1) [.int .i64 0, .int .i64 0] 33 := by
    have := (Blk.new (w.alloc (.cells (LOp.cells ⟨14, x, y, k, v, t⟩).toArray 35)) [.int .i64 0, .int .i64 0] 33).alloc (.cells #[.int .i64 0, .int .i64 0] 33)
    rw [size_alloc] at this
    exact this.drew
  have hv2 : Blk (((w.alloc (.cells (LOp.cells ⟨14, x, y, k, v, t⟩).toArray 35)).alloc (.cells #[.int .i64 0, .int .i64 0] 33)).alloc (.cells #[.int .i64 0, .int .i64 0] 33)).drew (w.heap.size + 1 + 1) [.int .i64 0, .int .i64 0] 33 := by
    have := Blk.new ((w.alloc (.cells (LOp.cells ⟨14, x, y, k, v, t⟩).toArray 35)).alloc (.cells #[.int .i64 0, .int .i64 0] 33)) [.int .i64 0, .int .i64 0] 33
    rw [size_alloc, size_alloc] at this
    exact this.drew
  have hbw : bw < w.heap.size := h.law.lt
  have c0 := h.law.cell_of (i := 0) rfl
  have hnF : ∀ b ∈ S.F, b < w.heap.size := h.flt
  have hnO : ∀ b ∈ S.own bw, b < w.heap.size := h.own_lt
  have hpc : Hid (Calls Tryz.prog 58 #[.pointer (some ⟨S.bh, 0, none⟩), .int .i64 x, .agg #[.int .i64 k.1, .int .i64 k.2]] (((w.alloc (.cells (LOp.cells ⟨14, x, y, k, v, t⟩).toArray 35)).alloc (.cells #[.int .i64 0, .int .i64 0] 33)).alloc (.cells #[.int .i64 0, .int .i64 0] 33)).drew fun e w' => ∃ F', e = .returned (.int .i64 er) ∧ G w' S.bh s' F' ∧ (∀ b ∈ F', b < w'.heap.size) ∧ Stp S.F (((w.alloc (.cells (LOp.cells ⟨14, x, y, k, v, t⟩).toArray 35)).alloc (.cells #[.int .i64 0, .int .i64 0] 33)).alloc (.cells #[.int .i64 0, .int .i64 0] 33)).drew F' w') := hp _ _ h1.prog
  have hall : Hid (∀ w', Chg S.F (((w.alloc (.cells (LOp.cells ⟨14, x, y, k, v, t⟩).toArray 35)).alloc (.cells #[.int .i64 0, .int .i64 0] 33)).alloc (.cells #[.int .i64 0, .int .i64 0] 33)).drew w' → Hid ((w'.cell? ⟨bw, 0, none⟩ = some (.pointer (some ⟨S.bh, 0, none⟩)) ∧ w'.cell? ⟨w.heap.size, 1, none⟩ = some (.int .i64 x) ∧ w'.cell? ⟨w.heap.size, 3, none⟩ = some (.int .i64 k.1) ∧ w'.cell? ⟨w.heap.size, 4, none⟩ = some (.int .i64 k.2)) ∧ (∀ (p q : Nat) (u u' : Value), let w4 := (w'.setCell ⟨w.heap.size + 1, p, none⟩ u).setCell ⟨w.heap.size + 1, q, none⟩ u'; w4.cell? ⟨bw, 0, none⟩ = some (.pointer (some ⟨S.bh, 0, none⟩)) ∧ w4.cell? ⟨w.heap.size, 1, none⟩ = some (.int .i64 x) ∧ w4.cell? ⟨w.heap.size, 3, none⟩ = some (.int .i64 k.1) ∧ w4.cell? ⟨w.heap.size, 4, none⟩ = some (.int .i64 k.2))
      ∧ w'.cell? ⟨w.heap.size + 1, 0, none⟩ = some (.int .i64 0) ∧ w'.cell? ⟨w.heap.size + 1, 1, none⟩ = some (.int .i64 0) ∧ w'.frozen? ⟨w.heap.size + 1, 0, none⟩ = false ∧ w'.frozen? ⟨w.heap.size + 1, 1, none⟩ = false)) := by
    intro w' hc
    have d0 : w'.cell? ⟨bw, 0, none⟩ = some (.pointer (some ⟨S.bh, 0, none⟩)) := (h1.law.chg hc (fun hm => h1.dj2 bw hm (own_bw _ _))).cell_of rfl
    have dx : Blk w' w.heap.size (LOp.cells ⟨14, x, y, k, v, t⟩) 35 := hbx.chg hc (fun hm => by have := hnF _ hm; omega)
    have dv : Blk w' (w.heap.size + 1) [.int .i64 0, .int .i64 0] 33 := hv1.chg hc (fun hm => by have := hnF _ hm; omega)
    refine ⟨⟨d0, dx.cell_of (i := 1) rfl, dx.cell_of (i := 3) rfl, dx.cell_of (i := 4) rfl⟩, fun p q u u' => ?_, dv.cell_of (i := 0) rfl, dv.cell_of (i := 1) rfl, dv.frozen 0, dv.frozen 1⟩
    have kk : Chg [w.heap.size + 1] w' ((w'.setCell ⟨w.heap.size + 1, p, none⟩ u).setCell ⟨w.heap.size + 1, q, none⟩ u') := ((Chg.refl _ w').setCell (.inl (by simp)) _).setCell (.inl (by simp)) _
    have mv : ∀ {ad : Addr} {z : Value}, ad.block ≠ w.heap.size + 1 → w'.cell? ad = some z → ((w'.setCell ⟨w.heap.size + 1, p, none⟩ u).setCell ⟨w.heap.size + 1, q, none⟩ u').cell? ad = some z := fun hne hz => by rw [kk.cell (cell_lt' hz) (by simpa using hne)]; exact hz
    exact ⟨mv (by show bw ≠ _; omega) d0, mv (by show w.heap.size ≠ _; omega) (dx.cell_of (i := 1) rfl), mv (by show w.heap.size ≠ _; omega) (dx.cell_of (i := 3) rfl), mv (by show w.heap.size ≠ _; omega) (dx.cell_of (i := 4) rfl)⟩
  have hs0 : Hid (Hid (((((w.alloc (.cells (LOp.cells ⟨14, x, y, k, v, t⟩).toArray 35)).alloc (.cells #[.int .i64 0, .int .i64 0] 33)).alloc (.cells #[.int .i64 0, .int .i64 0] 33)).drew.cell? ⟨bw, 0, none⟩ = some (.pointer (some ⟨S.bh, 0, none⟩)) ∧ (((w.alloc (.cells (LOp.cells ⟨14, x, y, k, v, t⟩).toArray 35)).alloc (.cells #[.int .i64 0, .int .i64 0] 33)).alloc (.cells #[.int .i64 0, .int .i64 0] 33)).drew.cell? ⟨w.heap.size, 1, none⟩ = some (.int .i64 x) ∧ (((w.alloc (.cells (LOp.cells ⟨14, x, y, k, v, t⟩).toArray 35)).alloc (.cells #[.int .i64 0, .int .i64 0] 33)).alloc (.cells #[.int .i64 0, .int .i64 0] 33)).drew.cell? ⟨w.heap.size, 3, none⟩ = some (.int .i64 k.1) ∧ (((w.alloc (.cells (LOp.cells ⟨14, x, y, k, v, t⟩).toArray 35)).alloc (.cells #[.int .i64 0, .int .i64 0] 33)).alloc (.cells #[.int .i64 0, .int .i64 0] 33)).drew.cell? ⟨w.heap.size, 4, none⟩ = some (.int .i64 k.2)))) := (unhide hall _ (Chg.refl _ _)).1
  have H1 := hide h1; have HBX := hide hbx; have HV1 := hide hv1; have HV2 := hide hv2; have HR := hide hr; have HNF := hide hnF; have HNO := hide hnO; have HL0 := hide hlt0; clear h h1 hbx hv1 hv2 hp hr hnF hnO hlt0 hch
  go_enter Tryz.func22, Tryz.ntmps22
  go_upto_region 22 with fail
  go_cut [6] (fun b wx => b = .int .i64 er ∧ ∃ S', LRep G wx bw s' s S' ∧ Like S S' ∧ S'.L = S.L ∧ (∀ b ∈ S'.own bw, b < w.heap.size) ∧ (∀ b ∈ S'.F, b ≠ w.heap.size + 1 ∧ b ≠ w.heap.size + 1 + 1) ∧ Blk wx w.heap.size (LOp.cells ⟨14, x, y, k, v, t⟩) 35 ∧ Blk wx (w.heap.size + 1) [.int .i64 0, .int .i64 0] 33 ∧ Blk wx (w.heap.size + 1 + 1) [.int .i64 0, .int .i64 0] 33)
  case first =>
    go_region_held3 (fun w' => w'.cell? ⟨bw, 0, none⟩ = some (.pointer (some ⟨S.bh, 0, none⟩)) ∧ w'.cell? ⟨w.heap.size, 1, none⟩ = some (.int .i64 x) ∧ w'.cell? ⟨w.heap.size, 3, none⟩ = some (.int .i64 k.1) ∧ w'.cell? ⟨w.heap.size, 4, none⟩ = some (.int .i64 k.2)) (first | assumption | exact unhide (unhide hs0) | (go_keep; done) | (apply (unhide hkeep).2.1)) ((go_at_call 58; refine (unhide hpc).mono ?_; rintro e w2 ⟨F2, rfl, hg2, hl2, st2⟩; have hkeep := unhide hall w2 st2.chg; have hk3 := (unhide hkeep).1; have HG2 := hide hg2; have HL2 := hide hl2; have ST2 := hide st2; clear hg2 hl2 st2))
    go_wp2_with fail
    go_meet
    have h2 := (unhide H1).progStep (unhide HG2) (unhide HL2) (unhide ST2)
    have hst := unhide ST2
    have hsz : w.heap.size + 1 + 1 < ((((w.alloc (.cells (LOp.cells ⟨14, x, y, k, v, t⟩).toArray 35)).alloc (.cells #[.int .i64 0, .int .i64 0] 33)).alloc (.cells #[.int .i64 0, .int .i64 0] 33)).drew).heap.size := (unhide HV2).lt
    have hF2 : ∀ b ∈ F2, b ≠ w.heap.size ∧ b ≠ w.heap.size + 1 ∧ b ≠ w.heap.size + 1 + 1 := fun b hb => by
      rcases hst.foot b hb with h8 | h8
      · have := unhide HNF b h8; omega
      · omega
    have e1 := (unhide HV1).chg hst.chg (fun hm => by have := unhide HNF _ hm; omega)
    have e2 := (unhide HV2).chg hst.chg (fun hm => by have := unhide HNF _ hm; omega)
    have e3 := (unhide HBX).chg hst.chg (fun hm => by have := unhide HNF _ hm; omega)
    exact ⟨rfl, _, h2, ⟨rfl, rfl, rfl, rfl, rfl⟩, rfl, unhide HNO, fun b hb => (hF2 b hb).2, e3, e1, e2⟩
  case rest =>
    obtain ⟨rfl, S2, h2, lk, eL, hO2, hF2, hbx2, hv12, hv22⟩ := hcut
    have e2 : S2.br = S.br := lk.2.2.2.1
    have h3 : LRep G wc.drew bw s' s S2 := h2.quiet hG ((Chg.refl [] wc).drew)
    have c1 := h2.law.cell_of (i := 1) rfl
    have cx1 := hbx2.cell_of (i := 1) rfl
    have cx3 := hbx2.cell_of (i := 3) rfl
    have cx4 := hbx2.cell_of (i := 4) rfl
    have hrc : Hid (Calls Tryz.prog 59 #[.pointer (some ⟨S.br, 0, none⟩), .int .i64 x, .agg #[.int .i64 k.1, .int .i64 k.2]] wc.drew fun e w' => ∃ L', e = .returned (.int .i64 er) ∧ RRep w' S.br s' L' ∧ Stp (S2.L.foot S.br) wc.drew (L'.foot S.br) w') := by
      have := unhide HR wc.drew S2.L (by rw [← e2]; exact h3.ref)
      exact this
    have hfl : ∀ b ∈ S2.L.foot S.br, b < w.heap.size := by rw [eL]; exact unhide HL0
    have hall2 : Hid (∀ w', Chg (S2.L.foot S.br) wc.drew w' → Hid ((w'.cell? ⟨bw, 1, none⟩ = some (.pointer (some ⟨S.br, 0, none⟩)) ∧ w'.cell? ⟨w.heap.size, 1, none⟩ = some (.int .i64 x) ∧ w'.cell? ⟨w.heap.size, 3, none⟩ = some (.int .i64 k.1) ∧ w'.cell? ⟨w.heap.size, 4, none⟩ = some (.int .i64 k.2)) ∧ (∀ (p q : Nat) (u u' : Value), let w4 := (w'.setCell ⟨w.heap.size + 1 + 1, p, none⟩ u).setCell ⟨w.heap.size + 1 + 1, q, none⟩ u'; w4.cell? ⟨bw, 1, none⟩ = some (.pointer (some ⟨S.br, 0, none⟩)) ∧ w4.cell? ⟨w.heap.size, 1, none⟩ = some (.int .i64 x) ∧ w4.cell? ⟨w.heap.size, 3, none⟩ = some (.int .i64 k.1) ∧ w4.cell? ⟨w.heap.size, 4, none⟩ = some (.int .i64 k.2))
        ∧ w'.cell? ⟨w.heap.size + 1 + 1, 0, none⟩ = some (.int .i64 0) ∧ w'.cell? ⟨w.heap.size + 1 + 1, 1, none⟩ = some (.int .i64 0) ∧ w'.frozen? ⟨w.heap.size + 1 + 1, 0, none⟩ = false ∧ w'.frozen? ⟨w.heap.size + 1 + 1, 1, none⟩ = false)) := by
      intro w' hc
      have d0 := (h3.law.chg hc (fun hm => h2.dj3 bw (by rw [e2]; exact hm) (own_bw _ _))).cell_of (i := 1) rfl
      rw [e2] at d0
      have dx : Blk w' w.heap.size (LOp.cells ⟨14, x, y, k, v, t⟩) 35 := hbx2.drew.chg hc (fun hm => by have := hfl _ hm; omega)
      have dv : Blk w' (w.heap.size + 1 + 1) [.int .i64 0, .int .i64 0] 33 := hv22.drew.chg hc (fun hm => by have := hfl _ hm; omega)
      refine ⟨⟨d0, dx.cell_of (i := 1) rfl, dx.cell_of (i := 3) rfl, dx.cell_of (i := 4) rfl⟩, fun p q u u' => ?_, dv.cell_of (i := 0) rfl, dv.cell_of (i := 1) rfl, dv.frozen 0, dv.frozen 1⟩
      have kk : Chg [w.heap.size + 1 + 1] w' ((w'.setCell ⟨w.heap.size + 1 + 1, p, none⟩ u).setCell ⟨w.heap.size + 1 + 1, q, none⟩ u') := ((Chg.refl _ w').setCell (.inl (by simp)) _).setCell (.inl (by simp)) _
      have mv : ∀ {ad : Addr} {z : Value}, ad.block ≠ w.heap.size + 1 + 1 → w'.cell? ad = some z → ((w'.setCell ⟨w.heap.size + 1 + 1, p, none⟩ u).setCell ⟨w.heap.size + 1 + 1, q, none⟩ u').cell? ad = some z := fun hne hz => by rw [kk.cell (cell_lt' hz) (by simpa using hne)]; exact hz
      exact ⟨mv (by show bw ≠ _; omega) d0, mv (by show w.heap.size ≠ _; omega) (dx.cell_of (i := 1) rfl), mv (by show w.heap.size ≠ _; omega) (dx.cell_of (i := 3) rfl), mv (by show w.heap.size ≠ _; omega) (dx.cell_of (i := 4) rfl)⟩
    rw [e2] at c1
    have H3 := hide h3; have E2 := hide e2; have LK := hide lk; have HFL := hide hfl; have HO2 := hide hO2; have HF2 := hide hF2; have HV12 := hide hv12; have HV22 := hide hv22; clear h2 h3 lk e2 eL hbx2 hfl hO2 hF2 hv12 hv22 H1 HBX HV1 HV2 hpc hall c0
    go_upto_region 23 with fail
    go_region_held3 (fun w' => w'.cell? ⟨bw, 1, none⟩ = some (.pointer (some ⟨S.br, 0, none⟩)) ∧ w'.cell? ⟨w.heap.size, 1, none⟩ = some (.int .i64 x) ∧ w'.cell? ⟨w.heap.size, 3, none⟩ = some (.int .i64 k.1) ∧ w'.cell? ⟨w.heap.size, 4, none⟩ = some (.int .i64 k.2)) (first | assumption | exact unhide (unhide hs0) | (go_keep; done) | (apply (unhide hkeep).2.1)) ((go_at_call 59; refine (unhide hrc).mono ?_; rintro e w4 ⟨L4, rfl, hg4, st4⟩; have hkeep := unhide hall2 w4 st4.chg; have hk3 := (unhide hkeep).1; have HG4 := hide hg4; have ST4 := hide st4; clear hg4 st4))
    have hst := unhide ST4
    have h4 : LRep G w4 bw s' s' { S2 with L := L4 } := (unhide H3).refStep hG (by rw [unhide E2]; exact unhide HG4) (by rw [unhide E2]; exact hst)
    have hsz : w.heap.size + 1 + 1 < wc.drew.heap.size := (unhide HV22).lt
    have e1 := (unhide HV12).drew.chg hst.chg (fun hm => by have := unhide HFL _ hm; omega)
    have e2 := (unhide HV22).drew.chg hst.chg (fun hm => by have := unhide HFL _ hm; omega)
    have hf4 : ∀ b ∈ L4.foot S2.br, b ≠ w.heap.size + 1 + 1 := fun b hb => by
      rw [unhide E2] at hb
      rcases hst.foot b hb with h8 | h8
      · have := unhide HFL b h8; omega
      · omega
    have h5 := h4
    have v1 := e1
    have v2 := e2
    have q0 := v1.cell_of (i := 0) rfl
    have q1 := v1.cell_of (i := 1) rfl
    have q2 := v2.cell_of (i := 0) rfl
    have q3 := v2.cell_of (i := 1) rfl
    have H5 := hide h5; clear h5 v1 v2 e1 e2 hf4 h4 hst hsz H3 hrc hall2 hkeep hk3 HG4 ST4 
    
    go_wp2_with (go_at_call 18; refine (num_any _ _).mono ?_; rintro e w6 ⟨rfl, rfl⟩)
    go_ret
    exact ⟨_, by simp, unhide H5, unhide LK⟩

end Go.Proofs.YtfoncalkgmeklaaGreat
