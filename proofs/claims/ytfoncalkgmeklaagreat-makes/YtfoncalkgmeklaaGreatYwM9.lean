import Derived.Test.YtfoncalkgmeklaaGreatYwM7
import Derived.Test.YtfoncalkgmeklaaGreatYwM8

/- handles: each of these calls, of the program and of the document, answers the same, if each keeps its contract. (Written by wip/genlaw.py.) -/
namespace Go.Proofs.YtfoncalkgmeklaaGreat
open Go.RowKit

set_option maxRecDepth 100000 in
set_option maxHeartbeats 2000000 in
theorem handles_open {G : World → Nat → R → List Nat → Prop} (hG : Stays G) {w : World} {bw : Nat} {s : R} {S : LS} (x y : Int) (k v : Int × Int) (t : ByteArray) (a : Int) (er : Int) (s' : R) (h : LRep G w bw s s S)
    (hp : PCall G 60 S.bh [] s (.int .i64 a) er s') (hr : RCall 61 S.br [] s (.int .i64 a) er s') :
    Calls Tryz.prog 23 #[.pointer (some ⟨bw, 0, none⟩), LOp.val ⟨16, x, y, k, v, t⟩] w fun e w' => ∃ S', e = .returned (.bool true) ∧ LRep G w' bw s' s' S' ∧ Like S S' := by
  unfold LOp.val
  have h0 := h.ref
  have h1 : LRep G (w.alloc (.cells (LOp.cells ⟨16, x, y, k, v, t⟩).toArray 35)) bw s s S := h.quiet hG ((Chg.refl [] w).alloc _)
  have hbx : Blk (w.alloc (.cells (LOp.cells ⟨16, x, y, k, v, t⟩).toArray 35)) w.heap.size (LOp.cells ⟨16, x, y, k, v, t⟩) 35 := (Blk.new w _ _)
  have hbw : bw < w.heap.size := h.law.lt
  have c0 := h.law.cell_of (i := 0) rfl
  have hnF : ∀ b ∈ S.F, b < w.heap.size := h.flt
  have hpc : Hid (Calls Tryz.prog 60 #[.pointer (some ⟨S.bh, 0, none⟩)] (w.alloc (.cells (LOp.cells ⟨16, x, y, k, v, t⟩).toArray 35)) fun e w' => ∃ F', e = .returned (.tuple #[.int .i64 a, .int .i64 er]) ∧ G w' S.bh s' F' ∧ (∀ b ∈ F', b < w'.heap.size) ∧ Stp S.F (w.alloc (.cells (LOp.cells ⟨16, x, y, k, v, t⟩).toArray 35)) F' w') := hp _ _ h1.prog
  have hall : Hid (∀ w', Chg S.F (w.alloc (.cells (LOp.cells ⟨16, x, y, k, v, t⟩).toArray 35)) w' → w'.cell? ⟨bw, 0, none⟩ = some (.pointer (some ⟨S.bh, 0, none⟩))) := by
    intro w' hc
    exact (h1.law.chg hc (fun hm => h1.dj2 bw hm (own_bw _ _))).cell_of rfl
  have H0 := hide h0; have H1 := hide h1; have HBX := hide hbx; have HR := hide hr; have HNF := hide hnF; clear h h0 h1 hbx hp hr hnF
  go_enter Tryz.func23, Tryz.ntmps23
  go_upto_region 7 with fail
  go_cut [5, 6] (fun a' b wx => a' = .int .i64 a ∧ b = .int .i64 er ∧ ∃ S', LRep G wx bw s' s S' ∧ Like S S' ∧ S'.bh = S.bh ∧ S'.br = S.br ∧ (∀ b ∈ S'.L.foot S'.br, b ≠ w.heap.size) ∧ Blk wx w.heap.size (LOp.cells ⟨16, x, y, k, v, t⟩) 35)
  case first =>
    go_wp2_with fail
    refine (unhide hpc).mono ?_
    rintro e w2 ⟨F2, rfl, hg2, hl2, st2⟩
    have hc2 := st2.chg
    have HG2 := hide hg2
    have HL2 := hide hl2
    have ST2 := hide st2
    clear hg2 hl2 st2
    go_wp2_with fail
    go_meet
    refine ⟨rfl, rfl, _, (unhide H1).progStep (unhide HG2) (unhide HL2) (unhide ST2), ⟨rfl, rfl, rfl, rfl, rfl⟩, rfl, rfl, fun b hb e => ?_, (unhide HBX).chg hc2 (fun hm => by have := unhide HNF _ hm; omega)⟩
    have := (unhide H0).lt b hb
    omega
  case rest =>
    obtain ⟨rfl, rfl, S2, h2, lk, e1, e2, hn2, hbx2⟩ := hcut
    have h3 : LRep G wc bw s' s S2 := h2
    have c1 := h2.law.cell_of (i := 1) rfl
    have hrc : Hid (Calls Tryz.prog 61 #[.pointer (some ⟨S.br, 0, none⟩)] wc fun e w' => ∃ L', e = .returned (.tuple #[.int .i64 a, .int .i64 er]) ∧ RRep w' S.br s' L' ∧ Stp (S2.L.foot S.br) wc (L'.foot S.br) w') := by
      have := unhide HR wc S2.L (by rw [← e2]; exact h3.ref)
      exact this
    have hall2 : Hid (∀ w', Chg (S2.L.foot S.br) wc w' → w'.cell? ⟨bw, 1, none⟩ = some (.pointer (some ⟨S.br, 0, none⟩))) := by
      intro w' hc
      have hcb := (h3.law.chg hc (fun hm => h2.dj3 bw (by rw [e2]; exact hm) (own_bw _ _))).cell_of (i := 1) rfl
      rw [e2] at hcb
      exact hcb
    rw [e2] at c1
    have H3 := hide h3; have E2 := hide e2; have LK := hide lk; clear h2 h3 lk e1 e2 hn2 hbx2 H1 HBX hpc hall c0
    go_wp2_with fail
    refine (unhide hrc).mono ?_
    rintro e w4 ⟨L4, rfl, hg4, st4⟩
    have hc4 := st4.chg
    have HG4 := hide hg4
    have ST4 := hide st4
    clear hg4 st4
    go_wp2_with (go_at_call 18; refine (num_any _ _).mono ?_; rintro e w6 ⟨rfl, rfl⟩)
    go_ret
    exact ⟨{ S2 with L := L4 }, by simp, (unhide H3).refStep hG (by rw [unhide E2]; exact unhide HG4) (by rw [unhide E2]; exact unhide ST4), unhide LK⟩

set_option maxRecDepth 100000 in
set_option maxHeartbeats 2000000 in
theorem handles_close {G : World → Nat → R → List Nat → Prop} (hG : Stays G) {w : World} {bw : Nat} {s : R} {S : LS} (x y : Int) (k v : Int × Int) (t : ByteArray) (er : Int) (s' : R) (h : LRep G w bw s s S)
    (hp : PCall1 G 62 S.bh [.int .i64 x] s er s') (hr : RCall1 63 S.br [.int .i64 x] s er s') :
    Calls Tryz.prog 23 #[.pointer (some ⟨bw, 0, none⟩), LOp.val ⟨17, x, y, k, v, t⟩] w fun e w' => ∃ S', e = .returned (.bool true) ∧ LRep G w' bw s' s' S' ∧ Like S S' := by
  unfold LOp.val
  have h0 := h.ref
  have h1 : LRep G (w.alloc (.cells (LOp.cells ⟨17, x, y, k, v, t⟩).toArray 35)).drew bw s s S := h.quiet hG ((Chg.refl [] w).alloc _).drew
  have hbx : Blk (w.alloc (.cells (LOp.cells ⟨17, x, y, k, v, t⟩).toArray 35)).drew w.heap.size (LOp.cells ⟨17, x, y, k, v, t⟩) 35 := (Blk.new w _ _).drew
  have hbw : bw < w.heap.size := h.law.lt
  have c0 := h.law.cell_of (i := 0) rfl
  have hnF : ∀ b ∈ S.F, b < w.heap.size := h.flt
  have hpc : Hid (Calls Tryz.prog 62 #[.pointer (some ⟨S.bh, 0, none⟩), .int .i64 x] (w.alloc (.cells (LOp.cells ⟨17, x, y, k, v, t⟩).toArray 35)).drew fun e w' => ∃ F', e = .returned (.int .i64 er) ∧ G w' S.bh s' F' ∧ (∀ b ∈ F', b < w'.heap.size) ∧ Stp S.F (w.alloc (.cells (LOp.cells ⟨17, x, y, k, v, t⟩).toArray 35)).drew F' w') := hp _ _ h1.prog
  have hall : Hid (∀ w', Chg S.F (w.alloc (.cells (LOp.cells ⟨17, x, y, k, v, t⟩).toArray 35)).drew w' → w'.cell? ⟨bw, 0, none⟩ = some (.pointer (some ⟨S.bh, 0, none⟩)) ∧ w'.cell? ⟨w.heap.size, 1, none⟩ = some (.int .i64 x)) := by
    intro w' hc
    exact ⟨(h1.law.chg hc (fun hm => h1.dj2 bw hm (own_bw _ _))).cell_of rfl, (hbx.chg hc (fun hm => by have := hnF _ hm; omega)).cell_of rfl⟩
  have H0 := hide h0; have H1 := hide h1; have HBX := hide hbx; have HR := hide hr; have HNF := hide hnF; clear h h0 h1 hbx hp hr hnF
  go_enter Tryz.func23, Tryz.ntmps23
  go_upto_region 10 with fail
  go_cut [6] (fun b wx => b = .int .i64 er ∧ ∃ S', LRep G wx bw s' s S' ∧ Like S S' ∧ S'.bh = S.bh ∧ S'.br = S.br ∧ (∀ b ∈ S'.L.foot S'.br, b ≠ w.heap.size) ∧ Blk wx w.heap.size (LOp.cells ⟨17, x, y, k, v, t⟩) 35)
  case first =>
    go_region_held3 (fun w' => w'.cell? ⟨bw, 0, none⟩ = some (.pointer (some ⟨S.bh, 0, none⟩)) ∧ w'.cell? ⟨w.heap.size, 1, none⟩ = some (.int .i64 x)) (first | go_keep | (apply unhide hall; assumption)) ((go_at_call 62; refine (unhide hpc).mono ?_; rintro e w2 ⟨F2, rfl, hg2, hl2, st2⟩; have hc2 := st2.chg; have HG2 := hide hg2; have HL2 := hide hl2; have ST2 := hide st2; clear hg2 hl2 st2))
    go_wp2_with fail
    go_meet
    refine ⟨rfl, _, (unhide H1).progStep (unhide HG2) (unhide HL2) (unhide ST2), ⟨rfl, rfl, rfl, rfl, rfl⟩, rfl, rfl, fun b hb e => ?_, (unhide HBX).chg hc2 (fun hm => by have := unhide HNF _ hm; omega)⟩
    have := (unhide H0).lt b hb
    omega
  case rest =>
    obtain ⟨rfl, S2, h2, lk, e1, e2, hn2, hbx2⟩ := hcut
    have h3 : LRep G wc.drew bw s' s S2 := h2.quiet hG ((Chg.refl [] wc).drew)
    have c1 := h2.law.cell_of (i := 1) rfl
    have cxx := hbx2.cell_of (i := 1) rfl
    have hrc : Hid (Calls Tryz.prog 63 #[.pointer (some ⟨S.br, 0, none⟩), .int .i64 x] wc.drew fun e w' => ∃ L', e = .returned (.int .i64 er) ∧ RRep w' S.br s' L' ∧ Stp (S2.L.foot S.br) wc.drew (L'.foot S.br) w') := by
      have := unhide HR wc.drew S2.L (by rw [← e2]; exact h3.ref)
      exact this
    have hall2 : Hid (∀ w', Chg (S2.L.foot S.br) wc.drew w' → w'.cell? ⟨bw, 1, none⟩ = some (.pointer (some ⟨S.br, 0, none⟩)) ∧ w'.cell? ⟨w.heap.size, 1, none⟩ = some (.int .i64 x)) := by
      intro w' hc
      have hcb := (h3.law.chg hc (fun hm => h2.dj3 bw (by rw [e2]; exact hm) (own_bw _ _))).cell_of (i := 1) rfl
      rw [e2] at hcb
      exact ⟨hcb, (hbx2.drew.chg hc (fun hm => hn2 _ (by rw [e2]; exact hm) rfl)).cell_of rfl⟩
    rw [e2] at c1
    have H3 := hide h3; have E2 := hide e2; have LK := hide lk; clear h2 h3 lk e1 e2 hn2 hbx2 H1 HBX hpc hall c0
    go_wp2_with fail
    go_region_held3 (fun w' => w'.cell? ⟨bw, 1, none⟩ = some (.pointer (some ⟨S.br, 0, none⟩)) ∧ w'.cell? ⟨w.heap.size, 1, none⟩ = some (.int .i64 x)) (first | go_keep | (apply unhide hall2; assumption)) ((go_at_call 63; refine (unhide hrc).mono ?_; rintro e w4 ⟨L4, rfl, hg4, st4⟩; have hc4 := st4.chg; have HG4 := hide hg4; have ST4 := hide st4; clear hg4 st4))
    go_wp2_with (go_at_call 18; refine (num_any _ _).mono ?_; rintro e w6 ⟨rfl, rfl⟩)
    go_ret
    exact ⟨{ S2 with L := L4 }, by simp, (unhide H3).refStep hG (by rw [unhide E2]; exact unhide HG4) (by rw [unhide E2]; exact unhide ST4), unhide LK⟩

set_option maxRecDepth 100000 in
set_option maxHeartbeats 2000000 in
theorem handles_escape {G : World → Nat → R → List Nat → Prop} (hG : Stays G) {w : World} {bw : Nat} {s : R} {S : LS} (x y : Int) (k v : Int × Int) (t : ByteArray) (a : Int) (er : Int) (s' : R) (h : LRep G w bw s s S)
    (hp : PCall G 64 S.bh [.int .i64 x] s (.int .i64 a) er s') (hr : RCall 65 S.br [.int .i64 x] s (.int .i64 a) er s') :
    Calls Tryz.prog 23 #[.pointer (some ⟨bw, 0, none⟩), LOp.val ⟨18, x, y, k, v, t⟩] w fun e w' => ∃ S', e = .returned (.bool true) ∧ LRep G w' bw s' s' S' ∧ Like S S' := by
  unfold LOp.val
  have h0 := h.ref
  have h1 : LRep G (w.alloc (.cells (LOp.cells ⟨18, x, y, k, v, t⟩).toArray 35)).drew bw s s S := h.quiet hG ((Chg.refl [] w).alloc _).drew
  have hbx : Blk (w.alloc (.cells (LOp.cells ⟨18, x, y, k, v, t⟩).toArray 35)).drew w.heap.size (LOp.cells ⟨18, x, y, k, v, t⟩) 35 := (Blk.new w _ _).drew
  have hbw : bw < w.heap.size := h.law.lt
  have c0 := h.law.cell_of (i := 0) rfl
  have hnF : ∀ b ∈ S.F, b < w.heap.size := h.flt
  have hpc : Hid (Calls Tryz.prog 64 #[.pointer (some ⟨S.bh, 0, none⟩), .int .i64 x] (w.alloc (.cells (LOp.cells ⟨18, x, y, k, v, t⟩).toArray 35)).drew fun e w' => ∃ F', e = .returned (.tuple #[.int .i64 a, .int .i64 er]) ∧ G w' S.bh s' F' ∧ (∀ b ∈ F', b < w'.heap.size) ∧ Stp S.F (w.alloc (.cells (LOp.cells ⟨18, x, y, k, v, t⟩).toArray 35)).drew F' w') := hp _ _ h1.prog
  have hall : Hid (∀ w', Chg S.F (w.alloc (.cells (LOp.cells ⟨18, x, y, k, v, t⟩).toArray 35)).drew w' → w'.cell? ⟨bw, 0, none⟩ = some (.pointer (some ⟨S.bh, 0, none⟩)) ∧ w'.cell? ⟨w.heap.size, 1, none⟩ = some (.int .i64 x)) := by
    intro w' hc
    exact ⟨(h1.law.chg hc (fun hm => h1.dj2 bw hm (own_bw _ _))).cell_of rfl, (hbx.chg hc (fun hm => by have := hnF _ hm; omega)).cell_of rfl⟩
  have H0 := hide h0; have H1 := hide h1; have HBX := hide hbx; have HR := hide hr; have HNF := hide hnF; clear h h0 h1 hbx hp hr hnF
  go_enter Tryz.func23, Tryz.ntmps23
  go_upto_region 13 with fail
  go_cut [5, 6] (fun a' b wx => a' = .int .i64 a ∧ b = .int .i64 er ∧ ∃ S', LRep G wx bw s' s S' ∧ Like S S' ∧ S'.bh = S.bh ∧ S'.br = S.br ∧ (∀ b ∈ S'.L.foot S'.br, b ≠ w.heap.size) ∧ Blk wx w.heap.size (LOp.cells ⟨18, x, y, k, v, t⟩) 35)
  case first =>
    go_region_held3 (fun w' => w'.cell? ⟨bw, 0, none⟩ = some (.pointer (some ⟨S.bh, 0, none⟩)) ∧ w'.cell? ⟨w.heap.size, 1, none⟩ = some (.int .i64 x)) (first | go_keep | (apply unhide hall; assumption)) ((go_at_call 64; refine (unhide hpc).mono ?_; rintro e w2 ⟨F2, rfl, hg2, hl2, st2⟩; have hc2 := st2.chg; have HG2 := hide hg2; have HL2 := hide hl2; have ST2 := hide st2; clear hg2 hl2 st2))
    go_wp2_with fail
    go_meet
    refine ⟨rfl, rfl, _, (unhide H1).progStep (unhide HG2) (unhide HL2) (unhide ST2), ⟨rfl, rfl, rfl, rfl, rfl⟩, rfl, rfl, fun b hb e => ?_, (unhide HBX).chg hc2 (fun hm => by have := unhide HNF _ hm; omega)⟩
    have := (unhide H0).lt b hb
    omega
  case rest =>
    obtain ⟨rfl, rfl, S2, h2, lk, e1, e2, hn2, hbx2⟩ := hcut
    have h3 : LRep G wc.drew bw s' s S2 := h2.quiet hG ((Chg.refl [] wc).drew)
    have c1 := h2.law.cell_of (i := 1) rfl
    have cxx := hbx2.cell_of (i := 1) rfl
    have hrc : Hid (Calls Tryz.prog 65 #[.pointer (some ⟨S.br, 0, none⟩), .int .i64 x] wc.drew fun e w' => ∃ L', e = .returned (.tuple #[.int .i64 a, .int .i64 er]) ∧ RRep w' S.br s' L' ∧ Stp (S2.L.foot S.br) wc.drew (L'.foot S.br) w') := by
      have := unhide HR wc.drew S2.L (by rw [← e2]; exact h3.ref)
      exact this
    have hall2 : Hid (∀ w', Chg (S2.L.foot S.br) wc.drew w' → w'.cell? ⟨bw, 1, none⟩ = some (.pointer (some ⟨S.br, 0, none⟩)) ∧ w'.cell? ⟨w.heap.size, 1, none⟩ = some (.int .i64 x)) := by
      intro w' hc
      have hcb := (h3.law.chg hc (fun hm => h2.dj3 bw (by rw [e2]; exact hm) (own_bw _ _))).cell_of (i := 1) rfl
      rw [e2] at hcb
      exact ⟨hcb, (hbx2.drew.chg hc (fun hm => hn2 _ (by rw [e2]; exact hm) rfl)).cell_of rfl⟩
    rw [e2] at c1
    have H3 := hide h3; have E2 := hide e2; have LK := hide lk; clear h2 h3 lk e1 e2 hn2 hbx2 H1 HBX hpc hall c0
    go_wp2_with fail
    go_region_held3 (fun w' => w'.cell? ⟨bw, 1, none⟩ = some (.pointer (some ⟨S.br, 0, none⟩)) ∧ w'.cell? ⟨w.heap.size, 1, none⟩ = some (.int .i64 x)) (first | go_keep | (apply unhide hall2; assumption)) ((go_at_call 65; refine (unhide hrc).mono ?_; rintro e w4 ⟨L4, rfl, hg4, st4⟩; have hc4 := st4.chg; have HG4 := hide hg4; have ST4 := hide st4; clear hg4 st4))
    go_wp2_with (go_at_call 18; refine (num_any _ _).mono ?_; rintro e w6 ⟨rfl, rfl⟩)
    go_ret
    exact ⟨{ S2 with L := L4 }, by simp, (unhide H3).refStep hG (by rw [unhide E2]; exact unhide HG4) (by rw [unhide E2]; exact unhide ST4), unhide LK⟩

set_option maxRecDepth 100000 in
set_option maxHeartbeats 2000000 in
theorem handles_keep {G : World → Nat → R → List Nat → Prop} (hG : Stays G) {w : World} {bw : Nat} {s : R} {S : LS} (x y : Int) (k v : Int × Int) (t : ByteArray) (a : Int) (er : Int) (s' : R) (h : LRep G w bw s s S)
    (hp : PCall G 66 S.bh [.int .i64 x] s (.int .i64 a) er s') (hr : RCall 67 S.br [.int .i64 x] s (.int .i64 a) er s') :
    Calls Tryz.prog 23 #[.pointer (some ⟨bw, 0, none⟩), LOp.val ⟨19, x, y, k, v, t⟩] w fun e w' => ∃ S', e = .returned (.bool true) ∧ LRep G w' bw s' s' S' ∧ Like S S' := by
  unfold LOp.val
  have h0 := h.ref
  have h1 : LRep G (w.alloc (.cells (LOp.cells ⟨19, x, y, k, v, t⟩).toArray 35)).drew bw s s S := h.quiet hG ((Chg.refl [] w).alloc _).drew
  have hbx : Blk (w.alloc (.cells (LOp.cells ⟨19, x, y, k, v, t⟩).toArray 35)).drew w.heap.size (LOp.cells ⟨19, x, y, k, v, t⟩) 35 := (Blk.new w _ _).drew
  have hbw : bw < w.heap.size := h.law.lt
  have c0 := h.law.cell_of (i := 0) rfl
  have hnF : ∀ b ∈ S.F, b < w.heap.size := h.flt
  have hpc : Hid (Calls Tryz.prog 66 #[.pointer (some ⟨S.bh, 0, none⟩), .int .i64 x] (w.alloc (.cells (LOp.cells ⟨19, x, y, k, v, t⟩).toArray 35)).drew fun e w' => ∃ F', e = .returned (.tuple #[.int .i64 a, .int .i64 er]) ∧ G w' S.bh s' F' ∧ (∀ b ∈ F', b < w'.heap.size) ∧ Stp S.F (w.alloc (.cells (LOp.cells ⟨19, x, y, k, v, t⟩).toArray 35)).drew F' w') := hp _ _ h1.prog
  have hall : Hid (∀ w', Chg S.F (w.alloc (.cells (LOp.cells ⟨19, x, y, k, v, t⟩).toArray 35)).drew w' → w'.cell? ⟨bw, 0, none⟩ = some (.pointer (some ⟨S.bh, 0, none⟩)) ∧ w'.cell? ⟨w.heap.size, 1, none⟩ = some (.int .i64 x)) := by
    intro w' hc
    exact ⟨(h1.law.chg hc (fun hm => h1.dj2 bw hm (own_bw _ _))).cell_of rfl, (hbx.chg hc (fun hm => by have := hnF _ hm; omega)).cell_of rfl⟩
  have H0 := hide h0; have H1 := hide h1; have HBX := hide hbx; have HR := hide hr; have HNF := hide hnF; clear h h0 h1 hbx hp hr hnF
  go_enter Tryz.func23, Tryz.ntmps23
  go_upto_region 16 with fail
  go_cut [5, 6] (fun a' b wx => a' = .int .i64 a ∧ b = .int .i64 er ∧ ∃ S', LRep G wx bw s' s S' ∧ Like S S' ∧ S'.bh = S.bh ∧ S'.br = S.br ∧ (∀ b ∈ S'.L.foot S'.br, b ≠ w.heap.size) ∧ Blk wx w.heap.size (LOp.cells ⟨19, x, y, k, v, t⟩) 35)
  case first =>
    go_region_held3 (fun w' => w'.cell? ⟨bw, 0, none⟩ = some (.pointer (some ⟨S.bh, 0, none⟩)) ∧ w'.cell? ⟨w.heap.size, 1, none⟩ = some (.int .i64 x)) (first | go_keep | (apply unhide hall; assumption)) ((go_at_call 66; refine (unhide hpc).mono ?_; rintro e w2 ⟨F2, rfl, hg2, hl2, st2⟩; have hc2 := st2.chg; have HG2 := hide hg2; have HL2 := hide hl2; have ST2 := hide st2; clear hg2 hl2 st2))
    go_wp2_with fail
    go_meet
    refine ⟨rfl, rfl, _, (unhide H1).progStep (unhide HG2) (unhide HL2) (unhide ST2), ⟨rfl, rfl, rfl, rfl, rfl⟩, rfl, rfl, fun b hb e => ?_, (unhide HBX).chg hc2 (fun hm => by have := unhide HNF _ hm; omega)⟩
    have := (unhide H0).lt b hb
    omega
  case rest =>
    obtain ⟨rfl, rfl, S2, h2, lk, e1, e2, hn2, hbx2⟩ := hcut
    have h3 : LRep G wc.drew bw s' s S2 := h2.quiet hG ((Chg.refl [] wc).drew)
    have c1 := h2.law.cell_of (i := 1) rfl
    have cxx := hbx2.cell_of (i := 1) rfl
    have hrc : Hid (Calls Tryz.prog 67 #[.pointer (some ⟨S.br, 0, none⟩), .int .i64 x] wc.drew fun e w' => ∃ L', e = .returned (.tuple #[.int .i64 a, .int .i64 er]) ∧ RRep w' S.br s' L' ∧ Stp (S2.L.foot S.br) wc.drew (L'.foot S.br) w') := by
      have := unhide HR wc.drew S2.L (by rw [← e2]; exact h3.ref)
      exact this
    have hall2 : Hid (∀ w', Chg (S2.L.foot S.br) wc.drew w' → w'.cell? ⟨bw, 1, none⟩ = some (.pointer (some ⟨S.br, 0, none⟩)) ∧ w'.cell? ⟨w.heap.size, 1, none⟩ = some (.int .i64 x)) := by
      intro w' hc
      have hcb := (h3.law.chg hc (fun hm => h2.dj3 bw (by rw [e2]; exact hm) (own_bw _ _))).cell_of (i := 1) rfl
      rw [e2] at hcb
      exact ⟨hcb, (hbx2.drew.chg hc (fun hm => hn2 _ (by rw [e2]; exact hm) rfl)).cell_of rfl⟩
    rw [e2] at c1
    have H3 := hide h3; have E2 := hide e2; have LK := hide lk; clear h2 h3 lk e1 e2 hn2 hbx2 H1 HBX hpc hall c0
    go_wp2_with fail
    go_region_held3 (fun w' => w'.cell? ⟨bw, 1, none⟩ = some (.pointer (some ⟨S.br, 0, none⟩)) ∧ w'.cell? ⟨w.heap.size, 1, none⟩ = some (.int .i64 x)) (first | go_keep | (apply unhide hall2; assumption)) ((go_at_call 67; refine (unhide hrc).mono ?_; rintro e w4 ⟨L4, rfl, hg4, st4⟩; have hc4 := st4.chg; have HG4 := hide hg4; have ST4 := hide st4; clear hg4 st4))
    go_wp2_with (go_at_call 18; refine (num_any _ _).mono ?_; rintro e w6 ⟨rfl, rfl⟩)
    go_ret
    exact ⟨{ S2 with L := L4 }, by simp, (unhide H3).refStep hG (by rw [unhide E2]; exact unhide HG4) (by rw [unhide E2]; exact unhide ST4), unhide LK⟩

set_option maxRecDepth 100000 in
set_option maxHeartbeats 2000000 in
theorem handles_release {G : World → Nat → R → List Nat → Prop} (hG : Stays G) {w : World} {bw : Nat} {s : R} {S : LS} (x y : Int) (k v : Int × Int) (t : ByteArray) (er : Int) (s' : R) (h : LRep G w bw s s S)
    (hp : PCall1 G 68 S.bh [.int .i64 x] s er s') (hr : RCall1 69 S.br [.int .i64 x] s er s') :
    Calls Tryz.prog 23 #[.pointer (some ⟨bw, 0, none⟩), LOp.val ⟨20, x, y, k, v, t⟩] w fun e w' => ∃ S', e = .returned (.bool true) ∧ LRep G w' bw s' s' S' ∧ Like S S' := by
  unfold LOp.val
  have h0 := h.ref
  have h1 : LRep G (w.alloc (.cells (LOp.cells ⟨20, x, y, k, v, t⟩).toArray 35)).drew bw s s S := h.quiet hG ((Chg.refl [] w).alloc _).drew
  have hbx : Blk (w.alloc (.cells (LOp.cells ⟨20, x, y, k, v, t⟩).toArray 35)).drew w.heap.size (LOp.cells ⟨20, x, y, k, v, t⟩) 35 := (Blk.new w _ _).drew
  have hbw : bw < w.heap.size := h.law.lt
  have c0 := h.law.cell_of (i := 0) rfl
  have hnF : ∀ b ∈ S.F, b < w.heap.size := h.flt
  have hpc : Hid (Calls Tryz.prog 68 #[.pointer (some ⟨S.bh, 0, none⟩), .int .i64 x] (w.alloc (.cells (LOp.cells ⟨20, x, y, k, v, t⟩).toArray 35)).drew fun e w' => ∃ F', e = .returned (.int .i64 er) ∧ G w' S.bh s' F' ∧ (∀ b ∈ F', b < w'.heap.size) ∧ Stp S.F (w.alloc (.cells (LOp.cells ⟨20, x, y, k, v, t⟩).toArray 35)).drew F' w') := hp _ _ h1.prog
  have hall : Hid (∀ w', Chg S.F (w.alloc (.cells (LOp.cells ⟨20, x, y, k, v, t⟩).toArray 35)).drew w' → w'.cell? ⟨bw, 0, none⟩ = some (.pointer (some ⟨S.bh, 0, none⟩)) ∧ w'.cell? ⟨w.heap.size, 1, none⟩ = some (.int .i64 x)) := by
    intro w' hc
    exact ⟨(h1.law.chg hc (fun hm => h1.dj2 bw hm (own_bw _ _))).cell_of rfl, (hbx.chg hc (fun hm => by have := hnF _ hm; omega)).cell_of rfl⟩
  have H0 := hide h0; have H1 := hide h1; have HBX := hide hbx; have HR := hide hr; have HNF := hide hnF; clear h h0 h1 hbx hp hr hnF
  go_enter Tryz.func23, Tryz.ntmps23
  go_upto_region 19 with fail
  go_cut [6] (fun b wx => b = .int .i64 er ∧ ∃ S', LRep G wx bw s' s S' ∧ Like S S' ∧ S'.bh = S.bh ∧ S'.br = S.br ∧ (∀ b ∈ S'.L.foot S'.br, b ≠ w.heap.size) ∧ Blk wx w.heap.size (LOp.cells ⟨20, x, y, k, v, t⟩) 35)
  case first =>
    go_region_held3 (fun w' => w'.cell? ⟨bw, 0, none⟩ = some (.pointer (some ⟨S.bh, 0, none⟩)) ∧ w'.cell? ⟨w.heap.size, 1, none⟩ = some (.int .i64 x)) (first | go_keep | (apply unhide hall; assumption)) ((go_at_call 68; refine (unhide hpc).mono ?_; rintro e w2 ⟨F2, rfl, hg2, hl2, st2⟩; have hc2 := st2.chg; have HG2 := hide hg2; have HL2 := hide hl2; have ST2 := hide st2; clear hg2 hl2 st2))
    go_wp2_with fail
    go_meet
    refine ⟨rfl, _, (unhide H1).progStep (unhide HG2) (unhide HL2) (unhide ST2), ⟨rfl, rfl, rfl, rfl, rfl⟩, rfl, rfl, fun b hb e => ?_, (unhide HBX).chg hc2 (fun hm => by have := unhide HNF _ hm; omega)⟩
    have := (unhide H0).lt b hb
    omega
  case rest =>
    obtain ⟨rfl, S2, h2, lk, e1, e2, hn2, hbx2⟩ := hcut
    have h3 : LRep G wc.drew bw s' s S2 := h2.quiet hG ((Chg.refl [] wc).drew)
    have c1 := h2.law.cell_of (i := 1) rfl
    have cxx := hbx2.cell_of (i := 1) rfl
    have hrc : Hid (Calls Tryz.prog 69 #[.pointer (some ⟨S.br, 0, none⟩), .int .i64 x] wc.drew fun e w' => ∃ L', e = .returned (.int .i64 er) ∧ RRep w' S.br s' L' ∧ Stp (S2.L.foot S.br) wc.drew (L'.foot S.br) w') := by
      have := unhide HR wc.drew S2.L (by rw [← e2]; exact h3.ref)
      exact this
    have hall2 : Hid (∀ w', Chg (S2.L.foot S.br) wc.drew w' → w'.cell? ⟨bw, 1, none⟩ = some (.pointer (some ⟨S.br, 0, none⟩)) ∧ w'.cell? ⟨w.heap.size, 1, none⟩ = some (.int .i64 x)) := by
      intro w' hc
      have hcb := (h3.law.chg hc (fun hm => h2.dj3 bw (by rw [e2]; exact hm) (own_bw _ _))).cell_of (i := 1) rfl
      rw [e2] at hcb
      exact ⟨hcb, (hbx2.drew.chg hc (fun hm => hn2 _ (by rw [e2]; exact hm) rfl)).cell_of rfl⟩
    rw [e2] at c1
    have H3 := hide h3; have E2 := hide e2; have LK := hide lk; clear h2 h3 lk e1 e2 hn2 hbx2 H1 HBX hpc hall c0
    go_wp2_with fail
    go_region_held3 (fun w' => w'.cell? ⟨bw, 1, none⟩ = some (.pointer (some ⟨S.br, 0, none⟩)) ∧ w'.cell? ⟨w.heap.size, 1, none⟩ = some (.int .i64 x)) (first | go_keep | (apply unhide hall2; assumption)) ((go_at_call 69; refine (unhide hrc).mono ?_; rintro e w4 ⟨L4, rfl, hg4, st4⟩; have hc4 := st4.chg; have HG4 := hide hg4; have ST4 := hide st4; clear hg4 st4))
    go_wp2_with (go_at_call 18; refine (num_any _ _).mono ?_; rintro e w6 ⟨rfl, rfl⟩)
    go_ret
    exact ⟨{ S2 with L := L4 }, by simp, (unhide H3).refStep hG (by rw [unhide E2]; exact unhide HG4) (by rw [unhide E2]; exact unhide ST4), unhide LK⟩

set_option maxRecDepth 100000 in
set_option maxHeartbeats 2000000 in
theorem handles_collect {G : World → Nat → R → List Nat → Prop} (hG : Stays G) {w : World} {bw : Nat} {s : R} {S : LS} (x y : Int) (k v : Int × Int) (t : ByteArray) (er : Int) (s' : R) (h : LRep G w bw s s S)
    (hp : PCall1 G 70 S.bh [] s er s') (hr : RCall1 71 S.br [] s er s') :
    Calls Tryz.prog 23 #[.pointer (some ⟨bw, 0, none⟩), LOp.val ⟨21, x, y, k, v, t⟩] w fun e w' => ∃ S', e = .returned (.bool true) ∧ LRep G w' bw s' s' S' ∧ Like S S' := by
  unfold LOp.val
  have h0 := h.ref
  have h1 : LRep G (w.alloc (.cells (LOp.cells ⟨21, x, y, k, v, t⟩).toArray 35)) bw s s S := h.quiet hG ((Chg.refl [] w).alloc _)
  have hbx : Blk (w.alloc (.cells (LOp.cells ⟨21, x, y, k, v, t⟩).toArray 35)) w.heap.size (LOp.cells ⟨21, x, y, k, v, t⟩) 35 := (Blk.new w _ _)
  have hbw : bw < w.heap.size := h.law.lt
  have c0 := h.law.cell_of (i := 0) rfl
  have hnF : ∀ b ∈ S.F, b < w.heap.size := h.flt
  have hpc : Hid (Calls Tryz.prog 70 #[.pointer (some ⟨S.bh, 0, none⟩)] (w.alloc (.cells (LOp.cells ⟨21, x, y, k, v, t⟩).toArray 35)) fun e w' => ∃ F', e = .returned (.int .i64 er) ∧ G w' S.bh s' F' ∧ (∀ b ∈ F', b < w'.heap.size) ∧ Stp S.F (w.alloc (.cells (LOp.cells ⟨21, x, y, k, v, t⟩).toArray 35)) F' w') := hp _ _ h1.prog
  have hall : Hid (∀ w', Chg S.F (w.alloc (.cells (LOp.cells ⟨21, x, y, k, v, t⟩).toArray 35)) w' → w'.cell? ⟨bw, 0, none⟩ = some (.pointer (some ⟨S.bh, 0, none⟩))) := by
    intro w' hc
    exact (h1.law.chg hc (fun hm => h1.dj2 bw hm (own_bw _ _))).cell_of rfl
  have H0 := hide h0; have H1 := hide h1; have HBX := hide hbx; have HR := hide hr; have HNF := hide hnF; clear h h0 h1 hbx hp hr hnF
  go_enter Tryz.func23, Tryz.ntmps23
  go_upto_region 22 with fail
  go_cut [6] (fun b wx => b = .int .i64 er ∧ ∃ S', LRep G wx bw s' s S' ∧ Like S S' ∧ S'.bh = S.bh ∧ S'.br = S.br ∧ (∀ b ∈ S'.L.foot S'.br, b ≠ w.heap.size) ∧ Blk wx w.heap.size (LOp.cells ⟨21, x, y, k, v, t⟩) 35)
  case first =>
    go_wp2_with fail
    refine (unhide hpc).mono ?_
    rintro e w2 ⟨F2, rfl, hg2, hl2, st2⟩
    have hc2 := st2.chg
    have HG2 := hide hg2
    have HL2 := hide hl2
    have ST2 := hide st2
    clear hg2 hl2 st2
    go_wp2_with fail
    go_meet
    refine ⟨rfl, _, (unhide H1).progStep (unhide HG2) (unhide HL2) (unhide ST2), ⟨rfl, rfl, rfl, rfl, rfl⟩, rfl, rfl, fun b hb e => ?_, (unhide HBX).chg hc2 (fun hm => by have := unhide HNF _ hm; omega)⟩
    have := (unhide H0).lt b hb
    omega
  case rest =>
    obtain ⟨rfl, S2, h2, lk, e1, e2, hn2, hbx2⟩ := hcut
    have h3 : LRep G wc bw s' s S2 := h2
    have c1 := h2.law.cell_of (i := 1) rfl
    have hrc : Hid (Calls Tryz.prog 71 #[.pointer (some ⟨S.br, 0, none⟩)] wc fun e w' => ∃ L', e = .returned (.int .i64 er) ∧ RRep w' S.br s' L' ∧ Stp (S2.L.foot S.br) wc (L'.foot S.br) w') := by
      have := unhide HR wc S2.L (by rw [← e2]; exact h3.ref)
      exact this
    have hall2 : Hid (∀ w', Chg (S2.L.foot S.br) wc w' → w'.cell? ⟨bw, 1, none⟩ = some (.pointer (some ⟨S.br, 0, none⟩))) := by
      intro w' hc
      have hcb := (h3.law.chg hc (fun hm => h2.dj3 bw (by rw [e2]; exact hm) (own_bw _ _))).cell_of (i := 1) rfl
      rw [e2] at hcb
      exact hcb
    rw [e2] at c1
    have H3 := hide h3; have E2 := hide e2; have LK := hide lk; clear h2 h3 lk e1 e2 hn2 hbx2 H1 HBX hpc hall c0
    go_wp2_with fail
    refine (unhide hrc).mono ?_
    rintro e w4 ⟨L4, rfl, hg4, st4⟩
    have hc4 := st4.chg
    have HG4 := hide hg4
    have ST4 := hide st4
    clear hg4 st4
    go_wp2_with (go_at_call 18; refine (num_any _ _).mono ?_; rintro e w6 ⟨rfl, rfl⟩)
    go_ret
    exact ⟨{ S2 with L := L4 }, by simp, (unhide H3).refStep hG (by rw [unhide E2]; exact unhide HG4) (by rw [unhide E2]; exact unhide ST4), unhide LK⟩

end Go.Proofs.YtfoncalkgmeklaaGreat

/- looks: the flags and the lists that came out hold what their owner wrote. -/
namespace Go.Proofs.YtfoncalkgmeklaaGreat
open Go.RowKit

set_option maxRecDepth 100000 in
set_option maxHeartbeats 4000000 in
theorem looks_any {G : World → Nat → R → List Nat → Prop} {w : World} {bw : Nat} {sp sr : R} {S : LS} (h : LRep G w bw sp sr S) (hfl : S.fl.length ≤ 100000) (hel : S.ents.length ≤ 8000000000004) :
    Calls Tryz.prog 14 #[.pointer (some ⟨bw, 0, none⟩)] w fun e w' => e = .returned (.bool true) ∧ ∃ q, w' = w.drewN q := by
  have c2 := h.law.cell_of (i := 2) rfl
  have c3 := h.law.cell_of (i := 3) rfl
  have c4 := h.law.cell_of (i := 4) rfl
  have c5 := h.law.cell_of (i := 5) rfl
  have H := hide h; clear h
  go_enter Tryz.func14, Tryz.ntmps14
  go_wp2_with fail
  go_loopw [3] (fun i wr => ∃ k q : Nat, k ≤ S.fl.length ∧ i = .int .i64 k ∧ wr = w.drewN q) (fun i _ => S.fl.length - (intOf i).toNat)
  case atStart => exact ⟨0, 0, Nat.zero_le _, rfl, rfl⟩
  case round =>
    obtain ⟨k, q, hk, rfl, rfl⟩ := hrel
    by_cases hlt : k < S.fl.length
    · obtain ⟨x, hx⟩ : ∃ x, S.fl[k]? = some x := ⟨_, List.getElem?_eq_getElem hlt⟩
      have d1 := (unhide H).flags.cell_of (i := k) (v := .bool x) (by simp [hx])
      have d2 := (unhide H).turn.cell_of (i := k) (v := .bool x) (by simp [hx])
      have zk : (k : Int) < (S.fl.length : Int) := by omega
      clear hx
      go_wp2_with fail
      go_quiet (fail)
      go_wp2
      go_roundw
      case rel => exact ⟨k + 1, _, by omega, by go_num, rfl⟩
      case measure => simp [intOf]; omega
    · go_wp2_with fail
      go_loopw [4] (fun i wr => ∃ k q : Nat, k ≤ S.ents.length ∧ i = .int .i64 k ∧ wr = w.drewN q) (fun i _ => S.ents.length - (intOf i).toNat)
      case atStart => exact ⟨0, _, Nat.zero_le _, rfl, rfl⟩
      case round =>
        obtain ⟨k2, q2, hk2, rfl, rfl⟩ := hrel
        by_cases hlt2 : k2 < S.ents.length
        · obtain ⟨e, he⟩ : ∃ e, S.ents[k2]? = some e := ⟨_, List.getElem?_eq_getElem hlt2⟩
          obtain ⟨m, hm⟩ : ∃ m, S.marks[k2]? = some m := ⟨_, List.getElem?_eq_getElem (by rw [(unhide H).mlen]; exact hlt2)⟩
          obtain ⟨gl, hgl, _, hcl⟩ := owns_at (unhide H).lists (by omega)
          obtain ⟨gm, hgm, _, hcm⟩ := owns_at (unhide H).marksR (by rw [(unhide H).mlen]; omega)
          have cl := hcl k2 (.slice e.1 e.2.1 e.2.2) (by simp [he])
          have cm := hcm k2 (.int .i64 m) (by simp [ints, hm])
          have hent := (unhide H).ent k2 e m he hm
          have hml : S.marks.length = S.ents.length := (unhide H).mlen
          have hee : e.2.1 ≤ 1000000 := (unhide H).elen e (List.mem_of_getElem? he)
          have c4' := c4
          have c5' := c5
          rw [hgl] at c4'
          rw [hgm, hml] at c5'
          obtain ⟨ea, en, ec⟩ := e
          simp only at cl hee
          have HENT := hide hent; clear hent hml hgl hgm hcl hcm he hm
          have zk2 : (k2 : Int) < (S.ents.length : Int) := by omega
          clear c4 c5
          go_wp2_with fail
          go_loopw [5] (fun i wr => ∃ k q : Nat, k ≤ en ∧ i = .int .i64 k ∧ wr = w.drewN q) (fun i _ => en - (intOf i).toNat)
          case atStart => exact ⟨0, _, Nat.zero_le _, rfl, rfl⟩
          case round =>
            obtain ⟨k3, q3, hk3, rfl, rfl⟩ := hrel
            by_cases hlt3 : k3 < en
            · obtain ⟨g, hg, _, hc⟩ := unhide HENT (by show 0 < en; omega)
              simp only at hg hc
              subst hg
              have cg := hc k3 hlt3
              have zk3 : (k3 : Int) < (en : Int) := by omega
              clear hc
              go_wp2_with fail
              go_quiet (fail)
              go_wp2
              go_roundw
              case rel => exact ⟨k3 + 1, _, by omega, by go_num, rfl⟩
              case measure => simp [intOf]; omega
            · go_wp2
              go_roundw
              case rel => exact ⟨k2 + 1, _, by omega, by go_num, rfl⟩
              case measure => simp [intOf]; omega
        · go_wp2
          go_ret
          exact ⟨rfl, _, rfl⟩
end Go.Proofs.YtfoncalkgmeklaaGreat

/- step: which of the four a step goes to. -/
namespace Go.Proofs.YtfoncalkgmeklaaGreat
open Go.RowKit

set_option maxRecDepth 100000 in
set_option maxHeartbeats 4000000 in
theorem step_makes {Post : World → Prop} {w : World} {bw : Nat} (o : LOp) (hk : o.kind = 1 ∨ o.kind = 2 ∨ o.kind = 3 ∨ o.kind = 22 ∨ o.kind = 23)
    (hc : Calls Tryz.prog 20 #[.pointer (some ⟨bw, 0, none⟩), o.val] (w.alloc (.cells o.cells.toArray 35)) fun e w' => e = .returned (.bool true) ∧ Post w') :
    Calls Tryz.prog 13 #[.pointer (some ⟨bw, 0, none⟩), o.val] w fun e w' => e = .returned (.bool true) ∧ Post w' := by
  obtain ⟨kind, x, y, k, v, t⟩ := o
  unfold LOp.val at *
  have HC := hide hc; clear hc
  simp only at hk
  rcases hk with rfl | rfl | rfl | rfl | rfl
  all_goals
    go_enter Tryz.func13, Tryz.ntmps13
    go_wp2_with fail
    refine (unhide HC).mono ?_
    rintro e w1 ⟨rfl, hp⟩
    have HPO := hide hp; clear hp
    go_wp2
    go_ret
    exact ⟨rfl, unhide HPO⟩

set_option maxRecDepth 100000 in
set_option maxHeartbeats 4000000 in
theorem step_asks {Post : World → Prop} {w : World} {bw : Nat} (o : LOp) (hk : o.kind = 4 ∨ o.kind = 5 ∨ o.kind = 6 ∨ o.kind = 7 ∨ o.kind = 8 ∨ o.kind = 11)
    (hc : Calls Tryz.prog 21 #[.pointer (some ⟨bw, 0, none⟩), o.val] (w.alloc (.cells o.cells.toArray 35)) fun e w' => e = .returned (.bool true) ∧ Post w') :
    Calls Tryz.prog 13 #[.pointer (some ⟨bw, 0, none⟩), o.val] w fun e w' => e = .returned (.bool true) ∧ Post w' := by
  obtain ⟨kind, x, y, k, v, t⟩ := o
  unfold LOp.val at *
  have HC := hide hc; clear hc
  simp only at hk
  rcases hk with rfl | rfl | rfl | rfl | rfl | rfl
  all_goals
    go_enter Tryz.func13, Tryz.ntmps13
    go_wp2_with fail
    refine (unhide HC).mono ?_
    rintro e w1 ⟨rfl, hp⟩
    have HPO := hide hp; clear hp
    go_wp2
    go_ret
    exact ⟨rfl, unhide HPO⟩

set_option maxRecDepth 100000 in
set_option maxHeartbeats 4000000 in
theorem step_values {Post : World → Prop} {w : World} {bw : Nat} (o : LOp) (hk : o.kind = 9 ∨ o.kind = 10 ∨ o.kind = 12 ∨ o.kind = 13 ∨ o.kind = 14 ∨ o.kind = 15)
    (hc : Calls Tryz.prog 22 #[.pointer (some ⟨bw, 0, none⟩), o.val] (w.alloc (.cells o.cells.toArray 35)) fun e w' => e = .returned (.bool true) ∧ Post w') :
    Calls Tryz.prog 13 #[.pointer (some ⟨bw, 0, none⟩), o.val] w fun e w' => e = .returned (.bool true) ∧ Post w' := by
  obtain ⟨kind, x, y, k, v, t⟩ := o
  unfold LOp.val at *
  have HC := hide hc; clear hc
  simp only at hk
  rcases hk with rfl | rfl | rfl | rfl | rfl | rfl
  all_goals
    go_enter Tryz.func13, Tryz.ntmps13
    go_wp2_with fail
    refine (unhide HC).mono ?_
    rintro e w1 ⟨rfl, hp⟩
    have HPO := hide hp; clear hp
    go_wp2
    go_ret
    exact ⟨rfl, unhide HPO⟩

set_option maxRecDepth 100000 in
set_option maxHeartbeats 4000000 in
theorem step_handles {Post : World → Prop} {w : World} {bw : Nat} (o : LOp) (hk : o.kind = 16 ∨ o.kind = 17 ∨ o.kind = 18 ∨ o.kind = 19 ∨ o.kind = 20 ∨ o.kind = 21)
    (hc : Calls Tryz.prog 23 #[.pointer (some ⟨bw, 0, none⟩), o.val] (w.alloc (.cells o.cells.toArray 35)) fun e w' => e = .returned (.bool true) ∧ Post w') :
    Calls Tryz.prog 13 #[.pointer (some ⟨bw, 0, none⟩), o.val] w fun e w' => e = .returned (.bool true) ∧ Post w' := by
  obtain ⟨kind, x, y, k, v, t⟩ := o
  unfold LOp.val at *
  have HC := hide hc; clear hc
  simp only at hk
  rcases hk with rfl | rfl | rfl | rfl | rfl | rfl
  all_goals
    go_enter Tryz.func13, Tryz.ntmps13
    go_wp2_with fail
    refine (unhide HC).mono ?_
    rintro e w1 ⟨rfl, hp⟩
    have HPO := hide hp; clear hp
    go_wp2
    go_ret
    exact ⟨rfl, unhide HPO⟩
end Go.Proofs.YtfoncalkgmeklaaGreat
