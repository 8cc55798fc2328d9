import Derived.Test.YtfoncalkgmeklaaGreatYwM12

/- Put of the document's heap: P8. -/
namespace Go.Proofs.YtfoncalkgmeklaaGreat
open Go.RowKit

/-- Two values more behind an object's list. -/
theorem RRep.pushVals {w w0 w1 : World} {br : Nat} {s : R} {L : RL} (h : RRep w br s L) {o : Nat} {ob : RObj} {b : Nat} {va : Option Addr} {vc : Nat} (e1 : s.objs[o]? = some ob) (e2 : L.obs[o]? = some b) (e3 : L.vas[o]? = some (va, vc)) (l : List (Int × Int)) (hw0 : Chg [] w w0) {va' : Option Addr} {cap H : Nat}
    (ho : w1.ownsRow 0 33 2 (.slice va' (ob.vals.length + l.length) cap) (ob.vals.length + l.length) (valCells ob.vals ++ valCells l))
    (hg : w0.grownBy w1 (Value.slice va ob.vals.length vc).ownBlock) (hH : w.heap.size ≤ H)
    (hat : (Value.slice va' (ob.vals.length + l.length) cap).ownBlock = (Value.slice va ob.vals.length vc).ownBlock ∨ (Value.slice va' (ob.vals.length + l.length) cap).ownBlock = some H) :
    RRep (w1.setCell ⟨b, 2, none⟩ (.slice va' (ob.vals.length + l.length) cap)) br (s.setObj o { ob with vals := ob.vals ++ l }) { L with vas := L.vas.set o (va', cap) } ∧
      Stp (L.foot br) w (({ L with vas := L.vas.set o (va', cap) } : RL).foot br) (w1.setCell ⟨b, 2, none⟩ (.slice va' (ob.vals.length + l.length) cap)) := by
  obtain ⟨hbo, hvo⟩ := h.obj o ob b (va, vc) e1 e2 e3
  have k1 : Chg (ab va) w w1 := grown_ab (S := []) hw0 hg
  have k2 : Chg (b :: ab va) w (w1.setCell ⟨b, 2, none⟩ (.slice va' (ob.vals.length + l.length) cap)) := (k1.mono (fun x hx => by simp [hx])).setCell (.inl (by simp)) _
  have hb1 : Blk w1 b _ 72 := hbo.chg_ty k1 (fun x hx => (owns_ty hvo x hx).ne (by decide))
  have hb2 := hb1.setCell 2 (.slice va' (ob.vals.length + l.length) cap)
  refine h.setObj (ob' := { ob with vals := ob.vals ++ l }) e1 e2 e3 k2 (by simpa [objCells] using hb2) ?_ (at_ab hH hat)
  have := ownsRow_setCell_other' ho (p := ⟨b, 2, none⟩) (fun g hgv e => by
    simp at e
    subst e
    exact (owns_ty ho g (ownBlock_ab hgv)).ne (by decide) hb1.ty) (.slice va' (ob.vals.length + l.length) cap)
  simpa [valCells_append] using this

def R.putQ (s : R) (x : Int) (k v : Int × Int) : Int × R :=
  if (s.table x k v).2.2 = 0 then
    (if (s.table x k v).2.1 = (s.objOf (s.table x k v).1).vals.length then
      (if ((s.objOf (s.table x k v).1).vals.length : Int) = 2 * (s.objOf (s.table x k v).1).size then (9, s)
       else (0, s.setObj (s.table x k v).1 { s.objOf (s.table x k v).1 with vals := (s.objOf (s.table x k v).1).vals ++ [s.inner k, s.inner v] }))
     else (0, s.setObj (s.table x k v).1 { s.objOf (s.table x k v).1 with vals := (s.objOf (s.table x k v).1).vals.set ((s.table x k v).2.1 + 1) (s.inner v) }))
  else ((s.table x k v).2.2, s)

theorem setObj_self {s : R} {o : Nat} {ob : RObj} (h : s.objs[o]? = some ob) : s.setObj o ob = s := by
  obtain ⟨hlt, rfl⟩ := List.getElem?_eq_some_iff.1 h
  unfold R.setObj
  rw [List.set_getElem_self]
theorem setObj_set (s : R) (o : Nat) (a b : RObj) : (s.setObj o a).setObj o b = s.setObj o b := by
  unfold R.setObj
  simp [List.set_set]

set_option maxRecDepth 100000 in
set_option maxHeartbeats 4000000 in
theorem refPut_any {br : Nat} {s : R} {L : RL} {w : World} (x : Int) (k v : Int × Int) (h : RRep w br s L) (hi : RInv s) (hs : RSh s) (hb : RBd s) :
    Calls Tryz.prog 57 #[.pointer (some ⟨br, 0, none⟩), .int .i64 x, .agg #[.int .i64 k.1, .int .i64 k.2], .agg #[.int .i64 v.1, .int .i64 v.2]] w fun e w' => ∃ L', e = .returned (.int .i64 (s.putQ x k v).1) ∧ RRep w' br (s.putQ x k v).2 L' ∧ Stp (L.foot br) w (L'.foot br) w' := by
  have hol : s.objs.length ≤ 3298534883328 := hb.objs
  have hlt := h.lt
  have hq : s.putQ x k v = if (s.table x k v).2.2 = 0 then
    (if (s.table x k v).2.1 = (s.objOf (s.table x k v).1).vals.length then
      (if ((s.objOf (s.table x k v).1).vals.length : Int) = 2 * (s.objOf (s.table x k v).1).size then (9, s)
       else (0, s.setObj (s.table x k v).1 { s.objOf (s.table x k v).1 with vals := (s.objOf (s.table x k v).1).vals ++ [s.inner k, s.inner v] }))
     else (0, s.setObj (s.table x k v).1 { s.objOf (s.table x k v).1 with vals := (s.objOf (s.table x k v).1).vals.set ((s.table x k v).2.1 + 1) (s.inner v) }))
    else ((s.table x k v).2.2, s) := rfl
  have hc0 : Chg [] w ((w.alloc (.cells #[.int .i64 k.1, .int .i64 k.2] 33)).alloc (.cells #[.int .i64 v.1, .int .i64 v.2] 33)) := (((Chg.refl [] w).alloc _).alloc _)
  have hbk : Blk ((w.alloc (.cells #[.int .i64 k.1, .int .i64 k.2] 33)).alloc (.cells #[.int .i64 v.1, .int .i64 v.2] 33)) w.heap.size [.int .i64 k.1, .int .i64 k.2] 33 := (Blk.new w [.int .i64 k.1, .int .i64 k.2] _).alloc _
  have hbv : Blk ((w.alloc (.cells #[.int .i64 k.1, .int .i64 k.2] 33)).alloc (.cells #[.int .i64 v.1, .int .i64 v.2] 33)) (w.heap.size + 1) [.int .i64 v.1, .int .i64 v.2] 33 := by
    have := Blk.new (w.alloc (.cells #[.int .i64 k.1, .int .i64 k.2] 33)) [.int .i64 v.1, .int .i64 v.2] 33
    simpa using this
  have H := hide h; have HI := hide hi; have HB := hide hb; have HS := hide hs; have HLT := hide hlt; have HBK := hide hbk; have HBV := hide hbv; have HC0 := hide hc0; have HQ := hide hq; clear h hi hb hs hlt hbk hbv hc0 hq
  go_enter Tryz.func57, Tryz.ntmps57
  go_wp2_with fail
  refine (refTableAt_one x k v ((unhide H).chg (unhide HC0) (by simp)) (unhide HI) (unhide HS) (unhide HB)).mono ?_
  rintro e w2 ⟨rfl, hc2⟩
  have HC2 := hide ((unhide HC0).trans hc2); have HBK2 := hide ((unhide HBK).chg hc2 (by simp)); have HBV2 := hide ((unhide HBV).chg hc2 (by simp)); clear hc2 HC0 HBK HBV
  have hq := unhide HQ
  have h2 : RRep w2 br s L := (unhide H).chg (unhide HC2) (by simp)
  by_cases hok : (s.table x k v).2.2 = 0
  · obtain ⟨ho, hkd, hps, hlk, _⟩ := table_ok (unhide HI) hok
    obtain ⟨_, hkf, hvf, _⟩ := look_vals hlk
    rw [if_pos hok] at hq
    simp only [tabPtr, hok, if_true]
    generalize (s.table x k v).1 = o at *
    generalize (s.table x k v).2.1 = pos at *
    obtain ⟨ob, b, va, vc, go, e1, e2, e3, e4, e5, co, hbo, hv⟩ := h2.objAt ho
    unfold R.objOf at hq hkd hps
    rw [e2] at hq hkd hps
    have hmem := List.mem_of_getElem? e1
    have hvl := (unhide HI).valLen ob hmem
    have htab := (unhide HS).tab ob hmem hkd
    have hev := keyPos_even (s.inner k) ob.vals htab.1
    rw [← hps] at hev
    rw [show L.obs.getD o 0 = b from by simp [List.getD, e3]]
    have k1 := hbo.cell_of (i := 1) rfl
    have k2 := hbo.cell_of (i := 2) rfl
    have hsz0 : 0 ≤ ob.size := by have := (unhide HI).kinds ob hmem; omega
    have hsz8 : ob.size ≤ 8 := htab.2.2
    have E1 := hide e1; have E3 := hide e3; have E4 := hide e4; have HBO := hide hbo; have HV := hide hv; have H2 := hide h2; have HQ2 := hide hq; have HKF := hide hkf; have HVF := hide hvf; have HEV := hide hev; have HTAB := hide htab
    clear hq hok e1 e2 e3 e4 e5 hbo hv hkd hmem h2 hkf hvf hev hlk hps htab co
    go_upto_if 31 with fail
    go_cut [] (fun wx => ∃ ob1 L1 g vc1, RRep wx br (s.setObj o ob1) L1 ∧ L1.obs = L.obs ∧ L1.vas[o]? = some (some ⟨g, 0, none⟩, vc1) ∧ g ≠ w.heap.size + 1 ∧ pos + 1 < ob1.vals.length ∧ ob1.vals.length ≤ 16 ∧ s.putQ x k v = (0, s.setObj o { ob1 with vals := ob1.vals.set (pos + 1) (s.inner v) }) ∧ Stp (L.foot br) w (L1.foot br) wx ∧ Blk wx (w.heap.size + 1) [.int .i64 v.1, .int .i64 v.2] 33)
    case first =>
      have hq := unhide HQ2
      by_cases hend : pos = ob.vals.length
      · have he1 : ((pos : Int) == (ob.vals.length : Int)) = true := by simp [hend]
        rw [if_pos hend] at hq
        by_cases hfull : (ob.vals.length : Int) = 2 * ob.size
        · rw [if_pos hfull] at hq
          have he2 : ((ob.vals.length : Int) == 2 * ob.size) = true := by simp [hfull]
          have HFIN := hide hq; clear hq hend hfull
          go_wp2_with fail
          go_quiet (fail)
          go_wp2
          go_ret
          exact ⟨L, by rw [unhide HFIN]; rfl, by rw [unhide HFIN]; exact (unhide H2).drewN _, (Stp.of_chg (unhide HC2)).drewN _⟩
        · rw [if_neg hfull] at hq
          have he2 : ((ob.vals.length : Int) == 2 * ob.size) = false := by simp [hfull]
          have htab := unhide HTAB
          have hroom : ob.vals.length + 2 ≤ 16 := by omega
          have HFIN := hide hq; have HEND := hide hend; clear hq hend hfull htab
          go_wp2_with fail
          go_quiet (fail)
          have bk3 : Blk (w2.drewN nq) w.heap.size _ 33 := unhide HBK2
          have hv3 := owns_chg (unhide HV) ((Chg.refl [] w2).drewN nq) (by simp)
          have h3 := (unhide H2).drewN nq
          have HC3 := hide ((unhide HC2).drewN nq)
          have bv3 : Blk (w2.drewN nq) (w.heap.size + 1) _ 33 := unhide HBV2
          have hbo3 : Blk (w2.drewN nq) b _ 72 := unhide HBO
          generalize hw3 : w2.drewN nq = w3 at *
          have cb0 := bk3.cell_of (i := 0) rfl
          have cb1 := bk3.cell_of (i := 1) rfl
          have hcall := refInner_any k h3 (unhide HB) (unhide HKF)
          have HCL := hide hcall
          have HW3 := hide hw3; have H3 := hide h3; have BV3 := hide bv3; have BO3 := hide hbo3; have HV3 := hide hv3; clear hw3 h3 bv3 hbo3 hcall bk3 hv3 k1 k2
          go_wp2_with fail
          refine (unhide HCL).mono ?_
          rintro e w4 ⟨rfl, hc4⟩
          have hch5 : Chg [] w4 (w4.alloc (.cells #[.int .i64 (s.inner k).1, .int .i64 (s.inner k).2] 33)) := (Chg.refl [] w4).alloc _
          have bx5 : Blk (w4.alloc (.cells #[.int .i64 (s.inner k).1, .int .i64 (s.inner k).2] 33)) w4.heap.size [.int .i64 (s.inner k).1, .int .i64 (s.inner k).2] 33 := Blk.new w4 [.int .i64 (s.inner k).1, .int .i64 (s.inner k).2] _
          go_upto_region 8 with fail
          have h5 := ((unhide H3).chg hc4 (by simp)).chg hch5 (by simp)
          have bv5 := ((unhide BV3).chg hc4 (by simp)).chg hch5 (by simp)
          have bo5 := ((unhide BO3).chg hc4 (by simp)).chg hch5 (by simp)
          have hv5 := owns_chg (owns_chg (unhide HV3) hc4 (by simp)) hch5 (by simp)
          have hc5 := ((unhide HC3).trans hc4).trans hch5
          have hsz4 := hc4.size
          clear hc4 hch5 H3 BV3 BO3 HV3 HC3
          generalize hik : s.inner k = ik at *
          obtain ⟨i1, i2⟩ := ik
          simp only at bx5 h5 bv5 bo5 hv5 hc5
          have hx4 : w4.heap.size < (w4.alloc (.cells #[.int .i64 i1, .int .i64 i2] 33)).heap.size := by simp
          generalize hW5 : w4.alloc (.cells #[.int .i64 i1, .int .i64 i2] 33) = w5 at *
          have x0 := bx5.cell_of (i := 0) rfl
          have x1 := bx5.cell_of (i := 1) rfl
          have c2 := bo5.cell_of (i := 2) rfl
          have hbl := bo5.lt
          have HIK := hide hik; have HW5 := hide hW5; have H5 := hide h5; have BV5 := hide bv5; have BO5 := hide bo5; have HV5 := hide hv5; have HC5 := hide hc5; have BX5 := hide bx5
          clear hik hW5 h5 bv5 bo5 hv5 hc5 bx5
          obtain ⟨i0, hi0, hz0, hz1, hz2⟩ := info_parts infoVal
          have hblk9 : Blk (w5.alloc (.cells #[.int .i64 i1, .int .i64 i2, .int .i64 0, .int .i64 0] 33)).drew w5.heap.size (valCells [(i1, i2), (0, 0)]) 33 := Blk.new w5 (valCells [(i1, i2), (0, 0)]) 33
          have hown9 : Hid ((w5.alloc (.cells #[.int .i64 i1, .int .i64 i2, .int .i64 0, .int .i64 0] 33)).drew.ownsRow 0 33 2 (.slice va ob.vals.length vc) ob.vals.length (valCells ob.vals)) := World.ownsRow.drew (World.ownsRow.alloc (unhide HV5) _)
          have hsrc9 : Hid (0 < 2 → ∃ ad, some (⟨w5.heap.size, 0, none⟩ : Addr) = some ad ∧ ∀ j u, (valCells [(i1, i2), (0, 0)])[j]? = some u → (w5.alloc (.cells #[.int .i64 i1, .int .i64 i2, .int .i64 0, .int .i64 0] 33)).drew.cell? (ad.add j) = some u) :=
            fun _ => ⟨_, rfl, fun j u hj => by rw [addr_add, Nat.zero_add]; exact hblk9.cell_of hj⟩
          have hone9 : Hid (∀ u ∈ valCells [(i1, i2), (0, 0)], u.oneCell' = true) := by intro u hu; simp [valCells] at hu; rcases hu with rfl | rfl | rfl <;> rfl
          have hmx : Hid (ob.vals.length + 2 ≤ maxLen ∧ (ob.vals.length + 2) * 16 ≤ 140737488355328) := ⟨by unfold maxLen; omega, by omega⟩
          have hbrn : Hid (∀ w9, (w5.alloc (.cells #[.int .i64 i1, .int .i64 i2, .int .i64 0, .int .i64 0] 33)).drew.grownBy w9 (Value.slice va ob.vals.length vc).ownBlock → Blk w9 b (objCells ob (.slice va ob.vals.length vc)) 72) := by
            intro w9 hg9
            exact (unhide BO5).chg_ty (grown_ab (S := []) ((Chg.refl [] w5).alloc _).drew hg9) (fun x hx => (owns_ty (unhide HV5) x hx).ne (by decide))
          clear hblk9
          go_region_law ((refine step_append_gen _ (by rfl) (.tmp 50) (.tmp 53) 70 (by rfl) 33 i0 (.agg #[.int .i64 0, .int .i64 0]) 2 16 Tryz.underlying70 hi0 hz0 hz1 hz2 (by rfl) (by decide) (.slice va ob.vals.length vc) ob.vals.length (valCells ob.vals) (by rfl) (unhide hown9) (some ⟨w5.heap.size, 0, none⟩) 2 2 (valCells [(i1, i2), (0, 0)]) (by rfl) (by rfl) (unhide hsrc9) (unhide hone9) (unhide hmx).1 (unhide hmx).2 ?_; intro va9 cap9 w9 ho9 hg9 hnil9 hat9; have c9 := (unhide hbrn w9 hg9).cell_of (i := 2) rfl; have f9 := (unhide hbrn w9 hg9).frozen 2; have HO9 := hide ho9; have HG9 := hide hg9; have HAT9 := hide hat9; clear ho9 hg9 hat9 hnil9))
          all_goals
            go_wp2_with fail
            go_meet
            have hk0 : Chg [] w5 (w5.alloc (.cells #[.int .i64 i1, .int .i64 i2, .int .i64 0, .int .i64 0] 33)).drew := ((Chg.refl [] w5).alloc _).drew
            have hpr := (unhide H5).pushVals (unhide E1) (unhide E3) (unhide E4) [(i1, i2), (0, 0)] hk0 (unhide HO9) (unhide HG9) (H := (w5.alloc (.cells #[.int .i64 i1, .int .i64 i2, .int .i64 0, .int .i64 0] 33)).drew.heap.size) (by show w5.heap.size ≤ (w5.heap.push _).size; simp) (unhide HAT9)
            have hlen : ob.vals.length + 2 = (ob.vals ++ [(i1, i2), (0, 0)]).length := by simp
            obtain ⟨g, hg, _, _⟩ := owns_at (unhide HO9) (by omega)
            have hvL : ∀ x ∈ ab va, x < w.heap.size := fun x hx => unhide HLT x (foot_vas (List.mem_of_getElem? (unhide E4)) hx)
            have hbL : b < w.heap.size := unhide HLT b (foot_obs (List.mem_of_getElem? (unhide E3)))
            have hvo : o < L.vas.length := (List.getElem?_eq_some_iff.1 (unhide E4)).1
            refine ⟨{ ob with vals := ob.vals ++ [(i1, i2), (0, 0)] }, _, g, cap9, hpr.1, rfl, ?_, fun e => ?_, ?_, ?_, ?_, (Stp.of_chg (unhide HC5)).trans hpr.2, ?_⟩
            · simp [hvo, hg]
            · have h5l := (unhide BV5).lt
              rcases at_ab (w := w5) (by show w5.heap.size ≤ (w5.heap.push _).size; simp) (unhide HAT9) g (by rw [hg]; simp [ab]) with h8 | h8
              · have := hvL g h8; omega
              · omega
            · have := unhide HEND; simp; omega
            · simp; omega
            · have hf := unhide HFIN
              have hd := unhide HEND
              have hik := unhide HIK
              rw [hf]
              congr 3
              rw [hd, List.set_append_right _ _ (by omega)]
              simp
            · have k9 := grown_ab (S := []) hk0 (unhide HG9)
              exact ((unhide BV5).chg k9 (fun hm => by have := hvL _ (by simpa using hm); omega)).setCell_other (by simp; omega) _
      · have he1 : ((pos : Int) == (ob.vals.length : Int)) = false := by simp; omega
        rw [if_neg hend] at hq
        have HFIN := hide hq; have HEND := hide hend; clear hq hend
        go_wp2
        go_meet
        have hev := unhide HEV
        have hd := unhide HEND
        have htab := unhide HTAB
        obtain ⟨g, hg, hgl, _⟩ := owns_at (unhide HV) (by omega)
        refine ⟨ob, L, g, vc, by rw [setObj_self (unhide E1)]; exact unhide H2, rfl, by rw [unhide E4, hg], fun e => ?_, by omega, hvl, unhide HFIN, Stp.of_chg (unhide HC2), unhide HBV2⟩
        have := unhide HLT g (foot_vas (List.mem_of_getElem? (unhide E4)) (by rw [hg]; simp [ab]))
        omega
    case rest =>
      obtain ⟨ob1, L1, g, vc1, h1, o1, v1, hgv, hp1, hl1, hfin, st1, bv1⟩ := hcut
      have h2 : RRep wc.drew br (s.setObj o ob1) L1 := h1.chg ((Chg.refl [] wc).drew) (by simp)
      have holt : o < s.objs.length := (List.getElem?_eq_some_iff.1 (unhide E1)).1
      have oe1 : (s.setObj o ob1).objs[o]? = some ob1 := by simp [R.setObj, holt]
      have oe2 : L1.obs[o]? = some b := by rw [o1]; exact unhide E3
      obtain ⟨hbo, hv⟩ := h2.obj o ob1 b _ oe1 oe2 v1
      have k2 := hbo.cell_of (i := 2) rfl
      have cb0 := bv1.drew.cell_of (i := 0) rfl
      have cb1 := bv1.drew.cell_of (i := 1) rfl
      have hcall := refInner_any (s := s.setObj o ob1) v h2 (by have := unhide HB; exact ⟨by simpa [R.setObj] using this.objs, this.handles, this.made⟩) (unhide HVF)
      rw [show (s.setObj o ob1).inner v = s.inner v from rfl] at hcall
      have hgL : g ∈ L1.foot br := foot_vas (List.mem_of_getElem? v1) (by simp [ab])
      have hend : Hid (∀ w3, Chg [] wc.drew w3 → ∀ v' : Int × Int, RRep ((w3.setCell ⟨g, (pos + 1) * 2, none⟩ (.int .i64 v'.1)).setCell ⟨g, (pos + 1) * 2 + 1, none⟩ (.int .i64 v'.2)) br (s.setObj o { ob1 with vals := ob1.vals.set (pos + 1) v' }) L1 ∧ Stp (L.foot br) w (L1.foot br) ((w3.setCell ⟨g, (pos + 1) * 2, none⟩ (.int .i64 v'.1)).setCell ⟨g, (pos + 1) * 2 + 1, none⟩ (.int .i64 v'.2))) := by
        intro w3 c3 v'
        have h3 : RRep w3 br (s.setObj o ob1) L1 := h2.chg c3 (by simp)
        obtain ⟨r1, r2⟩ := h3.setVal oe1 oe2 v1 hp1 v'
        rw [setObj_set] at r1
        exact ⟨r1, (st1.trans (Stp.of_chg (((Chg.refl [] wc).drew).trans c3))).trans r2⟩
      have hvals : Hid (∀ w3, Chg [] wc.drew w3 → ∃ u0 u1, w3.cell? ⟨g, (pos + 1) * 2, none⟩ = some u0 ∧ w3.cell? ⟨g, (pos + 1) * 2 + 1, none⟩ = some u1 ∧ w3.frozen? ⟨g, (pos + 1) * 2, none⟩ = false ∧ w3.frozen? ⟨g, (pos + 1) * 2 + 1, none⟩ = false) := by
        intro w3 c3
        have h3 := owns_chg hv c3 (by simp)
        obtain ⟨rest, hblk, _⟩ := owns_blk h3
        have cv := valCells_at _ _ _ (List.getElem?_eq_getElem hp1)
        obtain ⟨g', hg', _, hcc'⟩ := owns_at h3 (by omega)
        simp only [Option.some.injEq, Addr.mk.injEq] at hg'
        obtain ⟨rfl, _⟩ := hg'
        exact ⟨_, _, hcc' _ _ cv.1, hcc' _ _ cv.2, hblk.frozen _, hblk.frozen _⟩
      have hkp : Hid (∀ w3, Chg [] wc.drew w3 → Hid ((w3.cell? ⟨b, 2, none⟩ = some (.slice (some ⟨g, 0, none⟩) ob1.vals.length vc1) ∧ w3.cell? ⟨w.heap.size + 1, 0, none⟩ = some (.int .i64 v.1) ∧ w3.cell? ⟨w.heap.size + 1, 1, none⟩ = some (.int .i64 v.2)) ∧
          ∀ (p q : Nat) (u u' : Value), let w4 := (w3.setCell ⟨g, p, none⟩ u).setCell ⟨g, q, none⟩ u'; (w4.cell? ⟨b, 2, none⟩ = some (.slice (some ⟨g, 0, none⟩) ob1.vals.length vc1) ∧ w4.cell? ⟨w.heap.size + 1, 0, none⟩ = some (.int .i64 v.1) ∧ w4.cell? ⟨w.heap.size + 1, 1, none⟩ = some (.int .i64 v.2)))) := by
        intro w3 c3
        have hgT : Ty wc.drew g 33 := owns_ty hv g (by simp [ab])
        have n3 : b ≠ g := fun e => (e ▸ hbo.ty : Ty wc.drew g 72).ne (by decide) hgT
        have d3 : w3.cell? ⟨b, 2, none⟩ = some (.slice (some ⟨g, 0, none⟩) ob1.vals.length vc1) := cell_chg0 c3 k2
        have d4 : w3.cell? ⟨w.heap.size + 1, 0, none⟩ = some (.int .i64 v.1) := cell_chg0 c3 cb0
        have d5 : w3.cell? ⟨w.heap.size + 1, 1, none⟩ = some (.int .i64 v.2) := cell_chg0 c3 cb1
        refine ⟨⟨d3, d4, d5⟩, fun p q u u' => ?_⟩
        have kk : Chg [g] w3 ((w3.setCell ⟨g, p, none⟩ u).setCell ⟨g, q, none⟩ u') := ((Chg.refl _ w3).setCell (.inl (by simp)) _).setCell (.inl (by simp)) _
        have mv : ∀ {a : Addr} {z : Value}, a.block ≠ g → w3.cell? a = some z → ((w3.setCell ⟨g, p, none⟩ u).setCell ⟨g, q, none⟩ u').cell? a = some z := fun hne hz => by rw [kk.cell (cell_lt hz) (by simpa using hne)]; exact hz
        exact ⟨mv n3 d3, mv (Ne.symm hgv) d4, mv (Ne.symm hgv) d5⟩
      have hbg : b ≠ g := fun e => (e ▸ hbo.ty : Ty wc.drew g 72).ne (by decide) (owns_ty hv g (by simp [ab]))
      have hgb : g ≠ b := Ne.symm hbg
      have hvg := Ne.symm hgv
      have HCL := hide hcall; have HFIN := hide hfin
      have hjj : (pos : Int) + 1 < (ob1.vals.length : Int) := by omega
      have hwr : IntKind.i64.wrap ((pos : Int) + 1) = (pos : Int) + 1 := by rw [IntKind.wrap_i64]; omega
      have hj0 : 0 ≤ (pos : Int) + 1 := by omega
      have hjn : ((pos : Int) + 1).toNat = pos + 1 := by omega
      clear hfin hcall h1 h2 o1 v1 st1 bv1 oe1 oe2 hbo hv hgL k1 HQ2 HQ
      go_wp2_with fail
      go_region_held3 (fun w' => w'.cell? ⟨b, 2, none⟩ = some (.slice (some ⟨g, 0, none⟩) ob1.vals.length vc1) ∧ w'.cell? ⟨w.heap.size + 1, 0, none⟩ = some (.int .i64 v.1) ∧ w'.cell? ⟨w.heap.size + 1, 1, none⟩ = some (.int .i64 v.2)) (first | (go_keep; done) | assumption) ((go_at_call 100; refine (unhide HCL).mono ?_; rintro e w3 ⟨rfl, hc3⟩; obtain ⟨u0, u1, cu0, cu1, fu0, fu1⟩ := unhide hvals w3 hc3; have hkeep := unhide hkp w3 hc3; have hk3 := (unhide hkeep).1; have HC3 := hide hc3; clear hc3))
      go_wp2
      go_ret
      exact ⟨L1, by rw [unhide HFIN]; rfl, by rw [unhide HFIN]; exact (unhide hend w3 (unhide HC3) (s.inner v)).1, (unhide hend w3 (unhide HC3) (s.inner v)).2⟩
  · rw [if_neg hok] at hq
    simp only [tabPtr, hok, if_false]
    generalize (s.table x k v).1 = o at *
    generalize (s.table x k v).2.1 = pos at *
    generalize (s.table x k v).2.2 = er at *
    have hne : (er != 0) = true := by simp [hok]
    have HFIN := hide hq; have H2 := hide h2; clear hq hok h2
    go_wp2
    go_ret
    exact ⟨L, by rw [unhide HFIN]; rfl, by rw [unhide HFIN]; exact unhide H2, Stp.of_chg (unhide HC2)⟩
end Go.Proofs.YtfoncalkgmeklaaGreat

/- Cut of the document's heap: P8. -/
namespace Go.Proofs.YtfoncalkgmeklaaGreat
open Go.RowKit

def R.cutQ (s : R) (x : Int) (k : Int × Int) : Int × R :=
  if (s.table x k (0, 0)).2.2 = 0 then
    (if (s.table x k (0, 0)).2.1 = (s.objOf (s.table x k (0, 0)).1).vals.length then (8, s)
     else (0, s.setObj (s.table x k (0, 0)).1 { s.objOf (s.table x k (0, 0)).1 with vals := (s.objOf (s.table x k (0, 0)).1).vals.take (s.table x k (0, 0)).2.1 ++ (s.objOf (s.table x k (0, 0)).1).vals.drop ((s.table x k (0, 0)).2.1 + 2) }))
  else ((s.table x k (0, 0)).2.2, s)

theorem valCells_take : ∀ (l : List (Int × Int)) (j : Nat), valCells (l.take j) = (valCells l).take (j * 2)
  | [], j => by simp [valCells]
  | x :: r, 0 => by simp [valCells]
  | x :: r, j + 1 => by
    have ih := valCells_take r j
    have e0 : (j + 1) * 2 = j * 2 + 1 + 1 := by omega
    rw [e0]
    simp only [List.take_succ_cons, valCells, ih]
theorem valCells_drop : ∀ (l : List (Int × Int)) (j : Nat), valCells (l.drop j) = (valCells l).drop (j * 2)
  | [], j => by simp [valCells]
  | x :: r, 0 => by simp [valCells]
  | x :: r, j + 1 => by
    have ih := valCells_drop r j
    have e0 : (j + 1) * 2 = j * 2 + 1 + 1 := by omega
    rw [e0]
    simp only [List.drop_succ_cons, valCells, ih]
theorem valCells_one (l : List (Int × Int)) : ∀ u ∈ valCells l, u.oneCell' = true := by
  induction l with
  | nil => intro u hu; simp [valCells] at hu
  | cons x r ih =>
    intro u hu
    simp only [valCells, List.mem_cons] at hu
    rcases hu with rfl | rfl | hu
    · rfl
    · rfl
    · exact ih u hu

set_option maxRecDepth 100000 in
set_option maxHeartbeats 2000000 in
theorem refCut_any {br : Nat} {s : R} {L : RL} {w : World} (x : Int) (k : Int × Int) (h : RRep w br s L) (hi : RInv s) (hs : RSh s) (hb : RBd s) :
    Calls Tryz.prog 59 #[.pointer (some ⟨br, 0, none⟩), .int .i64 x, .agg #[.int .i64 k.1, .int .i64 k.2]] w fun e w' => ∃ L', e = .returned (.int .i64 (s.cutQ x k).1) ∧ RRep w' br (s.cutQ x k).2 L' ∧ Stp (L.foot br) w (L'.foot br) w' := by
  have hol : s.objs.length ≤ 3298534883328 := hb.objs
  have hlt := h.lt
  have hq : s.cutQ x k = if (s.table x k (0, 0)).2.2 = 0 then
    (if (s.table x k (0, 0)).2.1 = (s.objOf (s.table x k (0, 0)).1).vals.length then (8, s)
     else (0, s.setObj (s.table x k (0, 0)).1 { s.objOf (s.table x k (0, 0)).1 with vals := (s.objOf (s.table x k (0, 0)).1).vals.take (s.table x k (0, 0)).2.1 ++ (s.objOf (s.table x k (0, 0)).1).vals.drop ((s.table x k (0, 0)).2.1 + 2) }))
    else ((s.table x k (0, 0)).2.2, s) := rfl
  have hc0 : Chg [] w (w.alloc (.cells #[.int .i64 k.1, .int .i64 k.2] 33)).drew := ((Chg.refl [] w).alloc _).drew
  have H := hide h; have HI := hide hi; have HB := hide hb; have HS := hide hs; have HLT := hide hlt; have HC0 := hide hc0; have HQ := hide hq; clear h hi hb hs hlt hc0 hq
  go_enter Tryz.func59, Tryz.ntmps59
  go_upto_region 1 with fail
  go_cut [7, 8, 9] (fun a' b' c' wx => a' = tabPtr L (s.table x k (0, 0)).1 (s.table x k (0, 0)).2.2 ∧ b' = .int .i64 (s.table x k (0, 0)).2.1 ∧ c' = .int .i64 (s.table x k (0, 0)).2.2 ∧ Chg [] w wx)
  case first =>
    go_region_held3 (fun w' => w'.cell? ⟨w.heap.size, 0, none⟩ = some (.int .i64 k.1) ∧ w'.cell? ⟨w.heap.size, 1, none⟩ = some (.int .i64 k.2)) (first | go_keep | assumption) ((first
      | (go_at_call 84; refine (refNone_any _).mono ?_; rintro e w1 ⟨rfl, hc1⟩; have HC1 := hide ((unhide HC0).trans hc1); have hk1 : w1.cell? ⟨w.heap.size, 0, none⟩ = some (.int .i64 k.1) ∧ w1.cell? ⟨w.heap.size, 1, none⟩ = some (.int .i64 k.2) := ⟨cell_chg0 hc1 (by go_keep), cell_chg0 hc1 (by go_keep)⟩; clear hc1)
      | (go_at_call 95; refine (refTableAt_one x k (0, 0) ((unhide H).chg (unhide HC1) (by simp)) (unhide HI) (unhide HS) (unhide HB)).mono ?_; rintro e w2 ⟨rfl, hc2⟩; have HC2 := hide ((unhide HC1).trans hc2); have hk2 : w2.cell? ⟨w.heap.size, 0, none⟩ = some (.int .i64 k.1) ∧ w2.cell? ⟨w.heap.size, 1, none⟩ = some (.int .i64 k.2) := ⟨cell_chg0 hc2 hk1.1, cell_chg0 hc2 hk1.2⟩; clear hc2)))
    all_goals go_wp2_with fail
    all_goals go_meet
    all_goals exact ⟨rfl, rfl, rfl, unhide HC2⟩
  case rest =>
    obtain ⟨rfl, rfl, rfl, hcc⟩ := hcut
    have h2 : RRep wc br s L := (unhide H).chg hcc (by simp)
    have hq := unhide HQ
    have HCC := hide hcc; clear hcc
    by_cases hok : (s.table x k (0, 0)).2.2 = 0
    · obtain ⟨ho, hkd, hps, _⟩ := table_ok (unhide HI) hok
      rw [if_pos hok] at hq
      simp only [tabPtr, hok, if_true]
      generalize (s.table x k (0, 0)).1 = o at *
      generalize (s.table x k (0, 0)).2.1 = pos at *
      obtain ⟨ob, b, va, vc, go, e1, e2, e3, e4, e5, co, hbo, hv⟩ := h2.objAt ho
      unfold R.objOf at hq hkd hps
      rw [e2] at hq hkd hps
      have hmem := List.mem_of_getElem? e1
      have hvl := (unhide HI).valLen ob hmem
      have hev2 := ((unhide HS).tab ob hmem hkd).1
      have hev := keyPos_even (s.inner k) ob.vals hev2
      rw [← hps] at hev
      rw [show L.obs.getD o 0 = b from by simp [List.getD, e3]]
      have k2 := hbo.cell_of (i := 2) rfl
      by_cases hend : pos = ob.vals.length
      · rw [if_pos hend] at hq
        have he1 : ((pos : Int) == (ob.vals.length : Int)) = true := by simp [hend]
        have HFIN := hide hq; have H2 := hide h2; clear hq hok e1 e2 e3 e4 e5 hbo hv hkd hmem hend hps hev hev2 h2
        go_wp2
        go_ret
        exact ⟨by rw [unhide HFIN]; rfl, L, by rw [unhide HFIN]; exact unhide H2, Stp.of_chg (unhide HCC)⟩
      · rw [if_neg hend] at hq
        have he1 : ((pos : Int) == (ob.vals.length : Int)) = false := by simp; omega
        have hj : pos + 2 ≤ ob.vals.length := by omega
        obtain ⟨g, hg, hgl, hc⟩ := owns_at hv (by omega)
        subst hg
        obtain ⟨rest, hblk, hn1, hn2, hn3, _⟩ := owns_blk hv
        obtain ⟨i0, hi0, hz0, hz1, hz2⟩ := info_parts infoVal
        have hbg : b ≠ g := fun e => (e ▸ hbo.ty : Ty wc g 72).ne (by decide) (owns_ty hv g (by simp [ab]))
        have hbl := hbo.lt
        have E1 := hide e1; have E3 := hide e3; have E4 := hide e4; have HBO := hide hbo; have HV := hide hv; have H2 := hide h2; have HFIN := hide hq; have HC := hide hc; have HN2 := hide hn2
        clear hq hok e1 e2 e3 e4 e5 hbo hv hkd hmem h2 hev hps co hend hblk hc hn3 hn2 hev2
        go_wp2_with (at_builtin; go_must (refine wpList_append_gen _ rfl (.tmp 30) (.tmp 36) 70 rfl 33 i0 (.agg #[.int .i64 0, .int .i64 0]) 2 16 Tryz.underlying70 hi0 hz0 hz1 hz2 rfl (by decide) (.slice none 0 0) 0 [] rfl ?c0 (some ⟨g, 0, none⟩) pos vc (valCells (ob.vals.take pos)) rfl ?c5 ?c1 ?c4 ?c2 ?c3 ?_))
        case c0 => exact World.ownsRow_nil _ _ _ _
        case c5 => rw [length_valCells, List.length_take]; omega
        case c1 =>
          intro _ j u hju
          have hc := unhide HC
          rw [valCells_take, List.getElem?_take] at hju
          split at hju
          · exact hc j u hju
          · cases hju
        case c4 => exact valCells_one _
        case c2 => unfold maxLen; omega
        case c3 => omega
        intro va1 cap1 w1 ho1 hg1 hnil1 hat1
        have k1 : Chg [] wc w1 := by have := grown_chg hg1; simpa [Value.ownBlock] using this
        have bo1 := (unhide HBO).chg k1 (by simp)
        have hv1 := owns_chg (unhide HV) k1 (by simp)
        have h1 := (unhide H2).chg k1 (by simp)
        have c2 := bo1.cell_of (i := 2) rfl
        obtain ⟨g1, hg1', _, hc1⟩ := owns_at hv1 (by omega)
        simp only [Option.some.injEq, Addr.mk.injEq] at hg1'
        obtain ⟨rfl, _⟩ := hg1'
        have HC1 := hide hc1; have HO1 := hide ho1; have HAT1 := hide hat1; have BO1 := hide bo1; have HV1 := hide hv1; have H1 := hide h1; have K1 := hide k1
        clear ho1 hg1 hnil1 hat1 bo1 hv1 h1 k1 hc1 k2
        go_wp2_with (at_builtin; go_must (refine wpList_append_gen _ rfl (.tmp 38) (.tmp 45) 70 rfl 33 i0 (.agg #[.int .i64 0, .int .i64 0]) 2 16 Tryz.underlying70 hi0 hz0 hz1 hz2 rfl (by decide) (.slice va1 pos cap1) pos (valCells (ob.vals.take pos)) rfl ?c0 _ (ob.vals.length - (pos + 2)) (vc - (pos + 2)) (valCells (ob.vals.drop (pos + 2))) rfl ?c5 ?c1 ?c4 ?c2 ?c3 ?_))
        case c0 => exact unhide HO1
        case c5 => rw [length_valCells, List.length_drop]
        case c1.inl => intro h0; omega
        case c1.inr =>
          intro _ j u hju
          have hc := unhide HC1
          rw [valCells_drop, List.getElem?_drop] at hju
          exact hc _ u hju
        case c4 => exact valCells_one _
        case c2 => unfold maxLen; omega
        case c3 => omega
        all_goals
          intro va2 cap2 w2 ho2 hg2 hnil2 hat2
          have hn1 : ∀ y ∈ ab va1, wc.heap.size ≤ y := by
            intro y hy
            rcases at_ab (w := wc) (Nat.le_refl _) (unhide HAT1) y hy with h8 | h8
            · simp [ab] at h8
            · exact h8
          have k2 : Chg [] wc w2 := (unhide K1).trans_new (grown_ab (S := []) (Chg.refl [] w1) hg2) (fun y hy => .inr (hn1 y (by simpa using hy)))
          have bo2 := (unhide HBO).chg k2 (by simp)
          have c2' := bo2.cell_of (i := 2) rfl
          have f2' := bo2.frozen 2
          have hn2 : ∀ y ∈ ab va2, wc.heap.size ≤ y := by
            intro y hy
            rcases at_ab (w := w1) (Nat.le_refl _) hat2 y hy with h8 | h8
            · exact hn1 y h8
            · exact Nat.le_trans (unhide K1).size h8
          have hlen : pos + (ob.vals.length - (pos + 2)) = (ob.vals.take pos ++ ob.vals.drop (pos + 2)).length := by simp; omega
          rw [← valCells_append] at ho2
          have hend : RRep (w2.setCell ⟨b, 2, none⟩ (.slice va2 (pos + (ob.vals.length - (pos + 2))) cap2)) br (s.setObj o { ob with vals := ob.vals.take pos ++ ob.vals.drop (pos + 2) }) { L with vas := L.vas.set o (va2, cap2) } ∧ Stp (L.foot br) wc (({ L with vas := L.vas.set o (va2, cap2) } : RL).foot br) (w2.setCell ⟨b, 2, none⟩ (.slice va2 (pos + (ob.vals.length - (pos + 2))) cap2)) := by
            refine (unhide H2).setObj (unhide E1) (unhide E3) (unhide E4) ((k2.mono (by simp)).setCell (.inl (by simp)) _) ?_ ?_ (fun y hy => .inr (hn2 y hy))
            · have := bo2.setCell 2 (.slice va2 (pos + (ob.vals.length - (pos + 2))) cap2)
              rw [hlen] at this ⊢
              exact this
            · rw [hlen] at ho2 ⊢
              exact ownsRow_setCell_other' ho2 (p := ⟨b, 2, none⟩) (fun y hy e => by
                have h8 := hn2 y (ownBlock_ab hy)
                simp at e
                omega) _
          have HEND := hide hend
          clear hend ho2 hg2 hnil2 hat2 hn1 hn2 bo2 k2 hlen c2
          go_wp2
          go_ret
          exact ⟨_, by rw [unhide HFIN]; rfl, by rw [unhide HFIN]; exact (unhide HEND).1, (Stp.of_chg (unhide HCC)).trans (unhide HEND).2⟩
    · rw [if_neg hok] at hq
      simp only [tabPtr, hok, if_false]
      generalize (s.table x k (0, 0)).1 = o at *
      generalize (s.table x k (0, 0)).2.1 = pos at *
      generalize (s.table x k (0, 0)).2.2 = er at *
      have hne : (er != 0) = true := by simp [hok]
      have HFIN := hide hq; have H2 := hide h2; clear hq hok h2
      go_wp2
      go_ret
      exact ⟨by rw [unhide HFIN]; rfl, L, by rw [unhide HFIN]; exact unhide H2, Stp.of_chg (unhide HCC)⟩
end Go.Proofs.YtfoncalkgmeklaaGreat

/- Open, Escape, Keep, Collect, Release of the document's heap: P10 to P12. -/
namespace Go.Proofs.YtfoncalkgmeklaaGreat
open Go.RowKit

def R.openQ (s : R) : Int × Int × R := if s.dead then (0, 2, s) else if s.scopes = 16 then (0, 10, s) else (s.scopes + 1, 0, { s with scopes := s.scopes + 1 })
def R.escapeQ (s : R) (x : Int) : Int × Int × R := if (s.look1 x).2 = 0 then (if s.scopes = 0 then (0, 10, s) else s.handle (s.look1 x).1 (s.scopes - 1)) else (0, (s.look1 x).2, s)
def R.keepQ (s : R) (x : Int) : Int × Int × R := if (s.look1 x).2 = 0 then s.handle (s.look1 x).1 (-1) else (0, (s.look1 x).2, s)
def R.collectQ (s : R) : Int × R := if s.dead then (2, s) else (0, { s with row := s.reach })
def RHan.off (h : RHan) : RHan := { h with live := false }
def R.releaseQ (s : R) (x : Int) : Int × R :=
  if (s.look1 x).2 = 0 then (if (s.handles.getD (posOf (s.find? x)).toNat rhan0).scope = -1 then (0, { s with handles := s.handles.set (posOf (s.find? x)).toNat (s.handles.getD (posOf (s.find? x)).toNat rhan0).off }) else (10, s)) else ((s.look1 x).2, s)

set_option maxRecDepth 100000 in
set_option maxHeartbeats 1000000 in
theorem refOpen_any {br : Nat} {s : R} {L : RL} {w : World} (h : RRep w br s L) (hi : RInv s) :
    Calls Tryz.prog 61 #[.pointer (some ⟨br, 0, none⟩)] w fun e w' => ∃ L', e = .returned (.tuple #[.int .i64 s.openQ.1, .int .i64 s.openQ.2.1]) ∧ RRep w' br s.openQ.2.2 L' ∧ Stp (L.foot br) w (L'.foot br) w' := by
  have c3 := h.ref.cell_of (i := 3) rfl
  have c7 := h.ref.cell_of (i := 7) rfl
  have f7 := h.ref.frozen 7
  have hsc := hi.scopes
  have hs0 : 0 ≤ s.scopes := hsc.1
  have hs1 : s.scopes ≤ 16 := hsc.2
  clear hsc
  have H := hide h; clear h hi
  cases hd : s.dead with
  | true =>
    have hfin : s.openQ = (0, 2, s) := by simp [R.openQ, hd]
    rw [hd] at c3
    have HFIN := hide hfin; clear hfin hd
    go_enter Tryz.func61, Tryz.ntmps61
    go_wp2
    go_ret2
    exact ⟨L, by rw [unhide HFIN]; rfl, by rw [unhide HFIN]; exact unhide H, Stp.refl _ _⟩
  | false =>
    rw [hd] at c3
    by_cases h16 : s.scopes = 16
    · have hfin : s.openQ = (0, 10, s) := by simp [R.openQ, hd, h16]
      have hb : (s.scopes == 16) = true := by simp [h16]
      have HFIN := hide hfin; clear hfin hd h16
      go_enter Tryz.func61, Tryz.ntmps61
      go_wp2
      go_ret2
      exact ⟨L, by rw [unhide HFIN]; rfl, by rw [unhide HFIN]; exact unhide H, Stp.refl _ _⟩
    · have hfin : s.openQ = (s.scopes + 1, 0, { s with scopes := s.scopes + 1 }) := by simp [R.openQ, hd, h16]
      have hb : (s.scopes == 16) = false := by simp [h16]
      have hu := (unhide H).store (s' := { s with scopes := s.scopes + 1 }) 7 (.int .i64 (s.scopes + 1)) rfl rfl rfl rfl (by simp [refCells])
      have HU := hide hu; have HFIN := hide hfin; clear hfin hd h16 hu
      go_enter Tryz.func61, Tryz.ntmps61
      go_wp2
      go_ret2
      exact ⟨L, by rw [unhide HFIN]; rfl, by rw [unhide HFIN]; exact (unhide HU).1, (unhide HU).2⟩

set_option maxRecDepth 100000 in
set_option maxHeartbeats 1000000 in
theorem refCollect_any {br : Nat} {s : R} {L : RL} {w : World} (h : RRep w br s L) (hi : RInv s) (hb : RBd s) :
    Calls Tryz.prog 71 #[.pointer (some ⟨br, 0, none⟩)] w fun e w' => ∃ L', e = .returned (.int .i64 s.collectQ.1) ∧ RRep w' br s.collectQ.2 L' ∧ Stp (L.foot br) w (L'.foot br) w' := by
  have c3 := h.ref.cell_of (i := 3) rfl
  have H := hide h; have HI := hide hi; have HB := hide hb; clear h hi hb
  cases hd : s.dead with
  | true =>
    have hfin : s.collectQ = (2, s) := by simp [R.collectQ, hd]
    rw [hd] at c3
    have HFIN := hide hfin; clear hfin hd
    go_enter Tryz.func71, Tryz.ntmps71
    go_wp2
    go_ret
    exact ⟨L, by rw [unhide HFIN]; rfl, by rw [unhide HFIN]; exact unhide H, Stp.refl _ _⟩
  | false =>
    have hfin : s.collectQ = (0, { s with row := s.reach }) := by simp [R.collectQ, hd]
    rw [hd] at c3
    have HFIN := hide hfin; clear hfin hd
    go_enter Tryz.func71, Tryz.ntmps71
    go_wp2_with fail
    refine (refReach_any (unhide H) (unhide HI) (unhide HB)).mono ?_
    rintro e w4 ⟨a4, n4, c4, rfl, ho4⟩
    have hu4 := (unhide H).setRow ho4
    have c5 := ((unhide H).ref.chg ho4.chg (by simp)).cell_of (i := 5) rfl
    have f5 := ((unhide H).ref.chg ho4.chg (by simp)).frozen 5
    have HU4 := hide hu4; clear hu4 ho4
    go_wp2
    go_ret
    exact ⟨_, by rw [unhide HFIN]; rfl, by rw [unhide HFIN]; exact (unhide HU4).1, (unhide HU4).2⟩

set_option maxRecDepth 100000 in
set_option maxHeartbeats 1000000 in
theorem refKeep_any {br : Nat} {s : R} {L : RL} {w : World} (x : Int) (h : RRep w br s L) (hi : RInv s) (hb : RBd s) :
    Calls Tryz.prog 67 #[.pointer (some ⟨br, 0, none⟩), .int .i64 x] w fun e w' => ∃ L', e = .returned (.tuple #[.int .i64 (s.keepQ x).1, .int .i64 (s.keepQ x).2.1]) ∧ RRep w' br (s.keepQ x).2.2 L' ∧ Stp (L.foot br) w (L'.foot br) w' := by
  have hol : s.objs.length ≤ 3298534883328 := hb.objs
  have H := hide h; have HI := hide hi; have HB := hide hb; clear h hi hb
  go_enter Tryz.func67, Tryz.ntmps67
  go_wp2_with fail
  refine (refNone_any _).mono ?_
  rintro e w1 ⟨rfl, hc1⟩
  have HC1 := hide hc1; clear hc1
  go_wp2_with fail
  refine (refNone_any _).mono ?_
  rintro e w2 ⟨rfl, hc2⟩
  have HC2 := hide ((unhide HC1).trans hc2); clear hc2 HC1
  go_wp2_with fail
  refine (refLook_any x (0, 0) (0, 0) false ((unhide H).chg (unhide HC2) (by simp)) (unhide HB)).mono ?_
  rintro e w3 ⟨rfl, hc3⟩
  have HC3 := hide ((unhide HC2).trans hc3); clear hc3 HC2
  have H3 : Hid (RRep w3 br s L) := (unhide H).chg (unhide HC3) (by simp)
  by_cases hok : (s.look x (0, 0) (0, 0) false).2 = 0
  · have hfin : s.keepQ x = s.handle (s.look x (0, 0) (0, 0) false).1 (-1) := by simp [R.keepQ, R.look1, hok]
    rw [hok]
    generalize (s.look x (0, 0) (0, 0) false).1 = i at *
    have HFIN := hide hfin; clear hfin hok
    go_wp2_with fail
    refine (refHandle_any i (-1) (unhide H3) (unhide HI) (unhide HB)).mono ?_
    rintro e w4 ⟨L4, rfl, h4, st4⟩
    have H4 := hide h4; have ST4 := hide st4; clear h4 st4
    go_wp2
    go_ret2
    exact ⟨L4, by rw [unhide HFIN]; rfl, by rw [unhide HFIN]; exact unhide H4, (Stp.of_chg (unhide HC3)).trans (unhide ST4)⟩
  · have hfin : s.keepQ x = (0, (s.look x (0, 0) (0, 0) false).2, s) := by simp [R.keepQ, R.look1, hok]
    generalize (s.look x (0, 0) (0, 0) false).1 = i at *
    generalize (s.look x (0, 0) (0, 0) false).2 = er at *
    have hne : (er != 0) = true := by simp [hok]
    have HFIN := hide hfin; clear hfin hok
    go_wp2
    go_ret2
    exact ⟨L, by rw [unhide HFIN]; rfl, by rw [unhide HFIN]; exact unhide H3, Stp.of_chg (unhide HC3)⟩

set_option maxRecDepth 100000 in
set_option maxHeartbeats 1000000 in
theorem refEscape_any {br : Nat} {s : R} {L : RL} {w : World} (x : Int) (h : RRep w br s L) (hi : RInv s) (hb : RBd s) :
    Calls Tryz.prog 65 #[.pointer (some ⟨br, 0, none⟩), .int .i64 x] w fun e w' => ∃ L', e = .returned (.tuple #[.int .i64 (s.escapeQ x).1, .int .i64 (s.escapeQ x).2.1]) ∧ RRep w' br (s.escapeQ x).2.2 L' ∧ Stp (L.foot br) w (L'.foot br) w' := by
  have hol : s.objs.length ≤ 3298534883328 := hb.objs
  have hs0 : 0 ≤ s.scopes := hi.scopes.1
  have hs1 : s.scopes ≤ 16 := hi.scopes.2
  have H := hide h; have HI := hide hi; have HB := hide hb; clear h hi hb
  go_enter Tryz.func65, Tryz.ntmps65
  go_wp2_with fail
  refine (refNone_any _).mono ?_
  rintro e w1 ⟨rfl, hc1⟩
  have HC1 := hide hc1; clear hc1
  go_wp2_with fail
  refine (refNone_any _).mono ?_
  rintro e w2 ⟨rfl, hc2⟩
  have HC2 := hide ((unhide HC1).trans hc2); clear hc2 HC1
  go_wp2_with fail
  refine (refLook_any x (0, 0) (0, 0) false ((unhide H).chg (unhide HC2) (by simp)) (unhide HB)).mono ?_
  rintro e w3 ⟨rfl, hc3⟩
  have HC3 := hide ((unhide HC2).trans hc3); clear hc3 HC2
  have H3 : Hid (RRep w3 br s L) := (unhide H).chg (unhide HC3) (by simp)
  have c7 := (unhide H3).ref.cell_of (i := 7) rfl
  by_cases hok : (s.look x (0, 0) (0, 0) false).2 = 0
  · have hfin : s.escapeQ x = if s.scopes = 0 then (0, 10, s) else s.handle (s.look x (0, 0) (0, 0) false).1 (s.scopes - 1) := by simp [R.escapeQ, R.look1, hok]
    rw [hok]
    generalize (s.look x (0, 0) (0, 0) false).1 = i at *
    by_cases hz : s.scopes = 0
    · rw [if_pos hz] at hfin
      have hb : (s.scopes == 0) = true := by simp [hz]
      have HFIN := hide hfin; clear hfin hok hz
      go_wp2
      go_ret2
      exact ⟨L, by rw [unhide HFIN]; rfl, by rw [unhide HFIN]; exact unhide H3, Stp.of_chg (unhide HC3)⟩
    · rw [if_neg hz] at hfin
      have hb : (s.scopes == 0) = false := by simp [hz]
      have HFIN := hide hfin; clear hfin hok hz
      go_wp2_with fail
      refine (refHandle_any i (s.scopes - 1) (unhide H3) (unhide HI) (unhide HB)).mono ?_
      rintro e w4 ⟨L4, rfl, h4, st4⟩
      have H4 := hide h4; have ST4 := hide st4; clear h4 st4
      go_wp2
      go_ret2
      exact ⟨L4, by rw [unhide HFIN]; rfl, by rw [unhide HFIN]; exact unhide H4, (Stp.of_chg (unhide HC3)).trans (unhide ST4)⟩
  · have hfin : s.escapeQ x = (0, (s.look x (0, 0) (0, 0) false).2, s) := by simp [R.escapeQ, R.look1, hok]
    generalize (s.look x (0, 0) (0, 0) false).1 = i at *
    generalize (s.look x (0, 0) (0, 0) false).2 = er at *
    have hne : (er != 0) = true := by simp [hok]
    have HFIN := hide hfin; clear hfin hok
    go_wp2
    go_ret2
    exact ⟨L, by rw [unhide HFIN]; rfl, by rw [unhide HFIN]; exact unhide H3, Stp.of_chg (unhide HC3)⟩
end Go.Proofs.YtfoncalkgmeklaaGreat

/- Release and Close of the document's heap: P10, P11. -/
namespace Go.Proofs.YtfoncalkgmeklaaGreat
open Go.RowKit

theorem hanCells_off : ∀ (l : List RHan) (k : Nat) (y : RHan), l[k]? = some y → (hanCells l).set (k * 4 + 3) (.bool false) = hanCells (l.set k y.off)
  | [], k, y, h => by simp at h
  | x :: r, 0, y, h => by simp at h; subst h; simp [hanCells, RHan.off]
  | x :: r, k + 1, y, h => by
    have ih := hanCells_off r k y (by simpa using h)
    have e0 : (k + 1) * 4 + 3 = k * 4 + 3 + 1 + 1 + 1 + 1 := by omega
    rw [e0]
    simp only [hanCells, List.set_cons_succ]
    rw [ih]

/-- A handle is live no more. -/
theorem RRep.setOff {w : World} {br : Nat} {s : R} {L : RL} (h : RRep w br s L) {k g : Nat} {y : RHan} (hy : s.handles[k]? = some y) (hg : L.ha = some ⟨g, 0, none⟩) :
    RRep (w.setCell ⟨g, k * 4 + 3, none⟩ (.bool false)) br { s with handles := s.handles.set k y.off } L ∧ Stp (L.foot br) w (L.foot br) (w.setCell ⟨g, k * 4 + 3, none⟩ (.bool false)) := by
  have kk : Chg [g] w (w.setCell ⟨g, k * 4 + 3, none⟩ (.bool false)) := (Chg.refl _ _).setCell (.inl (by simp)) _
  have hgT : Ty w g 55 := owns_ty h.handles g (by rw [hg]; simp [ab])
  have hS : ∀ b ∈ [g], Ty w b 53 ∨ Ty w b 55 := by intro b hb; simp at hb; subst hb; exact .inr hgT
  have hlen : (s.handles.set k y.off).length = s.handles.length := by simp
  have hkl : k < s.handles.length := (List.getElem?_eq_some_iff.1 hy).1
  refine ⟨h.upd kk hS rfl rfl ⟨rfl, rfl, rfl, rfl, rfl, rfl⟩ (by decide) (by decide) (by decide) (by decide) ?_ (owns_chg_ty h.row kk (not_ty hS (by decide) (by decide))) ?_, ⟨kk.mono (fun x hx => by simp at hx; subst hx; exact foot_ha (by rw [hg]; simp [ab])), fun b hb => .inl hb⟩⟩
  · rw [hlen]
    exact h.ref.chg_ty kk (fun b hb => by simp at hb; subst hb; exact hgT.ne (by decide))
  · have ho := h.handles
    rw [hg] at ho
    obtain ⟨rest, hblk, hn1, hn2, hn3, _⟩ := owns_blk ho
    have hb2 := hblk.setCell (k * 4 + 3) (.bool false)
    have hl1 := length_hanCells s.handles
    rw [List.set_append_left _ _ (by omega), hanCells_off _ _ _ hy] at hb2
    have hl2 : (hanCells (s.handles.set k y.off)).length = s.handles.length * 4 := by rw [length_hanCells]; simp
    have hown := hb2.owns (size := 4) (base := 0) (n := s.handles.length) (cap := L.hc) (Nat.zero_le _) hn1 hn2 (by
      simp only [List.length_append] at hn3 ⊢
      omega)
    rw [← hl2, List.take_left] at hown
    rw [hg, hlen]
    exact hown

set_option maxRecDepth 100000 in
set_option maxHeartbeats 1000000 in
theorem refRelease_any {br : Nat} {s : R} {L : RL} {w : World} (x : Int) (h : RRep w br s L) (hi : RInv s) (hb : RBd s) :
    Calls Tryz.prog 69 #[.pointer (some ⟨br, 0, none⟩), .int .i64 x] w fun e w' => ∃ L', e = .returned (.int .i64 (s.releaseQ x).1) ∧ RRep w' br (s.releaseQ x).2 L' ∧ Stp (L.foot br) w (L'.foot br) w' := by
  have hhl : s.handles.length ≤ 3298534883328 := hb.handles
  have H := hide h; have HI := hide hi; have HB := hide hb; clear h hi hb
  go_enter Tryz.func69, Tryz.ntmps69
  go_wp2_with fail
  refine (refNone_any _).mono ?_
  rintro e w1 ⟨rfl, hc1⟩
  have HC1 := hide hc1; clear hc1
  go_wp2_with fail
  refine (refNone_any _).mono ?_
  rintro e w2 ⟨rfl, hc2⟩
  have HC2 := hide ((unhide HC1).trans hc2); clear hc2 HC1
  go_wp2_with fail
  refine (refLook_any x (0, 0) (0, 0) false ((unhide H).chg (unhide HC2) (by simp)) (unhide HB)).mono ?_
  rintro e w3 ⟨rfl, hc3⟩
  have HC3 := hide ((unhide HC2).trans hc3); clear hc3 HC2
  have H3 : Hid (RRep w3 br s L) := (unhide H).chg (unhide HC3) (by simp)
  by_cases hok : (s.look x (0, 0) (0, 0) false).2 = 0
  · have hfin : s.releaseQ x = if (s.handles.getD (posOf (s.find? x)).toNat rhan0).scope = -1 then (0, { s with handles := s.handles.set (posOf (s.find? x)).toNat (s.handles.getD (posOf (s.find? x)).toNat rhan0).off }) else (10, s) := by simp [R.releaseQ, R.look1, hok]
    have hpos : ¬ posOf (s.find? x) < 0 := by
      intro hn
      have hd := (look_vals hok).2.2.2
      have hbv := (look_vals hok).1
      rw [look_eval hd hbv, if_pos hn] at hok
      simp at hok
    obtain ⟨k, hkl, ek, _⟩ := find_lt hpos
    obtain ⟨y, hy⟩ : ∃ y, s.handles[k]? = some y := ⟨_, List.getElem?_eq_getElem hkl⟩
    have hgd : s.handles.getD k rhan0 = y := by simp [List.getD, hy]
    rw [ek, Int.toNat_natCast, hgd] at hfin
    obtain ⟨g, hg, hgl, hc⟩ := owns_at (unhide H3).handles (by omega)
    have cc := hanCells_at _ _ _ hy
    have d1 := hc _ _ cc.2.1
    have d3 := hc _ _ cc.2.2.2
    have c6 := (unhide H3).ref.cell_of (i := 6) rfl
    have hfr : w3.frozen? ⟨g, k * 4 + 3, none⟩ = false := by
      have ho := (unhide H3).handles
      rw [hg] at ho
      obtain ⟨rest, hblk, _⟩ := owns_blk ho
      exact hblk.frozen _
    have hoff := (unhide H3).setOff hy hg
    rw [hg] at c6
    rw [hok]
    generalize (s.look x (0, 0) (0, 0) false).1 = i at *
    have hcall := refFind_any x (unhide H3) (unhide HB)
    rw [ek] at hcall
    have HCL := hide hcall; have HOFF := hide hoff
    clear hok hpos ek hgd hc cc hcall hoff hg
    by_cases hs1 : y.scope = -1
    · rw [if_pos hs1] at hfin
      have hb : (y.scope != -1) = false := by simp [hs1]
      have HFIN := hide hfin; have HY := hide hy; clear hfin hy hs1
      go_wp2_with fail
      refine (unhide HCL).mono ?_
      rintro e w4 ⟨rfl, rfl⟩
      go_wp2
      go_ret
      exact ⟨L, by rw [unhide HFIN]; rfl, by rw [unhide HFIN]; exact (unhide HOFF).1, (Stp.of_chg (unhide HC3)).trans (unhide HOFF).2⟩
    · rw [if_neg hs1] at hfin
      have hb : (y.scope != -1) = true := by simp [hs1]
      have HFIN := hide hfin; have HY := hide hy; clear hfin hy hs1
      go_wp2_with fail
      refine (unhide HCL).mono ?_
      rintro e w4 ⟨rfl, rfl⟩
      go_wp2
      go_ret
      exact ⟨L, by rw [unhide HFIN]; rfl, by rw [unhide HFIN]; exact unhide H3, Stp.of_chg (unhide HC3)⟩
  · have hfin : s.releaseQ x = ((s.look x (0, 0) (0, 0) false).2, s) := by simp [R.releaseQ, R.look1, hok]
    generalize (s.look x (0, 0) (0, 0) false).1 = i at *
    generalize (s.look x (0, 0) (0, 0) false).2 = er at *
    have hne : (er != 0) = true := by simp [hok]
    have HFIN := hide hfin; clear hfin hok
    go_wp2
    go_ret
    exact ⟨L, by rw [unhide HFIN]; rfl, by rw [unhide HFIN]; exact unhide H3, Stp.of_chg (unhide HC3)⟩

/-- A handle behind Close. -/
def RHan.shut (n : Int) (h : RHan) : RHan := if h.scope = n then h.off else h
def shutTo (n : Int) (l : List RHan) (k : Nat) : List RHan := (l.take k).map (RHan.shut n) ++ l.drop k
def R.closeQ (s : R) (n : Int) : Int × R := if s.dead then (2, s) else if n = 0 ∨ n ≠ s.scopes then (10, s) else (0, { s with handles := s.handles.map (RHan.shut n), scopes := s.scopes - 1 })
theorem shutTo_len (n : Int) (l : List RHan) (k : Nat) : (shutTo n l k).length = l.length := by
  simp [shutTo]; omega
theorem shutTo_at {n : Int} {l : List RHan} {k : Nat} {y : RHan} (h : l[k]? = some y) : (shutTo n l k)[k]? = some y := by
  have hk := (List.getElem?_eq_some_iff.1 h).1
  unfold shutTo
  rw [List.getElem?_append_right (by simp; omega)]
  simp [Nat.min_eq_left (Nat.le_of_lt hk), h]
theorem shutTo_succ {n : Int} {l : List RHan} {k : Nat} {y : RHan} (h : l[k]? = some y) : (shutTo n l k).set k (y.shut n) = shutTo n l (k + 1) := by
  obtain ⟨hk, rfl⟩ := List.getElem?_eq_some_iff.1 h
  unfold shutTo
  have e1 : ((l.take k).map (RHan.shut n)).length = k := by simp; omega
  rw [List.set_append_right _ _ (by omega), e1, Nat.sub_self, List.drop_eq_getElem_cons hk, List.set_cons_zero, List.take_add_one, List.getElem?_eq_getElem hk]
  simp only [Option.toList, List.map_append, List.map_cons, List.map_nil, List.append_assoc, List.singleton_append]
theorem set_self' {α : Type} {l : List α} {k : Nat} {y : α} (h : l[k]? = some y) : l.set k y = l := by
  obtain ⟨hk, rfl⟩ := List.getElem?_eq_some_iff.1 h
  exact List.set_getElem_self _

set_option maxRecDepth 100000 in
set_option maxHeartbeats 1000000 in
theorem refClose_any {br : Nat} {s : R} {L : RL} {w : World} (n : Int) (h : RRep w br s L) (hi : RInv s) (hb : RBd s) :
    Calls Tryz.prog 63 #[.pointer (some ⟨br, 0, none⟩), .int .i64 n] w fun e w' => ∃ L', e = .returned (.int .i64 (s.closeQ n).1) ∧ RRep w' br (s.closeQ n).2 L' ∧ Stp (L.foot br) w (L'.foot br) w' := by
  have hhl : s.handles.length ≤ 3298534883328 := hb.handles
  have c3 := h.ref.cell_of (i := 3) rfl
  have c7 := h.ref.cell_of (i := 7) rfl
  have hs0 : 0 ≤ s.scopes := hi.scopes.1
  have hs1 : s.scopes ≤ 16 := hi.scopes.2
  have H := hide h; clear h hi hb
  cases hd : s.dead with
  | true =>
    have hfin : s.closeQ n = (2, s) := by simp [R.closeQ, hd]
    rw [hd] at c3
    have HFIN := hide hfin; clear hfin hd
    go_enter Tryz.func63, Tryz.ntmps63
    go_wp2
    go_ret
    exact ⟨L, by rw [unhide HFIN]; rfl, by rw [unhide HFIN]; exact unhide H, Stp.refl _ _⟩
  | false =>
    rw [hd] at c3
    by_cases hz : n = 0
    · have hfin : s.closeQ n = (10, s) := by simp [R.closeQ, hd, hz]
      have hb : (n == 0) = true := by simp [hz]
      have HFIN := hide hfin; clear hfin hd hz
      go_enter Tryz.func63, Tryz.ntmps63
      go_wp2
      go_ret
      exact ⟨L, by rw [unhide HFIN]; rfl, by rw [unhide HFIN]; exact unhide H, Stp.refl _ _⟩
    · have hb : (n == 0) = false := by simp [hz]
      by_cases hns : n = s.scopes
      · have hfin : s.closeQ n = (0, { s with handles := s.handles.map (RHan.shut n), scopes := s.scopes - 1 }) := by simp [R.closeQ, hd, hns]; intro h0; exact absurd h0 (by rw [← hns]; exact hz)
        have hb2 : (n != s.scopes) = false := by simp [hns]
        have HFIN := hide hfin; have HNS := hide hns; clear hfin hd hz hns
        go_enter Tryz.func63, Tryz.ntmps63
        go_wp2_with fail
        go_loopw [5] (fun i wr => ∃ k : Nat, k ≤ s.handles.length ∧ i = .int .i64 k ∧ RRep wr br { s with handles := shutTo n s.handles k } L ∧ Stp (L.foot br) w (L.foot br) wr) (fun i _ => s.handles.length - (intOf i).toNat)
        case atStart => exact ⟨0, Nat.zero_le _, rfl, by simpa [shutTo] using unhide H, Stp.refl _ _⟩
        case round =>
          obtain ⟨k, hk, rfl, hr, hst⟩ := hrel
          have c6 := hr.ref.cell_of (i := 6) rfl
          rw [show ({ s with handles := shutTo n s.handles k } : R).handles.length = s.handles.length from shutTo_len _ _ _] at c6
          by_cases hlt : k < s.handles.length
          · obtain ⟨y, hy⟩ : ∃ y, s.handles[k]? = some y := ⟨_, List.getElem?_eq_getElem hlt⟩
            have hy2 := shutTo_at (n := n) hy
            obtain ⟨g, hg, hgl, hc⟩ := owns_at hr.handles (by rw [shutTo_len]; omega)
            have cc := hanCells_at _ _ _ hy2
            have d1 := hc _ _ cc.2.1
            have d3 := hc _ _ cc.2.2.2
            have ho := hr.handles
            rw [hg] at ho
            obtain ⟨rest, hblk, _⟩ := owns_blk ho
            have hfr := hblk.frozen (k * 4 + 3)
            have hoff := hr.setOff hy2 hg
            rw [hg] at c6
            have hsc := shutTo_succ (n := n) hy
            have hset := set_self' hy2
            by_cases hsn : y.scope = n
            · have hb3 : (y.scope == n) = true := by simp [hsn]
              have hsh : y.shut n = y.off := by simp [RHan.shut, hsn]
              rw [hsh] at hsc
              have HOFF := hide hoff; have HR := hide hr; have HST := hide hst; have HSC := hide hsc
              clear hoff hr hst hsc hset hy hy2 hc cc ho hblk hg hsn hsh
              go_wp2
              go_roundw
              case rel => exact ⟨k + 1, by omega, by go_num, by have := (unhide HOFF).1; rw [show ({ s with handles := shutTo n s.handles k } : R).handles = shutTo n s.handles k from rfl, unhide HSC] at this; exact this, (unhide HST).trans (unhide HOFF).2⟩
              case measure => simp [intOf]; omega
            · have hb3 : (y.scope == n) = false := by simp [hsn]
              have hsh : y.shut n = y := by simp [RHan.shut, hsn]
              rw [hsh, hset] at hsc
              have HR := hide hr; have HST := hide hst; have HSC := hide hsc
              clear hoff hr hst hsc hset hy hy2 hc cc ho hblk hg hsn hsh
              go_wp2
              go_roundw
              case rel => exact ⟨k + 1, by omega, by go_num, by rw [← unhide HSC]; exact unhide HR, unhide HST⟩
              case measure => simp [intOf]; omega
          · have hkn : k = s.handles.length := by omega
            have hall : shutTo n s.handles k = s.handles.map (RHan.shut n) := by rw [hkn]; simp [shutTo]
            rw [hall] at hr
            have e7 := hr.ref.cell_of (i := 7) rfl
            have f7 := hr.ref.frozen 7
            have hu := hr.store (s' := { s with handles := s.handles.map (RHan.shut n), scopes := s.scopes - 1 }) 7 (.int .i64 (s.scopes - 1)) rfl rfl rfl rfl (by simp [refCells])
            have HU := hide hu; have HST := hide hst; clear hu hst hr hall hkn
            go_wp2
            go_ret
            exact ⟨by rw [unhide HFIN]; rfl, L, by rw [unhide HFIN]; exact (unhide HU).1, (unhide HST).trans (unhide HU).2⟩
      · have hfin : s.closeQ n = (10, s) := by simp [R.closeQ, hd, hns]
        have hb2 : (n != s.scopes) = true := by simp [hns]
        have HFIN := hide hfin; clear hfin hd hz hns
        go_enter Tryz.func63, Tryz.ntmps63
        go_wp2
        go_ret
        exact ⟨L, by rw [unhide HFIN]; rfl, by rw [unhide HFIN]; exact unhide H, Stp.refl _ _⟩
end Go.Proofs.YtfoncalkgmeklaaGreat

/- Join of the document's heap: P14. -/
namespace Go.Proofs.YtfoncalkgmeklaaGreat
open Go.RowKit

theorem two_ok {s : R} {x y : Int} (hi : RInv s) (h : (s.two x y).2.2 = 0) : (s.two x y).1 < s.objs.length ∧ (s.two x y).2.1 < s.objs.length := by
  unfold R.two at h ⊢
  split
  · rename_i h1
    refine ⟨look_ok hi h1, ?_⟩
    obtain ⟨_, _, hv, hd⟩ := look_vals h1
    have hsome := hv rfl
    apply look_ok hi
    unfold R.look
    cases hq : s.find? y with
    | none => simp [hq] at hsome
    | some a => simp [hd, R.badValue, R.stale]
  · rename_i h1
    rw [if_neg h1] at h
    exact absurd h h1

def R.joinQ (s : R) (x y : Int) : Int × Int × R :=
  if (s.two x y).2.2 = 0 then
    (if (s.objOf (s.two x y).1).kind = 2 ∧ (s.objOf (s.two x y).2.1).kind = 2 then
      (if 64 < ((s.objOf (s.two x y).1).text ++ (s.objOf (s.two x y).2.1).text).size then (0, 6, s) else s.make (mkBytes ((s.objOf (s.two x y).1).text ++ (s.objOf (s.two x y).2.1).text)))
     else (0, 5, s))
  else (0, (s.two x y).2.2, s)

set_option maxRecDepth 100000 in
set_option maxHeartbeats 2000000 in
theorem refJoin_any {br : Nat} {s : R} {L : RL} {w : World} (x y : Int) (h : RRep w br s L) (hi : RInv s) (hs : RSh s) (hbd : RBd s) (hmd : s.made < 3298534883328) (hmo : s.objs.length < 3298534883328) :
    Calls Tryz.prog 34 #[.pointer (some ⟨br, 0, none⟩), .int .i64 x, .int .i64 y] w fun e w' => ∃ L', e = .returned (.tuple #[.int .i64 (s.joinQ x y).1, .int .i64 (s.joinQ x y).2.1]) ∧ RRep w' br (s.joinQ x y).2.2 L' ∧ Stp (L.foot br) w (L'.foot br) w' := by
  have hq : s.joinQ x y = if (s.two x y).2.2 = 0 then
    (if (s.objOf (s.two x y).1).kind = 2 ∧ (s.objOf (s.two x y).2.1).kind = 2 then
      (if 64 < ((s.objOf (s.two x y).1).text ++ (s.objOf (s.two x y).2.1).text).size then (0, 6, s) else s.make (mkBytes ((s.objOf (s.two x y).1).text ++ (s.objOf (s.two x y).2.1).text)))
     else (0, 5, s))
    else (0, (s.two x y).2.2, s) := rfl
  have hlt := h.lt
  have H := hide h; have HI := hide hi; have HBD := hide hbd; have HS := hide hs; have HLT := hide hlt; have HQ := hide hq; clear h hi hbd hs hlt hq
  go_enter Tryz.func34, Tryz.ntmps34
  go_wp2_with fail
  refine (refTwo_any x y (unhide H) (unhide HBD)).mono ?_
  rintro e w1 ⟨rfl, hc1⟩
  have h1 : RRep w1 br s L := (unhide H).chg hc1 (by simp)
  have HC1 := hide hc1; clear hc1
  have hq := unhide HQ
  by_cases hok : (s.two x y).2.2 = 0
  · obtain ⟨ha, hb⟩ := two_ok (unhide HI) hok
    rw [if_pos hok] at hq
    rw [hok]
    generalize (s.two x y).1 = a at *
    generalize (s.two x y).2.1 = b at *
    obtain ⟨oa, ba, vaa, vca, go, e1, e2, e3, e4, e5, coa, hbo, hv⟩ := h1.objAt ha
    obtain ⟨ob, bb, vab, vcb, go', e1', e2', e3', e4', e5', cob, hbo', hv'⟩ := h1.objAt hb
    rw [e5] at e5'
    simp only [Option.some.injEq, Addr.mk.injEq, and_true] at e5'
    subst e5'
    have c4 := h1.ref.cell_of (i := 4) rfl
    rw [e5] at c4
    have k0 := hbo.cell_of (i := 0) rfl
    have k3 := hbo.cell_of (i := 3) rfl
    have k0' := hbo'.cell_of (i := 0) rfl
    have k3' := hbo'.cell_of (i := 3) rfl
    unfold R.objOf at hq
    rw [e2, e2'] at hq
    by_cases hka : oa.kind = 2
    · have hb1 : (oa.kind != 2) = false := by simp [hka]
      by_cases hkb : ob.kind = 2
      · have hb2 : (ob.kind != 2) = false := by simp [hkb]
        rw [if_pos ⟨hka, hkb⟩] at hq
        have ta := (unhide HS).txt oa (List.mem_of_getElem? e1) hka
        have tb := (unhide HS).txt ob (List.mem_of_getElem? e1') hkb
        have ka := (unhide HI).kinds oa (List.mem_of_getElem? e1)
        have kb := (unhide HI).kinds ob (List.mem_of_getElem? e1')
        have ta64 : oa.text.size ≤ 64 := by omega
        have tb64 : ob.text.size ≤ 64 := by omega
        have HQ2 := hide hq; have H1 := hide h1
        clear hq hok e1 e2 e3 e4 e5 hbo hv e1' e2' e3' e4' hbo' hv' hka hkb ta tb ka kb h1
        go_wp2_with fail
        go_quiet (fail)
        have h2 := (unhide H1).drewN nq
        have HC2 := hide ((unhide HC1).drewN nq)
        generalize w1.drewN nq = w2 at *
        have H2 := hide h2; clear h2 H1 HC1
        have ht128 : (oa.text ++ ob.text).size ≤ 128 := by rw [ByteArray.size_append]; omega
        clear k3 k3'
        generalize oa.text ++ ob.text = t at *
        have hq := unhide HQ2
        by_cases hn : 64 < t.size
        · rw [if_pos hn] at hq
          have HFIN := hide hq; clear hq
          go_wp2
          go_ret2
          exact ⟨L, by rw [unhide HFIN]; rfl, by rw [unhide HFIN]; exact unhide H2, Stp.of_chg (unhide HC2)⟩
        · rw [if_neg hn] at hq
          have HFIN := hide hq; clear hq
          go_wp2_with fail
          have hch : Chg [] w2 (w2.alloc (.cells #[.int .i64 2, .int .i64 (t.size : Int), .slice none 0 0, .string t] 72)) := (Chg.refl [] w2).alloc _
          have hb2 : Blk (w2.alloc (.cells #[.int .i64 2, .int .i64 (t.size : Int), .slice none 0 0, .string t] 72)) w2.heap.size (objCells (mkBytes t) (.slice none (mkBytes t).vals.length 0)) 72 := Blk.new w2 (objCells (mkBytes t) (.slice none 0 0)) _
          have hfr := fresh_new (unhide H2) (o := mkBytes t) (va := none) (vc := 0) hb2 (World.ownsRow_nil _ _ _ _) (Nat.le_refl _) (by simp [ab])
          refine (refMade_any (mkBytes t) w2.heap.size none 0 ((unhide H2).chg hch (by simp)) (unhide HI) (unhide HBD) hfr ⟨by simp [mkBytes], by simp [mkBytes], by simp [mkBytes], by simp [mkBytes]; omega, by simp [mkBytes]⟩ hmd hmo (by intro v hv; simp [mkBytes] at hv) (by simp [mkBytes])).mono ?_
          rintro e w3 ⟨L3, rfl, h3, st3⟩
          have hst := stp_new hch (by intro x hx; simp [ab] at hx; omega) st3
          have H3 := hide h3; have ST := hide hst; clear h3 st3 hst hfr hb2 hch
          go_wp2
          go_ret2
          exact ⟨L3, by rw [unhide HFIN]; rfl, by rw [unhide HFIN]; exact unhide H3, (Stp.of_chg (unhide HC2)).trans (unhide ST)⟩
      · have hb2 : (ob.kind != 2) = true := by simp [hkb]
        rw [if_neg (fun hh => hkb hh.2)] at hq
        have HFIN := hide hq; have H1 := hide h1
        clear hq hok e1 e2 e3 e4 e5 hbo hv e1' e2' e3' e4' hbo' hv' hka hkb h1
        go_wp2
        go_ret2
        exact ⟨L, by rw [unhide HFIN]; rfl, by rw [unhide HFIN]; exact unhide H1, Stp.of_chg (unhide HC1)⟩
    · have hb1 : (oa.kind != 2) = true := by simp [hka]
      rw [if_neg (fun hh => hka hh.1)] at hq
      have HFIN := hide hq; have H1 := hide h1
      clear hq hok e1 e2 e3 e4 e5 hbo hv e1' e2' e3' e4' hbo' hv' hka h1
      go_wp2
      go_ret2
      exact ⟨L, by rw [unhide HFIN]; rfl, by rw [unhide HFIN]; exact unhide H1, Stp.of_chg (unhide HC1)⟩
  · rw [if_neg hok] at hq
    generalize (s.two x y).1 = a at *
    generalize (s.two x y).2.1 = b at *
    generalize (s.two x y).2.2 = er at *
    have hne : (er != 0) = true := by simp [hok]
    have HFIN := hide hq; have H1 := hide h1; clear hq hok h1
    go_wp2
    go_ret2
    exact ⟨L, by rw [unhide HFIN]; rfl, by rw [unhide HFIN]; exact unhide H1, Stp.of_chg (unhide HC1)⟩
end Go.Proofs.YtfoncalkgmeklaaGreat

/- Copy of the document's heap: P14. -/
namespace Go.Proofs.YtfoncalkgmeklaaGreat
open Go.RowKit

def R.copyQ (s : R) (x : Int) : Int × Int × R := if (s.look1 x).2 = 0 then s.make (s.objOf (s.look1 x).1) else (0, (s.look1 x).2, s)

set_option maxRecDepth 100000 in
set_option maxHeartbeats 2000000 in
theorem refCopy_any {br : Nat} {s : R} {L : RL} {w : World} (x : Int) (h : RRep w br s L) (hi : RInv s) (hbd : RBd s) (hmd : s.made < 3298534883328) (hmo : s.objs.length < 3298534883328) :
    Calls Tryz.prog 36 #[.pointer (some ⟨br, 0, none⟩), .int .i64 x] w fun e w' => ∃ L', e = .returned (.tuple #[.int .i64 (s.copyQ x).1, .int .i64 (s.copyQ x).2.1]) ∧ RRep w' br (s.copyQ x).2.2 L' ∧ Stp (L.foot br) w (L'.foot br) w' := by
  have H := hide h; have HI := hide hi; have HBD := hide hbd; clear h hi hbd
  go_enter Tryz.func36, Tryz.ntmps36
  go_wp2_with fail
  refine (refNone_any _).mono ?_
  rintro e w1 ⟨rfl, hc1⟩
  have HC1 := hide hc1; clear hc1
  go_wp2_with fail
  refine (refNone_any _).mono ?_
  rintro e w2 ⟨rfl, hc2⟩
  have HC2 := hide ((unhide HC1).trans hc2); clear hc2 HC1
  go_wp2_with fail
  refine (refLook_any x (0, 0) (0, 0) false ((unhide H).chg (unhide HC2) (by simp)) (unhide HBD)).mono ?_
  rintro e w3 ⟨rfl, hc3⟩
  have HC3 := hide ((unhide HC2).trans hc3); clear hc3 HC2
  have h3 : RRep w3 br s L := (unhide H).chg (unhide HC3) (by simp)
  by_cases hok : (s.look x (0, 0) (0, 0) false).2 = 0
  · have hfin : s.copyQ x = s.make (s.objOf (s.look x (0, 0) (0, 0) false).1) := by simp [R.copyQ, R.look1, hok]
    have hlt := look_ok (unhide HI) hok
    rw [hok]
    generalize (s.look x (0, 0) (0, 0) false).1 = i at *
    obtain ⟨o, b, va, vc, go, e1, e2, e3, e4, e5, co, hbo, hv⟩ := h3.objAt hlt
    unfold R.objOf at hfin
    rw [e2] at hfin
    have c4 := h3.ref.cell_of (i := 4) rfl
    rw [e5] at c4
    have hmem := List.mem_of_getElem? e1
    have hkd := (unhide HI).kinds o hmem
    have hvl := (unhide HI).valLen o hmem
    have hvo := (unhide HI).vals o hmem
    have k0 := hbo.cell_of (i := 0) rfl
    have k1 := hbo.cell_of (i := 1) rfl
    have k3 := hbo.cell_of (i := 3) rfl
    have hbl := hbo.lt
    have HFIN := hide hfin; have H3 := hide h3; have HBO := hide hbo; have HV := hide hv; have HKD := hide hkd; have HVO := hide hvo
    clear hfin hok e1 e2 e3 e4 e5 hbo hv hkd hvo hmem h3
    go_upto_region 5 with fail
    go_cut [9] (fun v wx => ∃ bn, v = .pointer (some ⟨bn, 0, none⟩) ∧ w3.heap.size ≤ bn ∧ Chg [] w3 wx ∧ Blk wx bn [.int .i64 o.kind, .int .i64 o.size, .slice none 0 0, .string o.text] 72)
    case first =>
      go_region_held3 (fun w' => w'.cell? ⟨b, 0, none⟩ = some (.int .i64 o.kind) ∧ w'.cell? ⟨b, 1, none⟩ = some (.int .i64 o.size) ∧ w'.cell? ⟨b, 3, none⟩ = some (.string o.text)) (go_keep) (fail)
      go_wp2_with fail
      go_meet
      exact ⟨_, rfl, Nat.le_refl _, ((Chg.refl [] w3).alloc _).drew, (Blk.new w3 [.int .i64 o.kind, .int .i64 o.size, .slice none 0 0, .string o.text] 72).drew⟩
    case rest =>
      obtain ⟨bn, rfl, hbn, hc5, hbk⟩ := hcut
      have hbo5 := (unhide HBO).chg hc5 (by simp)
      have hv5 := owns_chg (unhide HV) hc5 (by simp)
      have q2 := hbk.cell_of (i := 2) rfl
      have k2 := hbo5.cell_of (i := 2) rfl
      have hne : b ≠ bn := by omega
      have hbnl := hbk.lt
      obtain ⟨i0, hi0, hz0, hz1, hz2⟩ := info_parts infoVal
      have hown9 : Hid (wc.drew.ownsRow 0 33 2 (.slice none 0 0) 0 []) := World.ownsRow_nil _ _ _ _
      have hsrc9 : Hid (0 < o.vals.length → ∃ ad, va = some ad ∧ ∀ j u, (valCells o.vals)[j]? = some u → wc.drew.cell? (ad.add j) = some u) := fun h0 => by
        obtain ⟨ad, ha, _, hcc⟩ := owns_src (World.ownsRow.drew hv5) h0
        exact ⟨ad, ha, hcc⟩
      have hone9 : Hid (∀ u ∈ valCells o.vals, u.oneCell' = true) := valCells_one _
      have hll : Hid ((valCells o.vals).length = o.vals.length * 2) := length_valCells _
      have hmx : Hid (0 + o.vals.length ≤ maxLen ∧ (0 + o.vals.length) * 16 ≤ 140737488355328) := ⟨by unfold maxLen; omega, by omega⟩
      have hbrn : Hid (∀ w9, wc.drew.grownBy w9 (Value.slice none 0 0).ownBlock → Blk w9 bn [.int .i64 o.kind, .int .i64 o.size, .slice none 0 0, .string o.text] 72) := by
        intro w9 hg9
        exact hbk.drew.chg (grown_chg hg9) (by simp [Value.ownBlock])
      have HC5 := hide ((unhide HC3).trans hc5); have HBK := hide hbk; have C5 := hide hc5
      clear hc5 hbk hbo5 hv5 HBO HV
      go_upto_region 6 with fail
      go_cut [] (fun wx => ∃ va9 cap9, Chg [] w3 wx ∧ Blk wx bn (objCells o (.slice va9 o.vals.length cap9)) 72 ∧ wx.ownsRow 0 33 2 (.slice va9 o.vals.length cap9) o.vals.length (valCells o.vals) ∧ ∀ y ∈ ab va9, w3.heap.size ≤ y)
      case first =>
        go_region_law ((refine step_append_gen _ (by rfl) (.tmp 46) (.tmp 50) 70 (by rfl) 33 i0 (.agg #[.int .i64 0, .int .i64 0]) 2 16 Tryz.underlying70 hi0 hz0 hz1 hz2 (by rfl) (by decide) (.slice none 0 0) 0 [] (by rfl) (unhide hown9) va o.vals.length vc (valCells o.vals) (by rfl) (unhide hll) (unhide hsrc9) (unhide hone9) (unhide hmx).1 (unhide hmx).2 ?_; intro va9 cap9 w9 ho9 hg9 hnil9 hat9; have c9 := (unhide hbrn w9 hg9).cell_of (i := 2) rfl; have f9 := (unhide hbrn w9 hg9).frozen 2; have HO9 := hide ho9; have HG9 := hide hg9; have HAT9 := hide hat9; clear ho9 hg9 hat9 hnil9))
        all_goals
          go_wp2_with fail
          go_meet
          have hg9 := unhide HG9
          have ho9 := unhide HO9
          have hk9 : Chg [] wc.drew w9 := by have := grown_chg hg9; simpa [Value.ownBlock] using this
          have hb9 := unhide hbrn w9 hg9
          have hb9' := hb9.setCell 2 (.slice va9 o.vals.length cap9)
          have hnew : ∀ y ∈ ab va9, wc.heap.size ≤ y := by
            intro y hy
            rcases at_ab (w := wc) (H := wc.drew.heap.size) (Nat.le_refl _) (unhide HAT9) y hy with h8 | h8
            · simp [ab] at h8
            · exact h8
          rw [Nat.zero_add, List.nil_append] at ho9
          refine ⟨va9, cap9, (((unhide C5).trans ((Chg.refl [] wc).drew)).trans hk9).setCell (.inr hbn) _, by simpa [objCells] using hb9', ownsRow_setCell_other' ho9 (p := ⟨bn, 2, none⟩) (fun y hy e => ?_) _, fun y hy => Nat.le_trans (unhide C5).size (hnew y hy)⟩
          have h8 := hnew y (ownBlock_ab hy)
          simp at e
          omega
      case rest =>
        obtain ⟨va9, cap9, hc9, hb9, ho9, hn9⟩ := hcut
        have hfr := fresh_new (unhide H3) hb9 ho9 hbn hn9
        have hcall := refMade_any o bn va9 cap9 ((unhide H3).chg hc9 (by simp)) (unhide HI) (unhide HBD) hfr (unhide HKD) hmd hmo (unhide HVO) hvl
        have HCL := hide hcall; have HC9 := hide hc9; have HN9 := hide hn9
        clear hcall hc9 hn9 hfr hb9 ho9 q2 k2
        go_wp2_with fail
        refine (unhide HCL).mono ?_
        rintro e w4 ⟨L4, rfl, h4, st4⟩
        have hst := stp_new (unhide HC9) (by
          intro y hy
          rcases List.mem_cons.1 hy with rfl | hy
          · exact hbn
          · exact unhide HN9 y hy) st4
        have H4 := hide h4; have ST := hide hst; clear h4 st4 hst
        go_wp2
        go_ret2
        exact ⟨L4, by rw [unhide HFIN]; rfl, by rw [unhide HFIN]; exact unhide H4, (Stp.of_chg (unhide HC3)).trans (unhide ST)⟩
  · have hfin : s.copyQ x = (0, (s.look x (0, 0) (0, 0) false).2, s) := by simp [R.copyQ, R.look1, hok]
    generalize (s.look x (0, 0) (0, 0) false).1 = i at *
    generalize (s.look x (0, 0) (0, 0) false).2 = er at *
    have hne : (er != 0) = true := by simp [hok]
    have HFIN := hide hfin; have H3 := hide h3; clear hfin hok h3
    go_wp2
    go_ret2
    exact ⟨L, by rw [unhide HFIN]; rfl, by rw [unhide HFIN]; exact unhide H3, Stp.of_chg (unhide HC3)⟩
end Go.Proofs.YtfoncalkgmeklaaGreat
