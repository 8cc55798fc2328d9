import Derived.Test.YtfoncalkgmeklaaGreatYwM2

/- look: the first errors of every call, then the object's number. -/
namespace Go.Proofs.YtfoncalkgmeklaaGreat
open Go.RowKit

theorem refNone_any (w : World) : Calls Tryz.prog 84 #[] w fun e w' => e = .returned (.agg #[.int .i64 0, .int .i64 0]) ∧ Chg [] w w' := by
  go_enter Tryz.func84, Tryz.ntmps84
  go_wp2
  exact bodyPost_ret (v := .agg #[.int .i64 0, .int .i64 0]) (by simp [results, Tryz.results84, go_sem]) rfl ⟨rfl, (Chg.refl [] w).alloc _⟩

set_option maxRecDepth 100000 in
set_option maxHeartbeats 2000000 in
theorem refLook_bad {br : Nat} {s : R} {L : RL} {w : World} (x : Int) (k v : Int × Int) (key : Bool) (h : RRep w br s L) (hbad : s.dead = true ∨ (s.dead = false ∧ R.badValue k v key = true)) :
    Calls Tryz.prog 83 #[.pointer (some ⟨br, 0, none⟩), .int .i64 x, .agg #[.int .i64 k.1, .int .i64 k.2], .agg #[.int .i64 v.1, .int .i64 v.2], .bool key] w fun e w' =>
      e = .returned (.tuple #[.int .i64 (s.look x k v key).1, .int .i64 (s.look x k v key).2]) ∧ Chg [] w w' := by
  have c3 := h.ref.cell_of (i := 3) rfl
  have hlt := h.ref.lt
  obtain ⟨k1, k2⟩ := k
  obtain ⟨v1, v2⟩ := v
  rcases hbad with hd | ⟨hd, hbad⟩
  · have hfin : s.look x (k1, k2) (v1, v2) key = (0, 2) := by simp [R.look, hd]
    rw [hd] at c3
    have HFIN := hide hfin; clear hfin hd h
    go_enter Tryz.func83, Tryz.ntmps83
    go_wp2
    go_ret2
    exact ⟨by rw [unhide HFIN]; rfl, ((Chg.refl [] w).alloc _).alloc _⟩
  · have hfin : s.look x (k1, k2) (v1, v2) key = (0, 3) := by simp [R.look, hd, hbad]
    have hb : k1 < 0 ∨ (0 ≤ k1 ∧ 2 < k1) ∨ (0 ≤ k1 ∧ k1 ≤ 2 ∧ v1 < 0) ∨ (0 ≤ k1 ∧ k1 ≤ 2 ∧ 0 ≤ v1 ∧ 2 < v1) ∨ (0 ≤ k1 ∧ k1 ≤ 2 ∧ 0 ≤ v1 ∧ v1 ≤ 2 ∧ key = true ∧ (k1 == 0) = true) := by
      cases key <;> simp [R.badValue] at hbad ⊢ <;> omega
    rw [hd] at c3
    have HFIN := hide hfin; clear hfin hd h hbad
    rcases hb with a | ⟨a, b⟩ | ⟨a, b, c⟩ | ⟨a, b, c, d⟩ | ⟨a, b, c, d, e, f⟩
    all_goals
      go_enter Tryz.func83, Tryz.ntmps83
      go_wp2
      go_ret2
      exact ⟨by rw [unhide HFIN]; rfl, ((Chg.refl [] w).alloc _).alloc _⟩

theorem look_eval {s : R} {x : Int} {k v : Int × Int} {key : Bool} (hd : s.dead = false) (hgood : R.badValue k v key = false) :
    s.look x k v key = if posOf (s.find? x) < 0 then (0, 4) else if ((k.1 == 2) && decide (posOf (s.find? k.2) < 0)) || ((v.1 == 2) && decide (posOf (s.find? v.2) < 0)) then (0, 4) else ((s.handles.getD (posOf (s.find? x)).toNat rhan0).obj, 0) := by
  have e : ∀ o : Option Nat, decide (posOf o < 0) = o.isNone := fun o => by
    cases o with
    | none => simp [posOf]
    | some a => have : ¬ ((a : Int) < 0) := by omega
                simp [posOf, this]
  rw [e, e]
  unfold R.look
  rw [hd, hgood]
  simp only [Bool.false_eq_true, if_false, R.stale]
  cases s.find? x with
  | none => simp [posOf]
  | some a =>
    have : ¬ ((a : Int) < 0) := by omega
    simp [posOf, this]
theorem find_lt {s : R} {x : Int} (h : ¬ posOf (s.find? x) < 0) : ∃ a, a < s.handles.length ∧ posOf (s.find? x) = (a : Int) ∧ s.find? x = some a := by
  cases hf : s.find? x with
  | none => rw [hf] at h; simp [posOf] at h
  | some a =>
    refine ⟨a, ?_, rfl, rfl⟩
    unfold R.find? at hf
    exact (List.findIdx?_eq_some_iff_getElem.1 hf).1

set_option maxRecDepth 100000 in
set_option maxHeartbeats 2000000 in
theorem refLook_good {br : Nat} {s : R} {L : RL} {w : World} (x : Int) (k v : Int × Int) (key : Bool) (h : RRep w br s L) (hb : RBd s) (hd : s.dead = false) (hgood : R.badValue k v key = false) :
    Calls Tryz.prog 83 #[.pointer (some ⟨br, 0, none⟩), .int .i64 x, .agg #[.int .i64 k.1, .int .i64 k.2], .agg #[.int .i64 v.1, .int .i64 v.2], .bool key] w fun e w' =>
      e = .returned (.tuple #[.int .i64 (s.look x k v key).1, .int .i64 (s.look x k v key).2]) ∧ Chg [] w w' := by
  have hlook := look_eval (x := x) hd hgood
  have c3 := h.ref.cell_of (i := 3) rfl
  have hlt := h.ref.lt
  have hhl : s.handles.length ≤ 3298534883328 := hb.handles
  obtain ⟨k1, k2⟩ := k
  obtain ⟨v1, v2⟩ := v
  rw [hd] at c3
  obtain ⟨g1, g2, g3, g4⟩ : 0 ≤ k1 ∧ k1 ≤ 2 ∧ 0 ≤ v1 ∧ v1 ≤ 2 := by
    cases key <;> simp [R.badValue] at hgood <;> omega
  have H : Hid (RRep ((w.alloc (.cells #[.int .i64 k1, .int .i64 k2] 33)).alloc (.cells #[.int .i64 v1, .int .i64 v2] 33)) br s L) := h.chg (((Chg.refl [] w).alloc _).alloc _) (by simp)
  have HB := hide hb
  have c6 := (unhide H).ref.cell_of (i := 6) rfl
  have hkey : key = false ∨ (key = true ∧ (k1 == 0) = false) := by
    cases key
    · exact .inl rfl
    · right; simp [R.badValue] at hgood; simp; omega
  have HL := hide hlook
  clear hlook hgood hd h hb
  rcases hkey with hkey | ⟨hkey, hk0⟩
  all_goals
    go_enter Tryz.func83, Tryz.ntmps83
    go_wp2_with fail
    refine (refFind_any x (unhide H) (unhide HB)).mono ?_
    rintro e w' ⟨rfl, rfl⟩
    go_wp2_with fail
    refine (refFind_any k2 (unhide H) (unhide HB)).mono ?_
    rintro e w' ⟨rfl, rfl⟩
    go_wp2_with fail
    refine (refFind_any v2 (unhide H) (unhide HB)).mono ?_
    rintro e w' ⟨rfl, rfl⟩
    by_cases n1 : posOf (s.find? x) < 0
    · have hfin : s.look x (k1, k2) (v1, v2) key = (0, 4) := by rw [unhide HL, if_pos n1]
      have HFIN := hide hfin; clear hfin HL
      generalize posOf (s.find? x) = P1 at *
      generalize posOf (s.find? k2) = P2 at *
      generalize posOf (s.find? v2) = P3 at *
      go_wp2
      go_ret2
      exact ⟨by rw [unhide HFIN]; rfl, ((Chg.refl [] w).alloc _).alloc _⟩
    · obtain ⟨a, hal, ea, _⟩ := find_lt n1
      obtain ⟨y, hy⟩ : ∃ y, s.handles[a]? = some y := ⟨_, List.getElem?_eq_getElem hal⟩
      obtain ⟨g, hg, _, hc⟩ := owns_at (unhide H).handles (by omega)
      have cy := hc _ _ (hanCells_at _ _ _ hy).2.2.1
      have hl2 := unhide HL
      rw [ea] at hl2 n1 ⊢
      rw [if_neg n1, Int.toNat_natCast, show s.handles.getD a rhan0 = y from by simp [List.getD, hy]] at hl2
      rw [hg] at c6
      generalize posOf (s.find? k2) = P2 at *
      generalize posOf (s.find? v2) = P3 at *
      have HL2 := hide hl2; clear hl2 HL hg hc hy ea n1
      cases hk2 : (k1 == 2)
      · cases hv2 : (v1 == 2)
        · have HFIN := hide ((unhide HL2).trans (by simp [hk2, hv2]) : s.look x (k1, k2) (v1, v2) key = (y.obj, 0))
          clear HL2
          go_wp2
          go_ret2
          exact ⟨by rw [unhide HFIN]; rfl, ((Chg.refl [] w).alloc _).alloc _⟩
        · by_cases n3 : P3 < 0
          · have HFIN := hide ((unhide HL2).trans (by simp [hk2, hv2, n3]) : s.look x (k1, k2) (v1, v2) key = (0, 4))
            clear HL2
            go_wp2
            go_ret2
            exact ⟨by rw [unhide HFIN]; rfl, ((Chg.refl [] w).alloc _).alloc _⟩
          · have HFIN := hide ((unhide HL2).trans (by simp [hk2, hv2, n3]) : s.look x (k1, k2) (v1, v2) key = (y.obj, 0))
            clear HL2
            go_wp2
            go_ret2
            exact ⟨by rw [unhide HFIN]; rfl, ((Chg.refl [] w).alloc _).alloc _⟩
      · by_cases n2 : P2 < 0
        · have HFIN := hide ((unhide HL2).trans (by simp [hk2, n2]) : s.look x (k1, k2) (v1, v2) key = (0, 4))
          clear HL2
          go_wp2
          go_ret2
          exact ⟨by rw [unhide HFIN]; rfl, ((Chg.refl [] w).alloc _).alloc _⟩
        · cases hv2 : (v1 == 2)
          · have HFIN := hide ((unhide HL2).trans (by simp [hk2, hv2, n2]) : s.look x (k1, k2) (v1, v2) key = (y.obj, 0))
            clear HL2
            go_wp2
            go_ret2
            exact ⟨by rw [unhide HFIN]; rfl, ((Chg.refl [] w).alloc _).alloc _⟩
          · by_cases n3 : P3 < 0
            · have HFIN := hide ((unhide HL2).trans (by simp [hk2, hv2, n2, n3]) : s.look x (k1, k2) (v1, v2) key = (0, 4))
              clear HL2
              go_wp2
              go_ret2
              exact ⟨by rw [unhide HFIN]; rfl, ((Chg.refl [] w).alloc _).alloc _⟩
            · have HFIN := hide ((unhide HL2).trans (by simp [hk2, hv2, n2, n3]) : s.look x (k1, k2) (v1, v2) key = (y.obj, 0))
              clear HL2
              go_wp2
              go_ret2
              exact ⟨by rw [unhide HFIN]; rfl, ((Chg.refl [] w).alloc _).alloc _⟩

theorem refLook_any {br : Nat} {s : R} {L : RL} {w : World} (x : Int) (k v : Int × Int) (key : Bool) (h : RRep w br s L) (hb : RBd s) :
    Calls Tryz.prog 83 #[.pointer (some ⟨br, 0, none⟩), .int .i64 x, .agg #[.int .i64 k.1, .int .i64 k.2], .agg #[.int .i64 v.1, .int .i64 v.2], .bool key] w fun e w' =>
      e = .returned (.tuple #[.int .i64 (s.look x k v key).1, .int .i64 (s.look x k v key).2]) ∧ Chg [] w w' := by
  cases hd : s.dead with
  | true => exact refLook_bad x k v key h (.inl hd)
  | false =>
    cases hbv : R.badValue k v key with
    | true => exact refLook_bad x k v key h (.inr ⟨hd, hbv⟩)
    | false => exact refLook_good x k v key h hb hd hbv
end Go.Proofs.YtfoncalkgmeklaaGreat

/- Kind, Len, Text, Place of the document's heap. -/
namespace Go.Proofs.YtfoncalkgmeklaaGreat
open Go.RowKit

theorem look_ok {s : R} {x : Int} {k v : Int × Int} {key : Bool} (hi : RInv s) (h : (s.look x k v key).2 = 0) : (s.look x k v key).1 < s.objs.length := by
  unfold R.look at h ⊢
  split
  · simp_all
  · split
    · simp_all
    · split
      · simp_all
      · rename_i a ha
        split
        · simp_all
        · have hal : a < s.handles.length := by
            unfold R.find? at ha
            exact (List.findIdx?_eq_some_iff_getElem.1 ha).1
          have := (hi.nums s.handles[a] (List.getElem_mem hal)).2.2
          simpa [List.getD, hal] using this

set_option maxRecDepth 100000 in
set_option maxHeartbeats 1000000 in
theorem refKind_any {br : Nat} {s : R} {L : RL} {w : World} (x : Int) (h : RRep w br s L) (hi : RInv s) (hb : RBd s) :
    Calls Tryz.prog 38 #[.pointer (some ⟨br, 0, none⟩), .int .i64 x] w fun e w' => e = .returned (.tuple #[.int .i64 (s.kindQ x).1, .int .i64 (s.kindQ x).2]) ∧ Chg [] w w' := by
  have hol : s.objs.length ≤ 3298534883328 := hb.objs
  have H := hide h; have HI := hide hi; have HB := hide hb; clear h hi hb
  go_enter Tryz.func38, Tryz.ntmps38
  go_wp2_with fail
  refine (refNone_any _).mono ?_
  rintro e w1 ⟨rfl, hc1⟩
  have HC1 := hide hc1; clear hc1
  go_wp2_with fail
  refine (refNone_any _).mono ?_
  rintro e w2 ⟨rfl, hc2⟩
  have HC2 := hide ((unhide HC1).trans hc2); clear hc2 HC1
  go_wp2_with fail
  refine (refLook_any x (0, 0) (0, 0) false ((unhide H).chg (unhide HC2) (by simp)) (unhide HB)).mono ?_
  rintro e w3 ⟨rfl, hc3⟩
  have HC3 := hide ((unhide HC2).trans hc3); clear hc3 HC2
  have H3 : Hid (RRep w3 br s L) := (unhide H).chg (unhide HC3) (by simp)
  by_cases hok : (s.look x (0, 0) (0, 0) false).2 = 0
  · have hlt := look_ok (unhide HI) hok
    have hfin : s.kindQ x = ((s.objOf (s.look x (0, 0) (0, 0) false).1).kind, 0) := by simp [R.kindQ, R.look1, hok]
    rw [hok]
    generalize (s.look x (0, 0) (0, 0) false).1 = i at *
    obtain ⟨o, b, va, vc, go, e1, e2, e3, e4, e5, co, hbo, hv⟩ := (unhide H3).objAt hlt
    have c4 := (unhide H3).ref.cell_of (i := 4) rfl
    rw [e5] at c4
    have k0 := hbo.cell_of (i := 0) rfl
    have hfin2 : s.kindQ x = (o.kind, 0) := by rw [hfin]; unfold R.objOf; rw [e2]
    have HFIN := hide hfin2
    clear hfin hfin2 hok e1 e2 e3 e4 e5 hbo hv
    go_wp2
    go_ret2
    exact ⟨by rw [unhide HFIN]; rfl, unhide HC3⟩
  · have hfin : s.kindQ x = (0, (s.look x (0, 0) (0, 0) false).2) := by simp [R.kindQ, R.look1, hok]
    generalize (s.look x (0, 0) (0, 0) false).1 = i at *
    generalize (s.look x (0, 0) (0, 0) false).2 = er at *
    have hne : (er != 0) = true := by simp [hok]
    have HFIN := hide hfin; clear hfin hok
    go_wp2
    go_ret2
    exact ⟨by rw [unhide HFIN]; rfl, unhide HC3⟩
set_option maxRecDepth 100000 in
set_option maxHeartbeats 1000000 in
theorem refPlaceQ_any {br : Nat} {s : R} {L : RL} {w : World} (x : Int) (h : RRep w br s L) (hi : RInv s) (hb : RBd s) :
    Calls Tryz.prog 42 #[.pointer (some ⟨br, 0, none⟩), .int .i64 x] w fun e w' => e = .returned (.tuple #[.int .i64 (s.placeQ x).1, .int .i64 (s.placeQ x).2]) ∧ Chg [] w w' := by
  have hol : s.objs.length ≤ 3298534883328 := hb.objs
  have H := hide h; have HI := hide hi; have HB := hide hb; clear h hi hb
  go_enter Tryz.func42, Tryz.ntmps42
  go_wp2_with fail
  refine (refNone_any _).mono ?_
  rintro e w1 ⟨rfl, hc1⟩
  have HC1 := hide hc1; clear hc1
  go_wp2_with fail
  refine (refNone_any _).mono ?_
  rintro e w2 ⟨rfl, hc2⟩
  have HC2 := hide ((unhide HC1).trans hc2); clear hc2 HC1
  go_wp2_with fail
  refine (refLook_any x (0, 0) (0, 0) false ((unhide H).chg (unhide HC2) (by simp)) (unhide HB)).mono ?_
  rintro e w3 ⟨rfl, hc3⟩
  have HC3 := hide ((unhide HC2).trans hc3); clear hc3 HC2
  have H3 : Hid (RRep w3 br s L) := (unhide H).chg (unhide HC3) (by simp)
  by_cases hok : (s.look x (0, 0) (0, 0) false).2 = 0
  · have hlt := look_ok (unhide HI) hok
    have hfin : s.placeQ x = (placeOf s.objs (s.look x (0, 0) (0, 0) false).1 s.row, 0) := by simp [R.placeQ, R.look1, hok]
    rw [hok]
    generalize (s.look x (0, 0) (0, 0) false).1 = i at *
    have HFIN := hide hfin; clear hfin hok
    go_wp2_with fail
    refine (refPlace_any i (unhide H3) (unhide HI) (unhide HB)).mono ?_
    rintro e w4 ⟨rfl, q, rfl⟩
    go_wp2
    go_ret2
    exact ⟨by rw [unhide HFIN]; rfl, (unhide HC3).drewN _⟩
  · have hfin : s.placeQ x = (0, (s.look x (0, 0) (0, 0) false).2) := by simp [R.placeQ, R.look1, hok]
    generalize (s.look x (0, 0) (0, 0) false).1 = i at *
    generalize (s.look x (0, 0) (0, 0) false).2 = er at *
    have hne : (er != 0) = true := by simp [hok]
    have HFIN := hide hfin; clear hfin hok
    go_wp2
    go_ret2
    exact ⟨by rw [unhide HFIN]; rfl, unhide HC3⟩
set_option maxRecDepth 100000 in
set_option maxHeartbeats 1000000 in
theorem refLen_any {br : Nat} {s : R} {L : RL} {w : World} (x : Int) (h : RRep w br s L) (hi : RInv s) (hb : RBd s) :
    Calls Tryz.prog 40 #[.pointer (some ⟨br, 0, none⟩), .int .i64 x] w fun e w' => e = .returned (.tuple #[.int .i64 (s.lenQ x).1, .int .i64 (s.lenQ x).2]) ∧ Chg [] w w' := by
  have hol : s.objs.length ≤ 3298534883328 := hb.objs
  have H := hide h; have HI := hide hi; have HB := hide hb; clear h hi hb
  go_enter Tryz.func40, Tryz.ntmps40
  go_wp2_with fail
  refine (refNone_any _).mono ?_
  rintro e w1 ⟨rfl, hc1⟩
  have HC1 := hide hc1; clear hc1
  go_wp2_with fail
  refine (refNone_any _).mono ?_
  rintro e w2 ⟨rfl, hc2⟩
  have HC2 := hide ((unhide HC1).trans hc2); clear hc2 HC1
  go_wp2_with fail
  refine (refLook_any x (0, 0) (0, 0) false ((unhide H).chg (unhide HC2) (by simp)) (unhide HB)).mono ?_
  rintro e w3 ⟨rfl, hc3⟩
  have HC3 := hide ((unhide HC2).trans hc3); clear hc3 HC2
  have H3 : Hid (RRep w3 br s L) := (unhide H).chg (unhide HC3) (by simp)
  by_cases hok : (s.look x (0, 0) (0, 0) false).2 = 0
  · have hlt := look_ok (unhide HI) hok
    have hfin : s.lenQ x = if (s.objOf (s.look x (0, 0) (0, 0) false).1).kind = 3 then (((s.objOf (s.look x (0, 0) (0, 0) false).1).vals.length : Int) / 2, 0) else ((s.objOf (s.look x (0, 0) (0, 0) false).1).size, 0) := by unfold R.lenQ R.look1; first | rw [if_pos hok] | rw [if_neg hok]
    rw [hok]
    generalize (s.look x (0, 0) (0, 0) false).1 = i at *
    obtain ⟨o, b, va, vc, go, e1, e2, e3, e4, e5, co, hbo, hv⟩ := (unhide H3).objAt hlt
    have c4 := (unhide H3).ref.cell_of (i := 4) rfl
    rw [e5] at c4
    have k0 := hbo.cell_of (i := 0) rfl
    have k1 := hbo.cell_of (i := 1) rfl
    have k2 := hbo.cell_of (i := 2) rfl
    have vl : o.vals.length ≤ 16 := (unhide HI).valLen o (List.mem_of_getElem? e1)
    unfold R.objOf at hfin
    rw [e2] at hfin
    by_cases h3 : o.kind = 3
    · rw [if_pos h3] at hfin
      have hb3 : (o.kind == 3) = true := by simp [h3]
      have HFIN := hide hfin; clear hfin hok e1 e2 e3 e4 e5 hbo hv h3
      go_wp2
      go_ret2
      exact ⟨by rw [unhide HFIN]; rfl, unhide HC3⟩
    · rw [if_neg h3] at hfin
      have hb3 : (o.kind == 3) = false := by simp [h3]
      have HFIN := hide hfin; clear hfin hok e1 e2 e3 e4 e5 hbo hv h3
      go_wp2
      go_ret2
      exact ⟨by rw [unhide HFIN]; rfl, unhide HC3⟩
  · have hfin : s.lenQ x = (0, (s.look x (0, 0) (0, 0) false).2) := by unfold R.lenQ R.look1; first | rw [if_pos hok] | rw [if_neg hok]
    generalize (s.look x (0, 0) (0, 0) false).1 = i at *
    generalize (s.look x (0, 0) (0, 0) false).2 = er at *
    have hne : (er != 0) = true := by simp [hok]
    have HFIN := hide hfin; clear hfin hok
    go_wp2
    go_ret2
    exact ⟨by rw [unhide HFIN]; rfl, unhide HC3⟩
set_option maxRecDepth 100000 in
set_option maxHeartbeats 1000000 in
theorem refText_any {br : Nat} {s : R} {L : RL} {w : World} (x : Int) (h : RRep w br s L) (hi : RInv s) (hb : RBd s) :
    Calls Tryz.prog 44 #[.pointer (some ⟨br, 0, none⟩), .int .i64 x] w fun e w' => e = .returned (.tuple #[.string (s.textQ x).1, .int .i64 (s.textQ x).2]) ∧ Chg [] w w' := by
  have hol : s.objs.length ≤ 3298534883328 := hb.objs
  have H := hide h; have HI := hide hi; have HB := hide hb; clear h hi hb
  go_enter Tryz.func44, Tryz.ntmps44
  go_wp2_with fail
  refine (refNone_any _).mono ?_
  rintro e w1 ⟨rfl, hc1⟩
  have HC1 := hide hc1; clear hc1
  go_wp2_with fail
  refine (refNone_any _).mono ?_
  rintro e w2 ⟨rfl, hc2⟩
  have HC2 := hide ((unhide HC1).trans hc2); clear hc2 HC1
  go_wp2_with fail
  refine (refLook_any x (0, 0) (0, 0) false ((unhide H).chg (unhide HC2) (by simp)) (unhide HB)).mono ?_
  rintro e w3 ⟨rfl, hc3⟩
  have HC3 := hide ((unhide HC2).trans hc3); clear hc3 HC2
  have H3 : Hid (RRep w3 br s L) := (unhide H).chg (unhide HC3) (by simp)
  by_cases hok : (s.look x (0, 0) (0, 0) false).2 = 0
  · have hlt := look_ok (unhide HI) hok
    have hfin : s.textQ x = if (s.objOf (s.look x (0, 0) (0, 0) false).1).kind = 2 then ((s.objOf (s.look x (0, 0) (0, 0) false).1).text, 0) else (⟨#[]⟩, 5) := by unfold R.textQ R.look1; first | rw [if_pos hok] | rw [if_neg hok]
    rw [hok]
    generalize (s.look x (0, 0) (0, 0) false).1 = i at *
    obtain ⟨o, b, va, vc, go, e1, e2, e3, e4, e5, co, hbo, hv⟩ := (unhide H3).objAt hlt
    have c4 := (unhide H3).ref.cell_of (i := 4) rfl
    rw [e5] at c4
    have k0 := hbo.cell_of (i := 0) rfl
    have k3 := hbo.cell_of (i := 3) rfl
    unfold R.objOf at hfin
    rw [e2] at hfin
    by_cases h3 : o.kind = 2
    · rw [if_pos h3] at hfin
      have hb3 : (o.kind != 2) = false := by simp [h3]
      have HFIN := hide hfin; clear hfin hok e1 e2 e3 e4 e5 hbo hv h3
      go_wp2
      go_ret2
      exact ⟨by rw [unhide HFIN]; rfl, unhide HC3⟩
    · rw [if_neg h3] at hfin
      have hb3 : (o.kind != 2) = true := by simp [h3]
      have HFIN := hide hfin; clear hfin hok e1 e2 e3 e4 e5 hbo hv h3
      go_wp2
      go_ret2
      exact ⟨by rw [unhide HFIN]; rfl, unhide HC3⟩
  · have hfin : s.textQ x = (⟨#[]⟩, (s.look x (0, 0) (0, 0) false).2) := by unfold R.textQ R.look1; first | rw [if_pos hok] | rw [if_neg hok]
    generalize (s.look x (0, 0) (0, 0) false).1 = i at *
    generalize (s.look x (0, 0) (0, 0) false).2 = er at *
    have hne : (er != 0) = true := by simp [hok]
    have HFIN := hide hfin; clear hfin hok
    go_wp2
    go_ret2
    exact ⟨by rw [unhide HFIN]; rfl, unhide HC3⟩
end Go.Proofs.YtfoncalkgmeklaaGreat
