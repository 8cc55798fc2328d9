import Derived.Test.YtfoncalkgmeklaaGreatYwM6

/- Two handles, Same; a value as it stands in an object, and as the caller is told it. -/
namespace Go.Proofs.YtfoncalkgmeklaaGreat
open Go.RowKit

def R.two (s : R) (x y : Int) : Nat × Nat × Int := if (s.look x (0, 0) (2, y) false).2 = 0 then ((s.look x (0, 0) (2, y) false).1, (s.look1 y).1, 0) else (0, 0, (s.look x (0, 0) (2, y) false).2)
def R.sameQ (s : R) (x y : Int) : Bool × Int := ((s.two x y).2.2 == 0 && (s.two x y).1 == (s.two x y).2.1, (s.two x y).2.2)

set_option maxRecDepth 100000 in
set_option maxHeartbeats 1000000 in
theorem refTwo_any {br : Nat} {s : R} {L : RL} {w : World} (x y : Int) (h : RRep w br s L) (hb : RBd s) :
    Calls Tryz.prog 79 #[.pointer (some ⟨br, 0, none⟩), .int .i64 x, .int .i64 y] w fun e w' => e = .returned (.tuple #[.int .i64 (s.two x y).1, .int .i64 (s.two x y).2.1, .int .i64 (s.two x y).2.2]) ∧ Chg [] w w' := by
  have H := hide h; have HB := hide hb; clear h hb
  go_enter Tryz.func79, Tryz.ntmps79
  go_wp2_with fail
  refine (refNone_any _).mono ?_
  rintro e w1 ⟨rfl, hc1⟩
  have HC1 := hide hc1; clear hc1
  go_wp2_with fail
  refine (refLook_any x (0, 0) (2, y) false ((unhide H).chg (unhide HC1) (by simp)) (unhide HB)).mono ?_
  rintro e w2 ⟨rfl, hc2⟩
  have HC2 := hide ((unhide HC1).trans hc2); clear hc2 HC1
  have H2 : Hid (RRep w2 br s L) := (unhide H).chg (unhide HC2) (by simp)
  by_cases hok : (s.look x (0, 0) (2, y) false).2 = 0
  · have hfin : s.two x y = ((s.look x (0, 0) (2, y) false).1, (s.look1 y).1, 0) := by simp [R.two, hok]
    rw [hok]
    generalize (s.look x (0, 0) (2, y) false).1 = i at *
    have HFIN := hide hfin; clear hfin hok
    go_wp2_with fail
    refine (refNone_any _).mono ?_
    rintro e w3 ⟨rfl, hc3⟩
    have HC3 := hide ((unhide HC2).trans hc3); clear hc3 HC2 H2
    go_wp2_with fail
    refine (refNone_any _).mono ?_
    rintro e w4 ⟨rfl, hc4⟩
    have HC4 := hide ((unhide HC3).trans hc4); clear hc4 HC3
    go_wp2_with fail
    refine (refLook_any y (0, 0) (0, 0) false ((unhide H).chg (unhide HC4) (by simp)) (unhide HB)).mono ?_
    rintro e w5 ⟨rfl, hc5⟩
    have HC5 := hide ((unhide HC4).trans hc5); clear hc5 HC4
    go_wp2
    go_ret3
    exact ⟨by rw [unhide HFIN]; rfl, unhide HC5⟩
  · have hfin : s.two x y = (0, 0, (s.look x (0, 0) (2, y) false).2) := by simp [R.two, hok]
    generalize (s.look x (0, 0) (2, y) false).1 = i at *
    generalize (s.look x (0, 0) (2, y) false).2 = er at *
    have hne : (er != 0) = true := by simp [hok]
    have HFIN := hide hfin; clear hfin hok
    go_wp2
    go_ret3
    exact ⟨by rw [unhide HFIN]; rfl, unhide HC2⟩

set_option maxRecDepth 100000 in
set_option maxHeartbeats 1000000 in
theorem refSame_any {br : Nat} {s : R} {L : RL} {w : World} (x y : Int) (h : RRep w br s L) (hb : RBd s) :
    Calls Tryz.prog 46 #[.pointer (some ⟨br, 0, none⟩), .int .i64 x, .int .i64 y] w fun e w' => e = .returned (.tuple #[.bool (s.sameQ x y).1, .int .i64 (s.sameQ x y).2]) ∧ Chg [] w w' := by
  have H := hide h; have HB := hide hb; clear h hb
  have hfin : s.sameQ x y = ((s.two x y).2.2 == 0 && (s.two x y).1 == (s.two x y).2.1, (s.two x y).2.2) := rfl
  go_enter Tryz.func46, Tryz.ntmps46
  go_wp2_with fail
  refine (refTwo_any x y (unhide H) (unhide HB)).mono ?_
  rintro e w1 ⟨rfl, hc1⟩
  generalize (s.two x y).1 = a at *
  generalize (s.two x y).2.1 = b at *
  generalize (s.two x y).2.2 = er at *
  have HC1 := hide hc1; have HFIN := hide hfin; clear hc1 hfin
  cases he : (er == 0) with
  | false =>
    go_wp2
    go_ret2
    exact ⟨by rw [unhide HFIN, he]; rfl, unhide HC1⟩
  | true =>
    cases hab : ((a : Int) == (b : Int)) with
    | false =>
      have hn : (a == b) = false := by simp at hab ⊢; omega
      have HN := hide hn; clear hn
      go_wp2
      go_ret2
      exact ⟨by rw [unhide HFIN, he, unhide HN]; rfl, unhide HC1⟩
    | true =>
      have hn : (a == b) = true := by simp at hab ⊢; omega
      have HN := hide hn; clear hn
      go_wp2
      go_ret2
      exact ⟨by rw [unhide HFIN, he, unhide HN]; rfl, unhide HC1⟩

/-- A value as it stands in an object. -/
def R.inner (s : R) (v : Int × Int) : Int × Int := if v.1 = 0 then (0, 0) else if v.1 = 2 then (2, ((s.handles.getD (posOf (s.find? v.2)).toNat rhan0).obj : Int)) else v
/-- A value as the caller is told it. -/
def R.outer (s : R) (v : Int × Int) : (Int × Int) × Int × R :=
  if v.1 = 2 then (if (s.handle v.2.toNat s.scopes).2.1 = 0 then ((2, (s.handle v.2.toNat s.scopes).1), 0, (s.handle v.2.toNat s.scopes).2.2) else ((0, 0), (s.handle v.2.toNat s.scopes).2.1, s)) else (v, 0, s)

set_option maxRecDepth 100000 in
set_option maxHeartbeats 1000000 in
theorem refInner_any {br : Nat} {s : R} {L : RL} {w : World} (v : Int × Int) (h : RRep w br s L) (hb : RBd s) (hv : v.1 = 2 → (s.find? v.2).isSome = true) :
    Calls Tryz.prog 100 #[.pointer (some ⟨br, 0, none⟩), .agg #[.int .i64 v.1, .int .i64 v.2]] w fun e w' => e = .returned (.agg #[.int .i64 (s.inner v).1, .int .i64 (s.inner v).2]) ∧ Chg [] w w' := by
  have hl : s.handles.length ≤ 3298534883328 := hb.handles
  have hlt := h.ref.lt
  obtain ⟨a, b⟩ := v
  by_cases h0 : a = 0
  · have hfin : s.inner (a, b) = (0, 0) := by simp [R.inner, h0]
    have e0 : (a == 0) = true := by simp [h0]
    have HFIN := hide hfin; clear hfin h0 hv h hb
    go_enter Tryz.func100, Tryz.ntmps100
    go_wp2
    exact bodyPost_ret (v := .agg #[.int .i64 0, .int .i64 0]) (by simp [results, Tryz.results100, go_sem]) rfl ⟨by rw [unhide HFIN], ((Chg.refl [] w).alloc _).alloc _⟩
  · have e0 : (a == 0) = false := by simp [h0]
    by_cases h2 : a = 2
    · have e2 : (a == 2) = true := by simp [h2]
      have hsome := hv h2
      have hpos : ¬ posOf (s.find? b) < 0 := by rw [posOf_neg]; intro hn; cases hq : s.find? b <;> simp_all
      obtain ⟨k, hk, ek, _⟩ := find_lt hpos
      obtain ⟨y, hy⟩ : ∃ y, s.handles[k]? = some y := ⟨_, List.getElem?_eq_getElem hk⟩
      have hfin : s.inner (a, b) = (2, (y.obj : Int)) := by
        subst h2
        have : s.handles.getD k rhan0 = y := by simp [List.getD, hy]
        simp only [R.inner, ek, Int.toNat_natCast, this]
        simp
      obtain ⟨g, hg, hgl, hc⟩ := owns_at h.handles (by omega)
      have cy := hc _ _ (hanCells_at _ _ _ hy).2.2.1
      have c6 := h.ref.cell_of (i := 6) rfl
      rw [hg] at c6
      have h2' : RRep ((w.alloc (.cells #[.int .i64 a, .int .i64 b] 33)).alloc (.cells #[.int .i64 0, .int .i64 0] 33)) br s L := h.chg (((Chg.refl [] w).alloc _).alloc _) (by simp)
      have hcall := refFind_any b h2' hb
      rw [ek] at hcall
      have HFIN := hide hfin; have HC := hide hcall; clear hfin h0 h2 hv h hb hsome hpos hc hy hg h2' hcall ek
      go_enter Tryz.func100, Tryz.ntmps100
      go_wp2_with fail
      refine (unhide HC).mono ?_
      rintro e w' ⟨rfl, rfl⟩
      go_wp2
      exact bodyPost_ret (v := .agg #[.int .i64 2, .int .i64 (y.obj : Int)]) (by simp [results, Tryz.results100, go_sem]) rfl ⟨by rw [unhide HFIN], ((Chg.refl [] w).alloc _).alloc _⟩
    · have e2 : (a == 2) = false := by simp [h2]
      have hfin : s.inner (a, b) = (a, b) := by simp [R.inner, h0, h2]
      have HFIN := hide hfin; clear hfin h0 h2 hv h hb
      go_enter Tryz.func100, Tryz.ntmps100
      go_wp2
      exact bodyPost_ret (v := .agg #[.int .i64 a, .int .i64 b]) (by simp [results, Tryz.results100, go_sem]) rfl ⟨by rw [unhide HFIN], ((Chg.refl [] w).alloc _).alloc _⟩

theorem handle_scopes (s : R) (o : Nat) (c : Int) : (s.handle o c).2.2.scopes = s.scopes := by unfold R.handle; split <;> rfl
theorem handle_same {s : R} {o : Nat} {c : Int} (h : ¬ (s.handle o c).2.1 = 0) : (s.handle o c).2.2 = s := by
  unfold R.handle at h ⊢
  split at h
  · rfl
  · exact absurd rfl h

set_option maxRecDepth 100000 in
set_option maxHeartbeats 1000000 in
theorem refOuter_any {br : Nat} {s : R} {L : RL} {w : World} (v : Int × Int) (h : RRep w br s L) (hi : RInv s) (hb : RBd s) (hv : v.1 = 2 → 0 ≤ v.2) :
    Calls Tryz.prog 92 #[.pointer (some ⟨br, 0, none⟩), .agg #[.int .i64 v.1, .int .i64 v.2]] w fun e w' => ∃ L', e = .returned (.tuple #[.agg #[.int .i64 (s.outer v).1.1, .int .i64 (s.outer v).1.2], .int .i64 (s.outer v).2.1]) ∧ RRep w' br (s.outer v).2.2 L' ∧ Stp (L.foot br) w (L'.foot br) w' := by
  obtain ⟨a, b⟩ := v
  by_cases h2 : a = 2
  · subst h2
    obtain ⟨o, rfl⟩ := Int.eq_ofNat_of_zero_le (hv rfl)
    have hlt := h.lt
    have hbr := h.ref.lt
    have h1 : RRep (((w.alloc (.cells #[.int .i64 2, .int .i64 (o : Int)] 33)).alloc (.cells #[.int .i64 0, .int .i64 0] 33)).drew) br s L := h.chg (((Chg.refl [] w).alloc _).alloc _).drew (by simp)
    have c7 := h1.ref.cell_of (i := 7) rfl
    have hb1 : Blk (((w.alloc (.cells #[.int .i64 2, .int .i64 (o : Int)] 33)).alloc (.cells #[.int .i64 0, .int .i64 0] 33)).drew) w.heap.size [.int .i64 2, .int .i64 (o : Int)] 33 := ((Blk.new w [.int .i64 2, .int .i64 (o : Int)] 33).alloc _).drew
    have hb2 : Blk (((w.alloc (.cells #[.int .i64 2, .int .i64 (o : Int)] 33)).alloc (.cells #[.int .i64 0, .int .i64 0] 33)).drew) (w.heap.size + 1) [.int .i64 0, .int .i64 0] 33 := by
      have := (Blk.new (w.alloc (.cells #[.int .i64 2, .int .i64 (o : Int)] 33)) [.int .i64 0, .int .i64 0] 33).drew
      simpa using this
    have hcall := refHandle_any o s.scopes h1 hi hb
    have hall : Hid (∀ w3 L3, RRep w3 br (s.handle o s.scopes).2.2 L3 → Chg (L.foot br) (((w.alloc (.cells #[.int .i64 2, .int .i64 (o : Int)] 33)).alloc (.cells #[.int .i64 0, .int .i64 0] 33)).drew) w3 → w3.cell? ⟨br, 7, none⟩ = some (.int .i64 s.scopes) ∧ w3.cell? ⟨w.heap.size, 1, none⟩ = some (.int .i64 (o : Int))) := by
      intro w3 L3 h3 c3
      have e7 := h3.ref.cell_of (i := 7) rfl
      rw [handle_scopes] at e7
      exact ⟨e7, (hb1.chg c3 (fun hm => by have := hlt _ hm; omega)).cell_of rfl⟩
    have hallb : Hid (∀ w3, Chg (L.foot br) (((w.alloc (.cells #[.int .i64 2, .int .i64 (o : Int)] 33)).alloc (.cells #[.int .i64 0, .int .i64 0] 33)).drew) w3 → Blk w3 (w.heap.size + 1) [.int .i64 0, .int .i64 0] 33) := by
      intro w3 c3
      exact hb2.chg c3 (fun hm => by have := hlt _ hm; omega)
    have HC := hide hcall; have HLT := hide hlt; have HH := hide h; clear h h1 hb1 hb2 hcall hlt hv hi hb
    have hout : s.outer (2, (o : Int)) = if (s.handle o s.scopes).2.1 = 0 then ((2, (s.handle o s.scopes).1), 0, (s.handle o s.scopes).2.2) else ((0, 0), (s.handle o s.scopes).2.1, s) := by simp [R.outer]
    have HOUT := hide hout; clear hout
    go_enter Tryz.func92, Tryz.ntmps92
    go_wp2_with fail
    go_region_held3 (fun w' => w'.cell? ⟨br, 7, none⟩ = some (.int .i64 s.scopes) ∧ w'.cell? ⟨w.heap.size, 1, none⟩ = some (.int .i64 (o : Int))) (first | go_keep | assumption) ((go_at_call 108; refine (unhide HC).mono ?_; rintro e w3 ⟨L3, rfl, h3, st3⟩; have hk3 := unhide hall w3 L3 h3 st3.chg; have H3 := hide h3; have ST3 := hide st3; clear h3 st3))
    have hblk := unhide hallb w3 (unhide ST3).chg
    have c0 := hblk.cell_of (i := 0) rfl
    have c1 := hblk.cell_of (i := 1) rfl
    have f0 := hblk.frozen 0
    have f1 := hblk.frozen 1
    have hsz := hblk.lt
    have hfb : ∀ u v, Blk ((w3.setCell ⟨w.heap.size + 1, 0, none⟩ u).setCell ⟨w.heap.size + 1, 1, none⟩ v) (w.heap.size + 1) [u, v] 33 := fun u v => (hblk.setCell 0 u).setCell 1 v
    have hfs : ∀ (u v : Value) (s3 : R), RRep w3 br s3 L3 → RRep ((w3.setCell ⟨w.heap.size + 1, 0, none⟩ u).setCell ⟨w.heap.size + 1, 1, none⟩ v) br s3 L3 ∧ Stp (L.foot br) w (L3.foot br) ((w3.setCell ⟨w.heap.size + 1, 0, none⟩ u).setCell ⟨w.heap.size + 1, 1, none⟩ v) := by
      intro u v s3 h3
      have hst := unhide ST3
      have hl := unhide HLT
      refine ⟨h3.chg (S := [w.heap.size + 1]) (((Chg.refl _ w3).setCell (.inl (by simp)) u).setCell (.inl (by simp)) v) (fun x hx hm => ?_), ?_, fun x hx => ?_⟩
      · simp at hm
        subst hm
        rcases hst.foot _ hx with h8 | h8
        · have := hl _ h8; omega
        · simp at h8; omega
      · exact (Chg.trans_new ((((Chg.refl _ w).alloc _).alloc _).drew) hst.chg (fun x hx => .inl hx)).setCell (.inr (by simp)) u |>.setCell (.inr (by simp)) v
      · rcases hst.foot _ hx with h8 | h8
        · exact .inl h8
        · right; simp at h8; omega
    have HFB := hide hfb; have HFS := hide hfs; clear hblk hfb hfs hall hallb HC
    have hout := unhide HOUT
    have hsm : ¬ (s.handle o s.scopes).2.1 = 0 → (s.handle o s.scopes).2.2 = s := handle_same
    generalize (s.handle o s.scopes).1 = x at *
    generalize (s.handle o s.scopes).2.1 = er at *
    generalize (s.handle o s.scopes).2.2 = s3 at *
    clear HOUT
    by_cases hok : er = 0
    · subst hok
      have HFIN := hide (hout.trans (if_pos rfl)); clear hout hsm
      go_wp2
      have hfin := unhide HFIN
      have hb := unhide HFB (.int .i64 2) (.int .i64 x)
      have c0' := hb.cell_of (i := 0) rfl
      have c1' := hb.cell_of (i := 1) rfl
      exact bodyPost_ret (v := .tuple #[.agg #[.int .i64 2, .int .i64 x], .int .i64 0]) (by simp [results, Tryz.results92, go_sem, c0', c1']) rfl ⟨L3, by rw [hfin], by rw [hfin]; exact (unhide HFS _ _ _ (unhide H3)).1, (unhide HFS _ _ _ (unhide H3)).2⟩
    · have HFIN := hide (hout.trans (if_neg hok)); have HSM := hide (hsm hok)
      have hne : (er != 0) = true := by simp [hok]
      clear hout hsm hok
      go_wp2
      have hfin := unhide HFIN
      have hb := unhide HFB (.int .i64 0) (.int .i64 0)
      have c0' := hb.cell_of (i := 0) rfl
      have c1' := hb.cell_of (i := 1) rfl
      exact bodyPost_ret (v := .tuple #[.agg #[.int .i64 0, .int .i64 0], .int .i64 er]) (by simp [results, Tryz.results92, go_sem, c0', c1']) rfl ⟨L3, by rw [hfin], by rw [hfin]; rw [← unhide HSM]; exact (unhide HFS _ _ _ (unhide H3)).1, (unhide HFS _ _ _ (unhide H3)).2⟩
  · have hfin : s.outer (a, b) = ((a, b), 0, s) := by simp [R.outer, h2]
    have e2 : (a != 2) = true := by simp [h2]
    have HH := hide h; have HFIN := hide hfin; clear hfin h2 h hv
    go_enter Tryz.func92, Tryz.ntmps92
    go_wp2
    exact bodyPost_ret (v := .tuple #[.agg #[.int .i64 a, .int .i64 b], .int .i64 0]) (by simp [results, Tryz.results92, go_sem]) rfl ⟨L, by rw [unhide HFIN], by rw [unhide HFIN]; exact (unhide HH).chg (((Chg.refl [] w).alloc _).alloc _) (by simp), ⟨(((Chg.refl _ w).alloc _).alloc _), fun x hx => .inl hx⟩⟩
end Go.Proofs.YtfoncalkgmeklaaGreat

/- Get and Key of the document's heap: P7, P8. -/
namespace Go.Proofs.YtfoncalkgmeklaaGreat
open Go.RowKit

/-- The shapes of objects. -/
structure RSh (s : R) : Prop where
  arr : ∀ o ∈ s.objs, o.kind = 1 → (o.vals.length : Int) = o.size
  tab : ∀ o ∈ s.objs, o.kind = 3 → o.vals.length % 2 = 0 ∧ (o.vals.length : Int) ≤ 2 * o.size ∧ o.size ≤ 8
  txt : ∀ o ∈ s.objs, o.kind = 2 → (o.text.size : Int) = o.size ∧ o.vals = []
  notxt : ∀ o ∈ s.objs, o.kind ≠ 2 → o.text = ⟨#[]⟩

def R.element (s : R) (x i : Int) (v : Int × Int) : Nat × Int :=
  if (s.look x (0, 0) v false).2 = 0 then
    (if (s.objOf (s.look x (0, 0) v false).1).kind = 1 then (if i < 0 ∨ (s.objOf (s.look x (0, 0) v false).1).size ≤ i then (0, 7) else ((s.look x (0, 0) v false).1, 0)) else (0, 5))
  else (0, (s.look x (0, 0) v false).2)
def R.getQ (s : R) (x i : Int) : (Int × Int) × Int × R :=
  if (s.element x i (0, 0)).2 = 0 then s.outer ((s.objOf (s.element x i (0, 0)).1).vals.getD i.toNat (0, 0)) else ((0, 0), (s.element x i (0, 0)).2, s)

theorem cell_lt {w : World} {a : Addr} {v : Value} (h : w.cell? a = some v) : a.block < w.heap.size := by
  rcases Nat.lt_or_ge a.block w.heap.size with hl | hg
  · exact hl
  · simp [World.cell?, Array.getElem?_eq_none hg] at h
theorem cell_chg0 {w w' : World} (k : Chg [] w w') {a : Addr} {v : Value} (h : w.cell? a = some v) : w'.cell? a = some v := by
  rw [k.cell (cell_lt h) (by simp)]; exact h

set_option maxRecDepth 100000 in
set_option maxHeartbeats 1000000 in
theorem refElement_any {br : Nat} {s : R} {L : RL} {w : World} (x i : Int) (v : Int × Int) (h : RRep w br s L) (hi : RInv s) (hb : RBd s) :
    Calls Tryz.prog 91 #[.pointer (some ⟨br, 0, none⟩), .int .i64 x, .int .i64 i, .agg #[.int .i64 v.1, .int .i64 v.2]] w fun e w' => e = .returned (.tuple #[.int .i64 (s.element x i v).1, .int .i64 (s.element x i v).2]) ∧ Chg [] w w' := by
  have hol : s.objs.length ≤ 3298534883328 := hb.objs
  have H := hide h; have HI := hide hi; have HB := hide hb
  have hc0 : Chg [] w (w.alloc (.cells #[.int .i64 v.1, .int .i64 v.2] 33)).drew := ((Chg.refl [] w).alloc _).drew
  have hel : s.element x i v = if (s.look x (0, 0) v false).2 = 0 then
    (if (s.objOf (s.look x (0, 0) v false).1).kind = 1 then (if i < 0 ∨ (s.objOf (s.look x (0, 0) v false).1).size ≤ i then (0, 7) else ((s.look x (0, 0) v false).1, 0)) else (0, 5))
    else (0, (s.look x (0, 0) v false).2) := rfl
  have HEL := hide hel
  have HC0 := hide hc0; clear h hi hb hc0 hel
  go_enter Tryz.func91, Tryz.ntmps91
  go_upto_region 1 with fail
  go_cut [10, 11] (fun a' b wx => a' = .int .i64 ((s.look x (0, 0) v false).1 : Int) ∧ b = .int .i64 (s.look x (0, 0) v false).2 ∧ Chg [] w wx)
  case first =>
    go_region_held3 (fun w' => w'.cell? ⟨w.heap.size, 0, none⟩ = some (.int .i64 v.1) ∧ w'.cell? ⟨w.heap.size, 1, none⟩ = some (.int .i64 v.2)) (first | go_keep | assumption) ((first
      | (go_at_call 84; refine (refNone_any _).mono ?_; rintro e w1 ⟨rfl, hc1⟩; have HC1 := hide ((unhide HC0).trans hc1); have hk1 : w1.cell? ⟨w.heap.size, 0, none⟩ = some (.int .i64 v.1) ∧ w1.cell? ⟨w.heap.size, 1, none⟩ = some (.int .i64 v.2) := ⟨cell_chg0 hc1 (by go_keep), cell_chg0 hc1 (by go_keep)⟩; clear hc1)
      | (go_at_call 83; refine (refLook_any x (0, 0) v false ((unhide H).chg (unhide HC1) (by simp)) (unhide HB)).mono ?_; rintro e w2 ⟨rfl, hc2⟩; have HC2 := hide ((unhide HC1).trans hc2); have hk2 : w2.cell? ⟨w.heap.size, 0, none⟩ = some (.int .i64 v.1) ∧ w2.cell? ⟨w.heap.size, 1, none⟩ = some (.int .i64 v.2) := ⟨cell_chg0 hc2 hk1.1, cell_chg0 hc2 hk1.2⟩; clear hc2)))
    all_goals go_wp2_with fail
    all_goals go_meet
    all_goals exact ⟨rfl, rfl, unhide HC2⟩
  case rest =>
    obtain ⟨rfl, rfl, hcc⟩ := hcut
    have h3 : RRep wc br s L := (unhide H).chg hcc (by simp)
    have hel := unhide HEL
    have HC := hide hcc; clear hcc HEL HC0
    by_cases hok : (s.look x (0, 0) v false).2 = 0
    · have hlt := look_ok (unhide HI) hok
      rw [if_pos hok] at hel
      rw [hok]
      generalize (s.look x (0, 0) v false).1 = o at *
      obtain ⟨ob, b, va, vc, go, e1, e2, e3, e4, e5, co, hbo, hv⟩ := h3.objAt hlt
      have c4 := h3.ref.cell_of (i := 4) rfl
      rw [e5] at c4
      have k0 := hbo.cell_of (i := 0) rfl
      have k1 := hbo.cell_of (i := 1) rfl
      unfold R.objOf at hel
      rw [e2] at hel
      by_cases hk : ob.kind = 1
      · rw [if_pos hk] at hel
        have hb1 : (ob.kind != 1) = false := by simp [hk]
        by_cases hneg : i < 0
        · rw [if_pos (.inl hneg)] at hel
          have HFIN := hide hel; clear hel hok e1 e2 e3 e4 e5 hbo hv hk h3
          go_wp2
          go_ret2
          exact ⟨by rw [unhide HFIN]; rfl, unhide HC⟩
        · by_cases hge : ob.size ≤ i
          · rw [if_pos (.inr hge)] at hel
            have HFIN := hide hel; clear hel hok e1 e2 e3 e4 e5 hbo hv hk h3
            go_wp2
            go_ret2
            exact ⟨by rw [unhide HFIN]; rfl, unhide HC⟩
          · rw [if_neg (by omega)] at hel
            have HFIN := hide hel; clear hel hok e1 e2 e3 e4 e5 hbo hv hk h3
            go_wp2
            go_ret2
            exact ⟨by rw [unhide HFIN]; rfl, unhide HC⟩
      · rw [if_neg hk] at hel
        have hb1 : (ob.kind != 1) = true := by simp [hk]
        have HFIN := hide hel; clear hel hok e1 e2 e3 e4 e5 hbo hv hk h3
        go_wp2
        go_ret2
        exact ⟨by rw [unhide HFIN]; rfl, unhide HC⟩
    · rw [if_neg hok] at hel
      generalize (s.look x (0, 0) v false).1 = o at *
      generalize (s.look x (0, 0) v false).2 = er at *
      have hne : (er != 0) = true := by simp [hok]
      have HFIN := hide hel; clear hel hok h3
      go_wp2
      go_ret2
      exact ⟨by rw [unhide HFIN]; rfl, unhide HC⟩

theorem element_ok {s : R} {x i : Int} {v : Int × Int} (hi : RInv s) (h : (s.element x i v).2 = 0) : (s.element x i v).1 < s.objs.length ∧ (s.objOf (s.element x i v).1).kind = 1 ∧ 0 ≤ i ∧ i < (s.objOf (s.element x i v).1).size := by
  unfold R.element at h ⊢
  split
  · rename_i h1
    rw [if_pos h1] at h
    split
    · rename_i h2
      rw [if_pos h2] at h
      split
      · rename_i h3
        rw [if_pos h3] at h
        simp at h
      · exact ⟨look_ok hi h1, h2, by omega, by simp only []; omega⟩
    · rename_i h2
      rw [if_neg h2] at h
      simp at h
  · rename_i h1
    rw [if_neg h1] at h
    exact absurd h h1

/-- What a call that stores its answer in a fresh block does besides. -/
theorem ret_cell {w w1 w3 : World} {br : Nat} {L L3 : RL} {g : Nat} {s3 : R} {c : List Value} (hlt : ∀ b ∈ L.foot br, b < w.heap.size) (hg : w.heap.size ≤ g) (hb : Blk w1 g c 33) (hc : Chg [] w w1) (st : Stp (L.foot br) w1 (L3.foot br) w3) (h3 : RRep w3 br s3 L3) (u v : Value) (hl : c.length = 2) :
    Blk w3 g c 33 ∧ Blk ((w3.setCell ⟨g, 0, none⟩ u).setCell ⟨g, 1, none⟩ v) g [u, v] 33 ∧ RRep ((w3.setCell ⟨g, 0, none⟩ u).setCell ⟨g, 1, none⟩ v) br s3 L3 ∧ Stp (L.foot br) w (L3.foot br) ((w3.setCell ⟨g, 0, none⟩ u).setCell ⟨g, 1, none⟩ v) := by
  have hgl := hb.lt
  have hb3 : Blk w3 g c 33 := hb.chg st.chg (fun hm => by have := hlt _ hm; omega)
  refine ⟨hb3, ?_, h3.chg (S := [g]) (((Chg.refl _ w3).setCell (.inl (by simp)) u).setCell (.inl (by simp)) v) (fun x hx hm => ?_), ?_, fun x hx => ?_⟩
  · obtain ⟨a, b, rfl⟩ : ∃ a b, c = [a, b] := by
      match c, hl with
      | [a, b], _ => exact ⟨a, b, rfl⟩
    exact (hb3.setCell 0 u).setCell 1 v
  · simp at hm
    subst hm
    rcases st.foot _ hx with h8 | h8
    · have := hlt _ h8; omega
    · omega
  · exact ((Chg.trans_new (hc.mono (by simp)) st.chg (fun x hx => .inl hx)).setCell (.inr hg) u).setCell (.inr hg) v
  · rcases st.foot _ hx with h8 | h8
    · exact .inl h8
    · exact .inr (Nat.le_trans hc.size h8)
theorem Stp.of_chg {F : List Nat} {w w' : World} (h : Chg [] w w') : Stp F w F w' := ⟨h.mono (by simp), fun _ h => .inl h⟩

set_option maxRecDepth 100000 in
set_option maxHeartbeats 1000000 in
theorem refGet_any {br : Nat} {s : R} {L : RL} {w : World} (x i : Int) (h : RRep w br s L) (hi : RInv s) (hs : RSh s) (hb : RBd s) :
    Calls Tryz.prog 49 #[.pointer (some ⟨br, 0, none⟩), .int .i64 x, .int .i64 i] w fun e w' => ∃ L', e = .returned (.tuple #[.agg #[.int .i64 (s.getQ x i).1.1, .int .i64 (s.getQ x i).1.2], .int .i64 (s.getQ x i).2.1]) ∧ RRep w' br (s.getQ x i).2.2 L' ∧ Stp (L.foot br) w (L'.foot br) w' := by
  have hol : s.objs.length ≤ 3298534883328 := hb.objs
  have hlt := h.lt
  have hq : s.getQ x i = if (s.element x i (0, 0)).2 = 0 then s.outer ((s.objOf (s.element x i (0, 0)).1).vals.getD i.toNat (0, 0)) else ((0, 0), (s.element x i (0, 0)).2, s) := rfl
  have HQ := hide hq
  have hb0 : Blk (w.alloc (.cells #[.int .i64 0, .int .i64 0] 33)) w.heap.size [.int .i64 0, .int .i64 0] 33 := Blk.new w [.int .i64 0, .int .i64 0] _
  have hc0 : Chg [] w (w.alloc (.cells #[.int .i64 0, .int .i64 0] 33)) := (Chg.refl [] w).alloc _
  have H := hide h; have HI := hide hi; have HB := hide hb; have HS := hide hs; have HLT := hide hlt; have HB0 := hide hb0; have HC0 := hide hc0; clear h hi hb hs hlt hb0 hc0 hq
  go_enter Tryz.func49, Tryz.ntmps49
  go_wp2_with fail
  refine (refNone_any _).mono ?_
  rintro e w1 ⟨rfl, hc1⟩
  have HC1 := hide ((unhide HC0).trans hc1); have HB1 := hide ((unhide HB0).chg hc1 (by simp)); clear hc1 HC0 HB0
  go_wp2_with fail
  refine (refElement_any x i (0, 0) ((unhide H).chg (unhide HC1) (by simp)) (unhide HI) (unhide HB)).mono ?_
  rintro e w2 ⟨rfl, hc2⟩
  have HC2 := hide ((unhide HC1).trans hc2); have HB2 := hide ((unhide HB1).chg hc2 (by simp)); clear hc2 HC1 HB1
  have H2 : Hid (RRep w2 br s L) := (unhide H).chg (unhide HC2) (by simp)
  have hq := unhide HQ
  by_cases hok : (s.element x i (0, 0)).2 = 0
  · obtain ⟨ho, hkd, hi0, hi1⟩ := element_ok (unhide HI) hok
    rw [if_pos hok] at hq
    rw [hok]
    generalize (s.element x i (0, 0)).1 = o at *
    obtain ⟨ob, b, va, vc, go, e1, e2, e3, e4, e5, co, hbo, hv⟩ := (unhide H2).objAt ho
    unfold R.objOf at hq hkd hi1
    rw [e2] at hq hkd hi1
    have hmem := List.mem_of_getElem? e1
    have hsz := (unhide HS).arr ob hmem hkd
    have hvl := (unhide HI).valLen ob hmem
    obtain ⟨j, rfl⟩ := Int.eq_ofNat_of_zero_le hi0
    have hj : j < ob.vals.length := by omega
    have ev := List.getElem?_eq_getElem hj
    obtain ⟨g, hg, _, hc⟩ := owns_at hv (by omega)
    have cv := valCells_at _ _ _ ev
    have cv0 := hc _ _ cv.1
    have cv1 := hc _ _ cv.2
    have hvv := (unhide HI).vals ob hmem _ (List.getElem_mem hj)
    rw [show ob.vals.getD ((j : Int)).toNat (0, 0) = ob.vals[j] from by simp [List.getD, hj]] at hq
    generalize ob.vals[j] = vv at *
    have c4 := (unhide H2).ref.cell_of (i := 4) rfl
    rw [e5] at c4
    have k2 := hbo.cell_of (i := 2) rfl
    rw [hg] at k2
    have hjj : (j : Int) < (ob.vals.length : Int) := by omega
    have hcall := refOuter_any vv (unhide H2) (unhide HI) (unhide HB) (fun h2 => (hvv.2.2 h2).1)
    have HCL := hide hcall; have HFIN := hide hq
    clear hq hok e1 e2 e3 e4 e5 hbo hv hg hc cv hvv hkd hcall hmem hsz ev
    go_wp2_with fail
    refine (unhide HCL).mono ?_
    rintro e w3 ⟨L3, rfl, h3, st3⟩
    obtain ⟨r1, r2, r3, r4⟩ := ret_cell (unhide HLT) (Nat.le_refl _) (unhide HB2) (unhide HC2) st3 h3 (.int .i64 (s.outer vv).1.1) (.int .i64 (s.outer vv).1.2) rfl
    have c0 := r1.cell_of (i := 0) rfl
    have c1 := r1.cell_of (i := 1) rfl
    have f0 := r1.frozen 0
    have f1 := r1.frozen 1
    have q0 := r2.cell_of (i := 0) rfl
    have q1 := r2.cell_of (i := 1) rfl
    have Q0 := hide q0; have Q1 := hide q1; have R3 := hide r3; have R4 := hide r4; clear q0 q1 r1 r2 r3 r4 h3 st3
    go_wp2
    have q0 := unhide Q0
    have q1 := unhide Q1
    exact bodyPost_ret (v := .tuple #[.agg #[.int .i64 (s.outer vv).1.1, .int .i64 (s.outer vv).1.2], .int .i64 (s.outer vv).2.1]) (by simp [results, Tryz.results49, go_sem, q0, q1]) rfl ⟨L3, by rw [unhide HFIN], by rw [unhide HFIN]; exact unhide R3, unhide R4⟩
  · rw [if_neg hok] at hq
    generalize (s.element x i (0, 0)).1 = o at *
    generalize (s.element x i (0, 0)).2 = er at *
    have hne : (er != 0) = true := by simp [hok]
    have HFIN := hide hq; clear hq hok
    go_wp2_with fail
    refine (refNone_any _).mono ?_
    rintro e w3 ⟨rfl, hc3⟩
    obtain ⟨r1, r2, r3, r4⟩ := ret_cell (unhide HLT) (Nat.le_refl _) (unhide HB2) (unhide HC2) (Stp.of_chg hc3) ((unhide H2).chg hc3 (by simp)) (.int .i64 0) (.int .i64 0) rfl
    have c0 := r1.cell_of (i := 0) rfl
    have c1 := r1.cell_of (i := 1) rfl
    have f0 := r1.frozen 0
    have f1 := r1.frozen 1
    have q0 := r2.cell_of (i := 0) rfl
    have q1 := r2.cell_of (i := 1) rfl
    have Q0 := hide q0; have Q1 := hide q1; have R3 := hide r3; have R4 := hide r4; clear q0 q1 r1 r2 r3 r4 hc3
    go_wp2
    have q0 := unhide Q0
    have q1 := unhide Q1
    exact bodyPost_ret (v := .tuple #[.agg #[.int .i64 0, .int .i64 0], .int .i64 er]) (by simp [results, Tryz.results49, go_sem, q0, q1]) rfl ⟨L, by rw [unhide HFIN], by rw [unhide HFIN]; exact unhide R3, unhide R4⟩

def R.keyQ (s : R) (x i : Int) : (Int × Int) × Int × R :=
  if (s.look1 x).2 = 0 then
    (if (s.objOf (s.look1 x).1).kind = 3 then (if i < 0 ∨ ((s.objOf (s.look1 x).1).vals.length : Int) / 2 ≤ i then ((0, 0), 7, s) else s.outer ((s.objOf (s.look1 x).1).vals.getD (2 * i.toNat) (0, 0))) else ((0, 0), 5, s))
  else ((0, 0), (s.look1 x).2, s)

set_option maxRecDepth 100000 in
set_option maxHeartbeats 2000000 in
theorem refKey_any {br : Nat} {s : R} {L : RL} {w : World} (x i : Int) (h : RRep w br s L) (hi : RInv s) (hs : RSh s) (hb : RBd s) :
    Calls Tryz.prog 53 #[.pointer (some ⟨br, 0, none⟩), .int .i64 x, .int .i64 i] w fun e w' => ∃ L', e = .returned (.tuple #[.agg #[.int .i64 (s.keyQ x i).1.1, .int .i64 (s.keyQ x i).1.2], .int .i64 (s.keyQ x i).2.1]) ∧ RRep w' br (s.keyQ x i).2.2 L' ∧ Stp (L.foot br) w (L'.foot br) w' := by
  have hol : s.objs.length ≤ 3298534883328 := hb.objs
  have hlt := h.lt
  have hq : s.keyQ x i = if (s.look x (0, 0) (0, 0) false).2 = 0 then
    (if (s.objOf (s.look x (0, 0) (0, 0) false).1).kind = 3 then (if i < 0 ∨ ((s.objOf (s.look x (0, 0) (0, 0) false).1).vals.length : Int) / 2 ≤ i then ((0, 0), 7, s) else s.outer ((s.objOf (s.look x (0, 0) (0, 0) false).1).vals.getD (2 * i.toNat) (0, 0))) else ((0, 0), 5, s))
    else ((0, 0), (s.look x (0, 0) (0, 0) false).2, s) := rfl
  have HQ := hide hq
  have hb0 : Blk (w.alloc (.cells #[.int .i64 0, .int .i64 0] 33)) w.heap.size [.int .i64 0, .int .i64 0] 33 := Blk.new w [.int .i64 0, .int .i64 0] _
  have hc0 : Chg [] w (w.alloc (.cells #[.int .i64 0, .int .i64 0] 33)) := (Chg.refl [] w).alloc _
  have H := hide h; have HI := hide hi; have HB := hide hb; have HS := hide hs; have HLT := hide hlt; have HB0 := hide hb0; have HC0 := hide hc0; clear h hi hb hs hlt hb0 hc0 hq
  have fin : ∀ (er : Int) (w2 w3 : World), Blk w2 w.heap.size [.int .i64 0, .int .i64 0] 33 → Chg [] w w2 → Chg [] w2 w3 → s.keyQ x i = ((0, 0), er, s) →
      (Blk w3 w.heap.size [.int .i64 0, .int .i64 0] 33 ∧ Blk ((w3.setCell ⟨w.heap.size, 0, none⟩ (.int .i64 0)).setCell ⟨w.heap.size, 1, none⟩ (.int .i64 0)) w.heap.size [.int .i64 0, .int .i64 0] 33) ∧
      ∃ L', Ending.returned (.tuple #[.agg #[.int .i64 0, .int .i64 0], .int .i64 er]) = .returned (.tuple #[.agg #[.int .i64 (s.keyQ x i).1.1, .int .i64 (s.keyQ x i).1.2], .int .i64 (s.keyQ x i).2.1]) ∧ RRep ((w3.setCell ⟨w.heap.size, 0, none⟩ (.int .i64 0)).setCell ⟨w.heap.size, 1, none⟩ (.int .i64 0)) br (s.keyQ x i).2.2 L' ∧ Stp (L.foot br) w (L'.foot br) ((w3.setCell ⟨w.heap.size, 0, none⟩ (.int .i64 0)).setCell ⟨w.heap.size, 1, none⟩ (.int .i64 0)) := by
    intro er w2 w3 b2 k2 k3 hfin
    obtain ⟨r1, r2, r3, r4⟩ := ret_cell (unhide HLT) (Nat.le_refl _) b2 k2 (Stp.of_chg k3) ((unhide H).chg (k2.trans k3) (by simp)) (.int .i64 0) (.int .i64 0) rfl
    exact ⟨⟨r1, r2⟩, L, by rw [hfin], by rw [hfin]; exact r3, r4⟩
  have FIN := hide fin; clear fin
  go_enter Tryz.func53, Tryz.ntmps53
  go_wp2_with fail
  refine (refNone_any _).mono ?_
  rintro e w1 ⟨rfl, hc1⟩
  have HC1 := hide ((unhide HC0).trans hc1); have HB1 := hide ((unhide HB0).chg hc1 (by simp)); clear hc1 HC0 HB0
  go_wp2_with fail
  refine (refNone_any _).mono ?_
  rintro e w1b ⟨rfl, hc1⟩
  have HC1b := hide ((unhide HC1).trans hc1); have HB1b := hide ((unhide HB1).chg hc1 (by simp)); clear hc1 HC1 HB1
  go_wp2_with fail
  refine (refLook_any x (0, 0) (0, 0) false ((unhide H).chg (unhide HC1b) (by simp)) (unhide HB)).mono ?_
  rintro e w2 ⟨rfl, hc2⟩
  have HC2 := hide ((unhide HC1b).trans hc2); have HB2 := hide ((unhide HB1b).chg hc2 (by simp)); clear hc2 HC1b HB1b
  have H2 : Hid (RRep w2 br s L) := (unhide H).chg (unhide HC2) (by simp)
  have hq := unhide HQ
  by_cases hok : (s.look x (0, 0) (0, 0) false).2 = 0
  · have ho := look_ok (unhide HI) hok
    rw [if_pos hok] at hq
    rw [hok]
    generalize (s.look x (0, 0) (0, 0) false).1 = o at *
    obtain ⟨ob, b, va, vc, go, e1, e2, e3, e4, e5, co, hbo, hv⟩ := (unhide H2).objAt ho
    unfold R.objOf at hq
    rw [e2] at hq
    have hmem := List.mem_of_getElem? e1
    have hvl := (unhide HI).valLen ob hmem
    have c4 := (unhide H2).ref.cell_of (i := 4) rfl
    rw [e5] at c4
    have k0 := hbo.cell_of (i := 0) rfl
    have k2 := hbo.cell_of (i := 2) rfl
    by_cases hkd : ob.kind = 3
    · rw [if_pos hkd] at hq
      have hb3 : (ob.kind != 3) = false := by simp [hkd]
      by_cases hneg : i < 0
      · rw [if_pos (.inl hneg)] at hq
        have HFIN := hide hq; clear hq hok e1 e2 e3 e4 e5 hbo hv hkd hmem
        go_wp2_with fail
        refine (refNone_any _).mono ?_
        rintro e w3 ⟨rfl, hc3⟩
        obtain ⟨⟨r1, r2⟩, r3⟩ := unhide FIN 7 w2 w3 (unhide HB2) (unhide HC2) hc3 (unhide HFIN)
        have c0 := r1.cell_of (i := 0) rfl
        have c1 := r1.cell_of (i := 1) rfl
        have f0 := r1.frozen 0
        have f1 := r1.frozen 1
        have R2 := hide r2; have R3 := hide r3; clear r1 r2 r3 hc3
        go_wp2
        have q0 := (unhide R2).cell_of (i := 0) rfl
        have q1 := (unhide R2).cell_of (i := 1) rfl
        exact bodyPost_ret (v := .tuple #[.agg #[.int .i64 0, .int .i64 0], .int .i64 7]) (by simp [results, Tryz.results53, go_sem, q0, q1]) rfl (unhide R3)
      · by_cases hge : (ob.vals.length : Int) / 2 ≤ i
        · rw [if_pos (.inr hge)] at hq
          have HFIN := hide hq; clear hq hok e1 e2 e3 e4 e5 hbo hv hkd hmem
          go_wp2_with fail
          refine (refNone_any _).mono ?_
          rintro e w3 ⟨rfl, hc3⟩
          obtain ⟨⟨r1, r2⟩, r3⟩ := unhide FIN 7 w2 w3 (unhide HB2) (unhide HC2) hc3 (unhide HFIN)
          have c0 := r1.cell_of (i := 0) rfl
          have c1 := r1.cell_of (i := 1) rfl
          have f0 := r1.frozen 0
          have f1 := r1.frozen 1
          have R2 := hide r2; have R3 := hide r3; clear r1 r2 r3 hc3
          go_wp2
          have q0 := (unhide R2).cell_of (i := 0) rfl
          have q1 := (unhide R2).cell_of (i := 1) rfl
          exact bodyPost_ret (v := .tuple #[.agg #[.int .i64 0, .int .i64 0], .int .i64 7]) (by simp [results, Tryz.results53, go_sem, q0, q1]) rfl (unhide R3)
        · rw [if_neg (by omega)] at hq
          obtain ⟨j, rfl⟩ := Int.eq_ofNat_of_zero_le (show 0 ≤ i by omega)
          have hj : 2 * j < ob.vals.length := by omega
          have ev := List.getElem?_eq_getElem hj
          obtain ⟨g, hg, _, hc⟩ := owns_at hv (by omega)
          have cv := valCells_at _ _ _ ev
          have cv0 := hc _ _ cv.1
          have cv1 := hc _ _ cv.2
          have hvv := (unhide HI).vals ob hmem _ (List.getElem_mem hj)
          rw [show ob.vals.getD (2 * ((j : Int)).toNat) (0, 0) = ob.vals[2 * j] from by simp [List.getD, hj]] at hq
          generalize ob.vals[2 * j] = vv at *
          rw [hg] at k2
          have hjj : 2 * (j : Int) < (ob.vals.length : Int) := by omega
          have hj2 : (j : Int) < (ob.vals.length : Int) / 2 := by omega
          have hcall := refOuter_any vv (unhide H2) (unhide HI) (unhide HB) (fun h2 => (hvv.2.2 h2).1)
          have HCL := hide hcall; have HFIN := hide hq
          clear hq hok e1 e2 e3 e4 e5 hbo hv hg hc cv hvv hkd hcall hmem ev
          go_wp2_with fail
          refine (unhide HCL).mono ?_
          rintro e w3 ⟨L3, rfl, h3, st3⟩
          obtain ⟨r1, r2, r3, r4⟩ := ret_cell (unhide HLT) (Nat.le_refl _) (unhide HB2) (unhide HC2) st3 h3 (.int .i64 (s.outer vv).1.1) (.int .i64 (s.outer vv).1.2) rfl
          have c0 := r1.cell_of (i := 0) rfl
          have c1 := r1.cell_of (i := 1) rfl
          have f0 := r1.frozen 0
          have f1 := r1.frozen 1
          have R2 := hide r2; have R3 := hide r3; have R4 := hide r4; clear r1 r2 r3 r4 h3 st3
          go_wp2
          have q0 := (unhide R2).cell_of (i := 0) rfl
          have q1 := (unhide R2).cell_of (i := 1) rfl
          exact bodyPost_ret (v := .tuple #[.agg #[.int .i64 (s.outer vv).1.1, .int .i64 (s.outer vv).1.2], .int .i64 (s.outer vv).2.1]) (by simp [results, Tryz.results53, go_sem, q0, q1]) rfl ⟨L3, by rw [unhide HFIN], by rw [unhide HFIN]; exact unhide R3, unhide R4⟩
    · rw [if_neg hkd] at hq
      have hb3 : (ob.kind != 3) = true := by simp [hkd]
      have HFIN := hide hq; clear hq hok e1 e2 e3 e4 e5 hbo hv hkd hmem
      go_wp2_with fail
      refine (refNone_any _).mono ?_
      rintro e w3 ⟨rfl, hc3⟩
      obtain ⟨⟨r1, r2⟩, r3⟩ := unhide FIN 5 w2 w3 (unhide HB2) (unhide HC2) hc3 (unhide HFIN)
      have c0 := r1.cell_of (i := 0) rfl
      have c1 := r1.cell_of (i := 1) rfl
      have f0 := r1.frozen 0
      have f1 := r1.frozen 1
      have R2 := hide r2; have R3 := hide r3; clear r1 r2 r3 hc3
      go_wp2
      have q0 := (unhide R2).cell_of (i := 0) rfl
      have q1 := (unhide R2).cell_of (i := 1) rfl
      exact bodyPost_ret (v := .tuple #[.agg #[.int .i64 0, .int .i64 0], .int .i64 5]) (by simp [results, Tryz.results53, go_sem, q0, q1]) rfl (unhide R3)
  · rw [if_neg hok] at hq
    generalize (s.look x (0, 0) (0, 0) false).1 = o at *
    generalize (s.look x (0, 0) (0, 0) false).2 = er at *
    have hne : (er != 0) = true := by simp [hok]
    have HFIN := hide hq; clear hq hok
    go_wp2_with fail
    refine (refNone_any _).mono ?_
    rintro e w3 ⟨rfl, hc3⟩
    obtain ⟨⟨r1, r2⟩, r3⟩ := unhide FIN er w2 w3 (unhide HB2) (unhide HC2) hc3 (unhide HFIN)
    have c0 := r1.cell_of (i := 0) rfl
    have c1 := r1.cell_of (i := 1) rfl
    have f0 := r1.frozen 0
    have f1 := r1.frozen 1
    have R2 := hide r2; have R3 := hide r3; clear r1 r2 r3 hc3
    go_wp2
    have q0 := (unhide R2).cell_of (i := 0) rfl
    have q1 := (unhide R2).cell_of (i := 1) rfl
    exact bodyPost_ret (v := .tuple #[.agg #[.int .i64 0, .int .i64 0], .int .i64 er]) (by simp [results, Tryz.results53, go_sem, q0, q1]) rfl (unhide R3)
end Go.Proofs.YtfoncalkgmeklaaGreat

/- Set of the document's heap: P7. -/
namespace Go.Proofs.YtfoncalkgmeklaaGreat
open Go.RowKit

/-- One object's list becomes another. -/
def R.setObj (s : R) (o : Nat) (ob : RObj) : R := { s with objs := s.objs.set o ob }
theorem RRep.setObj {w w' : World} {br : Nat} {s : R} {L : RL} (h : RRep w br s L) {o : Nat} {ob ob' : RObj} {b : Nat} {va va' : Option Addr} {vc vc' : Nat} (e1 : s.objs[o]? = some ob) (e2 : L.obs[o]? = some b) (e3 : L.vas[o]? = some (va, vc))
    (k : Chg (b :: ab va) w w') (hb : Blk w' b (objCells ob' (.slice va' ob'.vals.length vc')) 72) (hv : w'.ownsRow 0 33 2 (.slice va' ob'.vals.length vc') ob'.vals.length (valCells ob'.vals))
    (hn : ∀ x ∈ ab va', x ∈ ab va ∨ w.heap.size ≤ x) :
    RRep w' br (s.setObj o ob') { L with vas := L.vas.set o (va', vc') } ∧ Stp (L.foot br) w (({ L with vas := L.vas.set o (va', vc') } : RL).foot br) w' := by
  obtain ⟨hbo, hvo⟩ := h.obj o ob b (va, vc) e1 e2 e3
  have hS : ∀ x ∈ b :: ab va, Ty w x 72 ∨ Ty w x 33 := by
    intro x hx
    rcases List.mem_cons.1 hx with rfl | hx
    · exact .inl hbo.ty
    · exact .inr (owns_ty hvo x hx)
  have hol := h.olen
  have hvl := h.vlen
  have hoL : o < s.objs.length := (List.getElem?_eq_some_iff.1 e1).1
  have hlen : (s.setObj o ob').objs.length = s.objs.length := by simp [R.setObj]
  refine ⟨⟨?_, owns_chg_ty h.flags k (not_ty hS (by decide) (by decide)), ?_, owns_chg_ty h.row k (not_ty hS (by decide) (by decide)), owns_chg_ty h.handles k (not_ty hS (by decide) (by decide)), by simpa [R.setObj] using hvl, ?_, h.onodup, ?_⟩, ⟨k.mono ?_, ?_⟩⟩
  · rw [hlen]; exact h.ref.chg_ty k (not_ty hS (by decide) (by decide))
  · rw [hlen]; exact owns_chg_ty h.objs k (not_ty hS (by decide) (by decide))
  · intro i oi bi vi h1 h2 h3
    by_cases hi : i = o
    · subst hi
      simp only [R.setObj, List.getElem?_set_self hoL, Option.some.injEq] at h1
      simp only [List.getElem?_set_self (show i < L.vas.length by omega), Option.some.injEq] at h3
      rw [e2] at h2
      simp only [Option.some.injEq] at h2
      subst h1 h2 h3
      exact ⟨hb, hv⟩
    · simp only [R.setObj, List.getElem?_set_ne (Ne.symm hi)] at h1
      simp only [List.getElem?_set_ne (Ne.symm hi)] at h3
      obtain ⟨x1, x2⟩ := h.obj i oi bi vi h1 h2 h3
      refine ⟨x1.chg k (fun hm => ?_), owns_chg x2 k (fun g hg hm => ?_)⟩
      · rcases List.mem_cons.1 hm with rfl | hm
        · exact hi ((List.getElem?_inj (List.getElem?_eq_some_iff.1 h2).1 h.onodup).1 (h2.trans e2.symm))
        · exact x1.ty.ne (by decide) (owns_ty hvo _ hm)
      · have hgv := ownBlock_ab hg
        rcases List.mem_cons.1 hm with rfl | hm
        · exact (owns_ty x2 g hgv).ne (by decide) hbo.ty
        · obtain ⟨a1, ha1, rfl⟩ : ∃ a1, vi.1 = some a1 ∧ a1.block = g := by
            cases hq : vi.1 with
            | none => rw [hq] at hgv; simp [ab] at hgv
            | some z => rw [hq] at hgv; simp [ab] at hgv; exact ⟨z, rfl, hgv.symm⟩
          obtain ⟨a2, ha2, hab⟩ : ∃ a2, va = some a2 ∧ a2.block = a1.block := by
            cases hq : va with
            | none => rw [hq] at hm; simp [ab] at hm
            | some z => rw [hq] at hm; simp [ab] at hm; exact ⟨z, rfl, hm.symm⟩
          exact hi (h.vnodup i o vi (va, vc) a1 a2 h3 e3 ha1 ha2 hab.symm)
  · intro i j u v a c h1 h2 ha hc hac
    by_cases hi : i = o
    · by_cases hj : j = o
      · omega
      · subst hi
        simp only [List.getElem?_set_self (show i < L.vas.length by omega), Option.some.injEq] at h1
        simp only [List.getElem?_set_ne (Ne.symm hj)] at h2
        subst h1
        rcases hn a.block (mem_ab ha) with h8 | h8
        · obtain ⟨a2, ha2, hab⟩ : ∃ a2, va = some a2 ∧ a2.block = a.block := by
            cases hq : va with
            | none => rw [hq] at h8; simp [ab] at h8
            | some z => rw [hq] at h8; simp [ab] at h8; exact ⟨z, rfl, h8.symm⟩
          exact h.vnodup i j (va, vc) v a2 c e3 h2 ha2 hc (hab.trans hac)
        · have := h.lt c.block (foot_vas (List.mem_of_getElem? h2) (mem_ab hc))
          omega
    · simp only [List.getElem?_set_ne (Ne.symm hi)] at h1
      by_cases hj : j = o
      · subst hj
        simp only [List.getElem?_set_self (show j < L.vas.length by omega), Option.some.injEq] at h2
        subst h2
        rcases hn c.block (mem_ab hc) with h8 | h8
        · obtain ⟨a2, ha2, hab⟩ : ∃ a2, va = some a2 ∧ a2.block = c.block := by
            cases hq : va with
            | none => rw [hq] at h8; simp [ab] at h8
            | some z => rw [hq] at h8; simp [ab] at h8; exact ⟨z, rfl, h8.symm⟩
          exact h.vnodup i j u (va, vc) a a2 h1 e3 ha ha2 (hac.trans hab.symm)
        · have := h.lt a.block (foot_vas (List.mem_of_getElem? h1) (mem_ab ha))
          omega
      · simp only [List.getElem?_set_ne (Ne.symm hj)] at h2
        exact h.vnodup i j u v a c h1 h2 ha hc hac
  · intro x hx
    rcases List.mem_cons.1 hx with rfl | hx
    · exact foot_obs (List.mem_of_getElem? e2)
    · exact foot_vas (List.mem_of_getElem? e3) hx
  · refine foot_sub (fun b hb => .inl (foot_fa hb)) (fun b hb => .inl (foot_oa hb)) (fun b hb => .inl (foot_ra hb)) (fun b hb => .inl (foot_ha hb)) (fun b hb => .inl (foot_obs hb)) (fun v hv x hx => ?_)
    rcases List.mem_or_eq_of_mem_set hv with h8 | h8
    · exact .inl (foot_vas h8 hx)
    · subst h8
      rcases hn x hx with h9 | h9
      · exact .inl (foot_vas (List.mem_of_getElem? e3) h9)
      · exact .inr h9

def R.setQ (s : R) (x i : Int) (v : Int × Int) : Int × R :=
  if (s.element x i v).2 = 0 then (0, s.setObj (s.element x i v).1 { s.objOf (s.element x i v).1 with vals := (s.objOf (s.element x i v).1).vals.set i.toNat (s.inner v) }) else ((s.element x i v).2, s)

theorem valCells_set : ∀ (l : List (Int × Int)) (j : Nat) (v : Int × Int), j < l.length → ((valCells l).set (j * 2) (.int .i64 v.1)).set (j * 2 + 1) (.int .i64 v.2) = valCells (l.set j v)
  | [], j, v, h => by simp at h
  | x :: r, 0, v, h => by simp [valCells]
  | x :: r, j + 1, v, h => by
    have ih := valCells_set r j v (by simpa using h)
    have e0 : (j + 1) * 2 = j * 2 + 1 + 1 := by omega
    have e1 : (j + 1) * 2 + 1 = j * 2 + 1 + 1 + 1 := by omega
    rw [e1, e0]
    simp only [valCells, List.set_cons_succ]
    rw [ih]

/-- A value is stored in an object's list. -/
theorem RRep.setVal {w : World} {br : Nat} {s : R} {L : RL} (h : RRep w br s L) {o : Nat} {ob : RObj} {b g : Nat} {vc : Nat} (e1 : s.objs[o]? = some ob) (e2 : L.obs[o]? = some b) (e3 : L.vas[o]? = some (some ⟨g, 0, none⟩, vc)) {j : Nat} (hj : j < ob.vals.length) (v : Int × Int) :
    RRep ((w.setCell ⟨g, j * 2, none⟩ (.int .i64 v.1)).setCell ⟨g, j * 2 + 1, none⟩ (.int .i64 v.2)) br (s.setObj o { ob with vals := ob.vals.set j v }) L ∧
      Stp (L.foot br) w (L.foot br) ((w.setCell ⟨g, j * 2, none⟩ (.int .i64 v.1)).setCell ⟨g, j * 2 + 1, none⟩ (.int .i64 v.2)) := by
  obtain ⟨hbo, hvo⟩ := h.obj o ob b (some ⟨g, 0, none⟩, vc) e1 e2 e3
  have k : Chg [g] w ((w.setCell ⟨g, j * 2, none⟩ (.int .i64 v.1)).setCell ⟨g, j * 2 + 1, none⟩ (.int .i64 v.2)) := ((Chg.refl _ w).setCell (.inl (by simp)) _).setCell (.inl (by simp)) _
  have hgt : Ty w g 33 := owns_ty hvo g (by simp [ab])
  obtain ⟨rest, hblk, hn1, hn2, hn3, _⟩ := owns_blk hvo
  have hL : L.vas.set o (some ⟨g, 0, none⟩, vc) = L.vas := by
    obtain ⟨hlt, he⟩ := List.getElem?_eq_some_iff.1 e3
    rw [← he, List.set_getElem_self]
  have hlen : (valCells ob.vals).length = ob.vals.length * 2 := length_valCells _
  have hblk2 := (hblk.setCell (j * 2) (.int .i64 v.1)).setCell (j * 2 + 1) (.int .i64 v.2)
  rw [List.set_append_left _ _ (by omega), List.set_append_left _ _ (by simp; omega), valCells_set _ _ _ hj] at hblk2
  have hl2 : (valCells (ob.vals.set j v)).length = ob.vals.length * 2 := by rw [length_valCells]; simp
  have hown := hblk2.owns (size := 2) (base := 0) (n := ob.vals.length) (cap := vc) (Nat.zero_le _) hn1 hn2 (by
    have : (valCells ob.vals ++ rest).length = vc * 2 := hn3
    simp only [List.length_append] at this ⊢
    omega)
  rw [← hl2, List.take_left] at hown
  have hbk := hbo.chg k (fun hm => by
    simp at hm
    subst hm
    exact hbo.ty.ne (by decide) hgt)
  have := h.setObj (ob' := { ob with vals := ob.vals.set j v }) (va' := some ⟨g, 0, none⟩) (vc' := vc) e1 e2 e3 (k.mono (by simp [ab])) (by simpa [objCells] using hbk) (by simpa using hown) (fun x hx => .inl hx)
  rw [hL] at this
  exact this

theorem look_vals {s : R} {x : Int} {k v : Int × Int} {key : Bool} (h : (s.look x k v key).2 = 0) : R.badValue k v key = false ∧ (k.1 = 2 → (s.find? k.2).isSome = true) ∧ (v.1 = 2 → (s.find? v.2).isSome = true) ∧ s.dead = false := by
  unfold R.look at h
  split at h
  · simp at h
  · rename_i hd
    split at h
    · simp at h
    · rename_i hbv
      split at h
      · simp at h
      · split at h
        · simp at h
        · rename_i hst
          refine ⟨by simpa using hbv, fun h2 => ?_, fun h2 => ?_, by simpa using hd⟩
          · cases hq : s.find? k.2 with
            | none => simp [R.stale, h2, hq] at hst
            | some a => rfl
          · cases hq : s.find? v.2 with
            | none => simp [R.stale, h2, hq] at hst
            | some a => rfl
theorem element_look {s : R} {x i : Int} {v : Int × Int} (h : (s.element x i v).2 = 0) : (s.look x (0, 0) v false).2 = 0 := by
  unfold R.element at h
  split at h
  · assumption
  · exact h

set_option maxRecDepth 100000 in
set_option maxHeartbeats 2000000 in
theorem refSet_any {br : Nat} {s : R} {L : RL} {w : World} (x i : Int) (v : Int × Int) (h : RRep w br s L) (hi : RInv s) (hs : RSh s) (hb : RBd s) :
    Calls Tryz.prog 55 #[.pointer (some ⟨br, 0, none⟩), .int .i64 x, .int .i64 i, .agg #[.int .i64 v.1, .int .i64 v.2]] w fun e w' => ∃ L', e = .returned (.int .i64 (s.setQ x i v).1) ∧ RRep w' br (s.setQ x i v).2 L' ∧ Stp (L.foot br) w (L'.foot br) w' := by
  have hol : s.objs.length ≤ 3298534883328 := hb.objs
  have hlt := h.lt
  have hq : s.setQ x i v = if (s.element x i v).2 = 0 then (0, s.setObj (s.element x i v).1 { s.objOf (s.element x i v).1 with vals := (s.objOf (s.element x i v).1).vals.set i.toNat (s.inner v) }) else ((s.element x i v).2, s) := rfl
  have HQ := hide hq
  have hc0 : Chg [] w (w.alloc (.cells #[.int .i64 v.1, .int .i64 v.2] 33)) := (Chg.refl [] w).alloc _
  have hb0 : Blk (w.alloc (.cells #[.int .i64 v.1, .int .i64 v.2] 33)) w.heap.size [.int .i64 v.1, .int .i64 v.2] 33 := Blk.new w [.int .i64 v.1, .int .i64 v.2] _
  have H := hide h; have HI := hide hi; have HB := hide hb; have HS := hide hs; have HLT := hide hlt; have HB0 := hide hb0; have HC0 := hide hc0; clear h hi hb hs hlt hb0 hc0 hq
  go_enter Tryz.func55, Tryz.ntmps55
  go_wp2_with fail
  refine (refElement_any x i v ((unhide H).chg (unhide HC0) (by simp)) (unhide HI) (unhide HB)).mono ?_
  rintro e w2 ⟨rfl, hc2⟩
  have HC2 := hide ((unhide HC0).trans hc2); have HB2 := hide ((unhide HB0).chg hc2 (by simp)); clear hc2 HC0 HB0
  have hq := unhide HQ
  by_cases hok : (s.element x i v).2 = 0
  · obtain ⟨ho, hkd, hi0, hi1⟩ := element_ok (unhide HI) hok
    have hlv := (look_vals (element_look hok)).2.2.1
    rw [if_pos hok] at hq
    rw [hok]
    have h2 : RRep w2.drew br s L := (unhide H).chg (unhide HC2).drew (by simp)
    generalize (s.element x i v).1 = o at *
    obtain ⟨ob, b, va, vc, go, e1, e2, e3, e4, e5, co, hbo, hv⟩ := h2.objAt ho
    unfold R.objOf at hq hkd hi1
    rw [e2] at hq hkd hi1
    have hmem := List.mem_of_getElem? e1
    have hsz := (unhide HS).arr ob hmem hkd
    have hvl := (unhide HI).valLen ob hmem
    obtain ⟨j, rfl⟩ := Int.eq_ofNat_of_zero_le hi0
    have hj : j < ob.vals.length := by omega
    obtain ⟨g, hg, hgl, hcc⟩ := owns_at hv (by omega)
    subst hg
    have c4 := h2.ref.cell_of (i := 4) rfl
    rw [e5] at c4
    have k2 := hbo.cell_of (i := 2) rfl
    have hjj : (j : Int) < (ob.vals.length : Int) := by omega
    have hcall := refInner_any v h2 (unhide HB) hlv
    have cb0 := (unhide HB2).cell_of (i := 0) rfl
    have cb1 := (unhide HB2).cell_of (i := 1) rfl
    rw [Int.toNat_natCast] at hq
    have hend : Hid (∀ w3, Chg [] w2.drew w3 → ∀ v' : Int × Int, RRep ((w3.setCell ⟨g, j * 2, none⟩ (.int .i64 v'.1)).setCell ⟨g, j * 2 + 1, none⟩ (.int .i64 v'.2)) br (s.setObj o { ob with vals := ob.vals.set j v' }) L ∧ Stp (L.foot br) w (L.foot br) ((w3.setCell ⟨g, j * 2, none⟩ (.int .i64 v'.1)).setCell ⟨g, j * 2 + 1, none⟩ (.int .i64 v'.2))) := by
      intro w3 c3 v'
      have h3 : RRep w3 br s L := h2.chg c3 (by simp)
      obtain ⟨r1, r2⟩ := h3.setVal e1 e3 e4 hj v'
      exact ⟨r1, (Stp.of_chg ((unhide HC2).drew.trans c3)).trans r2⟩
    have hvals : Hid (∀ w3, Chg [] w2.drew w3 → ∃ u0 u1, w3.cell? ⟨g, j * 2, none⟩ = some u0 ∧ w3.cell? ⟨g, j * 2 + 1, none⟩ = some u1 ∧ w3.frozen? ⟨g, j * 2, none⟩ = false ∧ w3.frozen? ⟨g, j * 2 + 1, none⟩ = false) := by
      intro w3 c3
      have h3 := owns_chg hv c3 (by simp)
      obtain ⟨rest, hblk, _⟩ := owns_blk h3
      have cv := valCells_at _ _ _ (List.getElem?_eq_getElem hj)
      obtain ⟨g', hg', _, hcc'⟩ := owns_at h3 (by omega)
      simp only [Option.some.injEq, Addr.mk.injEq] at hg'
      obtain ⟨rfl, _⟩ := hg'
      exact ⟨_, _, hcc' _ _ cv.1, hcc' _ _ cv.2, hblk.frozen _, hblk.frozen _⟩
    have hkp : Hid (∀ w3, Chg [] w2.drew w3 → Hid ((w3.cell? ⟨br, 4, none⟩ = some (.slice (some ⟨go, 0, none⟩) s.objs.length L.oc) ∧ w3.cell? ⟨go, o, none⟩ = some (.pointer (some ⟨b, 0, none⟩)) ∧ w3.cell? ⟨b, 2, none⟩ = some (.slice (some ⟨g, 0, none⟩) ob.vals.length vc) ∧ w3.cell? ⟨w.heap.size, 0, none⟩ = some (.int .i64 v.1) ∧ w3.cell? ⟨w.heap.size, 1, none⟩ = some (.int .i64 v.2)) ∧
        ∀ (p q : Nat) (u u' : Value), let w4 := (w3.setCell ⟨g, p, none⟩ u).setCell ⟨g, q, none⟩ u'; (w4.cell? ⟨br, 4, none⟩ = some (.slice (some ⟨go, 0, none⟩) s.objs.length L.oc) ∧ w4.cell? ⟨go, o, none⟩ = some (.pointer (some ⟨b, 0, none⟩)) ∧ w4.cell? ⟨b, 2, none⟩ = some (.slice (some ⟨g, 0, none⟩) ob.vals.length vc) ∧ w4.cell? ⟨w.heap.size, 0, none⟩ = some (.int .i64 v.1) ∧ w4.cell? ⟨w.heap.size, 1, none⟩ = some (.int .i64 v.2)))) := by
      intro w3 c3
      have hgf : g ∈ L.foot br := foot_vas (List.mem_of_getElem? e4) (by simp [ab])
      have hgT : Ty w2.drew g 33 := owns_ty hv g (by simp [ab])
      have n1 : br ≠ g := fun e => (e ▸ h2.ref.ty : Ty w2.drew g 53).ne (by decide) hgT
      have n2 : go ≠ g := fun e => (owns_ty h2.objs go (mem_ab e5)).ne (by decide) (e ▸ hgT)
      have n3 : b ≠ g := fun e => (e ▸ hbo.ty : Ty w2.drew g 72).ne (by decide) hgT
      have n4 : w.heap.size ≠ g := fun e => by have := unhide HLT g hgf; omega
      have d1 : w3.cell? ⟨br, 4, none⟩ = some (.slice (some ⟨go, 0, none⟩) s.objs.length L.oc) := cell_chg0 c3 c4
      have d2 : w3.cell? ⟨go, o, none⟩ = some (.pointer (some ⟨b, 0, none⟩)) := cell_chg0 c3 co
      have d3 : w3.cell? ⟨b, 2, none⟩ = some (.slice (some ⟨g, 0, none⟩) ob.vals.length vc) := cell_chg0 c3 k2
      have d4 : w3.cell? ⟨w.heap.size, 0, none⟩ = some (.int .i64 v.1) := cell_chg0 c3 cb0
      have d5 : w3.cell? ⟨w.heap.size, 1, none⟩ = some (.int .i64 v.2) := cell_chg0 c3 cb1
      refine ⟨⟨d1, d2, d3, d4, d5⟩, fun p q u u' => ?_⟩
      have kk : Chg [g] w3 ((w3.setCell ⟨g, p, none⟩ u).setCell ⟨g, q, none⟩ u') := ((Chg.refl _ w3).setCell (.inl (by simp)) _).setCell (.inl (by simp)) _
      have mv : ∀ {a : Addr} {z : Value}, a.block ≠ g → w3.cell? a = some z → ((w3.setCell ⟨g, p, none⟩ u).setCell ⟨g, q, none⟩ u').cell? a = some z := fun hne hz => by rw [kk.cell (cell_lt hz) (by simpa using hne)]; exact hz
      exact ⟨mv n1 d1, mv n2 d2, mv n3 d3, mv n4 d4, mv n4 d5⟩
    have HCL := hide hcall; have HFIN := hide hq
    clear hq hok e1 e2 e3 e4 e5 hbo hv hcc hkd hcall hmem hsz h2 hlv hi0 hi1
    go_wp2_with fail
    go_region_held3 (fun w' => w'.cell? ⟨br, 4, none⟩ = some (.slice (some ⟨go, 0, none⟩) s.objs.length L.oc) ∧ w'.cell? ⟨go, o, none⟩ = some (.pointer (some ⟨b, 0, none⟩)) ∧ w'.cell? ⟨b, 2, none⟩ = some (.slice (some ⟨g, 0, none⟩) ob.vals.length vc) ∧ w'.cell? ⟨w.heap.size, 0, none⟩ = some (.int .i64 v.1) ∧ w'.cell? ⟨w.heap.size, 1, none⟩ = some (.int .i64 v.2)) (first | go_keep | assumption | (apply (unhide hkeep).2)) ((go_at_call 100; refine (unhide HCL).mono ?_; rintro e w3 ⟨rfl, hc3⟩; obtain ⟨u0, u1, cu0, cu1, fu0, fu1⟩ := unhide hvals w3 hc3; have hkeep := unhide hkp w3 hc3; have hk3 := (unhide hkeep).1; have HC3 := hide hc3; clear hc3))
    go_wp2
    go_ret
    exact ⟨L, by rw [unhide HFIN]; rfl, by rw [unhide HFIN]; exact (unhide hend w3 (unhide HC3) (s.inner v)).1, (unhide hend w3 (unhide HC3) (s.inner v)).2⟩
  · rw [if_neg hok] at hq
    generalize (s.element x i v).1 = o at *
    generalize (s.element x i v).2 = er at *
    have hne : (er != 0) = true := by simp [hok]
    have HFIN := hide hq; clear hq hok
    go_wp2
    go_ret
    exact ⟨L, by rw [unhide HFIN]; rfl, by rw [unhide HFIN]; exact (unhide H).chg (unhide HC2) (by simp), Stp.of_chg (unhide HC2)⟩
end Go.Proofs.YtfoncalkgmeklaaGreat

/- Find of the document's heap, and where a table has a key: P8. -/
namespace Go.Proofs.YtfoncalkgmeklaaGreat
open Go.RowKit

/-- Where in a table's list a key stands (its length: nowhere). -/
def keyPos (w : Int × Int) : List (Int × Int) → Nat
  | [] => 0
  | [a] => if a = w then 0 else 2
  | a :: _ :: r => if a = w then 0 else keyPos w r + 2
theorem keyPos_step {w : Int × Int} {l : List (Int × Int)} {k : Nat} {a : Int × Int} (h : l[k]? = some a) (ha : a ≠ w) : keyPos w (l.drop k) = keyPos w (l.drop (k + 2)) + 2 := by
  obtain ⟨hk, rfl⟩ := List.getElem?_eq_some_iff.1 h
  rw [List.drop_eq_getElem_cons hk]
  cases hd : l.drop (k + 1) with
  | nil =>
    have : l.drop (k + 2) = [] := by
      rw [List.drop_eq_nil_iff] at hd ⊢; omega
    rw [this]
    simp [keyPos, ha]
  | cons b r =>
    have : l.drop (k + 2) = r := by
      rw [show k + 2 = (k + 1) + 1 from rfl, ← List.drop_drop, hd]; rfl
    rw [this]
    simp [keyPos, ha]
theorem keyPos_here {w : Int × Int} {l : List (Int × Int)} {k : Nat} (h : l[k]? = some w) : keyPos w (l.drop k) = 0 := by
  obtain ⟨hk, rfl⟩ := List.getElem?_eq_some_iff.1 h
  rw [List.drop_eq_getElem_cons hk]
  cases l.drop (k + 1) <;> simp [keyPos]

def R.table (s : R) (x : Int) (k v : Int × Int) : Nat × Nat × Int :=
  if (s.look x k v true).2 = 0 then
    (if (s.objOf (s.look x k v true).1).kind = 3 then ((s.look x k v true).1, keyPos (s.inner k) (s.objOf (s.look x k v true).1).vals, 0) else (0, 0, 5))
  else (0, 0, (s.look x k v true).2)

set_option maxRecDepth 100000 in
set_option maxHeartbeats 2000000 in
theorem refTableAt_any {br : Nat} {s : R} {L : RL} {w : World} (x : Int) (k v : Int × Int) (h : RRep w br s L) (hi : RInv s) (hs : RSh s) (hb : RBd s) :
    Calls Tryz.prog 95 #[.pointer (some ⟨br, 0, none⟩), .int .i64 x, .agg #[.int .i64 k.1, .int .i64 k.2], .agg #[.int .i64 v.1, .int .i64 v.2]] w fun e w' =>
      ((s.table x k v).2.2 = 0 → ∃ b, L.obs[(s.table x k v).1]? = some b ∧ e = .returned (.tuple #[.pointer (some ⟨b, 0, none⟩), .int .i64 (s.table x k v).2.1, .int .i64 0])) ∧
      ((s.table x k v).2.2 ≠ 0 → e = .returned (.tuple #[.pointer none, .int .i64 0, .int .i64 (s.table x k v).2.2])) ∧ Chg [] w w' := by
  have hol : s.objs.length ≤ 3298534883328 := hb.objs
  have hq : s.table x k v = if (s.look x k v true).2 = 0 then
    (if (s.objOf (s.look x k v true).1).kind = 3 then ((s.look x k v true).1, keyPos (s.inner k) (s.objOf (s.look x k v true).1).vals, 0) else (0, 0, 5))
    else (0, 0, (s.look x k v true).2) := rfl
  have hc0 : Chg [] w ((w.alloc (.cells #[.int .i64 k.1, .int .i64 k.2] 33)).alloc (.cells #[.int .i64 v.1, .int .i64 v.2] 33)) := ((Chg.refl [] w).alloc _).alloc _
  have hb0 : Blk ((w.alloc (.cells #[.int .i64 k.1, .int .i64 k.2] 33)).alloc (.cells #[.int .i64 v.1, .int .i64 v.2] 33)) w.heap.size [.int .i64 k.1, .int .i64 k.2] 33 := (Blk.new w [.int .i64 k.1, .int .i64 k.2] _).alloc _
  have H := hide h; have HI := hide hi; have HB := hide hb; have HS := hide hs; have HB0 := hide hb0; have HC0 := hide hc0; have HQ := hide hq; clear h hi hb hs hb0 hc0 hq
  go_enter Tryz.func95, Tryz.ntmps95
  go_wp2_with fail
  refine (refLook_any x k v true ((unhide H).chg (unhide HC0) (by simp)) (unhide HB)).mono ?_
  rintro e w2 ⟨rfl, hc2⟩
  have HC2 := hide ((unhide HC0).trans hc2); have HB2 := hide ((unhide HB0).chg hc2 (by simp)); clear hc2 HC0 HB0
  have hq := unhide HQ
  by_cases hok : (s.look x k v true).2 = 0
  · have ho := look_ok (unhide HI) hok
    have hlv := (look_vals hok).2.1
    rw [if_pos hok] at hq
    rw [hok]
    have h2 : RRep w2 br s L := (unhide H).chg (unhide HC2) (by simp)
    generalize (s.look x k v true).1 = o at *
    obtain ⟨ob, b, va, vc, go, e1, e2, e3, e4, e5, co, hbo, hv⟩ := h2.objAt ho
    unfold R.objOf at hq
    rw [e2] at hq
    have hmem := List.mem_of_getElem? e1
    have hvl := (unhide HI).valLen ob hmem
    have c4 := h2.ref.cell_of (i := 4) rfl
    rw [e5] at c4
    have k0 := hbo.cell_of (i := 0) rfl
    have cb0 := (unhide HB2).cell_of (i := 0) rfl
    have cb1 := (unhide HB2).cell_of (i := 1) rfl
    by_cases hkd : ob.kind = 3
    · rw [if_pos hkd] at hq
      have hb3 : (ob.kind != 3) = false := by simp [hkd]
      have heven := ((unhide HS).tab ob hmem hkd).1
      have hcall := refInner_any k h2 (unhide HB) hlv
      have HCL := hide hcall; have HFIN := hide hq; have HBO := hide hbo; have HV := hide hv; have E3 := hide e3; have HEV := hide heven
      clear hq hok e1 e2 e3 e4 e5 hbo hv hkd hcall hmem h2 hlv heven
      go_wp2_with fail
      refine (unhide HCL).mono ?_
      rintro e w3 ⟨rfl, hc3⟩
      have HC3 := hide ((unhide HC2).trans hc3)
      have hbo3 := (unhide HBO).chg hc3 (by simp)
      have hv3 := owns_chg (unhide HV) hc3 (by simp)
      generalize s.inner k = ik at *
      obtain ⟨i1, i2⟩ := ik
      have hch4 : Chg [] w3 (w3.alloc (.cells #[.int .i64 i1, .int .i64 i2] 33)) := (Chg.refl [] w3).alloc _
      have hbx : Blk (w3.alloc (.cells #[.int .i64 i1, .int .i64 i2] 33)) w3.heap.size [.int .i64 i1, .int .i64 i2] 33 := Blk.new w3 [.int .i64 i1, .int .i64 i2] _
      have hbo4 := hbo3.chg hch4 (by simp)
      have hv4 := owns_chg hv3 hch4 (by simp)
      have HC4 := hide ((unhide HC3).trans hch4)
      have HBO4 := hide hbo4; have HV4 := hide hv4; have HBX := hide hbx
      clear hc3 hbo3 hv3 hch4 hbx hbo4 hv4 HBO HV HB2 HC2 HC3 cb0 cb1 c4 co k0
      go_wp2_with fail
      generalize hW : w3.alloc (.cells #[.int .i64 i1, .int .i64 i2] 33) = W at *
      have HW := hide hW; clear hW
      go_loopw [15] (fun i wr => ∃ kk q : Nat, kk ≤ ob.vals.length ∧ kk % 2 = 0 ∧ i = .int .i64 kk ∧ keyPos (i1, i2) ob.vals = kk + keyPos (i1, i2) (ob.vals.drop kk) ∧ wr = W.drewN q) (fun i _ => ob.vals.length - (intOf i).toNat)
      case atStart => exact ⟨0, 0, Nat.zero_le _, rfl, rfl, by simp, rfl⟩
      case round =>
        obtain ⟨kk, q, hkk, hk2, rfl, hpos, rfl⟩ := hrel
        have HPOS := hide hpos; have HK2 := hide hk2; clear hpos hk2
        have k2 := (unhide HBO4).cell_of (i := 2) rfl
        by_cases hlt : kk < ob.vals.length
        · obtain ⟨g, hg, _, hc⟩ := owns_at (unhide HV4) (by omega)
          have ev := List.getElem?_eq_getElem hlt
          have cv := valCells_at _ _ _ ev
          have cv0 := hc _ _ cv.1
          have cv1 := hc _ _ cv.2
          have x0 := (unhide HBX).cell_of (i := 0) rfl
          have x1 := (unhide HBX).cell_of (i := 1) rfl
          generalize ob.vals[kk] = a at *
          obtain ⟨a1, a2⟩ := a
          rw [hg] at k2
          have EV := hide ev; clear hg hc cv ev
          have hll : (kk : Int) < (ob.vals.length : Int) := by omega
          have hdec : decide (kk < ob.vals.length) = true := by simp [hlt]
          by_cases hsame : a1 = i1 ∧ a2 = i2
          · obtain ⟨rfl, rfl⟩ := hsame
            go_wp2_with fail
            go_quiet (fail)
            go_wp2
            go_ret3
            have hp := unhide HPOS
            rw [keyPos_here (unhide EV), Nat.add_zero] at hp
            rw [unhide HFIN]
            exact ⟨fun _ => ⟨b, unhide E3, by rw [hp]; rfl⟩, fun hne => absurd rfl hne, ((unhide HC4).drewN _).drewN _⟩
          · have hstep := keyPos_step (unhide EV) (w := (i1, i2)) (fun e => by cases e; exact hsame ⟨rfl, rfl⟩)
            have hev := unhide HEV
            have hk2 := unhide HK2
            have hnext : kk + 2 ≤ ob.vals.length := by omega
            have hpos := unhide HPOS
            have hp2 : keyPos (i1, i2) ob.vals = kk + 2 + keyPos (i1, i2) (ob.vals.drop (kk + 2)) := by omega
            have HP2 := hide hp2; clear hp2 hpos hstep hev hk2
            by_cases h1 : a1 = i1
            · have h2 : ¬ a2 = i2 := fun e => hsame ⟨h1, e⟩
              have hb1 : (a1 == i1) = true := by simp [h1]
              have hb2 : (a2 == i2) = false := by simp [h2]
              have HX := hide hsame; clear hsame h1 h2
              go_wp2_with fail
              go_quiet (fail)
              go_wp2
              go_roundw
              case rel => exact ⟨kk + 2, _, hnext, by have := unhide HK2; omega, by go_num, unhide HP2, rfl⟩
              case measure => simp [intOf]; omega
            · have hb1 : (a1 == i1) = false := by simp [h1]
              have HX := hide hsame; clear hsame h1
              go_wp2_with fail
              go_quiet (fail)
              go_wp2
              go_roundw
              case rel => exact ⟨kk + 2, _, hnext, by have := unhide HK2; omega, by go_num, unhide HP2, rfl⟩
              case measure => simp [intOf]; omega
        · have hkn : kk = ob.vals.length := by omega
          have hp := unhide HPOS
          have hdec : decide (kk < ob.vals.length) = false := by simp [hlt]
          have hfin : keyPos (i1, i2) ob.vals = kk := by rw [hp, hkn, List.drop_length]; simp [keyPos]
          have hll : (ob.vals.length : Int) ≤ (kk : Int) := by omega
          have HP := hide hfin; clear hfin hp hkn
          go_wp2_with fail
          go_quiet (fail)
          go_wp2
          go_ret3
          rw [unhide HFIN]
          exact ⟨fun _ => ⟨b, unhide E3, by rw [unhide HP]; rfl⟩, fun hne => absurd rfl hne, ((unhide HC4).drewN _).drewN _⟩
    · rw [if_neg hkd] at hq
      have hb3 : (ob.kind != 3) = true := by simp [hkd]
      have HFIN := hide hq; clear hq hok e1 e2 e3 e4 e5 hbo hv hkd hmem h2 hlv
      go_wp2
      go_ret3
      exact ⟨fun hx => by rw [unhide HFIN] at hx; simp at hx, fun _ => by rw [unhide HFIN]; rfl, unhide HC2⟩
  · rw [if_neg hok] at hq
    generalize (s.look x k v true).1 = o at *
    generalize (s.look x k v true).2 = er at *
    have hne : (er != 0) = true := by simp [hok]
    have HFIN := hide hq; have HOK := hide hok; clear hq hok
    go_wp2
    go_ret3
    exact ⟨fun hx => by rw [unhide HFIN] at hx; exact absurd hx (unhide HOK), fun _ => by rw [unhide HFIN]; rfl, unhide HC2⟩

theorem keyPos_even (w : Int × Int) : ∀ (l : List (Int × Int)), l.length % 2 = 0 → keyPos w l ≤ l.length ∧ keyPos w l % 2 = 0
  | [], _ => by simp [keyPos]
  | [a], h => by simp at h
  | a :: b :: r, h => by
    have ih := keyPos_even w r (by simp at h; omega)
    simp only [keyPos]
    split
    · simp
    · simp; omega
theorem keyPos_at (w : Int × Int) : ∀ (l : List (Int × Int)), keyPos w l < l.length → l[keyPos w l]? = some w
  | [], h => by simp at h
  | [a], h => by
    simp only [keyPos] at h ⊢
    split
    · rename_i e; subst e; rfl
    · rename_i e; rw [if_neg e] at h; simp at h
  | a :: b :: r, h => by
    simp only [keyPos] at h ⊢
    split
    · rename_i e; subst e; rfl
    · rename_i e
      rw [if_neg e] at h
      exact keyPos_at w r (by simpa using h)
theorem table_ok {s : R} {x : Int} {k v : Int × Int} (hi : RInv s) (h : (s.table x k v).2.2 = 0) : (s.table x k v).1 < s.objs.length ∧ (s.objOf (s.table x k v).1).kind = 3 ∧ (s.table x k v).2.1 = keyPos (s.inner k) (s.objOf (s.table x k v).1).vals ∧ (s.look x k v true).2 = 0 ∧ (s.look x k v true).1 = (s.table x k v).1 := by
  unfold R.table at h ⊢
  split
  · rename_i h1
    rw [if_pos h1] at h
    split
    · rename_i h2
      exact ⟨look_ok hi h1, h2, rfl, h1, rfl⟩
    · rename_i h2
      rw [if_neg h2] at h
      simp at h
  · rename_i h1
    rw [if_neg h1] at h
    exact absurd h h1

def R.findQ (s : R) (x : Int) (k : Int × Int) : (Int × Int) × Int × R :=
  if (s.table x k (0, 0)).2.2 = 0 then (if (s.table x k (0, 0)).2.1 = (s.objOf (s.table x k (0, 0)).1).vals.length then ((0, 0), 8, s) else s.outer ((s.objOf (s.table x k (0, 0)).1).vals.getD ((s.table x k (0, 0)).2.1 + 1) (0, 0))) else ((0, 0), (s.table x k (0, 0)).2.2, s)

/-- What table tells, in one form. -/
def tabPtr (L : RL) (o : Nat) (er : Int) : Value := if er = 0 then .pointer (some ⟨L.obs.getD o 0, 0, none⟩) else .pointer none
theorem refTableAt_one {br : Nat} {s : R} {L : RL} {w : World} (x : Int) (k v : Int × Int) (h : RRep w br s L) (hi : RInv s) (hs : RSh s) (hb : RBd s) :
    Calls Tryz.prog 95 #[.pointer (some ⟨br, 0, none⟩), .int .i64 x, .agg #[.int .i64 k.1, .int .i64 k.2], .agg #[.int .i64 v.1, .int .i64 v.2]] w fun e w' =>
      e = .returned (.tuple #[tabPtr L (s.table x k v).1 (s.table x k v).2.2, .int .i64 (s.table x k v).2.1, .int .i64 (s.table x k v).2.2]) ∧ Chg [] w w' := by
  refine (refTableAt_any x k v h hi hs hb).mono ?_
  rintro e w' ⟨h1, h2, h3⟩
  refine ⟨?_, h3⟩
  by_cases h0 : (s.table x k v).2.2 = 0
  · obtain ⟨b, hb', he⟩ := h1 h0
    rw [he]
    simp [tabPtr, h0, List.getD, hb']
  · rw [h2 h0]
    have : (s.table x k v).2.1 = 0 := by
      unfold R.table at h0 ⊢
      split
      · rename_i q1
        rw [if_pos q1] at h0
        split
        · rename_i q2
          rw [if_pos q2] at h0
          exact absurd rfl h0
        · rfl
      · rfl
    rw [this]
    simp [tabPtr, h0]

set_option maxRecDepth 100000 in
set_option maxHeartbeats 2000000 in
theorem refFind2_any {br : Nat} {s : R} {L : RL} {w : World} (x : Int) (k : Int × Int) (h : RRep w br s L) (hi : RInv s) (hs : RSh s) (hb : RBd s) :
    Calls Tryz.prog 51 #[.pointer (some ⟨br, 0, none⟩), .int .i64 x, .agg #[.int .i64 k.1, .int .i64 k.2]] w fun e w' => ∃ L', e = .returned (.tuple #[.agg #[.int .i64 (s.findQ x k).1.1, .int .i64 (s.findQ x k).1.2], .int .i64 (s.findQ x k).2.1]) ∧ RRep w' br (s.findQ x k).2.2 L' ∧ Stp (L.foot br) w (L'.foot br) w' := by
  have hol : s.objs.length ≤ 3298534883328 := hb.objs
  have hlt := h.lt
  have hq : s.findQ x k = if (s.table x k (0, 0)).2.2 = 0 then (if (s.table x k (0, 0)).2.1 = (s.objOf (s.table x k (0, 0)).1).vals.length then ((0, 0), 8, s) else s.outer ((s.objOf (s.table x k (0, 0)).1).vals.getD ((s.table x k (0, 0)).2.1 + 1) (0, 0))) else ((0, 0), (s.table x k (0, 0)).2.2, s) := rfl
  have hc0 : Chg [] w ((w.alloc (.cells #[.int .i64 k.1, .int .i64 k.2] 33)).alloc (.cells #[.int .i64 0, .int .i64 0] 33)).drew := (((Chg.refl [] w).alloc _).alloc _).drew
  have hb0 : Blk ((w.alloc (.cells #[.int .i64 k.1, .int .i64 k.2] 33)).alloc (.cells #[.int .i64 0, .int .i64 0] 33)).drew (w.heap.size + 1) [.int .i64 0, .int .i64 0] 33 := by
    have := (Blk.new (w.alloc (.cells #[.int .i64 k.1, .int .i64 k.2] 33)) [.int .i64 0, .int .i64 0] 33).drew
    simpa using this
  have fin : ∀ (er : Int) (w2 w3 : World), Blk w2 (w.heap.size + 1) [.int .i64 0, .int .i64 0] 33 → Chg [] w w2 → Chg [] w2 w3 → s.findQ x k = ((0, 0), er, s) →
      (Blk w3 (w.heap.size + 1) [.int .i64 0, .int .i64 0] 33 ∧ Blk ((w3.setCell ⟨w.heap.size + 1, 0, none⟩ (.int .i64 0)).setCell ⟨w.heap.size + 1, 1, none⟩ (.int .i64 0)) (w.heap.size + 1) [.int .i64 0, .int .i64 0] 33) ∧
      ∃ L', Ending.returned (.tuple #[.agg #[.int .i64 0, .int .i64 0], .int .i64 er]) = .returned (.tuple #[.agg #[.int .i64 (s.findQ x k).1.1, .int .i64 (s.findQ x k).1.2], .int .i64 (s.findQ x k).2.1]) ∧ RRep ((w3.setCell ⟨w.heap.size + 1, 0, none⟩ (.int .i64 0)).setCell ⟨w.heap.size + 1, 1, none⟩ (.int .i64 0)) br (s.findQ x k).2.2 L' ∧ Stp (L.foot br) w (L'.foot br) ((w3.setCell ⟨w.heap.size + 1, 0, none⟩ (.int .i64 0)).setCell ⟨w.heap.size + 1, 1, none⟩ (.int .i64 0)) := by
    intro er w2 w3 b2 k2 k3 hfin
    obtain ⟨r1, r2, r3, r4⟩ := ret_cell hlt (Nat.le_succ _) b2 k2 (Stp.of_chg k3) (h.chg (k2.trans k3) (by simp)) (.int .i64 0) (.int .i64 0) rfl
    exact ⟨⟨r1, r2⟩, L, by rw [hfin], by rw [hfin]; exact r3, r4⟩
  have FIN := hide fin; have HQ := hide hq
  have H := hide h; have HI := hide hi; have HB := hide hb; have HS := hide hs; have HLT := hide hlt; have HB0 := hide hb0; have HC0 := hide hc0; clear h hi hb hs hlt hb0 hc0 hq fin
  go_enter Tryz.func51, Tryz.ntmps51
  go_upto_region 1 with fail
  go_cut [8, 9, 10] (fun a' b' c' wx => a' = tabPtr L (s.table x k (0, 0)).1 (s.table x k (0, 0)).2.2 ∧ b' = .int .i64 (s.table x k (0, 0)).2.1 ∧ c' = .int .i64 (s.table x k (0, 0)).2.2 ∧ Chg [] w wx ∧ Blk wx (w.heap.size + 1) [.int .i64 0, .int .i64 0] 33)
  case first =>
    go_region_held3 (fun w' => w'.cell? ⟨w.heap.size, 0, none⟩ = some (.int .i64 k.1) ∧ w'.cell? ⟨w.heap.size, 1, none⟩ = some (.int .i64 k.2)) (first | go_keep | assumption) ((first
      | (go_at_call 84; refine (refNone_any _).mono ?_; rintro e w1 ⟨rfl, hc1⟩; have HC1 := hide ((unhide HC0).trans hc1); have HB1 := hide ((unhide HB0).chg hc1 (by simp)); have hk1 : w1.cell? ⟨w.heap.size, 0, none⟩ = some (.int .i64 k.1) ∧ w1.cell? ⟨w.heap.size, 1, none⟩ = some (.int .i64 k.2) := ⟨cell_chg0 hc1 (by go_keep), cell_chg0 hc1 (by go_keep)⟩; clear hc1)
      | (go_at_call 95; refine (refTableAt_one x k (0, 0) ((unhide H).chg (unhide HC1) (by simp)) (unhide HI) (unhide HS) (unhide HB)).mono ?_; rintro e w2 ⟨rfl, hc2⟩; have HC2 := hide ((unhide HC1).trans hc2); have HB2 := hide ((unhide HB1).chg hc2 (by simp)); have hk2 : w2.cell? ⟨w.heap.size, 0, none⟩ = some (.int .i64 k.1) ∧ w2.cell? ⟨w.heap.size, 1, none⟩ = some (.int .i64 k.2) := ⟨cell_chg0 hc2 hk1.1, cell_chg0 hc2 hk1.2⟩; clear hc2)))
    all_goals go_wp2_with fail
    all_goals go_meet
    all_goals exact ⟨rfl, rfl, rfl, unhide HC2, unhide HB2⟩
  case rest =>
    obtain ⟨rfl, rfl, rfl, hcc, hbc⟩ := hcut
    have h2 : RRep wc br s L := (unhide H).chg hcc (by simp)
    have hq := unhide HQ
    have HCC := hide hcc; have HBC := hide hbc; clear hcc hbc
    by_cases hok : (s.table x k (0, 0)).2.2 = 0
    · obtain ⟨ho, hkd, hps, _⟩ := table_ok (unhide HI) hok
      rw [if_pos hok] at hq
      simp only [tabPtr, hok, if_true]
      generalize (s.table x k (0, 0)).1 = o at *
      generalize (s.table x k (0, 0)).2.1 = pos at *
      obtain ⟨ob, b, va, vc, go, e1, e2, e3, e4, e5, co, hbo, hv⟩ := h2.objAt ho
      unfold R.objOf at hq hkd hps
      rw [e2] at hq hkd hps
      have hmem := List.mem_of_getElem? e1
      have hvl := (unhide HI).valLen ob hmem
      have hev := keyPos_even (s.inner k) ob.vals ((unhide HS).tab ob hmem hkd).1
      have hev2 := ((unhide HS).tab ob hmem hkd).1
      rw [← hps] at hev
      rw [show L.obs.getD o 0 = b from by simp [List.getD, e3]]
      have k2 := hbo.cell_of (i := 2) rfl
      by_cases hend : pos = ob.vals.length
      · rw [if_pos hend] at hq
        have he1 : ((pos : Int) == (ob.vals.length : Int)) = true := by simp [hend]
        have HFIN := hide hq; clear hq hok e1 e2 e3 e4 e5 hbo hv hkd hmem hend hps hev hev2 h2
        go_wp2_with fail
        refine (refNone_any _).mono ?_
        rintro e w3 ⟨rfl, hc3⟩
        obtain ⟨⟨r1, r2⟩, r3⟩ := unhide FIN 8 wc w3 (unhide HBC) (unhide HCC) hc3 (unhide HFIN)
        have c0 := r1.cell_of (i := 0) rfl
        have c1 := r1.cell_of (i := 1) rfl
        have f0 := r1.frozen 0
        have f1 := r1.frozen 1
        have R2 := hide r2; have R3 := hide r3; clear r1 r2 r3 hc3
        go_wp2
        have q0 := (unhide R2).cell_of (i := 0) rfl
        have q1 := (unhide R2).cell_of (i := 1) rfl
        exact bodyPost_ret (v := .tuple #[.agg #[.int .i64 0, .int .i64 0], .int .i64 8]) (by simp [results, Tryz.results51, go_sem, q0, q1]) rfl (unhide R3)
      · rw [if_neg hend] at hq
        have he1 : ((pos : Int) == (ob.vals.length : Int)) = false := by simp; omega
        have hj : pos + 1 < ob.vals.length := by omega
        have ev := List.getElem?_eq_getElem hj
        obtain ⟨g, hg, _, hc⟩ := owns_at hv (by omega)
        have cv := valCells_at _ _ _ ev
        have cv0 := hc _ _ cv.1
        have cv1 := hc _ _ cv.2
        have hvv := (unhide HI).vals ob hmem _ (List.getElem_mem hj)
        rw [show ob.vals.getD (pos + 1) (0, 0) = ob.vals[pos + 1] from by simp [List.getD, hj]] at hq
        generalize ob.vals[pos + 1] = vv at *
        rw [hg] at k2
        have hjj : (pos : Int) + 1 < (ob.vals.length : Int) := by omega
        have hcall := refOuter_any vv h2 (unhide HI) (unhide HB) (fun h2 => (hvv.2.2 h2).1)
        have HCL := hide hcall; have HFIN := hide hq
        clear hq hok e1 e2 e3 e4 e5 hbo hv hg hc cv hvv hkd hcall hmem ev hps hev hev2 h2 hend
        go_wp2_with fail
        refine (unhide HCL).mono ?_
        rintro e w3 ⟨L3, rfl, h3, st3⟩
        obtain ⟨r1, r2, r3, r4⟩ := ret_cell (unhide HLT) (Nat.le_succ _) (unhide HBC) (unhide HCC) st3 h3 (.int .i64 (s.outer vv).1.1) (.int .i64 (s.outer vv).1.2) rfl
        have c0 := r1.cell_of (i := 0) rfl
        have c1 := r1.cell_of (i := 1) rfl
        have f0 := r1.frozen 0
        have f1 := r1.frozen 1
        have R2 := hide r2; have R3 := hide r3; have R4 := hide r4; clear r1 r2 r3 r4 h3 st3
        go_wp2
        have q0 := (unhide R2).cell_of (i := 0) rfl
        have q1 := (unhide R2).cell_of (i := 1) rfl
        exact bodyPost_ret (v := .tuple #[.agg #[.int .i64 (s.outer vv).1.1, .int .i64 (s.outer vv).1.2], .int .i64 (s.outer vv).2.1]) (by simp [results, Tryz.results51, go_sem, q0, q1]) rfl ⟨L3, by rw [unhide HFIN], by rw [unhide HFIN]; exact unhide R3, unhide R4⟩
    · rw [if_neg hok] at hq
      simp only [tabPtr, hok, if_false]
      generalize (s.table x k (0, 0)).1 = o at *
      generalize (s.table x k (0, 0)).2.1 = pos at *
      generalize (s.table x k (0, 0)).2.2 = er at *
      have hne : (er != 0) = true := by simp [hok]
      have HFIN := hide hq; clear hq hok h2
      go_wp2_with fail
      refine (refNone_any _).mono ?_
      rintro e w3 ⟨rfl, hc3⟩
      obtain ⟨⟨r1, r2⟩, r3⟩ := unhide FIN er wc w3 (unhide HBC) (unhide HCC) hc3 (unhide HFIN)
      have c0 := r1.cell_of (i := 0) rfl
      have c1 := r1.cell_of (i := 1) rfl
      have f0 := r1.frozen 0
      have f1 := r1.frozen 1
      have R2 := hide r2; have R3 := hide r3; clear r1 r2 r3 hc3
      go_wp2
      have q0 := (unhide R2).cell_of (i := 0) rfl
      have q1 := (unhide R2).cell_of (i := 1) rfl
      exact bodyPost_ret (v := .tuple #[.agg #[.int .i64 0, .int .i64 0], .int .i64 er]) (by simp [results, Tryz.results51, go_sem, q0, q1]) rfl (unhide R3)
end Go.Proofs.YtfoncalkgmeklaaGreat
