/- gripkeep's tiled. -/
import Derived.Test.YtfoncalkgmeklabXwM43
namespace Go.Proofs.Ytfoncalkgmeklab
open Go.RowKit

theorem place_take {objs : List RObj} : ∀ {l : List Nat} {t i : Nat}, l.Nodup → l[t]? = some i → placeOf objs i l = usedOf objs (l.take t)
  | [], t, i, _, h => by simp at h
  | x :: r, 0, i, _, h => by
    have : x = i := by simpa using h
    simp [placeOf, usedOf, this]
  | x :: r, t + 1, i, hn, h => by
    have h' : r[t]? = some i := by simpa using h
    have hx : x ≠ i := fun e => by
      subst e
      exact (List.nodup_cons.1 hn).1 (List.mem_of_getElem? h')
    simp only [placeOf, if_neg hx, List.take_succ_cons, usedOf, place_take (List.nodup_cons.1 hn).2 h']
theorem used_take_succ {objs : List RObj} {l : List Nat} {t i : Nat} (h : l[t]? = some i) : usedOf objs (l.take (t + 1)) = usedOf objs (l.take t) + oWords (objs.getD i robj0) := by
  rw [List.take_add_one, h, usedOf_append]
  simp [usedOf]
/-- Does one of the first t objects begin at a place? -/
def startAt (s : R) (t : Nat) (q : Nat) : Bool := (s.row.take t).any fun i => placeOf s.objs i s.row == (q : Int)
def startsTo (s : R) (t n : Nat) : List Value := (List.range n).map fun q => .bool (startAt s t q)
theorem startsTo_zero (s : R) (n : Nat) : startsTo s 0 n = reps n (.bool false) := by
  simp [startsTo, startAt, reps, List.map_const']
theorem startsTo_at {s : R} {t n q : Nat} (h : q < n) : (startsTo s t n)[q]? = some (.bool (startAt s t q)) := by simp [startsTo, h]
theorem startsTo_len (s : R) (t n : Nat) : (startsTo s t n).length = n := by simp [startsTo]
theorem startsTo_set {s : R} {t n i p : Nat} (hi : s.row[t]? = some i) (hp : placeOf s.objs i s.row = (p : Int)) : (startsTo s t n).set p (.bool true) = startsTo s (t + 1) n := by
  apply List.ext_getElem?
  intro q
  have e : startAt s (t + 1) q = (startAt s t q || decide ((p : Int) = (q : Int))) := by
    simp only [startAt, List.take_add_one, hi, List.any_append, Option.toList, List.any_cons, List.any_nil, Bool.or_false, hp]
    rfl
  rw [List.getElem?_set]
  by_cases hq : q < n
  · rw [startsTo_at hq, startsTo_at hq, startsTo_len, e]
    by_cases hpq : p = q
    · subst hpq
      simp [hq]
    · have : ¬ (p : Int) = (q : Int) := by omega
      rw [if_neg hpq, decide_eq_false this, Bool.or_false]
  · have h1 : (startsTo s t n)[q]? = none := List.getElem?_eq_none (by rw [startsTo_len]; omega)
    have h2 : (startsTo s (t + 1) n)[q]? = none := List.getElem?_eq_none (by rw [startsTo_len]; omega)
    rw [h1, h2]
    split
    · rw [startsTo_len]; split
      · omega
      · rfl
    · rfl
theorem start_mem {s : R} {q : Nat} (h : startAt s s.row.length q = true) : ∃ i ∈ s.row, placeOf s.objs i s.row = (q : Int) := by
  simp only [startAt, List.take_length, List.any_eq_true] at h
  obtain ⟨i, hi, e⟩ := h
  exact ⟨i, hi, by simpa using e⟩
theorem mem_start {s : R} {q i : Nat} (hi : i ∈ s.row) (h : placeOf s.objs i s.row = (q : Int)) : startAt s s.row.length q = true := by
  simp only [startAt, List.take_length, List.any_eq_true]
  exact ⟨i, hi, by simp [h]⟩
/-- A list below a mark. -/
def IntsIn (w : World) (a : Option Addr) (l : List Int) (g : Nat) : Prop :=
  0 < l.length → ∃ b off, a = some ⟨b, off, none⟩ ∧ b < g ∧ b < w.heap.size ∧ ∀ j x, l[j]? = some x → w.cell? ⟨b, off + j, none⟩ = some (.int .i64 x)
theorem IntsAt.ins {w : World} {a : Option Addr} {l : List Int} (h : IntsAt w a l) : IntsIn w a l w.heap.size := fun h0 => by
  obtain ⟨b, off, e, hl, hc⟩ := h h0
  exact ⟨b, off, e, hl, hl, hc⟩
theorem IntsIn.at {w : World} {a : Option Addr} {l : List Int} {g : Nat} (h : IntsIn w a l g) : IntsAt w a l := fun h0 => by
  obtain ⟨b, off, e, _, hl, hc⟩ := h h0
  exact ⟨b, off, e, hl, hc⟩
theorem IntsIn.chg {w w' : World} {a : Option Addr} {l : List Int} {g : Nat} {S : List Nat} (h : IntsIn w a l g) (k : Chg S w w') (hs : ∀ x ∈ S, g ≤ x) : IntsIn w' a l g := fun h0 => by
  obtain ⟨b, off, e, hb, hl, hc⟩ := h h0
  exact ⟨b, off, e, hb, Nat.lt_of_lt_of_le hl k.size, fun j x hj => by rw [k.cell (a := ⟨b, off + j, none⟩) hl (fun hm => by have := hs _ hm; simp at this; omega)]; exact hc j x hj⟩
/-- The first word of an object of the row. -/
theorem head_obj {s : R} (h : RAll s) {i : Nat} (hm : i ∈ s.row) : I64 (headQ s.words (placeOf s.objs i s.row)) := by
  obtain ⟨h1, h2, h3⟩ := place_bd h hm
  obtain ⟨k1, k2, k3, k4, k5⟩ := (h.ok.osh (objOf_mem (h.ok.inv.rows i hm))).kind
  rw [headQ_word h1, word_head h hm]
  constructor <;> omega
/-- A handle's place is where an object of the row begins. -/
theorem place_ok {s : R} (h : RAll s) {x : Int} (he : (s.placeQ x).2 = 0) : ∃ t ∈ s.row, (s.placeQ x).1 = placeOf s.objs t s.row := by
  unfold R.placeQ at he ⊢
  by_cases hl : (s.look1 x).2 = 0
  · rw [if_pos hl]
    refine ⟨(s.look1 x).1, ?_, rfl⟩
    rw [look1_eq] at hl ⊢
    cases hd : s.dead
    · rw [hd] at hl
      cases hf : s.find? x with
      | none => rw [hf] at hl; simp at hl
      | some a =>
        obtain ⟨g, hg, hlv, _⟩ := find_some hf
        have : s.handles.getD a rhan0 = g := by simp [List.getD, hg]
        simp only [Bool.false_eq_true, if_false, this]
        exact h.row.live g (List.mem_of_getElem? hg) hlv
    · rw [hd] at hl; simp at hl
  · rw [if_neg hl] at he; exact absurd he hl
theorem refs_len {s : R} (h : RAll s) {i : Nat} (hm : i ∈ s.row) : (refsQ s.words (placeOf s.objs i s.row)).length ≤ 128 := by
  obtain ⟨k1, k2, k3, k4, k5⟩ := (h.ok.osh (objOf_mem (h.ok.inv.rows i hm))).kind
  unfold refsQ
  rw [sized_obj h hm]
  split
  · simp
  split
  · exact Nat.le_trans (refsTo_len _ _ _) (by simp only; omega)
  · exact Nat.le_trans (refsTo_len _ _ _) (by simp only; omega)

end Go.Proofs.Ytfoncalkgmeklab
