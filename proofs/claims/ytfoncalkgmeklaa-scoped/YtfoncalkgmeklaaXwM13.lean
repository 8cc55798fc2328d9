import Derived.Test.YtfoncalkgmeklaaXwM12

/- Put of the document's heap: P8. -/
namespace Go.Proofs.Ytfoncalkgmeklaa
open Go.RowKit

def R.putQ (s : R) (x : Int) (k v : Int × Int) : Int × R :=
  if (s.table x k v).2.2 = 0 then
    (if (s.table x k v).2.1 = (s.objOf (s.table x k v).1).vals.length then
      (if ((s.objOf (s.table x k v).1).vals.length : Int) = 2 * (s.objOf (s.table x k v).1).size then (9, s)
       else (0, s.setObj (s.table x k v).1 { s.objOf (s.table x k v).1 with vals := (s.objOf (s.table x k v).1).vals ++ [s.inner k, s.inner v] }))
     else (0, s.setObj (s.table x k v).1 { s.objOf (s.table x k v).1 with vals := (s.objOf (s.table x k v).1).vals.set ((s.table x k v).2.1 + 1) (s.inner v) }))
  else ((s.table x k v).2.2, s)

theorem setObj_self {s : R} {o : Nat} {ob : RObj} (h : s.objs[o]? = some ob) : s.setObj o ob = s := by
  obtain ⟨hlt, rfl⟩ := List.getElem?_eq_some_iff.1 h
  unfold R.setObj
  rw [List.set_getElem_self]
theorem setObj_set (s : R) (o : Nat) (a b : RObj) : (s.setObj o a).setObj o b = s.setObj o b := by
  unfold R.setObj
  simp [List.set_set]

end Go.Proofs.Ytfoncalkgmeklaa

/- Cut of the document's heap: P8. -/
namespace Go.Proofs.Ytfoncalkgmeklaa
open Go.RowKit

def R.cutQ (s : R) (x : Int) (k : Int × Int) : Int × R :=
  if (s.table x k (0, 0)).2.2 = 0 then
    (if (s.table x k (0, 0)).2.1 = (s.objOf (s.table x k (0, 0)).1).vals.length then (8, s)
     else (0, s.setObj (s.table x k (0, 0)).1 { s.objOf (s.table x k (0, 0)).1 with vals := (s.objOf (s.table x k (0, 0)).1).vals.take (s.table x k (0, 0)).2.1 ++ (s.objOf (s.table x k (0, 0)).1).vals.drop ((s.table x k (0, 0)).2.1 + 2) }))
  else ((s.table x k (0, 0)).2.2, s)

theorem valCells_take : ∀ (l : List (Int × Int)) (j : Nat), valCells (l.take j) = (valCells l).take (j * 2)
  | [], j => by simp [valCells]
  | x :: r, 0 => by simp [valCells]
  | x :: r, j + 1 => by
    have ih := valCells_take r j
    have e0 : (j + 1) * 2 = j * 2 + 1 + 1 := by omega
    rw [e0]
    simp only [List.take_succ_cons, valCells, ih]
theorem valCells_drop : ∀ (l : List (Int × Int)) (j : Nat), valCells (l.drop j) = (valCells l).drop (j * 2)
  | [], j => by simp [valCells]
  | x :: r, 0 => by simp [valCells]
  | x :: r, j + 1 => by
    have ih := valCells_drop r j
    have e0 : (j + 1) * 2 = j * 2 + 1 + 1 := by omega
    rw [e0]
    simp only [List.drop_succ_cons, valCells, ih]
theorem valCells_one (l : List (Int × Int)) : ∀ u ∈ valCells l, u.oneCell' = true := by
  induction l with
  | nil => intro u hu; simp [valCells] at hu
  | cons x r ih =>
    intro u hu
    simp only [valCells, List.mem_cons] at hu
    rcases hu with rfl | rfl | hu
    · rfl
    · rfl
    · exact ih u hu

end Go.Proofs.Ytfoncalkgmeklaa

/- Open, Escape, Keep, Collect, Release of the document's heap: P10 to P12. -/
namespace Go.Proofs.Ytfoncalkgmeklaa
open Go.RowKit

def R.openQ (s : R) : Int × Int × R := if s.dead then (0, 2, s) else if s.scopes = 16 then (0, 10, s) else (s.scopes + 1, 0, { s with scopes := s.scopes + 1 })
def R.escapeQ (s : R) (x : Int) : Int × Int × R := if (s.look1 x).2 = 0 then (if s.scopes = 0 then (0, 10, s) else s.handle (s.look1 x).1 (s.scopes - 1)) else (0, (s.look1 x).2, s)
def R.keepQ (s : R) (x : Int) : Int × Int × R := if (s.look1 x).2 = 0 then s.handle (s.look1 x).1 (-1) else (0, (s.look1 x).2, s)
def R.collectQ (s : R) : Int × R := if s.dead then (2, s) else (0, { s with row := s.reach })
def RHan.off (h : RHan) : RHan := { h with live := false }
def R.releaseQ (s : R) (x : Int) : Int × R :=
  if (s.look1 x).2 = 0 then (if (s.handles.getD (posOf (s.find? x)).toNat rhan0).scope = -1 then (0, { s with handles := s.handles.set (posOf (s.find? x)).toNat (s.handles.getD (posOf (s.find? x)).toNat rhan0).off }) else (10, s)) else ((s.look1 x).2, s)

end Go.Proofs.Ytfoncalkgmeklaa

/- Release and Close of the document's heap: P10, P11. -/
namespace Go.Proofs.Ytfoncalkgmeklaa
open Go.RowKit

theorem hanCells_off : ∀ (l : List RHan) (k : Nat) (y : RHan), l[k]? = some y → (hanCells l).set (k * 4 + 3) (.bool false) = hanCells (l.set k y.off)
  | [], k, y, h => by simp at h
  | x :: r, 0, y, h => by simp at h; subst h; simp [hanCells, RHan.off]
  | x :: r, k + 1, y, h => by
    have ih := hanCells_off r k y (by simpa using h)
    have e0 : (k + 1) * 4 + 3 = k * 4 + 3 + 1 + 1 + 1 + 1 := by omega
    rw [e0]
    simp only [hanCells, List.set_cons_succ]
    rw [ih]

/-- A handle behind Close. -/
def RHan.shut (n : Int) (h : RHan) : RHan := if h.scope = n then h.off else h
def shutTo (n : Int) (l : List RHan) (k : Nat) : List RHan := (l.take k).map (RHan.shut n) ++ l.drop k
def R.closeQ (s : R) (n : Int) : Int × R := if s.dead then (2, s) else if n = 0 ∨ n ≠ s.scopes then (10, s) else (0, { s with handles := s.handles.map (RHan.shut n), scopes := s.scopes - 1 })
theorem shutTo_len (n : Int) (l : List RHan) (k : Nat) : (shutTo n l k).length = l.length := by
  simp [shutTo]; omega
theorem shutTo_at {n : Int} {l : List RHan} {k : Nat} {y : RHan} (h : l[k]? = some y) : (shutTo n l k)[k]? = some y := by
  have hk := (List.getElem?_eq_some_iff.1 h).1
  unfold shutTo
  rw [List.getElem?_append_right (by simp; omega)]
  simp [Nat.min_eq_left (Nat.le_of_lt hk), h]
theorem shutTo_succ {n : Int} {l : List RHan} {k : Nat} {y : RHan} (h : l[k]? = some y) : (shutTo n l k).set k (y.shut n) = shutTo n l (k + 1) := by
  obtain ⟨hk, rfl⟩ := List.getElem?_eq_some_iff.1 h
  unfold shutTo
  have e1 : ((l.take k).map (RHan.shut n)).length = k := by simp; omega
  rw [List.set_append_right _ _ (by omega), e1, Nat.sub_self, List.drop_eq_getElem_cons hk, List.set_cons_zero, List.take_add_one, List.getElem?_eq_getElem hk]
  simp only [Option.toList, List.map_append, List.map_cons, List.map_nil, List.append_assoc, List.singleton_append]
theorem set_self' {α : Type} {l : List α} {k : Nat} {y : α} (h : l[k]? = some y) : l.set k y = l := by
  obtain ⟨hk, rfl⟩ := List.getElem?_eq_some_iff.1 h
  exact List.set_getElem_self _

end Go.Proofs.Ytfoncalkgmeklaa

/- Join of the document's heap: P14. -/
namespace Go.Proofs.Ytfoncalkgmeklaa
open Go.RowKit

theorem two_ok {s : R} {x y : Int} (hi : RInv s) (h : (s.two x y).2.2 = 0) : (s.two x y).1 < s.objs.length ∧ (s.two x y).2.1 < s.objs.length := by
  unfold R.two at h ⊢
  split
  · rename_i h1
    refine ⟨look_ok hi h1, ?_⟩
    obtain ⟨_, _, hv, hd⟩ := look_vals h1
    have hsome := hv rfl
    apply look_ok hi
    unfold R.look
    cases hq : s.find? y with
    | none => simp [hq] at hsome
    | some a => simp [hd, R.badValue, R.stale]
  · rename_i h1
    rw [if_neg h1] at h
    exact absurd h h1

def R.joinQ (s : R) (x y : Int) : Int × Int × R :=
  if (s.two x y).2.2 = 0 then
    (if (s.objOf (s.two x y).1).kind = 2 ∧ (s.objOf (s.two x y).2.1).kind = 2 then
      (if 64 < ((s.objOf (s.two x y).1).text ++ (s.objOf (s.two x y).2.1).text).size then (0, 6, s) else s.make (mkBytes ((s.objOf (s.two x y).1).text ++ (s.objOf (s.two x y).2.1).text)))
     else (0, 5, s))
  else (0, (s.two x y).2.2, s)

end Go.Proofs.Ytfoncalkgmeklaa

/- Copy of the document's heap: P14. -/
namespace Go.Proofs.Ytfoncalkgmeklaa
open Go.RowKit

def R.copyQ (s : R) (x : Int) : Int × Int × R := if (s.look1 x).2 = 0 then s.make (s.objOf (s.look1 x).1) else (0, (s.look1 x).2, s)

end Go.Proofs.Ytfoncalkgmeklaa
