import Derived.Test.YtfoncalkgmeklaaXwM6

/- Two handles, Same; a value as it stands in an object, and as the caller is told it. -/
namespace Go.Proofs.Ytfoncalkgmeklaa
open Go.RowKit

def R.two (s : R) (x y : Int) : Nat × Nat × Int := if (s.look x (0, 0) (2, y) false).2 = 0 then ((s.look x (0, 0) (2, y) false).1, (s.look1 y).1, 0) else (0, 0, (s.look x (0, 0) (2, y) false).2)
def R.sameQ (s : R) (x y : Int) : Bool × Int := ((s.two x y).2.2 == 0 && (s.two x y).1 == (s.two x y).2.1, (s.two x y).2.2)

/-- A value as it stands in an object. -/
def R.inner (s : R) (v : Int × Int) : Int × Int := if v.1 = 0 then (0, 0) else if v.1 = 2 then (2, ((s.handles.getD (posOf (s.find? v.2)).toNat rhan0).obj : Int)) else v
/-- A value as the caller is told it. -/
def R.outer (s : R) (v : Int × Int) : (Int × Int) × Int × R :=
  if v.1 = 2 then (if (s.handle v.2.toNat s.scopes).2.1 = 0 then ((2, (s.handle v.2.toNat s.scopes).1), 0, (s.handle v.2.toNat s.scopes).2.2) else ((0, 0), (s.handle v.2.toNat s.scopes).2.1, s)) else (v, 0, s)

theorem handle_scopes (s : R) (o : Nat) (c : Int) : (s.handle o c).2.2.scopes = s.scopes := by unfold R.handle; split <;> rfl
theorem handle_same {s : R} {o : Nat} {c : Int} (h : ¬ (s.handle o c).2.1 = 0) : (s.handle o c).2.2 = s := by
  unfold R.handle at h ⊢
  split at h
  · rfl
  · exact absurd rfl h

end Go.Proofs.Ytfoncalkgmeklaa

/- Get and Key of the document's heap: P7, P8. -/
namespace Go.Proofs.Ytfoncalkgmeklaa
open Go.RowKit

/-- The shapes of objects. -/
structure RSh (s : R) : Prop where
  arr : ∀ o ∈ s.objs, o.kind = 1 → (o.vals.length : Int) = o.size
  tab : ∀ o ∈ s.objs, o.kind = 3 → o.vals.length % 2 = 0 ∧ (o.vals.length : Int) ≤ 2 * o.size ∧ o.size ≤ 8
  txt : ∀ o ∈ s.objs, o.kind = 2 → (o.text.size : Int) = o.size ∧ o.vals = []
  notxt : ∀ o ∈ s.objs, o.kind ≠ 2 → o.text = ⟨#[]⟩

def R.element (s : R) (x i : Int) (v : Int × Int) : Nat × Int :=
  if (s.look x (0, 0) v false).2 = 0 then
    (if (s.objOf (s.look x (0, 0) v false).1).kind = 1 then (if i < 0 ∨ (s.objOf (s.look x (0, 0) v false).1).size ≤ i then (0, 7) else ((s.look x (0, 0) v false).1, 0)) else (0, 5))
  else (0, (s.look x (0, 0) v false).2)
def R.getQ (s : R) (x i : Int) : (Int × Int) × Int × R :=
  if (s.element x i (0, 0)).2 = 0 then s.outer ((s.objOf (s.element x i (0, 0)).1).vals.getD i.toNat (0, 0)) else ((0, 0), (s.element x i (0, 0)).2, s)

theorem cell_lt {w : World} {a : Addr} {v : Value} (h : w.cell? a = some v) : a.block < w.heap.size := by
  rcases Nat.lt_or_ge a.block w.heap.size with hl | hg
  · exact hl
  · simp [World.cell?, Array.getElem?_eq_none hg] at h
theorem cell_chg0 {w w' : World} (k : Chg [] w w') {a : Addr} {v : Value} (h : w.cell? a = some v) : w'.cell? a = some v := by
  rw [k.cell (cell_lt h) (by simp)]; exact h

theorem element_ok {s : R} {x i : Int} {v : Int × Int} (hi : RInv s) (h : (s.element x i v).2 = 0) : (s.element x i v).1 < s.objs.length ∧ (s.objOf (s.element x i v).1).kind = 1 ∧ 0 ≤ i ∧ i < (s.objOf (s.element x i v).1).size := by
  unfold R.element at h ⊢
  split
  · rename_i h1
    rw [if_pos h1] at h
    split
    · rename_i h2
      rw [if_pos h2] at h
      split
      · rename_i h3
        rw [if_pos h3] at h
        simp at h
      · exact ⟨look_ok hi h1, h2, by omega, by simp only []; omega⟩
    · rename_i h2
      rw [if_neg h2] at h
      simp at h
  · rename_i h1
    rw [if_neg h1] at h
    exact absurd h h1

theorem Stp.of_chg {F : List Nat} {w w' : World} (h : Chg [] w w') : Stp F w F w' := ⟨h.mono (by simp), fun _ h => .inl h⟩

def R.keyQ (s : R) (x i : Int) : (Int × Int) × Int × R :=
  if (s.look1 x).2 = 0 then
    (if (s.objOf (s.look1 x).1).kind = 3 then (if i < 0 ∨ ((s.objOf (s.look1 x).1).vals.length : Int) / 2 ≤ i then ((0, 0), 7, s) else s.outer ((s.objOf (s.look1 x).1).vals.getD (2 * i.toNat) (0, 0))) else ((0, 0), 5, s))
  else ((0, 0), (s.look1 x).2, s)

end Go.Proofs.Ytfoncalkgmeklaa

/- Set of the document's heap: P7. -/
namespace Go.Proofs.Ytfoncalkgmeklaa
open Go.RowKit

/-- One object's list becomes another. -/
def R.setObj (s : R) (o : Nat) (ob : RObj) : R := { s with objs := s.objs.set o ob }
def R.setQ (s : R) (x i : Int) (v : Int × Int) : Int × R :=
  if (s.element x i v).2 = 0 then (0, s.setObj (s.element x i v).1 { s.objOf (s.element x i v).1 with vals := (s.objOf (s.element x i v).1).vals.set i.toNat (s.inner v) }) else ((s.element x i v).2, s)

theorem valCells_set : ∀ (l : List (Int × Int)) (j : Nat) (v : Int × Int), j < l.length → ((valCells l).set (j * 2) (.int .i64 v.1)).set (j * 2 + 1) (.int .i64 v.2) = valCells (l.set j v)
  | [], j, v, h => by simp at h
  | x :: r, 0, v, h => by simp [valCells]
  | x :: r, j + 1, v, h => by
    have ih := valCells_set r j v (by simpa using h)
    have e0 : (j + 1) * 2 = j * 2 + 1 + 1 := by omega
    have e1 : (j + 1) * 2 + 1 = j * 2 + 1 + 1 + 1 := by omega
    rw [e1, e0]
    simp only [valCells, List.set_cons_succ]
    rw [ih]

theorem look_vals {s : R} {x : Int} {k v : Int × Int} {key : Bool} (h : (s.look x k v key).2 = 0) : R.badValue k v key = false ∧ (k.1 = 2 → (s.find? k.2).isSome = true) ∧ (v.1 = 2 → (s.find? v.2).isSome = true) ∧ s.dead = false := by
  unfold R.look at h
  split at h
  · simp at h
  · rename_i hd
    split at h
    · simp at h
    · rename_i hbv
      split at h
      · simp at h
      · split at h
        · simp at h
        · rename_i hst
          refine ⟨by simpa using hbv, fun h2 => ?_, fun h2 => ?_, by simpa using hd⟩
          · cases hq : s.find? k.2 with
            | none => simp [R.stale, h2, hq] at hst
            | some a => rfl
          · cases hq : s.find? v.2 with
            | none => simp [R.stale, h2, hq] at hst
            | some a => rfl
theorem element_look {s : R} {x i : Int} {v : Int × Int} (h : (s.element x i v).2 = 0) : (s.look x (0, 0) v false).2 = 0 := by
  unfold R.element at h
  split at h
  · assumption
  · exact h

end Go.Proofs.Ytfoncalkgmeklaa

/- Find of the document's heap, and where a table has a key: P8. -/
namespace Go.Proofs.Ytfoncalkgmeklaa
open Go.RowKit

/-- Where in a table's list a key stands (its length: nowhere). -/
def keyPos (w : Int × Int) : List (Int × Int) → Nat
  | [] => 0
  | [a] => if a = w then 0 else 2
  | a :: _ :: r => if a = w then 0 else keyPos w r + 2
theorem keyPos_step {w : Int × Int} {l : List (Int × Int)} {k : Nat} {a : Int × Int} (h : l[k]? = some a) (ha : a ≠ w) : keyPos w (l.drop k) = keyPos w (l.drop (k + 2)) + 2 := by
  obtain ⟨hk, rfl⟩ := List.getElem?_eq_some_iff.1 h
  rw [List.drop_eq_getElem_cons hk]
  cases hd : l.drop (k + 1) with
  | nil =>
    have : l.drop (k + 2) = [] := by
      rw [List.drop_eq_nil_iff] at hd ⊢; omega
    rw [this]
    simp [keyPos, ha]
  | cons b r =>
    have : l.drop (k + 2) = r := by
      rw [show k + 2 = (k + 1) + 1 from rfl, ← List.drop_drop, hd]; rfl
    rw [this]
    simp [keyPos, ha]
theorem keyPos_here {w : Int × Int} {l : List (Int × Int)} {k : Nat} (h : l[k]? = some w) : keyPos w (l.drop k) = 0 := by
  obtain ⟨hk, rfl⟩ := List.getElem?_eq_some_iff.1 h
  rw [List.drop_eq_getElem_cons hk]
  cases l.drop (k + 1) <;> simp [keyPos]

def R.table (s : R) (x : Int) (k v : Int × Int) : Nat × Nat × Int :=
  if (s.look x k v true).2 = 0 then
    (if (s.objOf (s.look x k v true).1).kind = 3 then ((s.look x k v true).1, keyPos (s.inner k) (s.objOf (s.look x k v true).1).vals, 0) else (0, 0, 5))
  else (0, 0, (s.look x k v true).2)

theorem keyPos_even (w : Int × Int) : ∀ (l : List (Int × Int)), l.length % 2 = 0 → keyPos w l ≤ l.length ∧ keyPos w l % 2 = 0
  | [], _ => by simp [keyPos]
  | [a], h => by simp at h
  | a :: b :: r, h => by
    have ih := keyPos_even w r (by simp at h; omega)
    simp only [keyPos]
    split
    · simp
    · simp; omega
theorem keyPos_at (w : Int × Int) : ∀ (l : List (Int × Int)), keyPos w l < l.length → l[keyPos w l]? = some w
  | [], h => by simp at h
  | [a], h => by
    simp only [keyPos] at h ⊢
    split
    · rename_i e; subst e; rfl
    · rename_i e; rw [if_neg e] at h; simp at h
  | a :: b :: r, h => by
    simp only [keyPos] at h ⊢
    split
    · rename_i e; subst e; rfl
    · rename_i e
      rw [if_neg e] at h
      exact keyPos_at w r (by simpa using h)
theorem table_ok {s : R} {x : Int} {k v : Int × Int} (hi : RInv s) (h : (s.table x k v).2.2 = 0) : (s.table x k v).1 < s.objs.length ∧ (s.objOf (s.table x k v).1).kind = 3 ∧ (s.table x k v).2.1 = keyPos (s.inner k) (s.objOf (s.table x k v).1).vals ∧ (s.look x k v true).2 = 0 ∧ (s.look x k v true).1 = (s.table x k v).1 := by
  unfold R.table at h ⊢
  split
  · rename_i h1
    rw [if_pos h1] at h
    split
    · rename_i h2
      exact ⟨look_ok hi h1, h2, rfl, h1, rfl⟩
    · rename_i h2
      rw [if_neg h2] at h
      simp at h
  · rename_i h1
    rw [if_neg h1] at h
    exact absurd h h1

def R.findQ (s : R) (x : Int) (k : Int × Int) : (Int × Int) × Int × R :=
  if (s.table x k (0, 0)).2.2 = 0 then (if (s.table x k (0, 0)).2.1 = (s.objOf (s.table x k (0, 0)).1).vals.length then ((0, 0), 8, s) else s.outer ((s.objOf (s.table x k (0, 0)).1).vals.getD ((s.table x k (0, 0)).2.1 + 1) (0, 0))) else ((0, 0), (s.table x k (0, 0)).2.2, s)

/-- What table tells, in one form. -/
def tabPtr (L : RL) (o : Nat) (er : Int) : Value := if er = 0 then .pointer (some ⟨L.obs.getD o 0, 0, none⟩) else .pointer none
end Go.Proofs.Ytfoncalkgmeklaa
