import Derived.Test.YtfoncalkgmeklaaXwM1
import Derived.Deep.DeepMust

/- A plain function for each call of the document's heap (package gripref), on plain data. Nothing of the program's text is named here. -/
namespace Go.Proofs.Ytfoncalkgmeklaa

structure RObj where
  kind : Int
  size : Int
  vals : List (Int × Int)
  text : ByteArray

structure RHan where
  num : Int
  scope : Int
  obj : Nat
  live : Bool

structure R where
  limit : Int
  flags : List Bool
  made : Nat
  dead : Bool
  objs : List RObj
  row : List Nat
  handles : List RHan
  scopes : Int

def robj0 : RObj := ⟨0, 0, [], ByteArray.empty⟩
def rhan0 : RHan := ⟨0, 0, 0, false⟩
def posOf : Option Nat → Int
  | some k => k
  | none => -1
def wordsOf (kind size : Int) : Int := if kind = 1 then 1 + 2 * size else if kind = 2 then 1 + (size / 8 + if size % 8 > 0 then 1 else 0) else 2 + 4 * size
def oWords (o : RObj) : Int := wordsOf o.kind o.size
/-- The words of a row of objects. -/
def usedOf (objs : List RObj) : List Nat → Int
  | [] => 0
  | i :: r => oWords (objs.getD i robj0) + usedOf objs r
/-- The words ahead of an object in a row. -/
def placeOf (objs : List RObj) (obj : Nat) : List Nat → Int
  | [] => 0
  | i :: r => if i = obj then 0 else oWords (objs.getD i robj0) + placeOf objs obj r
def R.find? (s : R) (x : Int) : Option Nat := s.handles.findIdx? fun h => h.live && h.num == x
def R.at? (s : R) (slot : Int) : Option Nat := s.handles.findIdx? fun h => h.live && h.num % 32 == slot
def R.free? (s : R) : Option Nat := (List.range 32).find? fun k => (s.at? k).isNone
def R.past (s : R) (slot : Int) : Nat := s.handles.countP fun h => h.num % 32 == slot
def R.left (s : R) : Int := s.limit - usedOf s.objs s.row
/-- A new handle. -/
def R.handle (s : R) (obj : Nat) (scope : Int) : Int × Int × R :=
  match s.free? with
  | none => (0, 11, s)
  | some k => (32 * s.past k + k, 0, { s with handles := s.handles ++ [⟨32 * s.past k + k, scope, obj, true⟩] })

/-- P1's first errors, then the object's number. -/
def R.badValue (k v : Int × Int) (key : Bool) : Bool := k.1 < 0 || 2 < k.1 || v.1 < 0 || 2 < v.1 || (key && k.1 == 0)
def R.stale (s : R) (k v : Int × Int) : Bool := (k.1 == 2 && (s.find? k.2).isNone) || (v.1 == 2 && (s.find? v.2).isNone)
def R.look (s : R) (x : Int) (k v : Int × Int) (key : Bool) : Nat × Int :=
  if s.dead then (0, 2) else if R.badValue k v key then (0, 3) else
  match s.find? x with
  | none => (0, 4)
  | some a => if s.stale k v then (0, 4) else ((s.handles.getD a rhan0).obj, 0)

/-- The object that a handle has (no other argument). -/
def R.look1 (s : R) (x : Int) : Nat × Int := s.look x (0, 0) (0, 0) false
def R.objOf (s : R) (i : Nat) : RObj := s.objs.getD i robj0
def R.kindQ (s : R) (x : Int) : Int × Int := if (s.look1 x).2 = 0 then ((s.objOf (s.look1 x).1).kind, 0) else (0, (s.look1 x).2)
def R.lenQ (s : R) (x : Int) : Int × Int :=
  if (s.look1 x).2 = 0 then (if (s.objOf (s.look1 x).1).kind = 3 then (((s.objOf (s.look1 x).1).vals.length : Int) / 2, 0) else ((s.objOf (s.look1 x).1).size, 0)) else (0, (s.look1 x).2)
def R.textQ (s : R) (x : Int) : ByteArray × Int :=
  if (s.look1 x).2 = 0 then (if (s.objOf (s.look1 x).1).kind = 2 then ((s.objOf (s.look1 x).1).text, 0) else (⟨#[]⟩, 5)) else (⟨#[]⟩, (s.look1 x).2)
def R.placeQ (s : R) (x : Int) : Int × Int := if (s.look1 x).2 = 0 then (placeOf s.objs (s.look1 x).1 s.row, 0) else (0, (s.look1 x).2)

theorem usedOf_append (objs : List RObj) (a b : List Nat) : usedOf objs (a ++ b) = usedOf objs a + usedOf objs b := by
  induction a with
  | nil => simp [usedOf]
  | cons i r ih => simp only [List.cons_append, usedOf, ih]; omega
theorem usedOf_snoc (objs : List RObj) (a : List Nat) (i : Nat) : usedOf objs (a ++ [i]) = usedOf objs a + oWords (objs.getD i robj0) := by
  rw [usedOf_append]; simp [usedOf]

/-- What the calls keep: numbers are in their bounds, references lead to objects. -/
structure RInv (s : R) : Prop where
  limit : 1 ≤ s.limit ∧ s.limit ≤ 512
  nflags : s.flags.length ≤ 64
  kinds : ∀ o ∈ s.objs, 1 ≤ o.kind ∧ o.kind ≤ 3 ∧ 0 ≤ o.size ∧ o.size ≤ 64 ∧ (o.kind ≠ 2 → o.size ≤ 16)
  rows : ∀ i ∈ s.row, i < s.objs.length
  rowLen : s.row.length ≤ s.objs.length
  nums : ∀ h ∈ s.handles, 0 ≤ h.num ∧ h.num < 32 * (s.handles.length + 1) ∧ h.obj < s.objs.length
  vals : ∀ o ∈ s.objs, ∀ v ∈ o.vals, 0 ≤ v.1 ∧ v.1 ≤ 2 ∧ (v.1 = 2 → 0 ≤ v.2 ∧ v.2 < s.objs.length)
  valLen : ∀ o ∈ s.objs, o.vals.length ≤ 16
  scopes : 0 ≤ s.scopes ∧ s.scopes ≤ 16
/-- The lengths' bound: far from the greatest number. -/
structure RBd (s : R) : Prop where
  objs : s.objs.length ≤ 1125899906842624
  handles : s.handles.length ≤ 1125899906842624
  made : s.made ≤ 1125899906842624

theorem words_bd {o : RObj} (h : 1 ≤ o.kind ∧ o.kind ≤ 3 ∧ 0 ≤ o.size ∧ o.size ≤ 64 ∧ (o.kind ≠ 2 → o.size ≤ 16)) : 1 ≤ oWords o ∧ oWords o ≤ 66 := by
  unfold oWords wordsOf
  obtain ⟨h1, h2, h3, h4, h5⟩ := h
  split
  · have := h5 (by omega); omega
  · split
    · split <;> omega
    · have := h5 (by omega); omega
end Go.Proofs.Ytfoncalkgmeklaa

/- What gripref.New does at every limit and list of flags: nil where the document has no heap, else a heap of the given limit whose flags are a fresh copy. No condition but that the flags' cells are there. -/
namespace Go.Proofs.Ytfoncalkgmeklaa
open Go.RowKit

theorem info4 : (Try.prog.info? 4).map (fun i => (i.zero, i.size, i.bytes)) = some (some (.bool false), 1, 1) := by kernel_rfl

/-- The cells of gripref.Heap. -/
def refCells (limit : Int) (flags : Value) (made : Int) (dead : Bool) (objs row handles : Value) (scopes : Int) : List Value :=
  [.int .i64 limit, flags, .int .i64 made, .bool dead, objs, row, handles, .int .i64 scopes]

end Go.Proofs.Ytfoncalkgmeklaa

/- How the document's heap lies in memory, and what holds of it in a world that has turned elsewhere. -/
namespace Go.Proofs.Ytfoncalkgmeklaa
open Go.RowKit

/-- Where the parts of a document's heap lie. -/
structure RL where
  fa : Option Addr
  fc : Nat
  oa : Option Addr
  oc : Nat
  ra : Option Addr
  rc : Nat
  ha : Option Addr
  hc : Nat
  obs : List Nat
  vas : List (Option Addr × Nat)

def ptr (b : Nat) : Value := .pointer (some ⟨b, 0, none⟩)
def i64 (n : Int) : Value := .int .i64 n
def valCells : List (Int × Int) → List Value
  | [] => []
  | (a, b) :: r => .int .i64 a :: .int .i64 b :: valCells r
def hanCells : List RHan → List Value
  | [] => []
  | h :: r => .int .i64 h.num :: .int .i64 h.scope :: .int .i64 h.obj :: .bool h.live :: hanCells r
def objCells (o : RObj) (v : Value) : List Value := [.int .i64 o.kind, .int .i64 o.size, v, .string o.text]
def rowCells (l : List Nat) : List Value := l.map fun (n : Nat) => .int .i64 (n : Int)
def ab (a : Option Addr) : List Nat := (a.map (·.block)).toList

/-- The blocks of a document's heap. -/
def RL.foot (br : Nat) (L : RL) : List Nat := br :: (ab L.fa ++ ab L.oa ++ ab L.ra ++ ab L.ha ++ L.obs ++ L.vas.flatMap fun x => ab x.1)

theorem mem_ab {a : Addr} {o : Option Addr} (h : o = some a) : a.block ∈ ab o := by subst h; simp [ab]
theorem ownBlock_ab {a : Option Addr} {n c g : Nat} (h : (Value.slice a n c).ownBlock = some g) : g ∈ ab a := by
  cases a with
  | none => simp [Value.ownBlock] at h
  | some x => simp [Value.ownBlock] at h; subst h; simp [ab]

/-- The cell of a row of structs. -/
theorem hanCells_at : ∀ (l : List RHan) (k : Nat) (h : RHan), l[k]? = some h → (hanCells l)[k * 4]? = some (.int .i64 h.num) ∧ (hanCells l)[k * 4 + 1]? = some (.int .i64 h.scope) ∧ (hanCells l)[k * 4 + 2]? = some (.int .i64 h.obj) ∧ (hanCells l)[k * 4 + 3]? = some (.bool h.live)
  | [], k, h, e => by simp at e
  | x :: r, 0, h, e => by simp at e; subst e; simp [hanCells]
  | x :: r, k + 1, h, e => by
    have ih := hanCells_at r k h (by simpa using e)
    have e0 : (k + 1) * 4 = k * 4 + 4 := by omega
    rw [e0]
    simp only [hanCells]
    exact ⟨ih.1, ih.2.1, ih.2.2.1, ih.2.2.2⟩
theorem valCells_at : ∀ (l : List (Int × Int)) (k : Nat) (v : Int × Int), l[k]? = some v → (valCells l)[k * 2]? = some (.int .i64 v.1) ∧ (valCells l)[k * 2 + 1]? = some (.int .i64 v.2)
  | [], k, h, e => by simp at e
  | x :: r, 0, h, e => by simp at e; subst e; simp [valCells]
  | x :: r, k + 1, h, e => by
    have ih := valCells_at r k h (by simpa using e)
    have e0 : (k + 1) * 2 = k * 2 + 2 := by omega
    rw [e0]
    simp only [valCells]
    exact ⟨ih.1, ih.2⟩
theorem length_hanCells (l : List RHan) : (hanCells l).length = l.length * 4 := by
  induction l with
  | nil => rfl
  | cons h r ih => simp [hanCells, ih]; omega
theorem length_valCells (l : List (Int × Int)) : (valCells l).length = l.length * 2 := by
  induction l with
  | nil => rfl
  | cons h r ih => simp [valCells, ih]; omega
theorem hanCells_append (a b : List RHan) : hanCells (a ++ b) = hanCells a ++ hanCells b := by
  induction a with
  | nil => rfl
  | cons h r ih => simp [hanCells, ih]
theorem valCells_append (a b : List (Int × Int)) : valCells (a ++ b) = valCells a ++ valCells b := by
  induction a with
  | nil => rfl
  | cons h r ih => simp [valCells, ih]

/-- A row that holds something lies at a block's head; its cells. -/
theorem owns_at {w : World} {e : TypeId} {size : Nat} {a : Option Addr} {n c : Nat} {xs : List Value} (h : w.ownsRow 0 e size (.slice a n c) n xs) (hn : 0 < n) :
    ∃ g, a = some ⟨g, 0, none⟩ ∧ g < w.heap.size ∧ ∀ j u, xs[j]? = some u → w.cell? ⟨g, j, none⟩ = some u := by
  obtain ⟨ad, e, hl, hc⟩ := owns_src h hn
  subst e
  have := owns_some h (g := ad.block) rfl
  simp only [Option.some.injEq] at this
  rw [this] at hc hl ⊢
  refine ⟨_, rfl, hl, fun j u hj => ?_⟩
  have := hc j u hj
  rwa [addr_add, Nat.zero_add] at this

/-! What a step may do to a heap's blocks -/
/-- From world w, where the heap has the blocks F, to world w', where it has F': nothing else has turned. -/
structure Stp (F : List Nat) (w : World) (F' : List Nat) (w' : World) : Prop where
  chg : Chg F w w'
  foot : ∀ b ∈ F', b ∈ F ∨ w.heap.size ≤ b
theorem Stp.refl (F : List Nat) (w : World) : Stp F w F w := ⟨Chg.refl _ _, fun _ h => .inl h⟩
theorem Stp.trans {F F' F'' : List Nat} {w w' w'' : World} (h : Stp F w F' w') (k : Stp F' w' F'' w'') : Stp F w F'' w'' :=
  ⟨h.chg.trans_new k.chg h.foot, fun b hb => by
    rcases k.foot b hb with h1 | h1
    · exact h.foot b h1
    · exact .inr (Nat.le_trans h.chg.size h1)⟩
theorem Stp.drewN {F F' : List Nat} {w w' : World} (h : Stp F w F' w') (n : Nat) : Stp F w F' (w'.drewN n) := ⟨h.chg.drewN n, h.foot⟩
theorem Stp.quiet (F : List Nat) (w : World) (n : Nat) : Stp F w F (w.drewN n) := (Stp.refl F w).drewN n

/-- A block's element type. -/
def Ty (w : World) (b : Nat) (T : TypeId) : Prop := ∃ c f, w.heap[b]? = some (.cells c T f)
theorem Ty.ne {w : World} {b : Nat} {T T' : TypeId} (h : Ty w b T) (ht : T ≠ T') : ¬ Ty w b T' := by
  rintro ⟨c', f', h'⟩
  obtain ⟨c, f, h⟩ := h
  rw [h] at h'
  simp only [Option.some.injEq, Obj.cells.injEq] at h'
  exact ht h'.2.1
theorem Blk.ty {w : World} {b : Nat} {c : List Value} {T : TypeId} (h : Blk w b c T) : Ty w b T := ⟨_, _, h⟩
theorem owns_ty {w : World} {e : TypeId} {size : Nat} {a : Option Addr} {n m c : Nat} {xs : List Value} (h : w.ownsRow 0 e size (.slice a n c) m xs) : ∀ b ∈ ab a, Ty w b e := by
  intro b hb
  rcases h.2 with ⟨hv, _⟩ | ⟨g, cap, cur, hv, _, hh, _⟩
  · simp only [Value.slice.injEq] at hv; obtain ⟨rfl, _⟩ := hv; simp [ab] at hb
  · simp only [Value.slice.injEq] at hv; obtain ⟨rfl, _⟩ := hv; simp [ab] at hb; subst hb; exact ⟨_, _, hh⟩
theorem Blk.chg_ty {S : List Nat} {w w' : World} {b : Nat} {c : List Value} {T : TypeId} (h : Blk w b c T) (k : Chg S w w') (hs : ∀ x ∈ S, ¬ Ty w x T) : Blk w' b c T :=
  h.chg k (fun hb => hs b hb h.ty)
theorem owns_chg_ty {S : List Nat} {w w' : World} {e : TypeId} {size : Nat} {a : Option Addr} {n m c : Nat} {xs : List Value} (h : w.ownsRow 0 e size (.slice a n c) m xs) (k : Chg S w w') (hs : ∀ x ∈ S, ¬ Ty w x e) : w'.ownsRow 0 e size (.slice a n c) m xs :=
  owns_chg h k (fun g hg hb => hs g hb (owns_ty h g (ownBlock_ab hg)))
theorem not_ty {S : List Nat} {w : World} {T T1 T2 : TypeId} (hS : ∀ b ∈ S, Ty w b T1 ∨ Ty w b T2) (h1 : T1 ≠ T) (h2 : T2 ≠ T) : ∀ b ∈ S, ¬ Ty w b T := by
  intro b hb
  rcases hS b hb with h | h
  · exact h.ne h1
  · exact h.ne h2

end Go.Proofs.Ytfoncalkgmeklaa

/- What the document's heap reads: find, at, free, words, used, Left, place. -/
namespace Go.Proofs.Ytfoncalkgmeklaa
open Go.RowKit

theorem findIdx_some {α : Type} {p : α → Bool} {l : List α} {k : Nat} {x : α} (hx : l[k]? = some x) (hp : p x = true) (hno : ∀ (j : Nat) y, j < k → l[j]? = some y → p y = false) : l.findIdx? p = some k := by
  obtain ⟨hk, rfl⟩ := List.getElem?_eq_some_iff.1 hx
  refine List.findIdx?_eq_some_iff_getElem.2 ⟨hk, hp, fun j hj => ?_⟩
  have := hno j _ hj (List.getElem?_eq_getElem (by omega))
  simp [this]
theorem findIdx_none {α : Type} {p : α → Bool} {l : List α} (hno : ∀ (j : Nat) y, j < l.length → l[j]? = some y → p y = false) : l.findIdx? p = none := by
  refine List.findIdx?_eq_none_iff.2 fun x hx => ?_
  obtain ⟨i, hi, rfl⟩ := List.getElem_of_mem hx
  exact hno i _ hi (List.getElem?_eq_getElem hi)
theorem no_succ {α : Type} {p : α → Bool} {l : List α} {k : Nat} {x : α} (hx : l[k]? = some x) (hp : p x = false) (hno : ∀ (j : Nat) y, j < k → l[j]? = some y → p y = false) : ∀ (j : Nat) y, j < k + 1 → l[j]? = some y → p y = false := by
  intro j y hj hy
  by_cases e : j = k
  · subst e; rw [hx] at hy; cases hy; exact hp
  · exact hno j y (by omega) hy
theorem ret_int {k : IntKind} {a b : Int} (h : a = b) : Ending.returned (.int k a) = .returned (.int k b) := by rw [h]

theorem free_some {s : R} {k : Nat} (hk : k < 32) (h : (s.at? (k : Int)).isNone = true) (hno : ∀ j : Nat, j < k → (s.at? (j : Int)).isNone = false) : s.free? = some k := by
  unfold R.free?
  rw [List.find?_eq_some_iff_getElem]
  refine ⟨h, k, by simpa using hk, by simp, fun j hj => ?_⟩
  simpa using hno j hj
theorem free_none {s : R} (hno : ∀ j : Nat, j < 32 → (s.at? (j : Int)).isNone = false) : s.free? = none := by
  unfold R.free?
  rw [List.find?_eq_none]
  intro j hj hq
  have := hno j (by simpa using hj)
  rw [hq] at this
  cases this
theorem posOf_neg {o : Option Nat} : (posOf o < 0) ↔ o.isNone = true := by cases o <;> simp [posOf]

theorem rowCells_at {l : List Nat} {k i : Nat} (h : l[k]? = some i) : (rowCells l)[k]? = some (.int .i64 (i : Int)) := by
  simp [rowCells, h]
theorem used_bd {s : R} (hi : RInv s) : ∀ (r : List Nat), (∀ i ∈ r, i < s.objs.length) → 0 ≤ usedOf s.objs r ∧ usedOf s.objs r ≤ 66 * r.length
  | [], _ => by simp [usedOf]
  | i :: r, h => by
    have ih := used_bd hi r (fun x hx => h x (List.mem_cons_of_mem _ hx))
    have hlt := h i (List.mem_cons_self)
    have hg : s.objs.getD i robj0 = s.objs[i] := by simp [List.getD, hlt]
    have hw := words_bd (hi.kinds _ (List.getElem_mem hlt))
    rw [← hg] at hw
    simp only [usedOf, List.length_cons]
    omega
theorem placeOf_stop {objs : List RObj} {obj : Nat} : ∀ {row : List Nat} {k : Nat}, (∀ (j i : Nat), j < k → row[j]? = some i → i ≠ obj) → (row[k]? = some obj ∨ row.length = k) → placeOf objs obj row = usedOf objs (row.take k)
  | [], k, _, _ => by simp [placeOf, usedOf]
  | i :: r, 0, _, h => by
    rcases h with h | h
    · simp at h; subst h; simp [placeOf, usedOf]
    · simp at h
  | i :: r, k + 1, hno, h => by
    have hne : i ≠ obj := hno 0 i (by omega) rfl
    have ih := placeOf_stop (objs := objs) (obj := obj) (row := r) (k := k) (fun j x hj hx => hno (j + 1) x (by omega) (by simpa using hx)) (by
      rcases h with h | h
      · exact .inl (by simpa using h)
      · exact .inr (by simpa using h))
    simp [placeOf, usedOf, hne, ih]

end Go.Proofs.Ytfoncalkgmeklaa

/- A new handle of the document's heap. -/
namespace Go.Proofs.Ytfoncalkgmeklaa
open Go.RowKit

theorem countP_take {α : Type} {p : α → Bool} {l : List α} {k : Nat} {x : α} (hx : l[k]? = some x) : (l.take (k + 1)).countP p = (l.take k).countP p + if p x = true then 1 else 0 := by
  rw [List.take_add_one, hx]
  simp [List.countP_append, List.countP_cons]

/-- What append leaves of an old row's blocks. -/
theorem grown_ab {w0 w w1 : World} {S : List Nat} {a : Option Addr} {n c : Nat} (hc : Chg S w0 w) (hg : w.grownBy w1 (Value.slice a n c).ownBlock) : Chg (S ++ ab a) w0 w1 :=
  (hc.mono (fun x hx => by simp [hx])).grown hg (fun k hk => .inl (by simp [ownBlock_ab hk]))
theorem at_ab {w : World} {a va : Option Addr} {n n' c c' H : Nat} (hH : w.heap.size ≤ H) (hat : (Value.slice va n' c').ownBlock = (Value.slice a n c).ownBlock ∨ (Value.slice va n' c').ownBlock = some H) : ∀ b ∈ ab va, b ∈ ab a ∨ w.heap.size ≤ b := by
  intro b hb
  cases va with
  | none => simp [ab] at hb
  | some x =>
    simp [ab] at hb
    subst hb
    rcases hat with h | h
    · exact .inl (ownBlock_ab h.symm)
    · right; simp [Value.ownBlock] at h; omega

end Go.Proofs.Ytfoncalkgmeklaa
