import Derived.Test.YtfoncalkgmeklaaGreatYwM1
import Derived.Deep.DeepMust

/- A plain function for each call of the document's heap (package gripref), on plain data. Nothing of the program's text is named here. -/
namespace Go.Proofs.YtfoncalkgmeklaaGreat

structure RObj where
  kind : Int
  size : Int
  vals : List (Int × Int)
  text : ByteArray

structure RHan where
  num : Int
  scope : Int
  obj : Nat
  live : Bool

structure R where
  limit : Int
  flags : List Bool
  made : Nat
  dead : Bool
  objs : List RObj
  row : List Nat
  handles : List RHan
  scopes : Int

def robj0 : RObj := ⟨0, 0, [], ByteArray.empty⟩
def rhan0 : RHan := ⟨0, 0, 0, false⟩
def posOf : Option Nat → Int
  | some k => k
  | none => -1
def wordsOf (kind size : Int) : Int := if kind = 1 then 1 + 2 * size else if kind = 2 then 1 + (size / 8 + if size % 8 > 0 then 1 else 0) else 2 + 4 * size
def oWords (o : RObj) : Int := wordsOf o.kind o.size
/-- The words of a row of objects. -/
def usedOf (objs : List RObj) : List Nat → Int
  | [] => 0
  | i :: r => oWords (objs.getD i robj0) + usedOf objs r
/-- The words ahead of an object in a row. -/
def placeOf (objs : List RObj) (obj : Nat) : List Nat → Int
  | [] => 0
  | i :: r => if i = obj then 0 else oWords (objs.getD i robj0) + placeOf objs obj r
def R.find? (s : R) (x : Int) : Option Nat := s.handles.findIdx? fun h => h.live && h.num == x
def R.at? (s : R) (slot : Int) : Option Nat := s.handles.findIdx? fun h => h.live && h.num % 32 == slot
def R.free? (s : R) : Option Nat := (List.range 32).find? fun k => (s.at? k).isNone
def R.past (s : R) (slot : Int) : Nat := s.handles.countP fun h => h.num % 32 == slot
def R.left (s : R) : Int := s.limit - usedOf s.objs s.row
/-- A new handle. -/
def R.handle (s : R) (obj : Nat) (scope : Int) : Int × Int × R :=
  match s.free? with
  | none => (0, 11, s)
  | some k => (32 * s.past k + k, 0, { s with handles := s.handles ++ [⟨32 * s.past k + k, scope, obj, true⟩] })

/-- P1's first errors, then the object's number. -/
def R.badValue (k v : Int × Int) (key : Bool) : Bool := k.1 < 0 || 2 < k.1 || v.1 < 0 || 2 < v.1 || (key && k.1 == 0)
def R.stale (s : R) (k v : Int × Int) : Bool := (k.1 == 2 && (s.find? k.2).isNone) || (v.1 == 2 && (s.find? v.2).isNone)
def R.look (s : R) (x : Int) (k v : Int × Int) (key : Bool) : Nat × Int :=
  if s.dead then (0, 2) else if R.badValue k v key then (0, 3) else
  match s.find? x with
  | none => (0, 4)
  | some a => if s.stale k v then (0, 4) else ((s.handles.getD a rhan0).obj, 0)

/-- The object that a handle has (no other argument). -/
def R.look1 (s : R) (x : Int) : Nat × Int := s.look x (0, 0) (0, 0) false
def R.objOf (s : R) (i : Nat) : RObj := s.objs.getD i robj0
def R.kindQ (s : R) (x : Int) : Int × Int := if (s.look1 x).2 = 0 then ((s.objOf (s.look1 x).1).kind, 0) else (0, (s.look1 x).2)
def R.lenQ (s : R) (x : Int) : Int × Int :=
  if (s.look1 x).2 = 0 then (if (s.objOf (s.look1 x).1).kind = 3 then (((s.objOf (s.look1 x).1).vals.length : Int) / 2, 0) else ((s.objOf (s.look1 x).1).size, 0)) else (0, (s.look1 x).2)
def R.textQ (s : R) (x : Int) : ByteArray × Int :=
  if (s.look1 x).2 = 0 then (if (s.objOf (s.look1 x).1).kind = 2 then ((s.objOf (s.look1 x).1).text, 0) else (⟨#[]⟩, 5)) else (⟨#[]⟩, (s.look1 x).2)
def R.placeQ (s : R) (x : Int) : Int × Int := if (s.look1 x).2 = 0 then (placeOf s.objs (s.look1 x).1 s.row, 0) else (0, (s.look1 x).2)

theorem usedOf_append (objs : List RObj) (a b : List Nat) : usedOf objs (a ++ b) = usedOf objs a + usedOf objs b := by
  induction a with
  | nil => simp [usedOf]
  | cons i r ih => simp only [List.cons_append, usedOf, ih]; omega
theorem usedOf_snoc (objs : List RObj) (a : List Nat) (i : Nat) : usedOf objs (a ++ [i]) = usedOf objs a + oWords (objs.getD i robj0) := by
  rw [usedOf_append]; simp [usedOf]

/-- What the calls keep: numbers are in their bounds, references lead to objects. -/
structure RInv (s : R) : Prop where
  limit : 1 ≤ s.limit ∧ s.limit ≤ 512
  nflags : s.flags.length ≤ 64
  kinds : ∀ o ∈ s.objs, 1 ≤ o.kind ∧ o.kind ≤ 3 ∧ 0 ≤ o.size ∧ o.size ≤ 64 ∧ (o.kind ≠ 2 → o.size ≤ 16)
  rows : ∀ i ∈ s.row, i < s.objs.length
  rowLen : s.row.length ≤ s.objs.length
  nums : ∀ h ∈ s.handles, 0 ≤ h.num ∧ h.num < 32 * (s.handles.length + 1) ∧ h.obj < s.objs.length
  vals : ∀ o ∈ s.objs, ∀ v ∈ o.vals, 0 ≤ v.1 ∧ v.1 ≤ 2 ∧ (v.1 = 2 → 0 ≤ v.2 ∧ v.2 < s.objs.length)
  valLen : ∀ o ∈ s.objs, o.vals.length ≤ 16
  scopes : 0 ≤ s.scopes ∧ s.scopes ≤ 16
/-- The lengths' bound: far from the greatest number. -/
structure RBd (s : R) : Prop where
  objs : s.objs.length ≤ 3298534883328
  handles : s.handles.length ≤ 3298534883328
  made : s.made ≤ 3298534883328

theorem words_bd {o : RObj} (h : 1 ≤ o.kind ∧ o.kind ≤ 3 ∧ 0 ≤ o.size ∧ o.size ≤ 64 ∧ (o.kind ≠ 2 → o.size ≤ 16)) : 1 ≤ oWords o ∧ oWords o ≤ 66 := by
  unfold oWords wordsOf
  obtain ⟨h1, h2, h3, h4, h5⟩ := h
  split
  · have := h5 (by omega); omega
  · split
    · split <;> omega
    · have := h5 (by omega); omega
end Go.Proofs.YtfoncalkgmeklaaGreat

/- What gripref.New does at every limit and list of flags: nil where the document has no heap, else a heap of the given limit whose flags are a fresh copy. No condition but that the flags' cells are there. -/
namespace Go.Proofs.YtfoncalkgmeklaaGreat
open Go.RowKit

theorem info4 : (Tryz.prog.info? 4).map (fun i => (i.zero, i.size, i.bytes)) = some (some (.bool false), 1, 1) := by kernel_rfl

/-- The cells of gripref.Heap. -/
def refCells (limit : Int) (flags : Value) (made : Int) (dead : Bool) (objs row handles : Value) (scopes : Int) : List Value :=
  [.int .i64 limit, flags, .int .i64 made, .bool dead, objs, row, handles, .int .i64 scopes]

set_option maxHeartbeats 400000 in
theorem refNew_bad (l : Int) (a : Option Addr) (n c : Nat) (w : World) (h : l < 1 ∨ 512 < l ∨ 64 < n) : Calls Tryz.prog 17 #[.int .i64 l, .slice a n c] w fun e w' => e = .returned (.pointer none) ∧ w' = w := by
  go_enter Tryz.func17, Tryz.ntmps17
  go_wp2
  all_goals first | (exfalso; omega; done) | skip
  all_goals go_ret
  all_goals exact ⟨rfl, rfl⟩

set_option maxRecDepth 100000 in
set_option maxHeartbeats 400000 in
theorem refNew_good (l : Int) (a : Option Addr) (n c : Nat) (fs : List Value) (w : World) (h1 : 1 ≤ l) (h2 : l ≤ 512) (hn : n ≤ 64) (hl : fs.length = n)
    (hsrc : 0 < n → ∃ ad, a = some ad ∧ ∀ j u, fs[j]? = some u → w.cell? (ad.add j) = some u) (hone : ∀ u ∈ fs, u.oneCell' = true) (hlt : ∀ ad, a = some ad → 0 < n → ad.block < w.heap.size) :
    Calls Tryz.prog 17 #[.int .i64 l, .slice a n c] w fun e w' => e = .returned (.pointer (some ⟨w.heap.size, 0, none⟩)) ∧ ∃ fv,
    Blk w' w.heap.size (refCells l fv 0 false (.slice none 0 0) (.slice none 0 0) (.slice none 0 0) 0) 53 ∧ w'.ownsRow 0 4 1 fv n fs ∧ (∀ g, fv.ownBlock = some g → w.heap.size < g) ∧ Chg [] w w' := by
  obtain ⟨i0, hi, hz0, hz1, hz2⟩ := info_parts info4
  have hlt64 : (n : Int) ≤ 64 := by omega
  have Hsrc := hide hsrc; have Hone := hide hone; have Hlt := hide hlt; have Hl := hide hl
  clear hsrc hone hlt hl
  go_enter Tryz.func17, Tryz.ntmps17
  go_wp2_with (at_builtin; go_must (refine wpList_append_gen _ rfl (.tmp 24) (.tmp 25) 22 rfl 4 i0 (.bool false) 1 1 Tryz.underlying22 hi hz0 hz1 hz2 rfl (by decide) (.slice none 0 0) 0 [] rfl (World.ownsRow_nil _ _ _ _) a n c fs rfl ?c0 ?c1 (unhide Hone) ?c2 ?c3 ?_))
  case c0 => simpa using unhide Hl
  case c1 =>
    intro h0
    obtain ⟨ad, e, hc⟩ := unhide Hsrc h0
    exact ⟨ad, e, fun j u hj => by rw [((Chg.refl [] w).alloc _).cell (by rw [addr_add_block]; exact unhide Hlt ad e h0) (by simp)]; exact hc j u hj⟩
  case c2 => unfold maxLen; omega
  case c3 => omega
  intro va cap w1 ho hg hnil hat
  have hb0 := Blk.new w (refCells l (.slice none 0 0) 0 false (.slice none 0 0) (.slice none 0 0) (.slice none 0 0) 0) 53
  have hb1 := hb0.chg (grown_chg hg) (by simp [Value.ownBlock])
  have hc1 := hb1.cell_of (i := 1) rfl
  have hf1 := hb1.frozen 1
  have HB := hide hb1; have HO := hide ho; have HG := hide hg; have HA := hide hat
  clear hb0 hb1 ho hg hnil hat
  go_wp2
  go_ret
  have hb2 := (unhide HB).setCell 1 (.slice va n cap)
  have hsz : w.heap.size + 1 ≤ w1.heap.size := by have := (unhide HG).size; simpa using this
  refine ⟨rfl, .slice va n cap, hb2, ownsRow_setCell_other' (unhide HO) ?_ _, ?_, (((Chg.refl [] w).alloc _).grown (unhide HG) (fun k hk => by simp [Value.ownBlock] at hk)).setCell (.inr (Nat.le_refl _)) _⟩
  · intro g hgv
    rcases unhide HA with h | h
    · rw [h] at hgv; simp [Value.ownBlock] at hgv
    · rw [h] at hgv; simp at hgv; show g ≠ w.heap.size; omega
  · intro g hgv
    rcases unhide HA with h | h
    · rw [h] at hgv; simp [Value.ownBlock] at hgv
    · rw [h] at hgv; simp at hgv; omega
end Go.Proofs.YtfoncalkgmeklaaGreat

/- How the document's heap lies in memory, and what holds of it in a world that has turned elsewhere. -/
namespace Go.Proofs.YtfoncalkgmeklaaGreat
open Go.RowKit

/-- Where the parts of a document's heap lie. -/
structure RL where
  fa : Option Addr
  fc : Nat
  oa : Option Addr
  oc : Nat
  ra : Option Addr
  rc : Nat
  ha : Option Addr
  hc : Nat
  obs : List Nat
  vas : List (Option Addr × Nat)

def ptr (b : Nat) : Value := .pointer (some ⟨b, 0, none⟩)
def i64 (n : Int) : Value := .int .i64 n
def valCells : List (Int × Int) → List Value
  | [] => []
  | (a, b) :: r => .int .i64 a :: .int .i64 b :: valCells r
def hanCells : List RHan → List Value
  | [] => []
  | h :: r => .int .i64 h.num :: .int .i64 h.scope :: .int .i64 h.obj :: .bool h.live :: hanCells r
def objCells (o : RObj) (v : Value) : List Value := [.int .i64 o.kind, .int .i64 o.size, v, .string o.text]
def rowCells (l : List Nat) : List Value := l.map fun (n : Nat) => .int .i64 (n : Int)
def ab (a : Option Addr) : List Nat := (a.map (·.block)).toList

/-- The blocks of a document's heap. -/
def RL.foot (br : Nat) (L : RL) : List Nat := br :: (ab L.fa ++ ab L.oa ++ ab L.ra ++ ab L.ha ++ L.obs ++ L.vas.flatMap fun x => ab x.1)

structure RRep (w : World) (br : Nat) (s : R) (L : RL) : Prop where
  ref : Blk w br (refCells s.limit (.slice L.fa s.flags.length L.fc) s.made s.dead (.slice L.oa s.objs.length L.oc) (.slice L.ra s.row.length L.rc) (.slice L.ha s.handles.length L.hc) s.scopes) 53
  flags : w.ownsRow 0 4 1 (.slice L.fa s.flags.length L.fc) s.flags.length (s.flags.map Value.bool)
  objs : w.ownsRow 0 68 1 (.slice L.oa s.objs.length L.oc) s.objs.length (L.obs.map ptr)
  row : w.ownsRow 0 3 1 (.slice L.ra s.row.length L.rc) s.row.length (rowCells s.row)
  handles : w.ownsRow 0 55 4 (.slice L.ha s.handles.length L.hc) s.handles.length (hanCells s.handles)
  vlen : L.vas.length = s.objs.length
  obj : ∀ (i : Nat) (o : RObj) (b : Nat) (v : Option Addr × Nat), s.objs[i]? = some o → L.obs[i]? = some b → L.vas[i]? = some v → Blk w b (objCells o (.slice v.1 o.vals.length v.2)) 72 ∧ w.ownsRow 0 33 2 (.slice v.1 o.vals.length v.2) o.vals.length (valCells o.vals)
  onodup : L.obs.Nodup
  vnodup : ∀ (i j : Nat) (u v : Option Addr × Nat) (a b : Addr), L.vas[i]? = some u → L.vas[j]? = some v → u.1 = some a → v.1 = some b → a.block = b.block → i = j

theorem RRep.olen {w : World} {br : Nat} {s : R} {L : RL} (h : RRep w br s L) : L.obs.length = s.objs.length := by simpa using h.objs.1
theorem mem_ab {a : Addr} {o : Option Addr} (h : o = some a) : a.block ∈ ab o := by subst h; simp [ab]
theorem ownBlock_ab {a : Option Addr} {n c g : Nat} (h : (Value.slice a n c).ownBlock = some g) : g ∈ ab a := by
  cases a with
  | none => simp [Value.ownBlock] at h
  | some x => simp [Value.ownBlock] at h; subst h; simp [ab]

theorem RRep.lt {w : World} {br : Nat} {s : R} {L : RL} (h : RRep w br s L) : ∀ b ∈ L.foot br, b < w.heap.size := by
  have own : ∀ {e size n c m xs} {a : Option Addr}, w.ownsRow 0 e size (.slice a n c) m xs → ∀ b ∈ ab a, b < w.heap.size := by
    intro e size n c m xs a ho b hb
    cases a with
    | none => simp [ab] at hb
    | some x => simp [ab] at hb; subst hb; exact owns_lt ho rfl
  have hol := h.olen
  have hvl := h.vlen
  intro b hb
  simp only [RL.foot, List.mem_cons, List.mem_append, List.mem_flatMap] at hb
  rcases hb with rfl | ((((hb | hb) | hb) | hb) | hb) | ⟨v, hv, hb⟩
  · exact h.ref.lt
  · exact own h.flags b hb
  · exact own h.objs b hb
  · exact own h.row b hb
  · exact own h.handles b hb
  · obtain ⟨i, hi, rfl⟩ := List.getElem_of_mem hb
    exact (h.obj i _ _ _ (List.getElem?_eq_getElem (by omega)) (List.getElem?_eq_getElem hi) (List.getElem?_eq_getElem (by omega))).1.lt
  · obtain ⟨i, hi, rfl⟩ := List.getElem_of_mem hv
    exact own (h.obj i _ _ _ (List.getElem?_eq_getElem (by omega)) (List.getElem?_eq_getElem (by omega)) (List.getElem?_eq_getElem hi)).2 b hb

/-- The document's heap in a world that has turned in other blocks. -/
theorem RRep.chg {S : List Nat} {w w' : World} {br : Nat} {s : R} {L : RL} (h : RRep w br s L) (k : Chg S w w') (hs : ∀ b ∈ L.foot br, b ∉ S) : RRep w' br s L := by
  have hm : ∀ b, b ∈ br :: (ab L.fa ++ ab L.oa ++ ab L.ra ++ ab L.ha ++ L.obs ++ L.vas.flatMap fun x => ab x.1) → b ∉ S := hs
  refine ⟨h.ref.chg k (hm _ (by simp)), owns_chg h.flags k (fun g hg => hm _ ?_), owns_chg h.objs k (fun g hg => hm _ ?_), owns_chg h.row k (fun g hg => hm _ ?_), owns_chg h.handles k (fun g hg => hm _ ?_), h.vlen, ?_, h.onodup, h.vnodup⟩
  · simp [ownBlock_ab hg]
  · simp [ownBlock_ab hg]
  · simp [ownBlock_ab hg]
  · simp [ownBlock_ab hg]
  · intro i o b v h1 h2 h3
    obtain ⟨hb, ho⟩ := h.obj i o b v h1 h2 h3
    refine ⟨hb.chg k (hm _ ?_), owns_chg ho k (fun g hg => hm _ ?_)⟩
    · simp [List.mem_of_getElem? h2]
    · simp only [List.mem_cons, List.mem_append, List.mem_flatMap]
      exact .inr (.inr ⟨v, List.mem_of_getElem? h3, ownBlock_ab hg⟩)
theorem RRep.drewN {w : World} {br : Nat} {s : R} {L : RL} (h : RRep w br s L) (n : Nat) : RRep (w.drewN n) br s L := h.chg ((Chg.refl [] w).drewN n) (by simp)

/-- The cell of a row of structs. -/
theorem hanCells_at : ∀ (l : List RHan) (k : Nat) (h : RHan), l[k]? = some h → (hanCells l)[k * 4]? = some (.int .i64 h.num) ∧ (hanCells l)[k * 4 + 1]? = some (.int .i64 h.scope) ∧ (hanCells l)[k * 4 + 2]? = some (.int .i64 h.obj) ∧ (hanCells l)[k * 4 + 3]? = some (.bool h.live)
  | [], k, h, e => by simp at e
  | x :: r, 0, h, e => by simp at e; subst e; simp [hanCells]
  | x :: r, k + 1, h, e => by
    have ih := hanCells_at r k h (by simpa using e)
    have e0 : (k + 1) * 4 = k * 4 + 4 := by omega
    rw [e0]
    simp only [hanCells]
    exact ⟨ih.1, ih.2.1, ih.2.2.1, ih.2.2.2⟩
theorem valCells_at : ∀ (l : List (Int × Int)) (k : Nat) (v : Int × Int), l[k]? = some v → (valCells l)[k * 2]? = some (.int .i64 v.1) ∧ (valCells l)[k * 2 + 1]? = some (.int .i64 v.2)
  | [], k, h, e => by simp at e
  | x :: r, 0, h, e => by simp at e; subst e; simp [valCells]
  | x :: r, k + 1, h, e => by
    have ih := valCells_at r k h (by simpa using e)
    have e0 : (k + 1) * 2 = k * 2 + 2 := by omega
    rw [e0]
    simp only [valCells]
    exact ⟨ih.1, ih.2⟩
theorem length_hanCells (l : List RHan) : (hanCells l).length = l.length * 4 := by
  induction l with
  | nil => rfl
  | cons h r ih => simp [hanCells, ih]; omega
theorem length_valCells (l : List (Int × Int)) : (valCells l).length = l.length * 2 := by
  induction l with
  | nil => rfl
  | cons h r ih => simp [valCells, ih]; omega
theorem hanCells_append (a b : List RHan) : hanCells (a ++ b) = hanCells a ++ hanCells b := by
  induction a with
  | nil => rfl
  | cons h r ih => simp [hanCells, ih]
theorem valCells_append (a b : List (Int × Int)) : valCells (a ++ b) = valCells a ++ valCells b := by
  induction a with
  | nil => rfl
  | cons h r ih => simp [valCells, ih]

/-- A row that holds something lies at a block's head; its cells. -/
theorem owns_at {w : World} {e : TypeId} {size : Nat} {a : Option Addr} {n c : Nat} {xs : List Value} (h : w.ownsRow 0 e size (.slice a n c) n xs) (hn : 0 < n) :
    ∃ g, a = some ⟨g, 0, none⟩ ∧ g < w.heap.size ∧ ∀ j u, xs[j]? = some u → w.cell? ⟨g, j, none⟩ = some u := by
  obtain ⟨ad, e, hl, hc⟩ := owns_src h hn
  subst e
  have := owns_some h (g := ad.block) rfl
  simp only [Option.some.injEq] at this
  rw [this] at hc hl ⊢
  refine ⟨_, rfl, hl, fun j u hj => ?_⟩
  have := hc j u hj
  rwa [addr_add, Nat.zero_add] at this

/-! What a step may do to a heap's blocks -/
/-- From world w, where the heap has the blocks F, to world w', where it has F': nothing else has turned. -/
structure Stp (F : List Nat) (w : World) (F' : List Nat) (w' : World) : Prop where
  chg : Chg F w w'
  foot : ∀ b ∈ F', b ∈ F ∨ w.heap.size ≤ b
theorem Stp.refl (F : List Nat) (w : World) : Stp F w F w := ⟨Chg.refl _ _, fun _ h => .inl h⟩
theorem Stp.trans {F F' F'' : List Nat} {w w' w'' : World} (h : Stp F w F' w') (k : Stp F' w' F'' w'') : Stp F w F'' w'' :=
  ⟨h.chg.trans_new k.chg h.foot, fun b hb => by
    rcases k.foot b hb with h1 | h1
    · exact h.foot b h1
    · exact .inr (Nat.le_trans h.chg.size h1)⟩
theorem Stp.drewN {F F' : List Nat} {w w' : World} (h : Stp F w F' w') (n : Nat) : Stp F w F' (w'.drewN n) := ⟨h.chg.drewN n, h.foot⟩
theorem Stp.quiet (F : List Nat) (w : World) (n : Nat) : Stp F w F (w.drewN n) := (Stp.refl F w).drewN n

/-- A block's element type. -/
def Ty (w : World) (b : Nat) (T : TypeId) : Prop := ∃ c f, w.heap[b]? = some (.cells c T f)
theorem Ty.ne {w : World} {b : Nat} {T T' : TypeId} (h : Ty w b T) (ht : T ≠ T') : ¬ Ty w b T' := by
  rintro ⟨c', f', h'⟩
  obtain ⟨c, f, h⟩ := h
  rw [h] at h'
  simp only [Option.some.injEq, Obj.cells.injEq] at h'
  exact ht h'.2.1
theorem Blk.ty {w : World} {b : Nat} {c : List Value} {T : TypeId} (h : Blk w b c T) : Ty w b T := ⟨_, _, h⟩
theorem owns_ty {w : World} {e : TypeId} {size : Nat} {a : Option Addr} {n m c : Nat} {xs : List Value} (h : w.ownsRow 0 e size (.slice a n c) m xs) : ∀ b ∈ ab a, Ty w b e := by
  intro b hb
  rcases h.2 with ⟨hv, _⟩ | ⟨g, cap, cur, hv, _, hh, _⟩
  · simp only [Value.slice.injEq] at hv; obtain ⟨rfl, _⟩ := hv; simp [ab] at hb
  · simp only [Value.slice.injEq] at hv; obtain ⟨rfl, _⟩ := hv; simp [ab] at hb; subst hb; exact ⟨_, _, hh⟩
theorem Blk.chg_ty {S : List Nat} {w w' : World} {b : Nat} {c : List Value} {T : TypeId} (h : Blk w b c T) (k : Chg S w w') (hs : ∀ x ∈ S, ¬ Ty w x T) : Blk w' b c T :=
  h.chg k (fun hb => hs b hb h.ty)
theorem owns_chg_ty {S : List Nat} {w w' : World} {e : TypeId} {size : Nat} {a : Option Addr} {n m c : Nat} {xs : List Value} (h : w.ownsRow 0 e size (.slice a n c) m xs) (k : Chg S w w') (hs : ∀ x ∈ S, ¬ Ty w x e) : w'.ownsRow 0 e size (.slice a n c) m xs :=
  owns_chg h k (fun g hg hb => hs g hb (owns_ty h g (ownBlock_ab hg)))
theorem not_ty {S : List Nat} {w : World} {T T1 T2 : TypeId} (hS : ∀ b ∈ S, Ty w b T1 ∨ Ty w b T2) (h1 : T1 ≠ T) (h2 : T2 ≠ T) : ∀ b ∈ S, ¬ Ty w b T := by
  intro b hb
  rcases hS b hb with h | h
  · exact h.ne h1
  · exact h.ne h2

/-- The document's heap behind a change of its numbers, handles or row. -/
theorem RRep.upd {S : List Nat} {w w' : World} {br : Nat} {s s' : R} {L L' : RL} {T2 : TypeId} (h : RRep w br s L) (k : Chg S w w') (hS : ∀ b ∈ S, Ty w b 53 ∨ Ty w b T2)
    (e1 : s'.flags = s.flags) (e2 : s'.objs = s.objs) (e3 : L'.fa = L.fa ∧ L'.fc = L.fc ∧ L'.oa = L.oa ∧ L'.oc = L.oc ∧ L'.obs = L.obs ∧ L'.vas = L.vas)
    (t1 : T2 ≠ 4) (t2 : T2 ≠ 68) (t3 : T2 ≠ 72) (t4 : T2 ≠ 33)
    (hb : Blk w' br (refCells s'.limit (.slice L'.fa s'.flags.length L'.fc) s'.made s'.dead (.slice L'.oa s'.objs.length L'.oc) (.slice L'.ra s'.row.length L'.rc) (.slice L'.ha s'.handles.length L'.hc) s'.scopes) 53)
    (hr : w'.ownsRow 0 3 1 (.slice L'.ra s'.row.length L'.rc) s'.row.length (rowCells s'.row))
    (hh : w'.ownsRow 0 55 4 (.slice L'.ha s'.handles.length L'.hc) s'.handles.length (hanCells s'.handles)) : RRep w' br s' L' := by
  obtain ⟨f1, f2, f3, f4, f5, f6⟩ := e3
  refine ⟨hb, ?_, ?_, hr, hh, ?_, ?_, ?_, ?_⟩
  · rw [f1, f2, e1]; exact owns_chg_ty h.flags k (not_ty hS (by decide) t1)
  · rw [f3, f4, f5, e2]; exact owns_chg_ty h.objs k (not_ty hS (by decide) t2)
  · rw [f6, e2]; exact h.vlen
  · intro i o b v h1 h2 h3
    rw [e2] at h1; rw [f5] at h2; rw [f6] at h3
    obtain ⟨x, y⟩ := h.obj i o b v h1 h2 h3
    exact ⟨x.chg_ty k (not_ty hS (by decide) t3), owns_chg_ty y k (not_ty hS (by decide) t4)⟩
  · rw [f5]; exact h.onodup
  · rw [f6]; exact h.vnodup
end Go.Proofs.YtfoncalkgmeklaaGreat

/- What the document's heap reads: find, at, free, words, used, Left, place. -/
namespace Go.Proofs.YtfoncalkgmeklaaGreat
open Go.RowKit

theorem findIdx_some {α : Type} {p : α → Bool} {l : List α} {k : Nat} {x : α} (hx : l[k]? = some x) (hp : p x = true) (hno : ∀ (j : Nat) y, j < k → l[j]? = some y → p y = false) : l.findIdx? p = some k := by
  obtain ⟨hk, rfl⟩ := List.getElem?_eq_some_iff.1 hx
  refine List.findIdx?_eq_some_iff_getElem.2 ⟨hk, hp, fun j hj => ?_⟩
  have := hno j _ hj (List.getElem?_eq_getElem (by omega))
  simp [this]
theorem findIdx_none {α : Type} {p : α → Bool} {l : List α} (hno : ∀ (j : Nat) y, j < l.length → l[j]? = some y → p y = false) : l.findIdx? p = none := by
  refine List.findIdx?_eq_none_iff.2 fun x hx => ?_
  obtain ⟨i, hi, rfl⟩ := List.getElem_of_mem hx
  exact hno i _ hi (List.getElem?_eq_getElem hi)
theorem no_succ {α : Type} {p : α → Bool} {l : List α} {k : Nat} {x : α} (hx : l[k]? = some x) (hp : p x = false) (hno : ∀ (j : Nat) y, j < k → l[j]? = some y → p y = false) : ∀ (j : Nat) y, j < k + 1 → l[j]? = some y → p y = false := by
  intro j y hj hy
  by_cases e : j = k
  · subst e; rw [hx] at hy; cases hy; exact hp
  · exact hno j y (by omega) hy
theorem ret_int {k : IntKind} {a b : Int} (h : a = b) : Ending.returned (.int k a) = .returned (.int k b) := by rw [h]

set_option maxRecDepth 100000 in
set_option maxHeartbeats 1000000 in
theorem refFind_any {br : Nat} {s : R} {L : RL} {w : World} (x : Int) (h : RRep w br s L) (hb : RBd s) :
    Calls Tryz.prog 110 #[.pointer (some ⟨br, 0, none⟩), .int .i64 x] w fun e w' => e = .returned (.int .i64 (posOf (s.find? x))) ∧ w' = w := by
  have c6 := h.ref.cell_of (i := 6) rfl
  have hl : s.handles.length ≤ 3298534883328 := hb.handles
  have H := hide h; clear h hb
  go_enter Tryz.func110, Tryz.ntmps110
  go_wp2_with fail
  go_loop [5] (fun i => ∃ k : Nat, k ≤ s.handles.length ∧ i = .int .i64 k ∧ (∀ (j : Nat) y, j < k → s.handles[j]? = some y → (y.live && y.num == x) = false)) (fun i => s.handles.length - (intOf i).toNat)
  case atStart => exact ⟨0, Nat.zero_le _, rfl, fun j y hj => absurd hj (by omega)⟩
  case round =>
    obtain ⟨k, hk, rfl, hno⟩ := hrel
    have HNO := hide hno; clear hno
    by_cases hlt : k < s.handles.length
    · obtain ⟨g, hg, _, hc⟩ := owns_at (unhide H).handles (by omega)
      obtain ⟨y, hy⟩ : ∃ y, s.handles[k]? = some y := ⟨_, List.getElem?_eq_getElem hlt⟩
      have cc := hanCells_at _ _ _ hy
      have c0 := hc _ _ cc.1
      have c3 := hc _ _ cc.2.2.2
      rw [hg] at c6
      have HG := hide hg; have HY := hide hy; clear hg hc cc hy
      cases hlv : y.live
      · rw [hlv] at c3
        go_wp2
        go_round
        case rel => exact ⟨k + 1, by omega, by go_num, no_succ (unhide HY) (by simp [hlv]) (unhide HNO)⟩
        case measure => simp [intOf]; omega
      · rw [hlv] at c3
        by_cases hnx : y.num = x
        · have hb : (y.num == x) = true := by simp [hnx]
          have hfin : s.find? x = some k := findIdx_some (unhide HY) (by simp [hlv, hnx]) (unhide HNO)
          have HF := hide hfin; clear hnx hfin hlv
          go_wp2
          go_ret
          exact ⟨ret_int (by rw [unhide HF]; rfl), rfl⟩
        · have hb : (y.num == x) = false := by simp [hnx]
          have HX := hide hnx; clear hnx hlv
          go_wp2
          go_round
          case rel => exact ⟨k + 1, by omega, by go_num, no_succ (unhide HY) (by simp [hb]) (unhide HNO)⟩
          case measure => simp [intOf]; omega
    · have hkn : k = s.handles.length := by omega
      have hfin : s.find? x = none := findIdx_none (by rw [← hkn]; exact unhide HNO)
      have HF := hide hfin; clear hfin
      go_wp2
      go_ret
      exact ⟨ret_int (by rw [unhide HF]; rfl), rfl⟩
set_option maxRecDepth 100000 in
set_option maxHeartbeats 1000000 in
theorem refAt_any {br : Nat} {s : R} {L : RL} {w : World} (x : Int) (h : RRep w br s L) (hi : RInv s) (hb : RBd s) :
    Calls Tryz.prog 137 #[.pointer (some ⟨br, 0, none⟩), .int .i64 x] w fun e w' => e = .returned (.int .i64 (posOf (s.at? x))) ∧ w' = w := by
  have c6 := h.ref.cell_of (i := 6) rfl
  have hl : s.handles.length ≤ 3298534883328 := hb.handles
  have H := hide h; have HI := hide hi; clear h hb hi
  go_enter Tryz.func137, Tryz.ntmps137
  go_wp2_with fail
  go_loop [5] (fun i => ∃ k : Nat, k ≤ s.handles.length ∧ i = .int .i64 k ∧ (∀ (j : Nat) y, j < k → s.handles[j]? = some y → (y.live && y.num % 32 == x) = false)) (fun i => s.handles.length - (intOf i).toNat)
  case atStart => exact ⟨0, Nat.zero_le _, rfl, fun j y hj => absurd hj (by omega)⟩
  case round =>
    obtain ⟨k, hk, rfl, hno⟩ := hrel
    have HNO := hide hno; clear hno
    by_cases hlt : k < s.handles.length
    · obtain ⟨g, hg, _, hc⟩ := owns_at (unhide H).handles (by omega)
      obtain ⟨y, hy⟩ : ∃ y, s.handles[k]? = some y := ⟨_, List.getElem?_eq_getElem hlt⟩
      have cc := hanCells_at _ _ _ hy
      have hpos : 0 ≤ y.num := ((unhide HI).nums y (List.mem_of_getElem? hy)).1
      have htop : y.num ≤ 72057594037927936 := by have := ((unhide HI).nums y (List.mem_of_getElem? hy)).2.1; omega
      have c0 := hc _ _ cc.1
      have c3 := hc _ _ cc.2.2.2
      rw [hg] at c6
      have HG := hide hg; have HY := hide hy; clear hg hc cc hy
      cases hlv : y.live
      · rw [hlv] at c3
        go_wp2
        go_round
        case rel => exact ⟨k + 1, by omega, by go_num, no_succ (unhide HY) (by simp [hlv]) (unhide HNO)⟩
        case measure => simp [intOf]; omega
      · rw [hlv] at c3
        by_cases hnx : y.num % 32 = x
        · have hb : (y.num % 32 == x) = true := by simp [hnx]
          have hfin : s.at? x = some k := findIdx_some (unhide HY) (by simp [hlv, hnx]) (unhide HNO)
          have HF := hide hfin; clear hnx hfin hlv
          go_wp2
          go_ret
          exact ⟨ret_int (by rw [unhide HF]; rfl), rfl⟩
        · have hb : (y.num % 32 == x) = false := by simp [hnx]
          have HX := hide hnx; clear hnx hlv
          go_wp2
          go_round
          case rel => exact ⟨k + 1, by omega, by go_num, no_succ (unhide HY) (by simp [hb]) (unhide HNO)⟩
          case measure => simp [intOf]; omega
    · have hkn : k = s.handles.length := by omega
      have hfin : s.at? x = none := findIdx_none (by rw [← hkn]; exact unhide HNO)
      have HF := hide hfin; clear hfin
      go_wp2
      go_ret
      exact ⟨ret_int (by rw [unhide HF]; rfl), rfl⟩

theorem free_some {s : R} {k : Nat} (hk : k < 32) (h : (s.at? (k : Int)).isNone = true) (hno : ∀ j : Nat, j < k → (s.at? (j : Int)).isNone = false) : s.free? = some k := by
  unfold R.free?
  rw [List.find?_eq_some_iff_getElem]
  refine ⟨h, k, by simpa using hk, by simp, fun j hj => ?_⟩
  simpa using hno j hj
theorem free_none {s : R} (hno : ∀ j : Nat, j < 32 → (s.at? (j : Int)).isNone = false) : s.free? = none := by
  unfold R.free?
  rw [List.find?_eq_none]
  intro j hj hq
  have := hno j (by simpa using hj)
  rw [hq] at this
  cases this
theorem posOf_neg {o : Option Nat} : (posOf o < 0) ↔ o.isNone = true := by cases o <;> simp [posOf]

set_option maxRecDepth 100000 in
set_option maxHeartbeats 1000000 in
theorem refFree_any {br : Nat} {s : R} {L : RL} {w : World} (h : RRep w br s L) (hi : RInv s) (hb : RBd s) :
    Calls Tryz.prog 117 #[.pointer (some ⟨br, 0, none⟩)] w fun e w' => e = .returned (.int .i64 (posOf s.free?)) ∧ w' = w := by
  have H := hide h; have HI := hide hi; have HB := hide hb; clear h hb hi
  go_enter Tryz.func117, Tryz.ntmps117
  go_wp2_with fail
  go_loop [3] (fun i => ∃ k : Nat, k ≤ 32 ∧ i = .int .i64 k ∧ (∀ j : Nat, j < k → (s.at? (j : Int)).isNone = false)) (fun i => 32 - (intOf i).toNat)
  case atStart => exact ⟨0, Nat.zero_le _, rfl, fun j hj => absurd hj (by omega)⟩
  case round =>
    obtain ⟨k, hk, rfl, hno⟩ := hrel
    have HNO := hide hno; clear hno
    by_cases hlt : k < 32
    · cases hat : s.at? (k : Int) with
      | none =>
        have hfin : s.free? = some k := free_some hlt (by rw [hat]; rfl) (unhide HNO)
        have HF := hide hfin; have HAT := hide hat; clear hfin hat
        go_wp2_with fail
        refine (refAt_any (k : Int) (unhide H) (unhide HI) (unhide HB)).mono ?_
        rintro e w' ⟨rfl, rfl⟩
        rw [unhide HAT]
        show _
        simp only [posOf]
        go_wp2
        go_ret
        exact ⟨ret_int (by rw [unhide HF]; rfl), rfl⟩
      | some q =>
        have HAT := hide hat; clear hat
        go_wp2_with fail
        refine (refAt_any (k : Int) (unhide H) (unhide HI) (unhide HB)).mono ?_
        rintro e w' ⟨rfl, rfl⟩
        rw [unhide HAT]
        simp only [posOf]
        go_wp2
        go_round
        case rel =>
          refine ⟨k + 1, by omega, by go_num, fun j hj => ?_⟩
          by_cases e : j = k
          · subst e; rw [unhide HAT]; rfl
          · exact unhide HNO j (by omega)
        case measure => simp [intOf]; omega
    · have hkn : k = 32 := by omega
      subst hkn
      have hfin : s.free? = none := free_none (unhide HNO)
      have HF := hide hfin; clear hfin
      go_wp2
      go_ret
      exact ⟨ret_int (by rw [unhide HF]; rfl), rfl⟩

set_option maxHeartbeats 1000000 in
theorem refWordsOf_any (kind size : Int) (w : World) (h0 : 0 ≤ size) (h1 : size ≤ 64) :
    Calls Tryz.prog 26 #[.int .i64 kind, .int .i64 size] w fun e w' => e = .returned (.int .i64 (wordsOf kind size)) ∧ w' = w := by
  by_cases k1 : kind = 1
  · have hb : (kind == 1) = true := by simp [k1]
    have hfin : wordsOf kind size = 1 + 2 * size := by simp [wordsOf, k1]
    have HF := hide hfin; clear k1 hfin
    go_enter Tryz.func26, Tryz.ntmps26
    go_wp2
    go_ret
    exact ⟨ret_int (by rw [unhide HF]), rfl⟩
  · by_cases k2 : kind = 2
    · have hb1 : (kind == 1) = false := by simp [k1]
      have hb : (kind == 2) = true := by simp [k2]
      by_cases hr : 0 < size % 8
      · have hfin : wordsOf kind size = 1 + (size / 8 + 1) := by simp [wordsOf, k2, hr]
        have HF := hide hfin; clear k1 k2 hfin
        go_enter Tryz.func26, Tryz.ntmps26
        go_wp2
        go_ret
        exact ⟨ret_int (by rw [unhide HF]), rfl⟩
      · have hfin : wordsOf kind size = 1 + size / 8 := by simp [wordsOf, k2, hr]
        have HF := hide hfin; clear k1 k2 hfin
        go_enter Tryz.func26, Tryz.ntmps26
        go_wp2
        go_ret
        exact ⟨ret_int (by rw [unhide HF]), rfl⟩
    · have hb1 : (kind == 1) = false := by simp [k1]
      have hb2 : (kind == 2) = false := by simp [k2]
      have hfin : wordsOf kind size = 2 + 4 * size := by simp [wordsOf, k1, k2]
      have HF := hide hfin; clear k1 k2 hfin
      go_enter Tryz.func26, Tryz.ntmps26
      go_wp2
      go_ret
      exact ⟨ret_int (by rw [unhide HF]), rfl⟩

theorem rowCells_at {l : List Nat} {k i : Nat} (h : l[k]? = some i) : (rowCells l)[k]? = some (.int .i64 (i : Int)) := by
  simp [rowCells, h]
theorem used_bd {s : R} (hi : RInv s) : ∀ (r : List Nat), (∀ i ∈ r, i < s.objs.length) → 0 ≤ usedOf s.objs r ∧ usedOf s.objs r ≤ 66 * r.length
  | [], _ => by simp [usedOf]
  | i :: r, h => by
    have ih := used_bd hi r (fun x hx => h x (List.mem_cons_of_mem _ hx))
    have hlt := h i (List.mem_cons_self)
    have hg : s.objs.getD i robj0 = s.objs[i] := by simp [List.getD, hlt]
    have hw := words_bd (hi.kinds _ (List.getElem_mem hlt))
    rw [← hg] at hw
    simp only [usedOf, List.length_cons]
    omega
/-- What the walk wants of the i-th object. -/
theorem RRep.objAt {w : World} {br : Nat} {s : R} {L : RL} (h : RRep w br s L) {i : Nat} (hi : i < s.objs.length) :
    ∃ o b va vc g, s.objs[i]? = some o ∧ s.objs.getD i robj0 = o ∧ L.obs[i]? = some b ∧ L.vas[i]? = some (va, vc) ∧ L.oa = some ⟨g, 0, none⟩ ∧ w.cell? ⟨g, i, none⟩ = some (.pointer (some ⟨b, 0, none⟩)) ∧ Blk w b (objCells o (.slice va o.vals.length vc)) 72 ∧
      w.ownsRow 0 33 2 (.slice va o.vals.length vc) o.vals.length (valCells o.vals) := by
  have ho := h.olen
  have hv := h.vlen
  obtain ⟨g, hg, _, hc⟩ := owns_at h.objs (by omega)
  have e1 := List.getElem?_eq_getElem hi
  have e2 := List.getElem?_eq_getElem (l := L.obs) (i := i) (by omega)
  have e3 := List.getElem?_eq_getElem (l := L.vas) (i := i) (by omega)
  obtain ⟨h1, h2⟩ := h.obj i _ _ _ e1 e2 e3
  exact ⟨_, _, _, _, g, e1, by simp [List.getD, hi], e2, e3, hg, hc i _ (by simp [ptr, e2]), h1, h2⟩

set_option maxRecDepth 100000 in
set_option maxHeartbeats 1000000 in
theorem refUsed_any {br : Nat} {s : R} {L : RL} {w : World} (a : Option Addr) (n c : Nat) (row : List Nat) (h : RRep w br s L) (hi : RInv s) (hr : w.ownsRow 0 3 1 (.slice a n c) n (rowCells row)) (hrow : ∀ i ∈ row, i < s.objs.length) (hn : n ≤ 3298534883328) :
    Calls Tryz.prog 19 #[.pointer (some ⟨br, 0, none⟩), .slice a n c] w fun e w' => e = .returned (.int .i64 (usedOf s.objs row)) ∧ ∃ q, w' = w.drewN q := by
  have c4 := h.ref.cell_of (i := 4) rfl
  have H := hide h; have HI := hide hi; have HR := hide hr; have HW := hide hrow; clear h hi hr hrow
  go_enter Tryz.func19, Tryz.ntmps19
  go_wp2_with fail
  go_loopw [5, 6] (fun u i wr => ∃ k q : Nat, k ≤ n ∧ i = .int .i64 k ∧ u = .int .i64 (usedOf s.objs (row.take k)) ∧ wr = w.drewN q) (fun _ i _ => n - (intOf i).toNat)
  case atStart => exact ⟨0, 0, Nat.zero_le _, rfl, rfl, rfl⟩
  case round =>
    obtain ⟨k, q, hk, rfl, rfl, rfl⟩ := hrel
    have hlen : row.length = n := by simpa [rowCells] using (unhide HR).1
    have HLEN := hide hlen; clear hlen
    by_cases hlt : k < n
    · obtain ⟨g, hg, _, hc⟩ := owns_at (unhide HR) (by omega)
      obtain ⟨i, hik⟩ : ∃ i, row[k]? = some i := ⟨_, List.getElem?_eq_getElem (by have := unhide HLEN; omega)⟩
      have hil : i < s.objs.length := unhide HW i (List.mem_of_getElem? hik)
      have cr := hc _ _ (rowCells_at hik)
      obtain ⟨o, b, va, vc, go, e1, e2, e3, e4, e5, co, hb, hv⟩ := (unhide H).objAt hil
      have k0 := hb.cell_of (i := 0) rfl
      have k1 := hb.cell_of (i := 1) rfl
      have kd := (unhide HI).kinds o (List.mem_of_getElem? e1)
      have ub := used_bd (unhide HI) (row.take k) (fun x hx => unhide HW x (List.mem_of_mem_take hx))
      have hsum : usedOf s.objs (row.take (k + 1)) = usedOf s.objs (row.take k) + wordsOf o.kind o.size := by
        rw [List.take_add_one, hik]
        simp only [Option.toList]
        rw [usedOf_snoc, e2]
        rfl
      have wb := words_bd kd
      unfold oWords at wb
      have ulen : (row.take k).length ≤ k := List.length_take_le _ _
      generalize usedOf s.objs (row.take k) = U at *
      have z0 : 0 ≤ o.size := kd.2.2.1
      have z1 : o.size ≤ 64 := kd.2.2.2.1
      have z2 : 0 ≤ U := ub.1
      have z3 : U ≤ 66 * 3298534883328 := by have := ub.2; omega
      have z4 : 1 ≤ wordsOf o.kind o.size := wb.1
      have z5 : wordsOf o.kind o.size ≤ 66 := wb.2
      rw [e5] at c4
      subst hg
      have HS := hide hsum; clear hsum hc hik hb hv kd ub wb e1 e2 e3 e4 e5 ulen
      go_wp2_with fail
      go_quiet (fail)
      go_wp2_with fail
      go_quiet ((go_at_call 26; refine (refWordsOf_any _ _ _ z0 z1).mono ?_; rintro e w' ⟨rfl, rfl⟩; exact ⟨rfl, _, rfl⟩))
      go_wp2
      go_roundw
      case rel => exact ⟨k + 1, _, by omega, by go_num, by rw [unhide HS], rfl⟩
      case measure => simp [intOf]; omega
    · have hkn : k = n := by omega
      have hfin : row.take k = row := List.take_of_length_le (by have := unhide HLEN; omega)
      have HF := hide hfin; clear hfin
      go_wp2
      go_ret
      exact ⟨ret_int (by rw [unhide HF]), _, rfl⟩

set_option maxHeartbeats 1000000 in
theorem refLeft_any {br : Nat} {s : R} {L : RL} {w : World} (h : RRep w br s L) (hi : RInv s) (hb : RBd s) :
    Calls Tryz.prog 12 #[.pointer (some ⟨br, 0, none⟩)] w fun e w' => e = .returned (.int .i64 s.left) ∧ ∃ q, w' = w.drewN q := by
  have c0 := h.ref.cell_of (i := 0) rfl
  have c5 := h.ref.cell_of (i := 5) rfl
  have hl := hi.limit
  have hlen := hi.rowLen
  have hol := hb.objs
  have ub := used_bd hi s.row hi.rows
  have z1 : 0 ≤ usedOf s.objs s.row := ub.1
  have z2 : usedOf s.objs s.row ≤ 66 * 3298534883328 := by omega
  have H := hide h; have HI := hide hi; clear h hi hb ub
  go_enter Tryz.func12, Tryz.ntmps12
  go_wp2_with fail
  refine (refUsed_any _ _ _ s.row (unhide H) (unhide HI) (unhide H).row (unhide HI).rows (by omega)).mono ?_
  rintro e w' ⟨rfl, q, rfl⟩
  go_wp2
  go_ret
  exact ⟨ret_int rfl, _, rfl⟩

theorem placeOf_stop {objs : List RObj} {obj : Nat} : ∀ {row : List Nat} {k : Nat}, (∀ (j i : Nat), j < k → row[j]? = some i → i ≠ obj) → (row[k]? = some obj ∨ row.length = k) → placeOf objs obj row = usedOf objs (row.take k)
  | [], k, _, _ => by simp [placeOf, usedOf]
  | i :: r, 0, _, h => by
    rcases h with h | h
    · simp at h; subst h; simp [placeOf, usedOf]
    · simp at h
  | i :: r, k + 1, hno, h => by
    have hne : i ≠ obj := hno 0 i (by omega) rfl
    have ih := placeOf_stop (objs := objs) (obj := obj) (row := r) (k := k) (fun j x hj hx => hno (j + 1) x (by omega) (by simpa using hx)) (by
      rcases h with h | h
      · exact .inl (by simpa using h)
      · exact .inr (by simpa using h))
    simp [placeOf, usedOf, hne, ih]

set_option maxRecDepth 100000 in
set_option maxHeartbeats 1000000 in
theorem refPlace_any {br : Nat} {s : R} {L : RL} {w : World} (obj : Nat) (h : RRep w br s L) (hi : RInv s) (hb : RBd s) :
    Calls Tryz.prog 86 #[.pointer (some ⟨br, 0, none⟩), .int .i64 (obj : Int)] w fun e w' => e = .returned (.int .i64 (placeOf s.objs obj s.row)) ∧ ∃ q, w' = w.drewN q := by
  have c4 := h.ref.cell_of (i := 4) rfl
  have c5 := h.ref.cell_of (i := 5) rfl
  have hn : s.row.length ≤ 3298534883328 := Nat.le_trans hi.rowLen hb.objs
  have H := hide h; have HI := hide hi; clear h hi hb
  go_enter Tryz.func86, Tryz.ntmps86
  go_wp2_with fail
  go_loopw [5, 6] (fun u i wr => ∃ k q : Nat, k ≤ s.row.length ∧ i = .int .i64 k ∧ u = .int .i64 (usedOf s.objs (s.row.take k)) ∧ (∀ (j i : Nat), j < k → s.row[j]? = some i → i ≠ obj) ∧ wr = w.drewN q) (fun _ i _ => s.row.length - (intOf i).toNat)
  case atStart => exact ⟨0, 0, Nat.zero_le _, rfl, rfl, fun j i hj => absurd hj (by omega), rfl⟩
  case round =>
    obtain ⟨k, q, hk, rfl, rfl, hno, rfl⟩ := hrel
    have HNO := hide hno; clear hno
    by_cases hlt : k < s.row.length
    · obtain ⟨g, hg, _, hc⟩ := owns_at (unhide H).row (by omega)
      obtain ⟨i, hik⟩ : ∃ i, s.row[k]? = some i := ⟨_, List.getElem?_eq_getElem hlt⟩
      have hil : i < s.objs.length := (unhide HI).rows i (List.mem_of_getElem? hik)
      have cr := hc _ _ (rowCells_at hik)
      obtain ⟨o, b, va, vc, go, e1, e2, e3, e4, e5, co, hb, hv⟩ := (unhide H).objAt hil
      have k0 := hb.cell_of (i := 0) rfl
      have k1 := hb.cell_of (i := 1) rfl
      have kd := (unhide HI).kinds o (List.mem_of_getElem? e1)
      have ub := used_bd (unhide HI) (s.row.take k) (fun x hx => (unhide HI).rows x (List.mem_of_mem_take hx))
      have hsum : usedOf s.objs (s.row.take (k + 1)) = usedOf s.objs (s.row.take k) + wordsOf o.kind o.size := by
        rw [List.take_add_one, hik]
        simp only [Option.toList]
        rw [usedOf_snoc, e2]
        rfl
      have wb := words_bd kd
      unfold oWords at wb
      have ulen : (s.row.take k).length ≤ k := List.length_take_le _ _
      rw [e5] at c4
      rw [hg] at c5
      by_cases hio : i = obj
      · have hb1 : ((i : Int) != (obj : Int)) = false := by simp [hio]
        have hfin : placeOf s.objs obj s.row = usedOf s.objs (s.row.take k) := placeOf_stop (unhide HNO) (.inl (by rw [hik, hio]))
        have HF := hide hfin; clear hfin hio hsum hc hik hb hv kd ub wb e1 e2 e3 e4 e5 ulen hg
        go_wp2
        go_ret
        exact ⟨ret_int (by rw [unhide HF]), _, rfl⟩
      · have hb1 : ((i : Int) != (obj : Int)) = true := by rw [bne_iff_ne]; omega
        have HIO := hide hio; have HIK := hide hik
        generalize usedOf s.objs (s.row.take k) = U at *
        have z0 : 0 ≤ o.size := kd.2.2.1
        have z1 : o.size ≤ 64 := kd.2.2.2.1
        have z2 : 0 ≤ U := ub.1
        have z3 : U ≤ 66 * 3298534883328 := by have := ub.2; omega
        have z4 : 1 ≤ wordsOf o.kind o.size := wb.1
        have z5 : wordsOf o.kind o.size ≤ 66 := wb.2
        have HS := hide hsum; clear hio hsum hc hik hb hv kd ub wb e1 e2 e3 e4 e5 ulen hg
        go_wp2_with fail
        go_quiet (fail)
        go_wp2_with fail
        go_quiet ((go_at_call 26; refine (refWordsOf_any _ _ _ z0 z1).mono ?_; rintro e w' ⟨rfl, rfl⟩; exact ⟨rfl, _, rfl⟩))
        go_wp2
        go_roundw
        case rel =>
          refine ⟨k + 1, _, by omega, by go_num, by rw [unhide HS], fun j x hj hx => ?_, rfl⟩
          by_cases e : j = k
          · subst e; rw [unhide HIK] at hx; cases hx; exact unhide HIO
          · exact unhide HNO j x (by omega) hx
        case measure => simp [intOf]; omega
    · have hkn : k = s.row.length := by omega
      have hfin : placeOf s.objs obj s.row = usedOf s.objs (s.row.take k) := placeOf_stop (unhide HNO) (.inr hkn.symm)
      have HF := hide hfin; clear hfin
      go_wp2
      go_ret
      exact ⟨ret_int (by rw [unhide HF]), _, rfl⟩
end Go.Proofs.YtfoncalkgmeklaaGreat

/- A new handle of the document's heap. -/
namespace Go.Proofs.YtfoncalkgmeklaaGreat
open Go.RowKit

theorem infoHan : (Tryz.prog.info? 55).map (fun i => (i.zero, i.size, i.bytes)) = some (some (.agg #[.int .i64 0, .int .i64 0, .int .i64 0, .bool false]), 4, 32) := by kernel_rfl

theorem countP_take {α : Type} {p : α → Bool} {l : List α} {k : Nat} {x : α} (hx : l[k]? = some x) : (l.take (k + 1)).countP p = (l.take k).countP p + if p x = true then 1 else 0 := by
  rw [List.take_add_one, hx]
  simp [List.countP_append, List.countP_cons]

/-- What append leaves of an old row's blocks. -/
theorem grown_ab {w0 w w1 : World} {S : List Nat} {a : Option Addr} {n c : Nat} (hc : Chg S w0 w) (hg : w.grownBy w1 (Value.slice a n c).ownBlock) : Chg (S ++ ab a) w0 w1 :=
  (hc.mono (fun x hx => by simp [hx])).grown hg (fun k hk => .inl (by simp [ownBlock_ab hk]))
theorem at_ab {w : World} {a va : Option Addr} {n n' c c' H : Nat} (hH : w.heap.size ≤ H) (hat : (Value.slice va n' c').ownBlock = (Value.slice a n c).ownBlock ∨ (Value.slice va n' c').ownBlock = some H) : ∀ b ∈ ab va, b ∈ ab a ∨ w.heap.size ≤ b := by
  intro b hb
  cases va with
  | none => simp [ab] at hb
  | some x =>
    simp [ab] at hb
    subst hb
    rcases hat with h | h
    · exact .inl (ownBlock_ab h.symm)
    · right; simp [Value.ownBlock] at h; omega

theorem RRep.pushHandle {w w1 : World} {br : Nat} {s : R} {L : RL} (h : RRep w br s L) (x : RHan) (o : Obj) {va : Option Addr} {cap H : Nat}
    (ho : w1.ownsRow 0 55 4 (.slice va (s.handles.length + 1) cap) (s.handles.length + 1) (hanCells s.handles ++ hanCells [x]))
    (hg : (w.alloc o).grownBy w1 (Value.slice L.ha s.handles.length L.hc).ownBlock) (hH : w.heap.size ≤ H)
    (hat : (Value.slice va (s.handles.length + 1) cap).ownBlock = (Value.slice L.ha s.handles.length L.hc).ownBlock ∨ (Value.slice va (s.handles.length + 1) cap).ownBlock = some H) :
    RRep (w1.setCell ⟨br, 6, none⟩ (.slice va (s.handles.length + 1) cap)) br { s with handles := s.handles ++ [x] } { L with ha := va, hc := cap } ∧
      Stp (L.foot br) w (({ L with ha := va, hc := cap } : RL).foot br) (w1.setCell ⟨br, 6, none⟩ (.slice va (s.handles.length + 1) cap)) := by
  have k1 : Chg (ab L.ha) w w1 := grown_ab (S := []) ((Chg.refl [] w).alloc o) hg
  have k2 : Chg (br :: ab L.ha) w (w1.setCell ⟨br, 6, none⟩ (.slice va (s.handles.length + 1) cap)) := (k1.mono (fun x hx => by simp [hx])).setCell (.inl (by simp)) _
  have hS : ∀ b ∈ br :: ab L.ha, Ty w b 53 ∨ Ty w b 55 := by
    intro b hb
    rcases List.mem_cons.1 hb with rfl | hb
    · exact .inl h.ref.ty
    · exact .inr (owns_ty h.handles b hb)
  have hbr : Blk w1 br _ 53 := h.ref.chg_ty k1 (fun b hb => (owns_ty h.handles b hb).ne (by decide))
  have hne : ∀ g, (Value.slice va (s.handles.length + 1) cap).ownBlock = some g → g ≠ br := by
    intro g hgv e
    subst e
    have t1 := owns_ty ho g (ownBlock_ab hgv)
    exact t1.ne (by decide) hbr.ty
  refine ⟨h.upd k2 hS rfl rfl ⟨rfl, rfl, rfl, rfl, rfl, rfl⟩ (by decide) (by decide) (by decide) (by decide) ?_ (owns_chg_ty h.row k2 (not_ty hS (by decide) (by decide))) ?_, ⟨k2.mono (fun x hx => by
    simp only [RL.foot, List.mem_cons, List.mem_append]
    rcases List.mem_cons.1 hx with rfl | hx
    · exact .inl rfl
    · exact .inr (.inl (.inl (.inr hx)))), ?_⟩⟩
  · have := hbr.setCell 6 (.slice va (s.handles.length + 1) cap)
    simpa [refCells] using this
  · have := ownsRow_setCell_other' ho (p := ⟨br, 6, none⟩) hne (.slice va (s.handles.length + 1) cap)
    simpa [hanCells_append] using this
  · intro b hb
    simp only [RL.foot, List.mem_cons, List.mem_append] at hb ⊢
    rcases hb with rfl | ((((hb | hb) | hb) | hb) | hb) | hb
    · exact .inl (.inl rfl)
    · exact .inl (.inr (.inl (.inl (.inl (.inl (.inl hb))))))
    · exact .inl (.inr (.inl (.inl (.inl (.inl (.inr hb))))))
    · exact .inl (.inr (.inl (.inl (.inl (.inr hb)))))
    · rcases at_ab hH hat b hb with h1 | h1
      · exact .inl (.inr (.inl (.inl (.inr h1))))
      · exact .inr h1
    · exact .inl (.inr (.inl (.inr hb)))
    · exact .inl (.inr (.inr hb))

set_option maxRecDepth 100000 in
set_option maxHeartbeats 1000000 in
theorem refHandle_any {br : Nat} {s : R} {L : RL} {w : World} (obj : Nat) (scope : Int) (h : RRep w br s L) (hi : RInv s) (hb : RBd s) :
    Calls Tryz.prog 108 #[.pointer (some ⟨br, 0, none⟩), .int .i64 (obj : Int), .int .i64 scope] w fun e w' => ∃ L', e = .returned (.tuple #[.int .i64 (s.handle obj scope).1, .int .i64 (s.handle obj scope).2.1]) ∧
      RRep w' br (s.handle obj scope).2.2 L' ∧ Stp (L.foot br) w (L'.foot br) w' := by
  have hl : s.handles.length ≤ 3298534883328 := hb.handles
  have c6 := h.ref.cell_of (i := 6) rfl
  have f6 := h.ref.frozen 6
  have H := hide h; have HI := hide hi; have HB := hide hb; clear h hi hb
  cases hf : s.free? with
  | none =>
    have hfin : s.handle obj scope = (0, 11, s) := by simp [R.handle, hf]
    have HF := hide hf; have HFIN := hide hfin; clear hf hfin
    go_enter Tryz.func108, Tryz.ntmps108
    go_wp2_with fail
    refine (refFree_any (unhide H) (unhide HI) (unhide HB)).mono ?_
    rintro e w' ⟨rfl, rfl⟩
    rw [unhide HF]
    simp only [posOf]
    go_wp2
    go_ret2
    exact ⟨L, by rw [unhide HFIN]; rfl, by rw [unhide HFIN]; exact unhide H, Stp.refl _ _⟩
  | some sl =>
    have hsl : sl < 32 := by
      have := List.mem_of_find?_eq_some hf
      simpa using this
    have hfin : s.handle obj scope = (32 * (s.past (sl : Int) : Int) + (sl : Int), 0, { s with handles := s.handles ++ [⟨32 * (s.past (sl : Int) : Int) + (sl : Int), scope, obj, true⟩] }) := by simp [R.handle, hf]
    have HF := hide hf; have HFIN := hide hfin; clear hf hfin
    obtain ⟨i0, hi0, hz0, hz1, hz2⟩ := info_parts infoHan
    go_enter Tryz.func108, Tryz.ntmps108
    go_wp2_with fail
    refine (refFree_any (unhide H) (unhide HI) (unhide HB)).mono ?_
    rintro e w' ⟨rfl, rfl⟩
    rw [unhide HF]
    simp only [posOf]
    go_wp2_with fail
    go_loop [9, 10] (fun u i => ∃ k : Nat, k ≤ s.handles.length ∧ i = .int .i64 k ∧ u = .int .i64 ((s.handles.take k).countP fun h => h.num % 32 == (sl : Int))) (fun _ i => s.handles.length - (intOf i).toNat)
    case atStart => exact ⟨0, Nat.zero_le _, rfl, rfl⟩
    case round =>
      obtain ⟨k, hk, rfl, rfl⟩ := hrel
      have hcl : ((s.handles.take k).countP fun h => h.num % 32 == (sl : Int)) ≤ k := Nat.le_trans List.countP_le_length (List.length_take_le _ _)
      by_cases hlt : k < s.handles.length
      · obtain ⟨g, hg, _, hc⟩ := owns_at (unhide H).handles (by omega)
        obtain ⟨y, hy⟩ : ∃ y, s.handles[k]? = some y := ⟨_, List.getElem?_eq_getElem hlt⟩
        have cc := hanCells_at _ _ _ hy
        have hpos : 0 ≤ y.num := ((unhide HI).nums y (List.mem_of_getElem? hy)).1
        have htop : y.num ≤ 72057594037927936 := by have := ((unhide HI).nums y (List.mem_of_getElem? hy)).2.1; omega
        have c0 := hc _ _ cc.1
        have hct := countP_take (p := fun h : RHan => h.num % 32 == (sl : Int)) hy
        rw [hg] at c6
        generalize hC : ((s.handles.take k).countP fun h => h.num % 32 == (sl : Int)) = C at *
        have HCT := hide hct; clear hct hC hg hc cc hy
        by_cases hm : y.num % 32 = (sl : Int)
        · have hb : (y.num % 32 == (sl : Int)) = true := by simp [hm]
          have HM := hide hm; clear hm
          go_wp2
          go_round
          case rel => exact ⟨k + 1, by omega, by go_num, by rw [unhide HCT]; simp [unhide HM]⟩
          case measure => simp [intOf]; omega
        · have hb : (y.num % 32 == (sl : Int)) = false := by simp [hm]
          have HM := hide hm; clear hm
          go_wp2
          go_round
          case rel => exact ⟨k + 1, by omega, by go_num, by rw [unhide HCT]; simp [unhide HM]⟩
          case measure => simp [intOf]; omega
      · have hkn : s.handles.take k = s.handles := List.take_of_length_le (by omega)
        have hpast : ((s.handles.take k).countP fun h => h.num % 32 == (sl : Int)) = s.past sl := by rw [hkn]; rfl
        rw [hpast] at hcl ⊢
        have HCP := hide hpast; clear hpast hkn
        generalize hPP : s.past (sl : Int) = PP at *
        have HPP := hide hPP; clear hPP
        go_wp2_with (at_builtin; go_must (refine wpList_append_gen _ rfl (.tmp 46) (.tmp 51) 51 rfl 55 i0 (.agg #[.int .i64 0, .int .i64 0, .int .i64 0, .bool false]) 4 32 Tryz.underlying51 hi0 hz0 hz1 hz2 rfl (by decide) (.slice L.ha s.handles.length L.hc) s.handles.length (hanCells s.handles) rfl ?c0 (some ⟨w'.heap.size, 0, none⟩) 1 1 (hanCells [⟨32 * PP + sl, scope, obj, true⟩]) rfl rfl ?c1 ?c4 ?c2 ?c3 ?_))
        case c0 => exact World.ownsRow.alloc (unhide H).handles _
        case c1 => exact fun j u hj => hj
        case c4 => intro u hu; simp [hanCells] at hu; rcases hu with rfl | rfl | rfl | rfl <;> rfl
        case c2 => unfold maxLen; omega
        case c3 => omega
        intro va cap w1 ho hg hat
        have hb1 := ((unhide H).ref.alloc (.cells (hanCells [⟨32 * PP + sl, scope, obj, true⟩]).toArray 55)).chg (grown_chg hg) (fun hbr => by
          have hbr' := Option.mem_toList.1 hbr
          exact ((unhide H).ref.ty.ne (by decide)) (owns_ty (unhide H).handles br (ownBlock_ab hbr')))
        have c6' := hb1.cell_of (i := 6) rfl
        have f6' := hb1.frozen 6
        have hsz : w'.heap.size < w1.heap.size := by have := hg.size; simp at this; omega
        have hfin2 := (unhide H).pushHandle ⟨32 * PP + sl, scope, obj, true⟩ _ ho hg (Nat.le_succ _) hat
        have HF2 := hide hfin2; clear hfin2 ho hg hat hb1 c6 f6
        go_wp2
        go_ret2
        refine ⟨{ L with ha := va, hc := cap }, ?_, ?_, (unhide HF2).2⟩
        · rw [unhide HFIN]; rfl
        · rw [unhide HFIN]; exact (unhide HF2).1
end Go.Proofs.YtfoncalkgmeklaaGreat
