import Derived.Test.YtfoncalkgmeklaaXwM5
import Derived.Deep.RegionLaw

/- made: a new object of the document's heap takes its words, and a handle of it: P13. -/
namespace Go.Proofs.Ytfoncalkgmeklaa
open Go.RowKit

def R.flagNow (s : R) : Bool := s.flags.getD (s.made % s.flags.length) false
/-- Behind the flag's look: whether all is collected first. -/
def R.made1 (s : R) : R := { s with made := s.made + 1 }
def R.made2 (s : R) : R := if s.flagNow then { s.made1 with row := s.made1.reach } else s.made1
def R.made3 (s : R) (n : Int) : R := if usedOf s.objs s.made2.row + n > s.limit then { s.made2 with row := s.made2.reach } else s.made2
def R.push (s : R) (o : RObj) : R := { s with objs := s.objs ++ [o], row := s.row ++ [s.objs.length] }
def R.make (s : R) (o : RObj) : Int × Int × R :=
  match s.free? with
  | none => (0, 11, s)
  | some _ =>
    if usedOf s.objs (s.made3 (oWords o)).row + oWords o > s.limit then (0, 12, { s.made3 (oWords o) with dead := true })
    else ((s.made3 (oWords o)).push o).handle s.objs.length s.scopes

theorem RInv.withRow {s : R} (hi : RInv s) {row : List Nat} (hg : Good s row) : RInv { s with row := row } :=
  ⟨hi.limit, hi.nflags, hi.kinds, hg.lt, hg.len, hi.nums, hi.vals, hi.valLen, hi.scopes⟩
theorem RInv.made1 {s : R} (hi : RInv s) : RInv s.made1 := ⟨hi.limit, hi.nflags, hi.kinds, hi.rows, hi.rowLen, hi.nums, hi.vals, hi.valLen, hi.scopes⟩
theorem RInv.made2 {s : R} (hi : RInv s) : RInv s.made2 := by
  unfold R.made2
  split
  · exact hi.made1.withRow (Good.reach hi.made1)
  · exact hi.made1
theorem RInv.made3 {s : R} (hi : RInv s) (n : Int) : RInv (s.made3 n) := by
  unfold R.made3
  split
  · exact hi.made2.withRow (Good.reach hi.made2)
  · exact hi.made2
theorem made2_objs (s : R) : s.made2.objs = s.objs ∧ s.made2.handles = s.handles ∧ s.made2.limit = s.limit ∧ s.made2.flags = s.flags ∧ s.made2.scopes = s.scopes ∧ s.made2.dead = s.dead ∧ s.made2.made = s.made + 1 := by
  unfold R.made2; split <;> exact ⟨rfl, rfl, rfl, rfl, rfl, rfl, rfl⟩
theorem made3_objs (s : R) (n : Int) : (s.made3 n).objs = s.objs ∧ (s.made3 n).handles = s.handles ∧ (s.made3 n).limit = s.limit ∧ (s.made3 n).flags = s.flags ∧ (s.made3 n).scopes = s.scopes ∧ (s.made3 n).dead = s.dead ∧ (s.made3 n).made = s.made + 1 := by
  unfold R.made3; split <;> exact made2_objs s

theorem RInv.push {s : R} (hi : RInv s) {o : RObj} (hk : 1 ≤ o.kind ∧ o.kind ≤ 3 ∧ 0 ≤ o.size ∧ o.size ≤ 64 ∧ (o.kind ≠ 2 → o.size ≤ 16)) (hv : ∀ v ∈ o.vals, 0 ≤ v.1 ∧ v.1 ≤ 2 ∧ (v.1 = 2 → 0 ≤ v.2 ∧ v.2 < s.objs.length)) (hvl : o.vals.length ≤ 16) : RInv (s.push o) := by
  refine ⟨hi.limit, hi.nflags, ?_, ?_, ?_, ?_, ?_, ?_, hi.scopes⟩
  · intro x hx
    rcases List.mem_append.1 hx with h | h
    · exact hi.kinds x h
    · simp at h; subst h; exact hk
  · intro i hx
    show i < (s.objs ++ [o]).length
    rcases List.mem_append.1 hx with h | h
    · have := hi.rows i h; simp; omega
    · simp at h; simp; omega
  · show (s.row ++ [s.objs.length]).length ≤ (s.objs ++ [o]).length
    have := hi.rowLen
    simp; omega
  · intro h hh
    have := hi.nums h hh
    refine ⟨this.1, this.2.1, ?_⟩
    show h.obj < (s.objs ++ [o]).length
    simp; omega
  · intro x hx v hvx
    have fin : ∀ v : Int × Int, (0 ≤ v.1 ∧ v.1 ≤ 2 ∧ (v.1 = 2 → 0 ≤ v.2 ∧ v.2 < s.objs.length)) → 0 ≤ v.1 ∧ v.1 ≤ 2 ∧ (v.1 = 2 → 0 ≤ v.2 ∧ v.2 < (s.objs ++ [o]).length) := by
      intro v hv
      refine ⟨hv.1, hv.2.1, fun h2 => ?_⟩
      have := hv.2.2 h2
      simp; omega
    rcases List.mem_append.1 hx with h | h
    · exact fin v (hi.vals x h v hvx)
    · simp at h; subst h; exact fin v (hv v hvx)
  · intro x hx
    rcases List.mem_append.1 hx with h | h
    · exact hi.valLen x h
    · simp at h; subst h; exact hvl

theorem Stp.lift {F F' E : List Nat} {w w' : World} (h : Stp F w F' w') : Stp (F ++ E) w (F' ++ E) w' :=
  ⟨h.chg.mono (fun x hx => by simp [hx]), fun x hx => by
    rcases List.mem_append.1 hx with h1 | h1
    · rcases h.foot x h1 with h2 | h2
      · exact .inl (by simp [h2])
      · exact .inr h2
    · exact .inl (by simp [h1])⟩
theorem step_append_gen {P : Program} (w : World) {ops : Array Oper} {o : Oper} {a : Act} {K : Act → World → Prop} {Q : Exit → Act → World → Prop} {E : Prop} (hgd : o.guard = none) (s x : Operand) (t : TypeId)
    (ho : o.op = .call { callee := .builtin .append, args := #[s, x], argTypes := #[t, t] })
    (e : TypeId) (i : TypeInfo) (z : Value) (size bytes : Nat) (ht : P.underlying t = some (.slice e)) (hi : P.info? e = some i) (hz : i.zero = some z)
    (hsize : i.size = size) (hby : i.bytes = bytes) (hzs : z.cells.size = size) (hsz : 0 < size)
    (v : Value) (n : Nat) (xs : List Value) (hs : a.eval s = v) (hown : w.ownsRow 0 e size v n xs)
    (sa : Option Addr) (m c : Nat) (news : List Value) (hx : a.eval x = .slice sa m c) (hl : news.length = m * size) (hsrc : 0 < m → ∃ ad, sa = some ad ∧ ∀ j u, news[j]? = some u → w.cell? (ad.add j) = some u) (h1 : ∀ u ∈ news, u.oneCell' = true)
    (h63 : n + m ≤ maxLen) (hbytes : (n + m) * bytes ≤ 140737488355328)
    (h : ∀ va cap w', w'.ownsRow 0 e size (.slice va (n + m) cap) (n + m) (xs ++ news) → w.grownBy w' v.ownBlock → (Value.slice va (n + m) cap = .slice none 0 0 ↔ v = .slice none 0 0 ∧ m = 0) →
      ((Value.slice va (n + m) cap).ownBlock = v.ownBlock ∨ (Value.slice va (n + m) cap).ownBlock = some w.heap.size) → K (a.put o.dst (.slice va (n + m) cap)) w') :
    if Region.wanted o (yielded ops a.tmps) = true then Oper.wp P o a w K Q else E := by
  have hw : Region.wanted o (yielded ops a.tmps) = true := by simp [Region.wanted, hgd]
  rw [if_pos hw]
  obtain ⟨v', w', hr, h2, h3, h4, h5⟩ := run_append_gen (P := P) w t o.type e i z size bytes ht hi hz hsize hby hzs hsz v n xs hown sa m c news hl hsrc h1 h63 hbytes
  unfold Oper.wp execOp
  simp only [ho, resolve, invoke, builtin, Sem.run_bind, Sem.run_pure, Result.andThen_ok, List.map_toArray, List.map_cons, List.map_nil, hs, hx, hr]
  obtain ⟨va, cap, rfl⟩ := owns_form h2
  exact h va cap w' h2 h3 h4 h5

end Go.Proofs.Ytfoncalkgmeklaa

/- Array, Bytes, Table of the document's heap. -/
namespace Go.Proofs.Ytfoncalkgmeklaa
open Go.RowKit

def mkArray (n : Int) : RObj := ⟨1, n, List.replicate n.toNat (0, 0), ⟨#[]⟩⟩
def mkBytes (t : ByteArray) : RObj := ⟨2, t.size, [], t⟩
def mkTable (n : Int) : RObj := ⟨3, n, [], ⟨#[]⟩⟩
def R.arrayQ (s : R) (n : Int) : Int × Int × R := if s.dead then (0, 2, s) else if n < 0 ∨ 16 < n then (0, 6, s) else s.make (mkArray n)
def R.bytesQ (s : R) (t : ByteArray) : Int × Int × R := if s.dead then (0, 2, s) else if 64 < t.size then (0, 6, s) else s.make (mkBytes t)
def R.tableQ (s : R) (n : Int) : Int × Int × R := if s.dead then (0, 2, s) else if n < 0 ∨ 8 < n then (0, 6, s) else s.make (mkTable n)

theorem infoVal : (Try.prog.info? 30).map (fun i => (i.zero, i.size, i.bytes)) = some (some (.agg #[.int .i64 0, .int .i64 0]), 2, 16) := by kernel_rfl
theorem valCells_zero (n : Nat) : madeCells #[.int .i64 0, .int .i64 0] (n * 2) = (valCells (List.replicate n (0, 0))).toArray := by
  apply Array.ext
  · simp [madeCells, length_valCells]
  · intro i h1 h2
    have e : ∀ (m j : Nat), j < m * 2 → (valCells (List.replicate m (0, 0)))[j]? = some (.int .i64 0) := by
      intro m
      induction m with
      | zero => intro j hj; omega
      | succ m ih =>
        intro j hj
        rw [List.replicate_succ]
        simp only [valCells]
        match j with
        | 0 => rfl
        | 1 => rfl
        | j + 2 => exact ih j (by omega)
    have hi : i < n * 2 := by simpa [madeCells] using h1
    have e1 := e n i hi
    have e2 : (madeCells #[.int .i64 0, .int .i64 0] (n * 2))[i]? = some (.int .i64 0) := by
      simp only [madeCells, Array.getElem?_map]
      rw [Array.getElem?_range, if_pos hi]
      have : i % 2 = 0 ∨ i % 2 = 1 := by omega
      rcases this with h | h <;> simp [h]
    rw [Array.getElem?_eq_getElem h1] at e2
    rw [List.getElem?_eq_getElem (by simpa using h2)] at e1
    simp at e1 e2
    simp [e1, e2]

theorem stp_new {w w1 w2 : World} {F E F' : List Nat} (hc : Chg [] w w1) (hE : ∀ x ∈ E, w.heap.size ≤ x) (hs : Stp (F ++ E) w1 F' w2) : Stp F w F' w2 := by
  refine ⟨Chg.trans_new (hc.mono (by simp)) hs.chg (fun x hx => ?_), fun x hx => ?_⟩
  · rcases List.mem_append.1 hx with h | h
    · exact .inl h
    · exact .inr (hE x h)
  · rcases hs.foot x hx with h | h
    · rcases List.mem_append.1 h with h | h
      · exact .inl h
      · exact .inr (hE x h)
    · exact .inr (Nat.le_trans hc.size h)

end Go.Proofs.Ytfoncalkgmeklaa
