import Derived.Test.YtfoncalkgmeklaaXwM3
import Derived.Test.YtfoncalkgmeklaaXwM4
import Derived.Deep.RegionHeld3
import Derived.Deep.DeepCutAuto

/- row: an object's words, by the document. -/
namespace Go.Proofs.Ytfoncalkgmeklaa
open Go.RowKit

/-! The words, plainly -/
def ints (l : List Int) : List Value := l.map (Value.int .i64)
theorem ints_append (a b : List Int) : ints (a ++ b) = ints a ++ ints b := by simp [ints]
theorem ints_one (l : List Int) : ∀ u ∈ ints l, u.oneCell' = true := by
  intro u hu
  obtain ⟨b, _, rfl⟩ := List.mem_map.1 hu
  rfl
/-- A value's two words. -/
def valWords (s : R) (v : Int × Int) : List Int := [v.1, if v.1 = 2 then placeOf s.objs v.2.toNat s.row else v.2]
/-- What j bytes of a text's word make, from the last of its eight down. -/
def packTo (t : ByteArray) (i : Nat) : Nat → Int
  | 0 => 0
  | j + 1 => if h : i + 7 - j < t.size then wrap64 (wrap64 (packTo t i j * 256) + (t[i + 7 - j].toNat : Int)) else wrap64 (packTo t i j * 256)
/-- The first n words of a text. -/
def textTo (t : ByteArray) : Nat → List Int
  | 0 => []
  | n + 1 => textTo t n ++ [packTo t (8 * n) 8]
def textWords (t : ByteArray) : List Int := textTo t ((t.size + 7) / 8)
def headWords (o : RObj) : List Int := [o.kind * 65536 + o.size] ++ (if o.kind = 3 then [(o.vals.length : Int) / 2] else [])
def fullWords (s : R) (o : RObj) : List Int := headWords o ++ (o.vals.flatMap (valWords s) ++ textWords o.text)
/-- An object's words. -/
def objWords (s : R) (o : RObj) : List Int := fullWords s o ++ List.replicate ((oWords o).toNat - (fullWords s o).length) 0

/-- A list that the call itself has made, of these numbers. -/
structure Out (w wr : World) (a : Option Addr) (n c : Nat) (ys : List Int) : Prop where
  own : wr.ownsRow 0 3 1 (.slice a n c) n (ints ys)
  newer : ∀ b ∈ ab a, w.heap.size ≤ b
  chg : Chg [] w wr
theorem Out.len {w wr : World} {a : Option Addr} {n c : Nat} {ys : List Int} (h : Out w wr a n c ys) : ys.length = n := by simpa [ints] using h.own.1
theorem Out.drewN {w wr : World} {a : Option Addr} {n c : Nat} {ys : List Int} (h : Out w wr a n c ys) (q : Nat) : Out w (wr.drewN q) a n c ys :=
  ⟨owns_chg h.own ((Chg.refl [] wr).drewN q) (by simp), h.newer, h.chg.drewN q⟩
theorem Out.push {w wr w1 : World} {a va : Option Addr} {n c m cap H : Nat} {ys zs : List Int} (h : Out w wr a n c ys) (o : Obj)
    (ho : w1.ownsRow 0 3 1 (.slice va (n + m) cap) (n + m) (ints ys ++ ints zs)) (hg : (wr.alloc o).grownBy w1 (Value.slice a n c).ownBlock) (hH : wr.heap.size ≤ H)
    (hat : (Value.slice va (n + m) cap).ownBlock = (Value.slice a n c).ownBlock ∨ (Value.slice va (n + m) cap).ownBlock = some H) : Out w w1 va (n + m) cap (ys ++ zs) := by
  refine ⟨by rw [ints_append]; exact ho, fun b hb => ?_, (h.chg.alloc o).grown hg (fun k hk => .inr (h.newer k (ownBlock_ab hk)))⟩
  rcases at_ab hH hat b hb with h1 | h1
  · exact h.newer b h1
  · exact Nat.le_trans h.chg.size h1

theorem wrap64_u8 (b : UInt8) : wrap64 (b.toNat : Int) = (b.toNat : Int) := by
  have := b.toNat_lt
  have h : IntKind.i64.wrap (b.toNat : Int) = (b.toNat : Int) := by rw [IntKind.wrap_i64]; omega
  rw [← h]
  simp [wrap64, IntKind.wrap_i64]
theorem textTo_len (t : ByteArray) (m : Nat) : (textTo t m).length = m := by
  induction m with
  | zero => rfl
  | succ m ih => simp [textTo, ih]
theorem valWords_len (s : R) (l : List (Int × Int)) : (l.flatMap (valWords s)).length ≤ 2 * l.length := by
  induction l with
  | nil => simp
  | cons v r ih => simp [valWords] at ih ⊢; omega

def lenOf : Value → Nat
  | .slice _ n _ => n
  | _ => 0

end Go.Proofs.Ytfoncalkgmeklaa

/- Words of the document's heap: all words in use, in their order. -/
namespace Go.Proofs.Ytfoncalkgmeklaa
open Go.RowKit

def R.words (s : R) : List Int := s.row.flatMap fun i => objWords s (s.objOf i)

theorem fullWords_len (s : R) (o : RObj) (hv : o.vals.length ≤ 16) (ht : o.text.size ≤ 64) : (fullWords s o).length ≤ 42 := by
  unfold fullWords headWords textWords
  have h3 := valWords_len s o.vals
  have h4 := textTo_len o.text ((o.text.size + 7) / 8)
  simp only [List.length_append]
  have h5 : ([o.kind * 65536 + o.size] ++ if o.kind = 3 then [(o.vals.length : Int) / 2] else []).length ≤ 2 := by split <;> simp
  rw [List.length_append] at h5
  omega
theorem objWords_len (s : R) (o : RObj) (hv : o.vals.length ≤ 16) (ht : o.text.size ≤ 64) (hw : oWords o ≤ 66) : (objWords s o).length ≤ 200 := by
  unfold objWords
  have := fullWords_len s o hv ht
  simp only [List.length_append, List.length_replicate]
  omega

theorem flat_len {α : Type} (f : α → List Int) : ∀ (l : List α), (∀ x ∈ l, (f x).length ≤ 200) → (l.flatMap f).length ≤ 200 * l.length
  | [], _ => by simp
  | x :: r, h => by
    have ih := flat_len f r (fun y hy => h y (List.mem_cons_of_mem _ hy))
    have := h x List.mem_cons_self
    simp only [List.flatMap_cons, List.length_append, List.length_cons]
    omega
/-- A list that the call has made, grown by another list's numbers. -/
theorem Out.app {w wr w1 : World} {a va : Option Addr} {n c m cap H : Nat} {ys zs : List Int} (h : Out w wr a n c ys)
    (ho : w1.ownsRow 0 3 1 (.slice va (n + m) cap) (n + m) (ints ys ++ ints zs)) (hg : wr.grownBy w1 (Value.slice a n c).ownBlock) (hH : wr.heap.size ≤ H)
    (hat : (Value.slice va (n + m) cap).ownBlock = (Value.slice a n c).ownBlock ∨ (Value.slice va (n + m) cap).ownBlock = some H) : Out w w1 va (n + m) cap (ys ++ zs) := by
  refine ⟨by rw [ints_append]; exact ho, fun b hb => ?_, h.chg.grown hg (fun k hk => .inr (h.newer k (ownBlock_ab hk)))⟩
  rcases at_ab hH hat b hb with h1 | h1
  · exact h.newer b h1
  · exact Nat.le_trans h.chg.size h1

end Go.Proofs.Ytfoncalkgmeklaa

/- met, Reach: what can be reached, in P12's order. -/
namespace Go.Proofs.Ytfoncalkgmeklaa
open Go.RowKit

def natInts (l : List Nat) : List Int := l.map fun (n : Nat) => (n : Int)
theorem rowCells_eq (l : List Nat) : rowCells l = ints (natInts l) := by simp [rowCells, ints, natInts]
def metOf (row : List Nat) (x : Nat) : List Nat := if x ∈ row then row else row ++ [x]
/-- The objects of the live handles of the first k slots. -/
def R.roots (s : R) : Nat → List Nat
  | 0 => []
  | k + 1 => match s.at? (k : Int) with
    | none => s.roots k
    | some h => metOf (s.roots k) (s.handles.getD h rhan0).obj
/-- The objects among the first k values, met. -/
def scanVals (row : List Nat) (vals : List (Int × Int)) : Nat → List Nat
  | 0 => row
  | k + 1 => match vals[k]? with
    | none => scanVals row vals k
    | some v => if v.1 = 2 then metOf (scanVals row vals k) v.2.toNat else scanVals row vals k
/-- The row when its first i objects have been looked into. -/
def R.scanTo (s : R) : Nat → List Nat
  | 0 => s.roots 32
  | i + 1 => match (s.scanTo i)[i]? with
    | none => s.scanTo i
    | some x => scanVals (s.scanTo i) (s.objOf x).vals (s.objOf x).vals.length
def R.reach (s : R) : List Nat := s.scanTo s.objs.length

theorem scanTo_succ (s : R) (i : Nat) : s.scanTo (i + 1) = match (s.scanTo i)[i]? with
    | none => s.scanTo i
    | some x => scanVals (s.scanTo i) (s.objOf x).vals (s.objOf x).vals.length := rfl
theorem roots_succ (s : R) (k : Nat) : s.roots (k + 1) = match s.at? (k : Int) with
    | none => s.roots k
    | some h => metOf (s.roots k) (s.handles.getD h rhan0).obj := rfl
theorem scanVals_succ (row : List Nat) (vals : List (Int × Int)) (k : Nat) : scanVals row vals (k + 1) = match vals[k]? with
    | none => scanVals row vals k
    | some v => if v.1 = 2 then metOf (scanVals row vals k) v.2.toNat else scanVals row vals k := rfl
theorem metOf_mono (row : List Nat) (x : Nat) : row.length ≤ (metOf row x).length := by unfold metOf; split <;> simp
theorem scanVals_mono (row : List Nat) (vals : List (Int × Int)) : ∀ k, row.length ≤ (scanVals row vals k).length
  | 0 => Nat.le_refl _
  | k + 1 => by
    have ih := scanVals_mono row vals k
    rw [scanVals_succ]
    split
    · exact ih
    · split
      · exact Nat.le_trans ih (metOf_mono _ _)
      · exact ih
/-- A row of objects, each once. -/
structure Good (s : R) (row : List Nat) : Prop where
  nodup : row.Nodup
  lt : ∀ i ∈ row, i < s.objs.length
theorem Good.met {s : R} {row : List Nat} {x : Nat} (h : Good s row) (hx : x < s.objs.length) : Good s (metOf row x) := by
  unfold metOf
  split
  · exact h
  · rename_i hn
    refine ⟨?_, ?_⟩
    · rw [List.nodup_append]
      refine ⟨h.nodup, by simp, ?_⟩
      intro a ha b hb
      simp at hb
      subst hb
      intro e
      exact hn (e ▸ ha)
    · intro i hi
      rcases List.mem_append.1 hi with h1 | h1
      · exact h.lt i h1
      · simp at h1; omega
theorem nodup_len : ∀ (n : Nat) (l : List Nat), l.Nodup → (∀ i ∈ l, i < n) → l.length ≤ n
  | 0, l, _, h => by
    cases l with
    | nil => simp
    | cons x r => have := h x List.mem_cons_self; omega
  | n + 1, l, hd, h => by
    have h1 := nodup_len n (l.erase n) (hd.erase n) (fun i hi => by
      have h2 := h i (List.mem_of_mem_erase hi)
      have h3 : i ≠ n := fun e => by
        subst e
        exact (List.Nodup.not_mem_erase hd) hi
      omega)
    have h4 : l.length ≤ (l.erase n).length + 1 := by
      rw [List.length_erase]; split <;> omega
    omega
theorem Good.len {s : R} {row : List Nat} (h : Good s row) : row.length ≤ s.objs.length := nodup_len _ _ h.nodup h.lt
theorem Good.roots {s : R} (hi : RInv s) : ∀ k, Good s (s.roots k)
  | 0 => ⟨by simp [R.roots], by simp [R.roots]⟩
  | k + 1 => by
    have ih := Good.roots hi k
    unfold R.roots
    split
    · exact ih
    · rename_i h hh
      have hl : h < s.handles.length := by
        unfold R.at? at hh
        exact (List.findIdx?_eq_some_iff_getElem.1 hh).1
      refine ih.met ?_
      have := (hi.nums s.handles[h] (List.getElem_mem hl)).2.2
      simpa [List.getD, hl] using this
theorem Good.vals {s : R} {row : List Nat} (hi : RInv s) (h : Good s row) {o : RObj} (ho : o ∈ s.objs) : ∀ k, Good s (scanVals row o.vals k)
  | 0 => h
  | k + 1 => by
    have ih := Good.vals hi h ho k
    unfold scanVals
    split
    · exact ih
    · rename_i v hv
      split
      · rename_i h2
        have := (hi.vals o ho v (List.mem_of_getElem? hv)).2.2 h2
        exact ih.met (by omega)
      · exact ih
theorem objOf_mem {s : R} {x : Nat} (h : x < s.objs.length) : s.objOf x ∈ s.objs := by
  unfold R.objOf; simp [List.getD, h]
theorem Good.scan {s : R} (hi : RInv s) : ∀ i, Good s (s.scanTo i)
  | 0 => Good.roots hi 32
  | i + 1 => by
    have ih := Good.scan hi i
    unfold R.scanTo
    split
    · exact ih
    · rename_i x hx
      exact ih.vals hi (objOf_mem (ih.lt x (List.mem_of_getElem? hx))) _
theorem scan_stop {s : R} {i : Nat} (h : (s.scanTo i).length ≤ i) : ∀ j, s.scanTo (i + j) = s.scanTo i
  | 0 => rfl
  | j + 1 => by
    have ih := scan_stop h j
    rw [← Nat.add_assoc, scanTo_succ, ih, List.getElem?_eq_none (by omega)]
theorem reach_eq {s : R} {i : Nat} (h : (s.scanTo i).length ≤ i) (hi : i ≤ s.objs.length) : s.reach = s.scanTo i := by
  unfold R.reach
  have := scan_stop h (s.objs.length - i)
  rwa [show i + (s.objs.length - i) = s.objs.length by omega] at this
theorem Good.reach {s : R} (hi : RInv s) : Good s s.reach := Good.scan hi _

end Go.Proofs.Ytfoncalkgmeklaa

/- The document's heap behind a change of one of its parts. -/
namespace Go.Proofs.Ytfoncalkgmeklaa
open Go.RowKit

theorem foot_br (br : Nat) (L : RL) : br ∈ L.foot br := by simp [RL.foot]
theorem foot_ra {br : Nat} {L : RL} {b : Nat} (h : b ∈ ab L.ra) : b ∈ L.foot br := by simp [RL.foot, h]
theorem foot_oa {br : Nat} {L : RL} {b : Nat} (h : b ∈ ab L.oa) : b ∈ L.foot br := by simp [RL.foot, h]
theorem foot_ha {br : Nat} {L : RL} {b : Nat} (h : b ∈ ab L.ha) : b ∈ L.foot br := by simp [RL.foot, h]
theorem foot_obs {br : Nat} {L : RL} {b : Nat} (h : b ∈ L.obs) : b ∈ L.foot br := by simp [RL.foot, h]
theorem foot_vas {br : Nat} {L : RL} {b : Nat} {v : Option Addr × Nat} (hv : v ∈ L.vas) (h : b ∈ ab v.1) : b ∈ L.foot br := by
  simp only [RL.foot, List.mem_cons, List.mem_append, List.mem_flatMap]
  exact .inr (.inr ⟨v, hv, h⟩)
theorem foot_cases {br : Nat} {L : RL} {b : Nat} (h : b ∈ L.foot br) : b = br ∨ b ∈ ab L.fa ∨ b ∈ ab L.oa ∨ b ∈ ab L.ra ∨ b ∈ ab L.ha ∨ b ∈ L.obs ∨ ∃ v ∈ L.vas, b ∈ ab v.1 := by
  simp only [RL.foot, List.mem_cons, List.mem_append, List.mem_flatMap] at h
  rcases h with h | ((((h | h) | h) | h) | h) | h
  · exact .inl h
  · exact .inr (.inl h)
  · exact .inr (.inr (.inl h))
  · exact .inr (.inr (.inr (.inl h)))
  · exact .inr (.inr (.inr (.inr (.inl h))))
  · exact .inr (.inr (.inr (.inr (.inr (.inl h)))))
  · exact .inr (.inr (.inr (.inr (.inr (.inr h)))))
theorem foot_fa {br : Nat} {L : RL} {b : Nat} (h : b ∈ ab L.fa) : b ∈ L.foot br := by simp [RL.foot, h]
/-- A footprint that differs in one part. -/
theorem foot_sub {br : Nat} {L L' : RL} {N : Nat} (h1 : ∀ b ∈ ab L'.fa, b ∈ L.foot br ∨ N ≤ b) (h2 : ∀ b ∈ ab L'.oa, b ∈ L.foot br ∨ N ≤ b) (h3 : ∀ b ∈ ab L'.ra, b ∈ L.foot br ∨ N ≤ b) (h4 : ∀ b ∈ ab L'.ha, b ∈ L.foot br ∨ N ≤ b)
    (h5 : ∀ b ∈ L'.obs, b ∈ L.foot br ∨ N ≤ b) (h6 : ∀ v ∈ L'.vas, ∀ b ∈ ab v.1, b ∈ L.foot br ∨ N ≤ b) : ∀ b ∈ L'.foot br, b ∈ L.foot br ∨ N ≤ b := by
  intro b hb
  rcases foot_cases hb with rfl | hb | hb | hb | hb | hb | ⟨v, hv, hb⟩
  · exact .inl (foot_br _ _)
  · exact h1 b hb
  · exact h2 b hb
  · exact h3 b hb
  · exact h4 b hb
  · exact h5 b hb
  · exact h6 v hv b hb

end Go.Proofs.Ytfoncalkgmeklaa
