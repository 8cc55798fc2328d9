/- A heap in which just the first n0 handles live, and those of an open scope (plain). -/
import Derived.Test.YtfoncalkgmeklaaCXwKRoom
namespace Go.Proofs.Ytfoncalkgmeklaa
open Go.RowKit

def baseH (n0 : Nat) : List RHan := (List.range n0).map fun (k : Nat) => (⟨(k : Int), 0, k, true⟩ : RHan)
structure HB (n0 : Nat) (c : Int) (q : Nat) (s : R) : Prop where
  all : RAll s
  dead : s.dead = false
  limit : s.limit = 512
  scopes : s.scopes = c
  han : ∃ t, s.handles = baseH n0 ++ t ∧ ∀ g ∈ t, g.live = true → g.scope = c ∧ 1 ≤ c
  slot : ∀ g ∈ s.handles, g.live = true → g.num % 32 < (q : Int)
/-- What is held: the base, and what it refers to. -/
structure Held (n0 : Nat) (S : List Nat) (b : Int) (s : R) : Prop where
  base : ∀ k, k < n0 → k ∈ S
  lt : ∀ i ∈ S, i < s.objs.length
  closed : ∀ i ∈ S, ∀ v ∈ (s.objOf i).vals, v.1 = 2 → v.2.toNat ∈ S
  used : usedOf s.objs S ≤ b
theorem baseH_len (n0 : Nat) : (baseH n0).length = n0 := by simp [baseH]
theorem baseH_mem {n0 : Nat} {g : RHan} (h : g ∈ baseH n0) : ∃ k : Nat, k < n0 ∧ g = ⟨(k : Int), 0, k, true⟩ := by
  obtain ⟨k, hk, rfl⟩ := List.mem_map.1 h
  exact ⟨k, List.mem_range.1 hk, rfl⟩
theorem baseH_at {n0 k : Nat} (h : k < n0) : (baseH n0)[k]? = some ⟨(k : Int), 0, k, true⟩ := by
  unfold baseH
  rw [List.getElem?_map, List.getElem?_range h]; rfl
theorem usedOf_more (objs : List RObj) (o : RObj) : ∀ (S : List Nat), (∀ i ∈ S, i < objs.length) → usedOf (objs ++ [o]) S = usedOf objs S
  | [], _ => rfl
  | i :: r, h => by
    have ih := usedOf_more objs o r (fun j hj => h j (List.mem_cons_of_mem _ hj))
    have hi := h i List.mem_cons_self
    simp only [usedOf, ih]
    simp only [List.getD]
    rw [List.getElem?_append_left hi]
theorem Held.more {n0 : Nat} {S : List Nat} {b : Int} {s s' : R} {o : RObj} (h : Held n0 S b s) (ho : s'.objs = s.objs ++ [o]) : Held n0 S b s' := by
  have e : ∀ i ∈ S, s'.objOf i = s.objOf i := fun i hi => by
    unfold R.objOf
    rw [ho]
    simp only [List.getD]
    rw [List.getElem?_append_left (h.lt i hi)]
  refine ⟨h.base, fun i hi => by rw [ho]; have := h.lt i hi; simp; omega, fun i hi v hv h2 => h.closed i hi v (by rw [← e i hi]; exact hv) h2, ?_⟩
  rw [ho, usedOf_more _ _ _ h.lt]
  exact h.used
theorem Held.same {n0 : Nat} {S : List Nat} {b : Int} {s s' : R} (h : Held n0 S b s) (ho : s'.objs = s.objs) : Held n0 S b s' := by
  have e : ∀ i, s'.objOf i = s.objOf i := fun i => by unfold R.objOf; rw [ho]
  exact ⟨h.base, fun i hi => by rw [ho]; exact h.lt i hi, fun i hi v hv h2 => h.closed i hi v (by rw [← e i]; exact hv) h2, by rw [ho]; exact h.used⟩
theorem HB.base {n0 q : Nat} {c : Int} {s : R} (h : HB n0 c q s) {k : Nat} (hk : k < n0) : s.handles[k]? = some ⟨(k : Int), 0, k, true⟩ := by
  obtain ⟨t, ht, _⟩ := h.han
  rw [ht, List.getElem?_append_left (by rw [baseH_len]; exact hk)]
  exact baseH_at hk
theorem find_live {s : R} (ha : RAll s) {i : Nat} {g : RHan} (hg : s.handles[i]? = some g) (hl : g.live = true) : s.find? g.num = some i := by
  have ha' := at_of_live ha.num hg hl
  have hr := RNum.live ha.num hg hl
  rw [find_slot ha.ok.inv ha.num, if_pos ⟨(ha.ok.inv.nums g (List.mem_of_getElem? hg)).1, hr⟩, ha']
theorem find_dead {s : R} (ha : RAll s) {i : Nat} {g : RHan} (hg : s.handles[i]? = some g) (hl : g.live = false) : s.find? g.num = none := by
  cases hf : s.find? g.num with
  | none => rfl
  | some q =>
    obtain ⟨g', hg', hlv', hn'⟩ := find_some hf
    have := num_once ha.num hg' hg hn'
    subst this
    rw [hg] at hg'
    cases hg'
    rw [hl] at hlv'
    cases hlv'
theorem HB.find {n0 q : Nat} {c : Int} {s : R} (h : HB n0 c q s) {k : Nat} (hk : k < n0) : s.find? (k : Int) = some k := find_live h.all (h.base hk) rfl
theorem HB.free {n0 q : Nat} {c : Int} {s : R} (h : HB n0 c q s) (hq : q < 32) : ∃ k, k ≤ q ∧ s.free? = some k := by
  have hnone : s.at? (q : Int) = none := by
    cases ha : s.at? (q : Int) with
    | none => rfl
    | some a =>
      obtain ⟨g, hg, hl, hm⟩ := at_some ha
      have := h.slot g (List.mem_of_getElem? hg) hl
      omega
  cases hf : s.free? with
  | none =>
    unfold R.free? at hf
    rw [List.find?_eq_none] at hf
    have := hf q (List.mem_range.2 hq)
    rw [hnone] at this
    simp at this
  | some k =>
    refine ⟨k, ?_, rfl⟩
    unfold R.free? at hf
    rw [List.find?_eq_some_iff_getElem] at hf
    obtain ⟨_, i, hi, e, hmin⟩ := hf
    simp at e
    subst e
    rcases Nat.lt_or_ge q i with h1 | h1
    · have := hmin q h1
      simp [hnone] at this
    · exact h1
theorem HB.opens {n0 q : Nat} {s : R} (h : HB n0 0 q s) : s.openQ = (1, 0, { s with scopes := 1 }) ∧ HB n0 1 q { s with scopes := 1 } := by
  have e : s.openQ = (1, 0, { s with scopes := 1 }) := by
    unfold R.openQ
    rw [if_neg (by rw [h.dead]; simp), if_neg (by rw [h.scopes]; simp), h.scopes]
    rfl
  have ha := h.all.opens
  rw [e] at ha
  refine ⟨e, ha, h.dead, h.limit, rfl, ?_, h.slot⟩
  obtain ⟨t, ht, hl⟩ := h.han
  exact ⟨t, ht, fun g hg hlv => by have := (hl g hg hlv).2; omega⟩
theorem HB.live {n0 q : Nat} {c : Int} {s : R} (h : HB n0 c q s) (hc : c = 0) : ∀ g ∈ s.handles, g.live = true → ∃ k : Nat, k < n0 ∧ g = ⟨(k : Int), 0, k, true⟩ := fun g hg hl => by
  obtain ⟨t, ht, hb⟩ := h.han
  rw [ht] at hg
  rcases List.mem_append.1 hg with h1 | h1
  · exact baseH_mem h1
  · have := (hb g h1 hl).2; omega
theorem HB.make {n0 q : Nat} {s : R} (h : HB n0 1 q s) (hq : q < 32) {o : RObj} {S : List Nat} {b : Int} (hs : Held n0 S b s) (hlive : ∀ g ∈ s.handles, g.live = true → g.obj ∈ S) (hr : b + oWords o ≤ 512) (hall : RAll (s.make o).2.2) :
    ∃ x s', s.make o = (x, 0, s') ∧ HB n0 1 (q + 1) s' ∧ s'.objs = s.objs ++ [o] ∧ s'.handles = s.handles ++ [⟨x, 1, s.objs.length, true⟩] := by
  obtain ⟨k, hk, hf⟩ := h.free hq
  have hk32 := free_lt hf
  obtain ⟨s', e, e1, e2, e3, e4, e5⟩ := make_in (o := o) h.all hf hlive hs.closed (by rw [h.limit]; have := hs.used; omega)
  rw [e] at hall
  rw [h.scopes] at e2 e4
  refine ⟨_, s', e, ⟨hall, e5.trans h.dead, e3.trans h.limit, e4, ?_, ?_⟩, e1, e2⟩
  · obtain ⟨t, ht, hb⟩ := h.han
    refine ⟨t ++ [⟨32 * (s.past (k : Int) : Int) + (k : Int), 1, s.objs.length, true⟩], by rw [e2, ht, List.append_assoc], fun g hg hl => ?_⟩
    rcases List.mem_append.1 hg with h1 | h1
    · exact hb g h1 hl
    · simp at h1; subst h1; exact ⟨rfl, by omega⟩
  · intro g hg hl
    rw [e2] at hg
    rcases List.mem_append.1 hg with h1 | h1
    · have := h.slot g h1 hl; push_cast; omega
    · simp at h1; subst h1; simp only; push_cast; omega
theorem HB.close {n0 q : Nat} {s : R} (h : HB n0 1 q s) (hn : n0 ≤ 32) : ∃ s', s.closeQ 1 = (0, s') ∧ HB n0 0 n0 s' ∧ s'.objs = s.objs ∧ s'.handles = s.handles.map (RHan.shut 1) := by
  have e : s.closeQ 1 = (0, { s with handles := s.handles.map (RHan.shut 1), scopes := s.scopes - 1 }) := by
    unfold R.closeQ
    rw [if_neg (by rw [h.dead]; simp), if_neg (by rw [h.scopes]; simp)]
  have ha := h.all.close 1
  rw [e] at ha
  obtain ⟨t, ht, hb⟩ := h.han
  have hbase : (baseH n0).map (RHan.shut 1) = baseH n0 := by
    unfold baseH
    rw [List.map_map]
    exact List.map_congr_left fun k _ => by simp [RHan.shut]
  have hh : s.handles.map (RHan.shut 1) = baseH n0 ++ t.map (RHan.shut 1) := by rw [ht, List.map_append, hbase]
  have hoff : ∀ g ∈ t.map (RHan.shut 1), g.live = false := fun g hg => by
    obtain ⟨g', hg', rfl⟩ := List.mem_map.1 hg
    unfold RHan.shut
    split
    · rfl
    · rename_i hne
      cases hl : g'.live with
      | false => rfl
      | true => exact absurd (hb g' hg' hl).1 hne
  refine ⟨_, e, ⟨ha, h.dead, h.limit, ?_, ⟨t.map (RHan.shut 1), hh, fun g hg hl => by rw [hoff g hg] at hl; cases hl⟩, ?_⟩, rfl, rfl⟩
  · show s.scopes - 1 = 0
    rw [h.scopes]; rfl
  · intro g hg hl
    have hg' : g ∈ s.handles.map (RHan.shut 1) := hg
    rw [hh] at hg'
    rcases List.mem_append.1 hg' with h1 | h1
    · obtain ⟨k, hk, rfl⟩ := baseH_mem h1
      simp only; omega
    · rw [hoff g h1] at hl; cases hl
/-- An object that is let go at once. -/
theorem HB.waste {n0 : Nat} {s : R} (h : HB n0 0 n0 s) (hn : n0 < 32) {S : List Nat} {b : Int} (hs : Held n0 S b s) {n : Int} (h0 : 0 ≤ n ∧ n ≤ 16) (hr : b + 33 ≤ 512) :
    ∃ x s2 s3, s.openQ = (1, 0, { s with scopes := 1 }) ∧ ({ s with scopes := 1 } : R).arrayQ n = (x, 0, s2) ∧ s2.closeQ 1 = (0, s3) ∧ HB n0 0 n0 s3 ∧ s3.objs = s.objs ++ [mkArray n] ∧ Held n0 S b s3 := by
  obtain ⟨e1, h1⟩ := h.opens
  have hal := h1.all.array n
  have eq : ({ s with scopes := 1 } : R).arrayQ n = ({ s with scopes := 1 } : R).make (mkArray n) := by
    unfold R.arrayQ
    rw [if_neg (by rw [h1.dead]; simp), if_neg (by omega)]
  rw [eq] at hal
  have hs1 : Held n0 S b { s with scopes := 1 } := hs.same rfl
  obtain ⟨x, s2, e2, h2, o2, _⟩ := h1.make hn hs1 (fun g hg hl => by
    obtain ⟨k, hk, rfl⟩ := h.live rfl g hg hl
    exact hs.base k hk) (by show b + (1 + 2 * n) ≤ 512; omega) hal
  obtain ⟨s3, e3, h3, o3, _⟩ := h2.close (by omega)
  have o4 : s3.objs = s.objs ++ [mkArray n] := o3.trans o2
  exact ⟨x, s2, s3, e1, eq.trans e2, e3, h3, o4, hs.more o4⟩
theorem HB.collect {n0 : Nat} {s : R} (h : HB n0 0 n0 s) : ∃ s', s.collectQ = (0, s') ∧ HB n0 0 n0 s' ∧ s'.objs = s.objs := by
  have e : s.collectQ = (0, { s with row := s.reach }) := by unfold R.collectQ; rw [if_neg (by rw [h.dead]; simp)]
  have ha := h.all.collect
  rw [e] at ha
  exact ⟨_, e, ⟨ha, h.dead, h.limit, h.scopes, h.han, h.slot⟩, rfl⟩
/-- The base's calls see what they must. -/
theorem HB.look {n0 q : Nat} {c : Int} {s : R} (h : HB n0 c q s) {x : Nat} (hx : x < n0) {k v : Int × Int} {key : Bool} (hb : R.badValue k v key = false) (hst : s.stale k v = false) : s.look (x : Int) k v key = (x, 0) := by
  unfold R.look
  rw [if_neg (by rw [h.dead]; simp), if_neg (by rw [hb]; simp), h.find hx]
  simp only
  rw [if_neg (by rw [hst]; simp)]
  simp [List.getD, h.base hx]
end Go.Proofs.Ytfoncalkgmeklaa
