import Derived.Test.YtfoncalkgmeklaaXwM41
import Derived.Test.YtfoncalkgmeklaaXwM14

/- Arrays of the greatest length fill a heap, whatever the flags (plain). -/
namespace Go.Proofs.Ytfoncalkgmeklaa
open Go.RowKit

/-- A heap with i arrays, each held by the handle of its number. -/
structure PI (l : Int) (i : Nat) (s : R) : Prop where
  all : RAll s
  dead : s.dead = false
  limit : s.limit = l
  scopes : s.scopes = 0
  handles : s.handles = (List.range i).map fun (k : Nat) => (⟨(k : Int), 0, k, true⟩ : RHan)
  objs : s.objs = List.replicate i (mkArray 16)
theorem PI.obj {l : Int} {i : Nat} {s : R} (h : PI l i s) {x : Nat} (hx : x < i) : s.objs.getD x robj0 = mkArray 16 := by
  rw [h.objs]
  simp [List.getD, hx]
theorem used_all {objs : List RObj} {n : Int} : ∀ {row : List Nat}, (∀ x ∈ row, oWords (objs.getD x robj0) = n) → usedOf objs row = n * row.length
  | [], _ => by simp [usedOf]
  | x :: r, h => by
    have ih := used_all (row := r) (fun y hy => h y (List.mem_cons_of_mem _ hy))
    have hx := h x List.mem_cons_self
    simp only [usedOf, List.length_cons]
    rw [ih, hx]
    push_cast
    rw [Int.mul_add, Int.mul_one, Int.add_comm]
theorem sub_len : ∀ (a b : List Nat), a.Nodup → (∀ x ∈ a, x ∈ b) → a.length ≤ b.length
  | [], _, _, _ => Nat.zero_le _
  | x :: r, b, hn, hs => by
    have h1 : x ∈ b := hs x List.mem_cons_self
    have ih := sub_len r (b.erase x) (List.nodup_cons.1 hn).2 (fun y hy => by
      have hne : y ≠ x := fun e => (List.nodup_cons.1 hn).1 (e ▸ hy)
      exact (List.mem_erase_of_ne hne).2 (hs y (List.mem_cons_of_mem _ hy)))
    rw [List.length_erase_of_mem h1] at ih
    have : 0 < b.length := List.length_pos_of_mem h1
    simp only [List.length_cons]
    omega
theorem PI.used {l : Int} {i : Nat} {s : R} (h : PI l i s) : usedOf s.objs s.row = 33 * (i : Int) := by
  have hrow : ∀ x ∈ s.row, x < i := fun x hx => by
    have := h.all.ok.inv.rows x hx
    rw [h.objs] at this
    simpa using this
  have hlive : ∀ x ∈ List.range i, x ∈ s.row := fun x hx => by
    have hx' := List.mem_range.1 hx
    exact h.all.row.live ⟨(x : Int), 0, x, true⟩ (by rw [h.handles]; exact List.mem_map.2 ⟨x, hx, rfl⟩) rfl
  have h1 := sub_len (List.range i) s.row List.nodup_range hlive
  have h2 := sub_len s.row (List.range i) h.all.row.nodup (fun x hx => List.mem_range.2 (hrow x hx))
  rw [List.length_range] at h1 h2
  rw [used_all (n := 33) (fun x hx => by rw [h.obj (hrow x hx)]; rfl), show s.row.length = i by omega]
theorem PI.free {l : Int} {i : Nat} {s : R} (h : PI l i s) (hi : i < 32) : s.free? = some i ∧ s.past (i : Int) = 0 := by
  have hh : ∀ a g, s.handles[a]? = some g → a < i ∧ g = ⟨(a : Int), 0, a, true⟩ := fun a g hg => by
    rw [h.handles] at hg
    rw [List.getElem?_map, Option.map_eq_some_iff] at hg
    obtain ⟨k, hk, rfl⟩ := hg
    obtain ⟨hlt, e⟩ := List.getElem?_eq_some_iff.1 hk
    simp at hlt e
    subst e
    exact ⟨hlt, rfl⟩
  have hnone : s.at? (i : Int) = none := by
    cases ha : s.at? (i : Int) with
    | none => rfl
    | some a =>
      obtain ⟨g, hg, _, hm⟩ := at_some ha
      obtain ⟨h1, rfl⟩ := hh a g hg
      simp only at hm
      omega
  have hsome : ∀ j, j < i → s.at? (j : Int) ≠ none := fun j hj => by
    have hg : s.handles[j]? = some ⟨(j : Int), 0, j, true⟩ := by
      rw [h.handles, List.getElem?_map, List.getElem?_range hj]; rfl
    have := at_of_live h.all.num hg rfl
    rw [show ((⟨(j : Int), 0, j, true⟩ : RHan).num % 32) = (j : Int) from by simp only; omega] at this
    rw [this]; simp
  constructor
  · unfold R.free?
    rw [List.find?_eq_some_iff_getElem]
    refine ⟨by rw [hnone]; rfl, i, by simpa using hi, by simp, fun j hj => ?_⟩
    have := hsome j hj
    simp only [List.getElem_range]
    cases hc : s.at? (j : Int) with
    | none => exact absurd hc this
    | some _ => rfl
  · rw [past_eq]
    refine countP_none fun g hg => ?_
    obtain ⟨a, ha⟩ := List.mem_iff_getElem?.1 hg
    obtain ⟨h1, rfl⟩ := hh a g ha
    simp only
    omega
theorem PI.made3 {l : Int} {i : Nat} {s : R} (h : PI l i s) (n : Int) : PI l i (s.made3 n) := by
  have e := made3_objs s n
  exact ⟨h.all.made3 n, by rw [e.2.2.2.2.2.1]; exact h.dead, by rw [e.2.2.1]; exact h.limit, by rw [e.2.2.2.2.1]; exact h.scopes, by rw [e.2.1]; exact h.handles, by rw [e.1]; exact h.objs⟩
theorem array_make {s : R} (hd : s.dead = false) : s.arrayQ 16 = s.make (mkArray 16) := by unfold R.arrayQ; rw [hd]; rfl
theorem PI.next {l : Int} {i : Nat} {s : R} (h : PI l i s) (hi : i < 32) (hl : 33 * ((i : Int) + 1) ≤ l) : (s.arrayQ 16).1 = (i : Int) ∧ (s.arrayQ 16).2.1 = 0 ∧ PI l (i + 1) (s.arrayQ 16).2.2 := by
  obtain ⟨hf, hp⟩ := h.free hi
  have h3 := h.made3 (oWords (mkArray 16))
  obtain ⟨hf3, hp3⟩ := h3.free hi
  have hu3 := h3.used
  have hobjs : (s.made3 (oWords (mkArray 16))).objs = s.objs := (made3_objs s _).1
  rw [hobjs] at hu3
  have hw : oWords (mkArray 16) = 33 := rfl
  have hnew := h.all.array 16
  have hmk : s.arrayQ 16 = ((s.made3 (oWords (mkArray 16))).push (mkArray 16)).handle s.objs.length s.scopes := by
    rw [array_make h.dead]
    unfold R.make
    rw [hf]
    simp only
    rw [if_neg (by rw [hu3, h.limit, hw]; omega)]
  have hff : ((s.made3 (oWords (mkArray 16))).push (mkArray 16)).free? = some i := hf3
  have hpp : ((s.made3 (oWords (mkArray 16))).push (mkArray 16)).past (i : Int) = 0 := hp3
  have hol : s.objs.length = i := by rw [h.objs]; simp
  have hh : ((s.made3 (oWords (mkArray 16))).push (mkArray 16)).handle s.objs.length s.scopes = ((i : Int), (0 : Int), { ((s.made3 (oWords (mkArray 16))).push (mkArray 16)) with handles := (s.made3 (oWords (mkArray 16))).handles ++ [⟨(i : Int), 0, i, true⟩] }) := by
    unfold R.handle
    rw [hff]
    simp only
    rw [hpp, h.scopes, hol]
    simp [R.push]
  rw [hh] at hmk
  rw [hmk] at hnew ⊢
  refine ⟨rfl, rfl, hnew, h3.dead, h3.limit, h3.scopes, ?_, ?_⟩
  · show (s.made3 (oWords (mkArray 16))).handles ++ [⟨(i : Int), 0, i, true⟩] = _
    rw [h3.handles, List.range_succ, List.map_append]
    rfl
  · show (s.made3 (oWords (mkArray 16))).objs ++ [mkArray 16] = _
    rw [h3.objs, List.replicate_succ']
theorem PI.last {l : Int} {i : Nat} {s : R} (h : PI l i s) (hi : i < 32) (hl : l < 33 * ((i : Int) + 1)) : (s.arrayQ 16).1 = 0 ∧ (s.arrayQ 16).2.1 = 12 ∧ (s.arrayQ 16).2.2.dead = true := by
  obtain ⟨hf, _⟩ := h.free hi
  have h3 := h.made3 (oWords (mkArray 16))
  have hu3 := h3.used
  have hobjs : (s.made3 (oWords (mkArray 16))).objs = s.objs := (made3_objs s _).1
  rw [hobjs] at hu3
  have hw : oWords (mkArray 16) = 33 := rfl
  rw [array_make h.dead]
  unfold R.make
  rw [hf]
  simp only
  rw [if_pos (by rw [hu3, h.limit, hw]; omega)]
  exact ⟨rfl, rfl, rfl⟩
end Go.Proofs.Ytfoncalkgmeklaa

/- Objects that are made one behind the other, each held by the handle of its number (plain). -/
namespace Go.Proofs.Ytfoncalkgmeklaa
open Go.RowKit

structure PH (l : Int) (os : List RObj) (s : R) : Prop where
  all : RAll s
  dead : s.dead = false
  limit : s.limit = l
  scopes : s.scopes = 0
  handles : s.handles = (List.range os.length).map fun (k : Nat) => (⟨(k : Int), 0, k, true⟩ : RHan)
  objs : s.objs = os
theorem PH.han {l : Int} {os : List RObj} {s : R} (h : PH l os s) {j : Nat} (hj : j < os.length) : s.handles[j]? = some ⟨(j : Int), 0, j, true⟩ := by
  rw [h.handles, List.getElem?_map, List.getElem?_range hj]; rfl
theorem PH.hans {l : Int} {os : List RObj} {s : R} (h : PH l os s) {a : Nat} {g : RHan} (hg : s.handles[a]? = some g) : a < os.length ∧ g = ⟨(a : Int), 0, a, true⟩ := by
  rw [h.handles, List.getElem?_map, Option.map_eq_some_iff] at hg
  obtain ⟨k, hk, rfl⟩ := hg
  obtain ⟨hlt, e⟩ := List.getElem?_eq_some_iff.1 hk
  simp at hlt e
  subst e
  exact ⟨hlt, rfl⟩
theorem PH.used {l : Int} {os : List RObj} {s : R} (h : PH l os s) : usedOf s.objs s.row ≤ 66 * (os.length : Int) := by
  have hrow : ∀ x ∈ s.row, x < os.length := fun x hx => by
    have := h.all.ok.inv.rows x hx
    rwa [h.objs] at this
  have h2 := sub_len s.row (List.range os.length) h.all.row.nodup (fun x hx => List.mem_range.2 (hrow x hx))
  rw [List.length_range] at h2
  have key : ∀ {row : List Nat}, (∀ x ∈ row, x < os.length) → usedOf s.objs row ≤ 66 * (row.length : Int) := by
    intro row
    induction row with
    | nil => intro _; simp [usedOf]
    | cons x r ih =>
      intro hl
      have h1 := ih (fun y hy => hl y (List.mem_cons_of_mem _ hy))
      have h3 := (words_bd (h.all.ok.osh (objOf_mem (s := s) (x := x) (by rw [h.objs]; exact hl x List.mem_cons_self))).kind).2
      have e0 : oWords (s.objs.getD x robj0) = oWords (s.objOf x) := rfl
      simp only [usedOf, List.length_cons]
      push_cast
      omega
  have := key hrow
  omega
theorem PH.free {l : Int} {os : List RObj} {s : R} (h : PH l os s) (hi : os.length < 32) : s.free? = some os.length ∧ s.past (os.length : Int) = 0 := by
  have hnone : s.at? (os.length : Int) = none := by
    cases ha : s.at? (os.length : Int) with
    | none => rfl
    | some a =>
      obtain ⟨g, hg, _, hm⟩ := at_some ha
      obtain ⟨h1, rfl⟩ := h.hans hg
      simp only at hm
      omega
  have hsome : ∀ j, j < os.length → s.at? (j : Int) ≠ none := fun j hj => by
    have := at_of_live h.all.num (h.han hj) rfl
    rw [show ((⟨(j : Int), 0, j, true⟩ : RHan).num % 32) = (j : Int) from by simp only; omega] at this
    rw [this]; simp
  constructor
  · unfold R.free?
    rw [List.find?_eq_some_iff_getElem]
    refine ⟨by rw [hnone]; rfl, os.length, by simpa using hi, by simp, fun j hj => ?_⟩
    have := hsome j hj
    simp only [List.getElem_range]
    cases hc : s.at? (j : Int) with
    | none => exact absurd hc this
    | some _ => rfl
  · rw [past_eq]
    refine countP_none fun g hg => ?_
    obtain ⟨a, ha⟩ := List.mem_iff_getElem?.1 hg
    obtain ⟨h1, rfl⟩ := h.hans ha
    simp only
    omega
theorem PH.made3 {l : Int} {os : List RObj} {s : R} (h : PH l os s) (n : Int) : PH l os (s.made3 n) := by
  have e := made3_objs s n
  exact ⟨h.all.made3 n, by rw [e.2.2.2.2.2.1]; exact h.dead, by rw [e.2.2.1]; exact h.limit, by rw [e.2.2.2.2.1]; exact h.scopes, by rw [e.2.1]; exact h.handles, by rw [e.1]; exact h.objs⟩
theorem PH.make {l : Int} {os : List RObj} {s : R} {o : RObj} (h : PH l os s) (hi : os.length < 32) (ho : OSh s.objs.length o) (hv : ∀ v ∈ o.vals, v.1 = 2 → v.2.toNat ∈ (s.made3 (oWords o)).row) (hl : 66 * (os.length : Int) + oWords o ≤ l) : (s.make o).1 = (os.length : Int) ∧ (s.make o).2.1 = 0 ∧ PH l (os ++ [o]) (s.make o).2.2 := by
  have hnew := h.all.make ho hv
  obtain ⟨hf, _⟩ := h.free hi
  have h3 := h.made3 (oWords o)
  obtain ⟨hf3, hp3⟩ := h3.free hi
  have hu3 := h3.used
  have hobjs : (s.made3 (oWords o)).objs = s.objs := (made3_objs s _).1
  rw [hobjs] at hu3
  have hmk : s.make o = ((s.made3 (oWords o)).push o).handle s.objs.length s.scopes := by
    unfold R.make
    rw [hf]
    simp only
    rw [if_neg (by rw [h.limit]; omega)]
  have hff : ((s.made3 (oWords o)).push o).free? = some os.length := hf3
  have hpp : ((s.made3 (oWords o)).push o).past (os.length : Int) = 0 := hp3
  have hh : ((s.made3 (oWords o)).push o).handle s.objs.length s.scopes = ((os.length : Int), (0 : Int), { ((s.made3 (oWords o)).push o) with handles := (s.made3 (oWords o)).handles ++ [⟨(os.length : Int), 0, os.length, true⟩] }) := by
    unfold R.handle
    rw [hff]
    simp only
    rw [hpp, h.scopes, h.objs]
    simp [R.push]
  rw [hh] at hmk
  rw [hmk] at hnew ⊢
  refine ⟨rfl, rfl, hnew, h3.dead, h3.limit, h3.scopes, ?_, ?_⟩
  · show (s.made3 (oWords o)).handles ++ [⟨(os.length : Int), 0, os.length, true⟩] = _
    rw [h3.handles, List.length_append, List.length_singleton, List.range_succ, List.map_append]
    rfl
  · show (s.made3 (oWords o)).objs ++ [o] = _
    rw [h3.objs]
theorem PH.look {l : Int} {os : List RObj} {s : R} (h : PH l os s) (_ : os.length ≤ 32) {j : Nat} (hj : j < os.length) : s.find? (j : Int) = some j ∧ s.look1 (j : Int) = (j, 0) := by
  have hl := RNum.live h.all.num (h.han hj) rfl
  have ha := at_of_live h.all.num (h.han hj) rfl
  simp only at hl ha
  have hf : s.find? (j : Int) = some j := by
    rw [find_slot h.all.ok.inv h.all.num, if_pos ⟨by omega, hl⟩, ha]
  refine ⟨hf, ?_⟩
  unfold R.look1 R.look
  rw [h.dead, hf]
  simp [R.badValue, R.stale]
  rw [h.han hj]
  rfl
theorem PH.bytes {l : Int} {os : List RObj} {s : R} {t : ByteArray} (h : PH l os s) (hi : os.length < 32) (ht : t.size ≤ 64) (hl : 66 * (os.length : Int) + 66 ≤ l) : (s.bytesQ t).1 = (os.length : Int) ∧ (s.bytesQ t).2.1 = 0 ∧ PH l (os ++ [mkBytes t]) (s.bytesQ t).2.2 := by
  have e : s.bytesQ t = s.make (mkBytes t) := by unfold R.bytesQ; rw [h.dead]; simp; omega
  have hw := words_bd (osh_bytes (n := 0) (t := t) (by omega)).kind
  rw [e]
  exact h.make hi (osh_bytes (by omega)) (fun v hv => by simp [mkBytes] at hv) (by omega)
theorem PH.text {l : Int} {os : List RObj} {s : R} {t : ByteArray} (h : PH l os s) (hi : os.length ≤ 32) {j : Nat} (hj : os[j]? = some (mkBytes t)) : s.textQ (j : Int) = (t, 0) := by
  have hlt := (List.getElem?_eq_some_iff.1 hj).1
  have ho : s.objOf j = mkBytes t := by unfold R.objOf; rw [h.objs]; simp [List.getD, hj]
  unfold R.textQ
  rw [(h.look hi hlt).2]
  simp [ho, mkBytes]
theorem PH.len {l : Int} {os : List RObj} {s : R} {t : ByteArray} (h : PH l os s) (hi : os.length ≤ 32) {j : Nat} (hj : os[j]? = some (mkBytes t)) : s.lenQ (j : Int) = ((t.size : Int), (0 : Int)) := by
  have hlt := (List.getElem?_eq_some_iff.1 hj).1
  have ho : s.objOf j = mkBytes t := by unfold R.objOf; rw [h.objs]; simp [List.getD, hj]
  unfold R.lenQ
  rw [(h.look hi hlt).2]
  simp [ho, mkBytes]
theorem PH.two {l : Int} {os : List RObj} {s : R} (h : PH l os s) (hi : os.length ≤ 32) {j k : Nat} (hj : j < os.length) (hk : k < os.length) : s.two (j : Int) (k : Int) = (j, k, 0) := by
  have f1 := (h.look hi hj).1
  have f2 := (h.look hi hk)
  unfold R.two
  rw [f2.2]
  unfold R.look
  rw [h.dead, f1]
  simp [R.badValue, R.stale, f2.1]
  rw [h.han hj]
  rfl
theorem PH.copy {l : Int} {os : List RObj} {s : R} {t : ByteArray} (h : PH l os s) (hi : os.length < 32) {j : Nat} (hj : os[j]? = some (mkBytes t)) (ht : t.size ≤ 64) (hl : 66 * (os.length : Int) + 66 ≤ l) : (s.copyQ (j : Int)).1 = (os.length : Int) ∧ (s.copyQ (j : Int)).2.1 = 0 ∧ PH l (os ++ [mkBytes t]) (s.copyQ (j : Int)).2.2 := by
  have hlt := (List.getElem?_eq_some_iff.1 hj).1
  have ho : s.objOf j = mkBytes t := by unfold R.objOf; rw [h.objs]; simp [List.getD, hj]
  have e : s.copyQ (j : Int) = s.make (mkBytes t) := by
    unfold R.copyQ
    rw [(h.look (by omega) hlt).2]
    simp [ho]
  have hw := words_bd (osh_bytes (n := 0) (t := t) (by omega)).kind
  rw [e]
  exact h.make hi (osh_bytes (by omega)) (fun v hv => by simp [mkBytes] at hv) (by omega)
theorem PH.join {l : Int} {os : List RObj} {s : R} {t u : ByteArray} (h : PH l os s) (hi : os.length ≤ 32) {j k : Nat} (hj : os[j]? = some (mkBytes t)) (hk : os[k]? = some (mkBytes u)) : s.joinQ (j : Int) (k : Int) = if 64 < (t ++ u).size then (0, 6, s) else s.bytesQ (t ++ u) := by
  have h1 := (List.getElem?_eq_some_iff.1 hj).1
  have h2 := (List.getElem?_eq_some_iff.1 hk).1
  have o1 : s.objOf j = mkBytes t := by unfold R.objOf; rw [h.objs]; simp [List.getD, hj]
  have o2 : s.objOf k = mkBytes u := by unfold R.objOf; rw [h.objs]; simp [List.getD, hk]
  unfold R.joinQ
  rw [h.two hi h1 h2]
  simp only [if_true, o1, o2]
  rw [if_pos (by simp [mkBytes])]
  show (if 64 < (t ++ u).size then _ else _) = _
  split
  · rfl
  · rename_i hn
    unfold R.bytesQ
    rw [h.dead, if_neg (by simp), if_neg hn]
    rfl
theorem PH.same {l : Int} {os : List RObj} {s : R} (h : PH l os s) (hi : os.length ≤ 32) {j k : Nat} (hj : j < os.length) (hk : k < os.length) (hne : j ≠ k) : s.sameQ (j : Int) (k : Int) = (false, 0) := by
  unfold R.sameQ
  rw [h.two hi hj hk]
  simp [hne]
end Go.Proofs.Ytfoncalkgmeklaa
