/- What can be reached, by the words; how much a call asks for (plain). -/
import Derived.Test.YtfoncalkgmeklaaCXwKRoom
import Derived.Test.YtfoncalkgmeklaaXwM44
import Derived.Test.YtfoncalkgmeklaaXwM47
namespace Go.Proofs.Ytfoncalkgmeklaa
open Go.RowKit

theorem refsTo_mem {l : List Int} {b : Nat} : ∀ {n j : Nat}, j < n → headQ l ((b + 2 * j : Nat) : Int) = 2 → headQ l ((b + 2 * j + 1 : Nat) : Int) ∈ refsTo l b n
  | 0, j, h, _ => by omega
  | n + 1, j, h, h2 => by
    simp only [refsTo, List.mem_append]
    rcases Nat.lt_or_ge j n with h1 | h1
    · exact .inl (refsTo_mem h1 h2)
    · obtain rfl : j = n := by omega
      right
      rw [if_pos h2]
      simp
/-- What an object of the row refers to, by its words. -/
theorem refs_iff {s : R} (h : RAll s) {i : Nat} (hm : i ∈ s.row) (x : Int) : x ∈ refsQ s.words (placeOf s.objs i s.row) ↔ ∃ v ∈ (s.objOf i).vals, v.1 = 2 ∧ x = placeOf s.objs v.2.toNat s.row := by
  have ho := h.ok.osh (objOf_mem (h.ok.inv.rows i hm))
  obtain ⟨k1, k2, k3, k4, k5⟩ := ho.kind
  have hmem : ∀ j, j < (s.objOf i).vals.length → (s.objOf i).vals.getD j (0, 0) ∈ (s.objOf i).vals := fun j hj => by simp [List.getD, List.getElem?_eq_getElem hj]
  have out : ∀ {v : Int × Int}, v.1 = 2 → s.outW v = placeOf s.objs v.2.toNat s.row := fun {v} h2 => by simp only [R.outW, h2, if_true]
  have idx : ∀ {v : Int × Int}, v ∈ (s.objOf i).vals → ∃ j, j < (s.objOf i).vals.length ∧ (s.objOf i).vals.getD j (0, 0) = v := fun {v} hv => by
    obtain ⟨j, hj⟩ := List.mem_iff_getElem?.1 hv
    exact ⟨j, (List.getElem?_eq_some_iff.1 hj).1, by simp [List.getD, hj]⟩
  unfold refsQ
  rw [sized_obj h hm]
  simp only [Bool.true_eq_false, false_or]
  by_cases hk2 : (s.objOf i).kind = 2
  · rw [if_pos hk2]
    constructor
    · intro hx; simp at hx
    · rintro ⟨v, hv, _⟩
      have := (ho.txt hk2).2
      rw [this] at hv
      simp at hv
  rw [if_neg hk2]
  by_cases hk3 : (s.objOf i).kind = 3
  · rw [if_pos hk3]
    have hw : oWords (s.objOf i) = 2 + 4 * (s.objOf i).size := by simp [oWords, wordsOf, hk3]
    have htab := ho.tab hk3
    constructor
    · intro hx
      obtain ⟨j, hj, e1, e2⟩ := mem_refsTo hx
      by_cases hjv : j < (s.objOf i).vals.length
      · obtain ⟨g1, g2⟩ := word_vals h hm (d := 2) (by simp [headWords, hk3]) hjv (by omega)
        rw [g1] at e1
        exact ⟨_, hmem j hjv, e1, by rw [e2, g2, out e1]⟩
      · have := word_nought h hm hk3 (r := 2 * j) (by omega) (by omega)
        rw [this] at e1
        omega
    · rintro ⟨v, hv, h2, rfl⟩
      obtain ⟨j, hj, ej⟩ := idx hv
      have h1 := htab.2.1
      obtain ⟨g1, g2⟩ := word_vals h hm (d := 2) (by simp [headWords, hk3]) hj (by omega)
      rw [ej] at g1 g2
      rw [← out h2, ← g2]
      exact refsTo_mem (by omega) (by rw [g1]; exact h2)
  · rw [if_neg hk3]
    have hk1 : (s.objOf i).kind = 1 := by omega
    have hw : oWords (s.objOf i) = 1 + 2 * (s.objOf i).size := by simp [oWords, wordsOf, hk1]
    have hvl := ho.arr hk1
    constructor
    · intro hx
      obtain ⟨j, hj, e1, e2⟩ := mem_refsTo hx
      obtain ⟨g1, g2⟩ := word_vals h hm (d := 1) (by simp [headWords, hk1]) (j := j) (by omega) (by omega)
      rw [g1] at e1
      exact ⟨_, hmem j (by omega), e1, by rw [e2, g2, out e1]⟩
    · rintro ⟨v, hv, h2, rfl⟩
      obtain ⟨j, hj, ej⟩ := idx hv
      obtain ⟨g1, g2⟩ := word_vals h hm (d := 1) (by simp [headWords, hk1]) (j := j) hj (by omega)
      rw [ej] at g1 g2
      rw [← out h2, ← g2]
      exact refsTo_mem (by omega) (by rw [g1]; exact h2)
/-- A handle's place, where it is live, is that of what it has. -/
theorem place_live {s : R} (h : RAll s) (hd : s.dead = false) {g : RHan} (hg : g ∈ s.handles) (hl : g.live = true) : s.placeQ g.num = (placeOf s.objs g.obj s.row, 0) := by
  obtain ⟨i, hi⟩ := List.mem_iff_getElem?.1 hg
  have hr := RNum.live h.num hi hl
  have hf : s.find? g.num = some i := by rw [find_slot h.ok.inv h.num, if_pos ⟨(h.ok.inv.nums g hg).1, hr⟩, at_of_live h.num hi hl]
  have hk : s.look1 g.num = (g.obj, 0) := by
    rw [look1_eq, hd, hf]
    simp [List.getD, hi]
  unfold R.placeQ
  rw [hk]
  simp
theorem place_reach {s : R} (h : RAll s) {x : Int} (he : (s.placeQ x).2 = 0) : ∃ t ∈ s.reach, (s.placeQ x).1 = placeOf s.objs t s.row := by
  unfold R.placeQ at he ⊢
  by_cases hl : (s.look1 x).2 = 0
  · rw [if_pos hl]
    refine ⟨(s.look1 x).1, ?_, rfl⟩
    rw [look1_eq] at hl ⊢
    cases hd : s.dead
    · rw [hd] at hl
      cases hf : s.find? x with
      | none => rw [hf] at hl; simp at hl
      | some a =>
        obtain ⟨g, hg, hlv, _⟩ := find_some hf
        have : s.handles.getD a rhan0 = g := by simp [List.getD, hg]
        simp only [Bool.false_eq_true, if_false, this]
        exact h.reach.row.live g (List.mem_of_getElem? hg) hlv
    · rw [hd] at hl; simp at hl
  · rw [if_neg hl] at he; exact absurd he hl
theorem reach_row {s : R} (h : RAll s) : ∀ x ∈ s.reach, x ∈ s.row := reach_sub h.row _
/-- Which places are those of some objects. -/
def seenAt (s : R) (V : List Nat) (q : Nat) : Bool := V.any fun i => placeOf s.objs i s.row == (q : Int)
def seenTo (s : R) (V : List Nat) (n : Nat) : List Value := (List.range n).map fun q => .bool (seenAt s V q)
theorem seenTo_nil (s : R) (n : Nat) : seenTo s [] n = reps n (.bool false) := by
  simp [seenTo, seenAt, reps, List.map_const']
theorem seenTo_at {s : R} {V : List Nat} {n q : Nat} (h : q < n) : (seenTo s V n)[q]? = some (.bool (seenAt s V q)) := by simp [seenTo, h]
theorem seenTo_len (s : R) (V : List Nat) (n : Nat) : (seenTo s V n).length = n := by simp [seenTo]
theorem seenTo_set {s : R} {V : List Nat} {n i p : Nat} (hp : placeOf s.objs i s.row = (p : Int)) : (seenTo s V n).set p (.bool true) = seenTo s (V ++ [i]) n := by
  apply List.ext_getElem?
  intro q
  have e : seenAt s (V ++ [i]) q = (seenAt s V q || decide ((p : Int) = (q : Int))) := by
    simp only [seenAt, List.any_append, List.any_cons, List.any_nil, Bool.or_false, hp]
    rfl
  rw [List.getElem?_set]
  by_cases hq : q < n
  · rw [seenTo_at hq, seenTo_at hq, seenTo_len, e]
    by_cases hpq : p = q
    · subst hpq
      simp [hq]
    · have : ¬ (p : Int) = (q : Int) := by omega
      rw [if_neg hpq, decide_eq_false this, Bool.or_false]
  · have h1 : (seenTo s V n)[q]? = none := List.getElem?_eq_none (by rw [seenTo_len]; omega)
    have h2 : (seenTo s (V ++ [i]) n)[q]? = none := List.getElem?_eq_none (by rw [seenTo_len]; omega)
    rw [h1, h2]
    split
    · rw [seenTo_len]; split
      · omega
      · rfl
    · rfl
theorem seen_mem {s : R} {V : List Nat} {q : Nat} : seenAt s V q = true ↔ ∃ i ∈ V, placeOf s.objs i s.row = (q : Int) := by
  simp [seenAt, List.any_eq_true]
/-- The walk over what is to do: the objects seen, the places met, how many of those are done. -/
structure Seen (s : R) (V : List Nat) (T : List Int) (i : Nat) : Prop where
  nodup : V.Nodup
  sub : ∀ x ∈ V, x ∈ s.reach
  todo : ∀ t ∈ T, ∃ x ∈ s.reach, t = placeOf s.objs x s.row
  done : ∀ (j : Nat) (t : Int), j < i → T[j]? = some t → ∃ x ∈ V, t = placeOf s.objs x s.row
  refs : ∀ x ∈ V, ∀ v ∈ (s.objOf x).vals, v.1 = 2 → placeOf s.objs v.2.toNat s.row ∈ T
  live : ∀ g ∈ s.handles, g.live = true → placeOf s.objs g.obj s.row ∈ T
  le : i ≤ T.length
theorem Seen.skip {s : R} (_ : RAll s) {V : List Nat} {T : List Int} {i : Nat} (hs : Seen s V T i) {t : Int} (ht : T[i]? = some t) {x : Nat} (hx : x ∈ V) (hp : t = placeOf s.objs x s.row) : Seen s V T (i + 1) :=
  ⟨hs.nodup, hs.sub, hs.todo, fun j u hj hu => by
    rcases Nat.lt_or_ge j i with h1 | h1
    · exact hs.done j u h1 hu
    · obtain rfl : j = i := by omega
      rw [ht] at hu
      cases hu
      exact ⟨x, hx, hp⟩, hs.refs, hs.live, (List.getElem?_eq_some_iff.1 ht).1⟩
theorem Seen.more {s : R} (h : RAll s) {V : List Nat} {T : List Int} {i : Nat} (hs : Seen s V T i) {t : Int} (ht : T[i]? = some t) {x : Nat} (hr : x ∈ s.reach) (hx : x ∉ V) (hp : t = placeOf s.objs x s.row) : Seen s (V ++ [x]) (T ++ refsQ s.words t) (i + 1) := by
  have hrow := reach_row h x hr
  have hlt := (List.getElem?_eq_some_iff.1 ht).1
  refine ⟨?_, ?_, ?_, ?_, ?_, ?_, by simp; omega⟩
  · rw [List.nodup_append]
    exact ⟨hs.nodup, by simp, fun a ha b hb => by simp at hb; subst hb; intro e; subst e; exact hx ha⟩
  · intro y hy
    rcases List.mem_append.1 hy with h1 | h1
    · exact hs.sub y h1
    · simp at h1; subst h1; exact hr
  · intro u hu
    rcases List.mem_append.1 hu with h1 | h1
    · exact hs.todo u h1
    · rw [hp] at h1
      obtain ⟨v, hv, h2, e⟩ := (refs_iff h hrow u).1 h1
      exact ⟨_, h.reach.row.closed x hr v hv h2, e⟩
  · intro j u hj hu
    rcases Nat.lt_or_ge j i with h1 | h1
    · rw [List.getElem?_append_left (by omega)] at hu
      obtain ⟨y, hy, e⟩ := hs.done j u h1 hu
      exact ⟨y, List.mem_append_left _ hy, e⟩
    · obtain rfl : j = i := by omega
      rw [List.getElem?_append_left hlt, ht] at hu
      cases hu
      exact ⟨x, by simp, hp⟩
  · intro y hy v hv h2
    rcases List.mem_append.1 hy with h1 | h1
    · exact List.mem_append_left _ (hs.refs y h1 v hv h2)
    · simp at h1
      subst h1
      apply List.mem_append_right
      rw [hp]
      exact (refs_iff h hrow _).2 ⟨v, hv, h2, rfl⟩
  · exact fun g hg hl => List.mem_append_left _ (hs.live g hg hl)
/-- At the end of the walk all that can be reached is seen, once. -/
theorem Seen.all {s : R} (h : RAll s) {V : List Nat} {T : List Int} (hs : Seen s V T T.length) : usedOf s.objs V = usedOf s.objs s.reach := by
  have hin : ∀ {t : Int}, t ∈ T → ∃ x ∈ V, t = placeOf s.objs x s.row := fun {t} ht => by
    obtain ⟨j, hj⟩ := List.mem_iff_getElem?.1 ht
    exact hs.done j t (List.getElem?_eq_some_iff.1 hj).1 hj
  have get : ∀ {y : Nat}, y ∈ s.row → placeOf s.objs y s.row ∈ T → y ∈ V := fun {y} hy ht => by
    obtain ⟨x, hx, e⟩ := hin ht
    have := place_inj h hy (reach_row h x (hs.sub x hx)) h.ok.inv.rows e
    rw [this]
    exact hx
  have hsub : ∀ x ∈ s.reach, x ∈ V := reach_in (fun g hg hl => get (h.row.live g hg hl) (hs.live g hg hl)) (fun i hi v hv h2 => get (h.row.closed i (reach_row h i (hs.sub i hi)) v hv h2) (hs.refs i hi v hv h2))
  have a := used_sub (words0 h.ok.inv) V s.reach hs.nodup hs.sub
  have b := used_sub (words0 h.ok.inv) s.reach V (Good.reach h.ok.inv).nodup hsub
  omega
theorem Seen.used {s : R} (h : RAll s) {V : List Nat} {T : List Int} {i : Nat} (hs : Seen s V T i) : (V.length : Int) ≤ usedOf s.objs V ∧ usedOf s.objs V ≤ 512 := by
  have key : ∀ {l : List Nat}, (∀ x ∈ l, x < s.objs.length) → (l.length : Int) ≤ usedOf s.objs l := by
    intro l
    induction l with
    | nil => intro _; simp [usedOf]
    | cons x r ih =>
      intro hl
      have h1 := ih (fun y hy => hl y (List.mem_cons_of_mem _ hy))
      have h3 := (words_bd (h.ok.osh (objOf_mem (s := s) (x := x) (hl x List.mem_cons_self))).kind).1
      have e0 : oWords (s.objs.getD x robj0) = oWords (s.objOf x) := rfl
      simp only [usedOf, List.length_cons]
      push_cast
      omega
  have a := used_sub (words0 h.ok.inv) V s.reach hs.nodup hs.sub
  have b := reach_used h.ok.inv h.row
  have c := h.row.fits
  have d := h.ok.inv.limit
  exact ⟨key (fun x hx => h.ok.inv.rows x (reach_row h x (hs.sub x hx))), by omega⟩
/-- Where a call that makes is refused for want of room, and where not. -/
theorem make_refused {s : R} (h : RAll s) (ob : RObj) : ((s.make ob).2.1 = 12 → usedOf s.objs s.reach + oWords ob > s.limit) ∧ ((s.make ob).2.1 = 0 → ¬ usedOf s.objs s.reach + oWords ob > s.limit) := by
  have hr := room_iff h (oWords ob)
  cases hf : s.free? with
  | none =>
    have e : s.make ob = (0, 11, s) := by unfold R.make; rw [hf]
    rw [e]
    exact ⟨by simp, by simp⟩
  | some k =>
    have e : s.make ob = if usedOf s.objs (s.made3 (oWords ob)).row + oWords ob > s.limit then ((0 : Int), (12 : Int), { s.made3 (oWords ob) with dead := true }) else ((s.made3 (oWords ob)).push ob).handle s.objs.length s.scopes := by
      unfold R.make
      rw [hf]
    by_cases hc : usedOf s.objs (s.made3 (oWords ob)).row + oWords ob > s.limit
    · rw [e, if_pos hc]
      exact ⟨fun _ => hr.1 hc, by simp⟩
    · rw [e, if_neg hc]
      refine ⟨fun h12 => ?_, fun _ h2 => hc (hr.2 h2)⟩
      rcases handle_book ((s.made3 (oWords ob)).push ob) s.objs.length s.scopes with ⟨h0, _⟩ | ⟨h0, _⟩
      · rw [h0] at h12; omega
      · rw [h0] at h12; omega
/-- How many words a call asks for. -/
def needQ (s : R) (o : LOp) : Int :=
  if o.kind = 1 then (if 0 ≤ o.x ∧ o.x ≤ 16 then countQ 1 o.x else -1)
  else if o.kind = 3 then (if 0 ≤ o.x ∧ o.x ≤ 8 then countQ 3 o.x else -1)
  else if o.kind = 2 then (if o.s.size ≤ 64 then countQ 2 o.s.size else -1)
  else if o.kind = 22 then (if (s.textQ o.x).2 = 0 ∧ (s.textQ o.y).2 = 0 ∧ (s.textQ o.x).1.size + (s.textQ o.y).1.size ≤ 64 then countQ 2 (((s.textQ o.x).1.size + (s.textQ o.y).1.size : Nat) : Int) else -1)
  else if o.kind = 23 then (if (s.placeQ o.x).2 = 0 then (sizedQ s.words (s.placeQ o.x).1).2.2.1 else -1)
  else -1
theorem other_e {s : R} (hd : s.dead = false) (o : LOp) (hk : o.kind ≠ 1 ∧ o.kind ≠ 2 ∧ o.kind ≠ 3 ∧ o.kind ≠ 22 ∧ o.kind ≠ 23) : (s.askQ o).e ≠ 12 := by
  intro h
  by_cases hkn : ¬ (1 ≤ o.kind ∧ o.kind ≤ 23)
  · rw [(step_unknown s hkn).2] at h
    simp at h
  have hm := mem_dead o h
  obtain ⟨kind, x, y, k, v, t⟩ := o
  simp only at hk hkn
  have hc : kind = 4 ∨ kind = 5 ∨ kind = 6 ∨ kind = 7 ∨ kind = 8 ∨ kind = 9 ∨ kind = 10 ∨ kind = 11 ∨ kind = 12 ∨ kind = 13 ∨ kind = 14 ∨ kind = 15 ∨ kind = 16 ∨ kind = 17 ∨ kind = 18 ∨ kind = 19 ∨ kind = 20 ∨ kind = 21 := by omega
  have fin : ∀ {s' : R}, s'.dead = true → s'.dead = false → False := fun h1 h2 => by rw [h1] at h2; cases h2
  rcases hc with rfl | rfl | rfl | rfl | rfl | rfl | rfl | rfl | rfl | rfl | rfl | rfl | rfl | rfl | rfl | rfl | rfl | rfl
  · exact fin hm hd
  · exact fin hm hd
  · exact fin hm hd
  · exact fin hm hd
  · exact fin hm hd
  · exact fin hm (dead_get (x := x) (i := y) hd)
  · exact fin hm (dead_set (x := x) (i := y) (v := v) hd)
  · exact fin hm hd
  · exact fin hm (dead_find (x := x) (k := k) hd)
  · exact fin hm (dead_put (x := x) (k := k) (v := v) hd)
  · exact fin hm (dead_cut (x := x) (k := k) hd)
  · exact fin hm (dead_key (x := x) (i := y) hd)
  · exact fin hm (dead_opens hd)
  · exact fin hm (dead_close (n := x) hd)
  · exact fin hm (dead_escape (x := x) hd)
  · exact fin hm (dead_keep (x := x) hd)
  · exact fin hm (dead_release (x := x) hd)
  · exact fin hm (dead_collect hd)
theorem two_texts {s : R} (hd : s.dead = false) (x y : Int) : ((s.two x y).2.2 = 0 ↔ (s.look1 x).2 = 0 ∧ (s.look1 y).2 = 0) ∧ ((s.two x y).2.2 = 0 → (s.two x y).1 = (s.look1 x).1 ∧ (s.two x y).2.1 = (s.look1 y).1) := by
  have hl : s.look x (0, 0) (2, y) false = (match s.find? x with | none => (0, 4) | some a => if (s.find? y).isNone then (0, 4) else ((s.handles.getD a rhan0).obj, 0)) := by
    unfold R.look
    rw [if_neg (by rw [hd]; simp), if_neg (by simp [R.badValue])]
    cases s.find? x with
    | none => rfl
    | some a => simp [R.stale]
  unfold R.two
  rw [hl, look1_eq, look1_eq, hd]
  cases hx : s.find? x with
  | none => simp
  | some a =>
    cases hy : s.find? y with
    | none => simp
    | some b => simp
theorem need_spec {s : R} (h : RAll s) (hd : s.dead = false) (o : LOp) : (needQ s o = -1 ∧ (s.askQ o).e ≠ 12) ∨ ∃ ob : RObj, needQ s o = oWords ob ∧ 0 ≤ oWords ob ∧ oWords ob ≤ 66 ∧ (s.askQ o).e = (s.make ob).2.1 := by
  obtain ⟨kind, x, y, k, v, t⟩ := o
  by_cases k1 : kind = 1
  · subst k1
    have ea : (s.askQ ⟨1, x, y, k, v, t⟩).e = (s.arrayQ x).2.1 := rfl
    have en : needQ s ⟨1, x, y, k, v, t⟩ = if 0 ≤ x ∧ x ≤ 16 then countQ 1 x else -1 := rfl
    rw [ea, en]
    by_cases hx : 0 ≤ x ∧ x ≤ 16
    · have e : s.arrayQ x = s.make (mkArray x) := by unfold R.arrayQ; rw [if_neg (by rw [hd]; simp), if_neg (by omega)]
      have ow : oWords (mkArray x) = 1 + 2 * x := rfl
      exact .inr ⟨mkArray x, by rw [if_pos hx, count_words]; rfl, by omega, by omega, by rw [e]⟩
    · have e : s.arrayQ x = (0, 6, s) := by unfold R.arrayQ; rw [if_neg (by rw [hd]; simp), if_pos (by omega)]
      exact .inl ⟨by rw [if_neg hx], by rw [e]; simp⟩
  by_cases k2 : kind = 2
  · subst k2
    have ea : (s.askQ ⟨2, x, y, k, v, t⟩).e = (s.bytesQ t).2.1 := rfl
    have en : needQ s ⟨2, x, y, k, v, t⟩ = if t.size ≤ 64 then countQ 2 t.size else -1 := rfl
    rw [ea, en]
    by_cases hx : t.size ≤ 64
    · have e : s.bytesQ t = s.make (mkBytes t) := by unfold R.bytesQ; rw [if_neg (by rw [hd]; simp), if_neg (by omega)]
      have ow := words_bd (osh_bytes (n := 0) (t := t) (by omega)).kind
      exact .inr ⟨mkBytes t, by rw [if_pos hx, count_words]; rfl, by omega, by omega, by rw [e]⟩
    · have e : s.bytesQ t = (0, 6, s) := by unfold R.bytesQ; rw [if_neg (by rw [hd]; simp), if_pos (by omega)]
      exact .inl ⟨by rw [if_neg hx], by rw [e]; simp⟩
  by_cases k3 : kind = 3
  · subst k3
    have ea : (s.askQ ⟨3, x, y, k, v, t⟩).e = (s.tableQ x).2.1 := rfl
    have en : needQ s ⟨3, x, y, k, v, t⟩ = if 0 ≤ x ∧ x ≤ 8 then countQ 3 x else -1 := rfl
    rw [ea, en]
    by_cases hx : 0 ≤ x ∧ x ≤ 8
    · have e : s.tableQ x = s.make (mkTable x) := by unfold R.tableQ; rw [if_neg (by rw [hd]; simp), if_neg (by omega)]
      have ow : oWords (mkTable x) = 2 + 4 * x := rfl
      exact .inr ⟨mkTable x, by rw [if_pos hx, count_words]; rfl, by omega, by omega, by rw [e]⟩
    · have e : s.tableQ x = (0, 6, s) := by unfold R.tableQ; rw [if_neg (by rw [hd]; simp), if_pos (by omega)]
      exact .inl ⟨by rw [if_neg hx], by rw [e]; simp⟩
  by_cases k22 : kind = 22
  · subst k22
    have ea : (s.askQ ⟨22, x, y, k, v, t⟩).e = (s.joinQ x y).2.1 := rfl
    have en : needQ s ⟨22, x, y, k, v, t⟩ = if (s.textQ x).2 = 0 ∧ (s.textQ y).2 = 0 ∧ (s.textQ x).1.size + (s.textQ y).1.size ≤ 64 then countQ 2 (((s.textQ x).1.size + (s.textQ y).1.size : Nat) : Int) else -1 := rfl
    rw [ea, en]
    obtain ⟨t1, t2⟩ := two_texts hd x y
    have l1 := look1_e s x
    have l2 := two_e s x y
    by_cases h0 : (s.two x y).2.2 = 0
    · obtain ⟨x0, y0⟩ := t1.1 h0
      obtain ⟨e1, e2⟩ := t2 h0
      have tx : s.textQ x = if (s.objOf (s.look1 x).1).kind = 2 then ((s.objOf (s.look1 x).1).text, 0) else (⟨#[]⟩, 5) := by unfold R.textQ; rw [if_pos x0]
      have ty : s.textQ y = if (s.objOf (s.look1 y).1).kind = 2 then ((s.objOf (s.look1 y).1).text, 0) else (⟨#[]⟩, 5) := by unfold R.textQ; rw [if_pos y0]
      have ej : s.joinQ x y = if (s.objOf (s.look1 x).1).kind = 2 ∧ (s.objOf (s.look1 y).1).kind = 2 then (if 64 < ((s.objOf (s.look1 x).1).text ++ (s.objOf (s.look1 y).1).text).size then (0, 6, s) else s.make (mkBytes ((s.objOf (s.look1 x).1).text ++ (s.objOf (s.look1 y).1).text))) else (0, 5, s) := by
        unfold R.joinQ; rw [if_pos h0, e1, e2]
      by_cases kx : (s.objOf (s.look1 x).1).kind = 2
      · rw [if_pos kx] at tx
        by_cases ky : (s.objOf (s.look1 y).1).kind = 2
        · rw [if_pos ky] at ty
          rw [if_pos ⟨kx, ky⟩] at ej
          rw [tx, ty, ej]
          simp only [true_and]
          have hsz : ((s.objOf (s.look1 x).1).text ++ (s.objOf (s.look1 y).1).text).size = (s.objOf (s.look1 x).1).text.size + (s.objOf (s.look1 y).1).text.size := ByteArray.size_append
          generalize (s.objOf (s.look1 x).1).text = ta at *
          generalize (s.objOf (s.look1 y).1).text = tb at *
          by_cases hb : ta.size + tb.size ≤ 64
          · right
            have ow := words_bd (osh_bytes (n := 0) (t := ta ++ tb) (by omega)).kind
            refine ⟨mkBytes (ta ++ tb), ?_, by omega, by omega, by rw [if_neg (by omega)]⟩
            rw [if_pos hb, count_words, ← hsz]
            rfl
          · exact .inl ⟨by rw [if_neg hb], by rw [if_pos (by omega)]; simp⟩
        · rw [if_neg ky] at ty
          rw [if_neg (fun hh => ky hh.2)] at ej
          rw [tx, ty, ej]
          exact .inl ⟨by rw [if_neg (by simp)], by simp⟩
      · rw [if_neg kx] at tx
        rw [if_neg (fun hh => kx hh.1)] at ej
        rw [tx, ej]
        exact .inl ⟨by rw [if_neg (by simp)], by simp⟩
    · have ej : s.joinQ x y = (0, (s.two x y).2.2, s) := by unfold R.joinQ; rw [if_neg h0]
      refine .inl ⟨?_, by rw [ej]; simp only; omega⟩
      rw [if_neg]
      rintro ⟨q1, q2, _⟩
      refine h0 (t1.2 ⟨?_, ?_⟩)
      · unfold R.textQ at q1
        by_cases hh : (s.look1 x).2 = 0
        · exact hh
        · rw [if_neg hh] at q1; exact q1
      · unfold R.textQ at q2
        by_cases hh : (s.look1 y).2 = 0
        · exact hh
        · rw [if_neg hh] at q2; exact q2
  by_cases k23 : kind = 23
  · subst k23
    have ea : (s.askQ ⟨23, x, y, k, v, t⟩).e = (s.copyQ x).2.1 := rfl
    have en : needQ s ⟨23, x, y, k, v, t⟩ = if (s.placeQ x).2 = 0 then (sizedQ s.words (s.placeQ x).1).2.2.1 else -1 := rfl
    rw [ea, en]
    have l1 := look1_e s x
    by_cases h0 : (s.look1 x).2 = 0
    · have ep : s.placeQ x = (placeOf s.objs (s.look1 x).1 s.row, 0) := by unfold R.placeQ; rw [if_pos h0]
      have hm : (s.look1 x).1 ∈ s.row := by
        have h0' := h0
        rw [look1_eq, hd] at h0' ⊢
        cases hf : s.find? x with
        | none => rw [hf] at h0'; simp at h0'
        | some a =>
          obtain ⟨g, hg, hlv, _⟩ := find_some hf
          have : s.handles.getD a rhan0 = g := by simp [List.getD, hg]
          simp only [Bool.false_eq_true, if_false, this]
          exact h.row.live g (List.mem_of_getElem? hg) hlv
      have ec : s.copyQ x = s.make (s.objOf (s.look1 x).1) := by unfold R.copyQ; rw [if_pos h0]
      have ow := words_bd (h.ok.osh (objOf_mem (h.ok.inv.rows _ hm))).kind
      refine .inr ⟨s.objOf (s.look1 x).1, ?_, by omega, by omega, by rw [ec]⟩
      rw [ep, if_pos rfl, sized_obj h hm]
    · have ep : s.placeQ x = (0, (s.look1 x).2) := by unfold R.placeQ; rw [if_neg h0]
      have ec : s.copyQ x = (0, (s.look1 x).2, s) := by unfold R.copyQ; rw [if_neg h0]
      exact .inl ⟨by rw [ep, if_neg h0], by rw [ec]; simp only; omega⟩
  · refine .inl ⟨?_, other_e hd _ ⟨k1, k2, k3, k22, k23⟩⟩
    unfold needQ
    simp [k1, k2, k3, k22, k23]
/-- The live handles are among those that were noted. -/
def Noted (s : R) (all : List Int) : Prop := ∀ g ∈ s.handles, g.live = true → g.num ∈ all
theorem Noted.step {s : R} (h : RAll s) (hd : s.dead = false) {all : List Int} (hn : Noted s all) (o : LOp) (he : (s.askQ o).e ≠ 12) : Noted (s.stepQ o) (if (handlesQ o (s.askQ o)).2 = true then all ++ [(handlesQ o (s.askQ o)).1] else all) := by
  cases book_step o hd h with
  | more hh _ _ hm =>
    rw [if_pos hh]
    obtain ⟨k, g, _, _, e1, _, _, e2, _⟩ := hm
    intro g' hg' hl
    rw [e2] at hg'
    rcases List.mem_append.1 hg' with h1 | h1
    · exact List.mem_append_left _ (hn g' h1 hl)
    · simp at h1
      subst h1
      rw [e1]
      simp
  | mem _ e => exact absurd e he
  | full hh _ _ c =>
    rw [if_neg (by rw [hh]; simp)]
    intro g hg hl
    rw [c.han] at hg
    exact hn g hg hl
  | none hh _ _ c =>
    rw [if_neg (by rw [hh]; simp)]
    intro g hg hl
    rw [c.han] at hg
    exact hn g hg hl
  | opens hh _ _ _ a _ =>
    rw [if_neg (by rw [hh]; simp)]
    intro g hg hl
    rw [a] at hg
    exact hn g hg hl
  | ends hh _ _ a _ =>
    rw [if_neg (by rw [hh]; simp)]
    intro g hg hl
    rw [a] at hg
    obtain ⟨g', hg', e⟩ := List.mem_map.1 hg
    have q := endQ_num o.kind o.x g'
    rw [e] at q
    have this : g.num = g'.num ∧ (g.live = true → g'.live = true) := ⟨q.1, fun hl => by rw [q.2.2] at hl; simp at hl; exact hl.1⟩
    rw [this.1]
    exact hn g' hg' (this.2 hl)
/-- Behind Collect just what can be reached is in use. -/
theorem collect_words {s : R} (h : RAll s) (hd : s.dead = false) {o : LOp} (hk : o.kind = 21) : ((s.stepQ o).words.length : Int) = usedOf s.objs s.reach := by
  have e : s.stepQ o = { s with row := s.reach } := by
    obtain ⟨kind, x, y, k, v, t⟩ := o
    simp only at hk
    subst hk
    show s.collectQ.2 = _
    unfold R.collectQ
    rw [if_neg (by rw [hd]; simp)]
  rw [e, words_size h.reach.ok]
end Go.Proofs.Ytfoncalkgmeklaa
